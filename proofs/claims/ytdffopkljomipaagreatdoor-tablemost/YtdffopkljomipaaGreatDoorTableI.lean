/- The contract of table.Compile. -/
import Derived.Test.YtdffopkljomipaaGreatDoorTableH
import Derived.Test.YtdffopkljomipaaGreatDoorSpansT
import Derived.Test.YtdffopkljomipaaGreatDoorTableC
import Derived.Test.YtdffopkljomipaaGreatDoorRoundQ
import Derived.OwnWalkIn
import Derived.RegionIn
import Derived.LoopIn
namespace Go.Proofs.YtdffopkljomipaaGreatDoor
open Go Go.RowKit Go.Maps Go.Shelf
set_option linter.unusedVariables false
attribute [local go_sem] Oper.semAt_some

/-- turns as cells -/
def trc (T : List (Int × Of)) : List Value := T.flatMap fun x => [.int .i64 x.1, .int .i64 x.2.tot, .int .i64 x.2.sv, .string x.2.ab]
theorem trc_append (a b : List (Int × Of)) : trc (a ++ b) = trc a ++ trc b := by unfold trc; rw [List.flatMap_append]
theorem trc_len : ∀ T : List (Int × Of), (trc T).length = T.length * 4
  | [] => rfl
  | x :: T => by
    show (_ :: _ :: _ :: _ :: trc T).length = _
    simp only [List.length_cons, trc_len T]
    omega
theorem trc_drop : ∀ (T : List (Int × Of)) (j : Nat), (trc T).drop (j * 4) = trc (T.drop j)
  | T, 0 => by simp
  | [], j + 1 => by simp [trc]
  | x :: T, j + 1 => by
    show ((_ :: _ :: _ :: _ :: trc T) : List Value).drop ((j + 1) * 4) = trc (T.drop j)
    rw [show (j + 1) * 4 = j * 4 + 1 + 1 + 1 + 1 by omega]
    simp only [List.drop_succ_cons]
    exact trc_drop T j
theorem trc_at (T : List (Int × Of)) {j : Nat} (h : j < T.length) : (trc T)[j * 4]? = some (.int .i64 T[j].1) ∧ (trc T)[j * 4 + 1]? = some (.int .i64 T[j].2.tot) ∧ (trc T)[j * 4 + 2]? = some (.int .i64 T[j].2.sv) ∧ (trc T)[j * 4 + 3]? = some (.string T[j].2.ab) := by
  have hd := trc_drop T j
  rw [List.drop_eq_getElem_cons h] at hd
  have key : ∀ i, (trc T)[j * 4 + i]? = (trc (T[j] :: T.drop (j + 1)))[i]? := fun i => by rw [← hd, List.getElem?_drop]
  exact ⟨key 0, key 1, key 2, key 3⟩
theorem info_turn : (Tryz.prog.info? 41).map (fun i => (i.zero, i.size, i.bytes)) = some (some (.agg #[.int .i64 0, .int .i64 0, .int .i64 0, .string ⟨#[]⟩]), 4, 40) := by kernel_rfl
abbrev cpT (D : Dt) (kz : Nat) (L : List Int) : List (Int × Of) := Tab.pushL oeq (offR D kz) [] L
/-- between two times -/
structure CI (D : Dt) (s : ByteArray) (kz : Nat) (w : World) (H : Nat) (L : List Int) (W : World) : Prop where
  bel : Below w.heap.size w W
  era : W.heap[H + 1]? = some (.cells #[.slice (D.zs kz).a (D.zs kz).n (D.zs kz).c] 46)
  dat : W.heap[w.heap.size]? = some (.cells (dC D) 26)
  nam : W.heap[w.heap.size + 1]? = some (.cells #[.string s] 9)
  row : ∃ tv, W.heap[H]? = some (.cells #[tv] 27) ∧ W.ownsRow (H + 2) 41 4 tv (cpT D kz L).length (trc (cpT D kz L))
theorem own_sameL {W W' : World} {base n size : Nat} {e : TypeId} {v : Value} {xs : List Value} (h : W.ownsRow base e size v n xs) (hs : SameL W W') : W'.ownsRow base e size v n xs :=
  ⟨h.1, h.2.imp id fun ⟨g, cap, cur, h1, h2, h3, h4⟩ => ⟨g, cap, cur, h1, h2, (hs g (Array.getElem?_eq_some_iff.1 h3).1 (fun r e => by rw [h3] at e; cases e)).trans h3, h4⟩⟩
theorem cell_sameL {W W' : World} {b : Nat} {cs : Array Value} {t : TypeId} (h : W.heap[b]? = some (.cells cs t)) (hs : SameL W W') : W'.heap[b]? = some (.cells cs t) := (hs b (Array.getElem?_eq_some_iff.1 h).1 (fun r e => by rw [h] at e; cases e)).trans h
theorem CI.same {D : Dt} {s : ByteArray} {kz : Nat} {w : World} {H : Nat} {L : List Int} {W W' : World} (h : CI D s kz w H L W) (hb : Below w.heap.size w W') (hs : SameL W W') : CI D s kz w H L W' := by
  obtain ⟨tv, h1, h2⟩ := h.row
  exact ⟨hb, cell_sameL h.era hs, cell_sameL h.dat hs, cell_sameL h.nam hs, tv, cell_sameL h1 hs, own_sameL h2 hs⟩
theorem mark_leaves {F : Fence} {n : Nat} {P : Program} {fn : Func} {tmps : Array Value} {R : Ending → World → Prop} {u : FrameMode} (hu : u ≠ .run) {D : Nat} {W : World} (h : W.heap[D]? = some (.deferred (some []))) (hl : LeavesInM F n P fn tmps R [] u (W.putObj D (.deferred none))) : LeavesInM F n P fn tmps R [mark D] u W :=
  ⟨hu, .inl ⟨D, _, rfl, run_takeDeferred h, hl⟩⟩
theorem keptT_trans {B : Nat} {W W' W'' : World} (h1 : KeptT B W W') (h2 : KeptT B W' W'') : KeptT B W W'' :=
  ⟨Nat.le_trans h1.size h2.size, fun b hb hl hn => (h2.same b hb (Nat.lt_of_lt_of_le hl h1.size) (fun cs fr e => hn cs fr ((h1.same b hb hl hn).symm.trans e))).trans (h1.same b hb hl hn)⟩
theorem keptT_below {B : Nat} {W W' : World} (h : Below W.heap.size W W') : KeptT B W W' := ⟨h.size, fun b _ hl _ => h.block b hl⟩
theorem bgL_ne (D : Dt) (fr : Int) (x : Er) : 1 ≤ (bgL D fr x).length := by
  show 1 ≤ (srtI _).length
  unfold srtI
  rw [List.length_mergeSort]
  unfold bgU
  simp
theorem own_last {W : World} {base : Nat} {v : Value} {T : List (Int × Of)} (h : W.ownsRow base 41 4 v T.length (trc T)) :
    (T = [] ∧ ∃ a c, v = .slice a 0 c) ∨ ∃ (m g c : Nat) (x : Int × Of), T.length = m + 1 ∧ m + 1 ≤ maxLen ∧ T.getLast? = some x ∧ v = .slice (some ⟨g, 0, none⟩) (m + 1) c ∧ W.cell? ⟨g, m * 4 + 1, none⟩ = some (.int .i64 x.2.tot) ∧ W.cell? ⟨g, m * 4 + 1 + 1, none⟩ = some (.int .i64 x.2.sv) ∧ W.cell? ⟨g, m * 4 + 1 + 2, none⟩ = some (.string x.2.ab) := by
  cases hT : T with
  | nil =>
    subst hT
    refine .inl ⟨rfl, ?_⟩
    rcases h.2 with ⟨rfl, _⟩ | ⟨g, cap, cur, rfl, _⟩
    · exact ⟨_, _, rfl⟩
    · exact ⟨_, _, rfl⟩
  | cons y T' =>
    rw [← hT]
    have hl : T.length = T'.length + 1 := by rw [hT]; rfl
    rcases h.2 with ⟨_, h0⟩ | ⟨g, cap, cur, rfl, _, hg, hn, hm, hs, ht⟩
    · omega
    have hlt : T'.length < T.length := by omega
    refine .inr ⟨T'.length, g, cap, T[T'.length], hl, by omega, ?_, by rw [hl], ?_⟩
    · rw [List.getLast?_eq_getElem?, hl]
      exact List.getElem?_eq_getElem hlt
    · obtain ⟨_, a1, a2, a3⟩ := trc_at T hlt
      have key : ∀ i u, T'.length * 4 + i < T.length * 4 → (trc T)[T'.length * 4 + i]? = some u → W.cell? ⟨g, T'.length * 4 + i, none⟩ = some u := fun i u hi hu => by
        rw [← ht, List.getElem?_take_of_lt hi, Array.getElem?_toList] at hu
        simp [World.cell?, hg, hu]
      exact ⟨key 1 _ (by omega) a1, key 2 _ (by omega) a2, key 3 _ (by omega) a3⟩
theorem own_other {W : World} {base n b : Nat} {v : Value} {xs : List Value} (h : W.ownsRow base 41 4 v n xs) (hn : notT W b) : some b ≠ v.ownBlock := by
  rcases h.2 with ⟨rfl, _⟩ | ⟨g, cap, cur, rfl, _, hg, _⟩
  · intro e; cases e
  · intro e
    have : b = g := by simpa [Value.ownBlock] using e
    rw [this] at hn
    exact hn _ _ hg
theorem own_slice {W : World} {base n size : Nat} {e : TypeId} {v : Value} {xs : List Value} (h : W.ownsRow base e size v n xs) : ∃ a c, v = .slice a n c := by
  rcases h.2 with ⟨rfl, rfl⟩ | ⟨g, cap, cur, rfl, _⟩
  · exact ⟨_, _, rfl⟩
  · exact ⟨_, _, rfl⟩
theorem of_ext {a b : Of} (h : a.tot = b.tot ∧ a.sv = b.sv ∧ a.ab.toList = b.ab.toList) : a = b := by
  obtain ⟨h1, h2, h3⟩ := h
  have h4 : a.ab = b.ab := by
    rw [ByteArray.toList_eq, ByteArray.toList_eq] at h3
    exact ByteArray.ext (Array.toList_inj.1 h3)
  cases a
  cases b
  simp only at h1 h2 h4
  rw [h1, h2, h4]
theorem notT_int {W : World} {b : Nat} {cs : Array Value} (h : W.heap[b]? = some (.cells cs 3)) : notT W b := fun cs' fr' e => by rw [h] at e; simp at e
theorem push_new {f : Int → Of} {T : List (Int × Of)} {t : Int} (h : ∀ x, T.getLast? = some x → oeq x.2 (f t) = false) : Tab.push1 oeq f T t = T ++ [(t, f t)] := by
  unfold Tab.push1
  cases hl : T.getLast? with
  | none => rfl
  | some x => simp only [h x hl]; rfl
theorem push_old {f : Int → Of} {T : List (Int × Of)} {t : Int} {x : Int × Of} (hl : T.getLast? = some x) (h : oeq x.2 (f t) = true) : Tab.push1 oeq f T t = T := by
  unfold Tab.push1
  simp only [hl, h]
  rfl
theorem keptT_push {H n : Nat} {W W6 w7 : World} {v v' : Value} {xs : List Value} (hk : KeptT (H + 2) W W6) (ho : W6.ownsRow (H + 2) 41 4 v n xs) (hg : W6.grownBy w7 v.ownBlock) : KeptT (H + 2) W (w7.setCell ⟨H, 0, none⟩ v') := by
  refine ⟨by have := hk.size; have := hg.size; simp; omega, fun b hb hl hn => ?_⟩
  have h1 := hk.same b hb hl hn
  have hlt : b < W6.heap.size := Nat.lt_of_lt_of_le hl hk.size
  exact (Below.heap_setCell _ _ _ _ (by show b ≠ H; omega)).trans ((hg.block b hlt (own_other ho (fun cs fr e => hn cs fr (h1.symm.trans e)))).trans h1)
theorem CI_push {D : Dt} {s : ByteArray} {kz : Nat} {w : World} {H : Nat} {L L' : List Int} {W6 w7 : World} {v v' : Value} {T : List (Int × Of)} {x : Int × Of} {news : List Value} (hi : CI D s kz w H L W6) (hH : w.heap.size + 2 ≤ H) (hv : W6.heap[H]? = some (.cells #[v] 27)) (ho : W6.ownsRow (H + 2) 41 4 v T.length (trc T)) (hg : W6.grownBy w7 v.ownBlock)
    (h7 : w7.ownsRow (H + 2) 41 4 v' (T.length + 1) (trc T ++ news)) (hn : news = trc [x]) (hT : cpT D kz L' = T ++ [x]) : CI D s kz w H L' (w7.setCell ⟨H, 0, none⟩ v') := by
  have far : ∀ b, b < H + 2 → some b ≠ v.ownBlock := fun b hb => far_box ho hb
  have oth : ∀ {b : Nat} {o : Obj}, W6.heap[b]? = some o → b < H + 2 → b ≠ H → (w7.setCell ⟨H, 0, none⟩ v').heap[b]? = some o := fun hb hl hne => (Below.heap_setCell _ _ _ _ hne).trans (heap_grown hb hg (far _ hl))
  have hbx : Boxed w7 H 27 v := heap_grown hv hg (far _ (by omega))
  refine ⟨?_, oth hi.era (by omega) (by omega), oth hi.dat (by omega) (by omega), oth hi.nam (by omega) (by omega), v', hbx.set v', ?_⟩
  · exact (hi.bel.grown hg hi.bel.size (fun k hk => by have := (own_lt ho hk).1; omega)).setCell (p := ⟨H, 0, none⟩) (by show w.heap.size ≤ H; omega) v'
  · rw [hT, List.length_append, trc_append, ← hn]
    exact ⟨h7.1, h7.2.imp id fun ⟨g, cap, cur, h1, h2, h3, h4⟩ => ⟨g, cap, cur, h1, h2, (Below.heap_setCell _ _ _ _ (by show g ≠ H; omega)).trans h3, h4⟩⟩
theorem cells_new (w : World) (cs : List Value) (t : TypeId) : ∀ (j : Nat) (u : Value), cs[j]? = some u → (w.alloc (.cells cs.toArray t)).cell? ((⟨w.heap.size, 0, none⟩ : Addr).add j) = some u := fun j u h => by
  have hn := World.alloc_heap_new w (.cells cs.toArray t)
  have hb : ((⟨w.heap.size, 0, none⟩ : Addr).add j) = ⟨w.heap.size, j, none⟩ := by
    unfold Addr.add
    cases j <;> simp
  rw [hb]
  unfold World.cell?
  rw [hn]
  simpa using h
theorem CI.eq {D : Dt} {s : ByteArray} {kz : Nat} {w : World} {H : Nat} {L L' : List Int} {W : World} (h : CI D s kz w H L W) (he : cpT D kz L' = cpT D kz L) : CI D s kz w H L' W :=
  ⟨h.bel, h.era, h.dat, h.nam, by rw [he]; exact h.row⟩
theorem bgL_day {D : Dt} (hc : chkE D = 0) {kz k : Nat} (hkz : kz < D.nz) (hk : k < (D.zs kz).n) : ∀ a ∈ bgL D (frm (D.zs kz).es k) ((D.zs kz).es k), 0 ≤ a ∧ a < 1893456000 := fun a ha => by
  have hz := (chk_all hc).2.2.1 kz hkz
  have hi := tmN_in (fun i hi => (hz.1 i hi).2) _ (Nat.le_refl _) a (by unfold tmN; exact List.mem_flatMap.2 ⟨k, List.mem_range.2 hk, ha⟩)
  rw [hz.2] at hi
  exact hi
theorem bgL_len {D : Dt} (hc : chkE D = 0) {x : Er} (fr : Int) (h : x.set < D.ns) : (bgL D fr x).length ≤ 1000 := by
  show (srtI _).length ≤ _
  unfold srtI
  rw [List.length_mergeSort]
  unfold bgU
  split
  · have hs : x.set.toNat < D.ns := by omega
    have h1 := ruN_len (D := D) (fr := fr) (x := x) (D.ss x.set.toNat).n (fun i hi => chk_rule hc hs hi)
    have h2 := (chk_all hc).1.2.1 _ hs
    rw [List.length_cons]
    omega
  · simp
theorem tm_len {D : Dt} (hc : chkE D = 0) {kz : Nat} (hkz : kz < D.nz) : ∀ m, m ≤ (D.zs kz).n → (tmN D kz m).length ≤ 1000 * m
  | 0, _ => by simp [tmN]
  | m + 1, hm => by
    have h1 := tm_len hc hkz m (by omega)
    have hz := (chk_all hc).2.2.1 kz hkz
    have h2 := bgL_len hc (frm (D.zs kz).es m) (ebnd_of (hz.1 m (by omega)).1).2.2.2.1
    rw [tmN_succ, List.length_append]
    omega
theorem cp_len {D : Dt} (hc : chkE D = 0) {kz k : Nat} (hkz : kz < D.nz) (hk : k < (D.zs kz).n) : ∀ j, (cpT D kz (tmN D kz k ++ (bgL D (frm (D.zs kz).es k) ((D.zs kz).es k)).take j)).length ≤ 1000000 := fun j => by
  have h1 := Tab.push_len oeq (offR D kz) (tmN D kz k ++ (bgL D (frm (D.zs kz).es k) ((D.zs kz).es k)).take j) []
  have h2 := tm_len hc hkz k (by omega)
  have hz := (chk_all hc).2.2.1 kz hkz
  have h3 := bgL_len hc (frm (D.zs kz).es k) (ebnd_of (hz.1 k hk).1).2.2.2.1
  have h4 := (chk_all hc).1.2.2 kz hkz
  rw [List.length_append, List.length_take, List.length_nil] at h1
  show (Tab.pushL _ _ _ _).length ≤ _
  omega
def cmP (D : Dt) (kz : Nat) (w : World) (e : Ending) (w' : World) : Prop := ∃ v, e = .returned (.tuple #[v, .int .i64 0]) ∧ w'.ownsRow w.heap.size 41 4 v (cmpT D kz).length (trc (cmpT D kz)) ∧ Below w.heap.size w w'
set_option maxRecDepth 100000 in
set_option maxHeartbeats 8000000 in
theorem Compile_ok (D : Dt) (s : ByteArray) (kz : Nat) (w : World) (hE : Env w D) (hF : D.fits) (hs : s.size ≤ maxLen) (h0 : zonE D s = 0) (hkZ : zonR D s = kz) (hkz : kz < D.nz) :
    Calls Tryz.prog 7 #[D.v, .string s] w fun e w' => cmP D kz w e w' := by
  have HE := hideH hE
  obtain ⟨i0, hiT, hz0, hz1, hz2⟩ := info_parts info_turn
  have hc := (zon_ok h0).1
  have bx := two_boxes w (.cells (dC D) 26) (.cells #[.string s] 9)
  obtain ⟨W0, hW0⟩ : ∃ W0, W0 = (w.alloc (.cells (dC D) 26)).alloc (.cells #[.string s] 9) := ⟨_, rfl⟩
  rw [← hW0] at bx
  have HB := hideH bx.1
  have HC := hideH bx.2.1
  have HS := hideH bx.2.2
  have HZ : Hid (Calls Tryz.prog 15 #[D.v, .string s] W0 fun e w' => e = .returned (.tuple #[.int .i64 kz, .int .i64 0]) ∧ Below W0.heap.size W0 w') := by
    have := DZone_c D s W0 (HE.out.on HB.out) hF hs
    rwa [hkZ, h0] at this
  simp only [dC] at hW0
  rw [hW0] at HZ
  refine calls_of_wpG Tryz.func7 rfl ?_
  simp only [Tryz.ntmps7, List.size_toArray, List.length_cons, List.length_nil, Nat.reduceAdd, Nat.reduceSub, Array.replicate_succ, Array.replicate_zero, List.push_toArray, List.append_toArray, List.nil_append, List.cons_append]
  refine wpG_seq (wpG_plain ?_)
  go_wp2
  refine wpG_seq (wpG_plain ?_)
  go_wp2_with (go_at_call 15; refine HZ.out.mono ?_; rintro e w1 ⟨rfl, hw⟩)
  rw [← hW0] at hw
  refine wpG_seq (wpG_plain ?_)
  go_wp2
  have H1 := hideH (bthen HB.out hw)
  have C1 := hideH (heap_on HC.out hw)
  have S1 := hideH (heap_on HS.out hw)
  clear hw HZ HB HC HS bx
  refine wpG_seq (wpG_plain ?_)
  go_wp2
  refine wpG_seq (wpG_seq (wpG_plain ?_))
  obtain ⟨H, hH⟩ : ∃ H, H = w1.heap.size := ⟨_, rfl⟩
  have bA := (Below.refl _ w1).alloc (Nat.le_refl _) (.cells #[.slice none 0 0] 27)
  obtain ⟨A, hA⟩ : ∃ A, A = w1.alloc (.cells #[.slice none 0 0] 27) := ⟨_, rfl⟩
  rw [← hA] at bA
  simp only [← hA]
  have xA : A.heap[H]? = some (.cells #[.slice none 0 0] 27) := by rw [hA, hH]; exact World.alloc_heap_new _ _
  have szA : A.heap.size = H + 1 := by rw [hA, hH]; simp
  simp only [← hH]
  have CA := hideH (heap_on C1.out bA)
  have SA := hideH (heap_on S1.out bA)
  have BA := hideH (bthen H1.out bA)
  have XA := hideH xA
  obtain ⟨d0, d1, d2⟩ := cells3 CA.out
  rcases (HE.out.on BA.out).dat.zones with hn0 | ⟨zb, zo, hsa, hcs⟩
  · omega
  have f1 : A.cell? ⟨zb, zo + kz * 2 + 1, none⟩ = some (.slice (D.zs kz).a (D.zs kz).n (D.zs kz).c) := (hcs kz hkz).2
  rw [hsa] at d1
  clear hcs hsa bA xA H1 C1 S1 hA hH hW0
  have hkn := hF.nz
  unfold maxLen at hkn
  have hki : (kz : Int) < (D.nz : Int) := by omega
  go_wp2_with (go_at_call 16; refine (Spans_c _ _ _ _).mono ?_; rintro e w2 ⟨rfl, rfl⟩)
  refine wpG_block ?_
  obtain ⟨W2, hW2⟩ : ∃ W2, W2 = A.alloc (.cells #[.slice (D.zs kz).a (D.zs kz).n (D.zs kz).c] 46) := ⟨_, rfl⟩
  have bW := (Below.refl _ A).alloc (Nat.le_refl _) (.cells #[.slice (D.zs kz).a (D.zs kz).n (D.zs kz).c] 46)
  rw [← hW2] at bW
  have sz2 : W2.heap.size = H + 2 := by rw [hW2]; simp; omega
  have e2 : W2.heap[H + 1]? = some (.cells #[.slice (D.zs kz).a (D.zs kz).n (D.zs kz).c] 46) := by rw [hW2, ← szA]; exact World.alloc_heap_new _ _
  have hwH : w.heap.size + 2 ≤ H := by
    have h1 := (Array.getElem?_eq_some_iff.1 SA.out).1
    have h2 : w.heap.size + 1 ≠ H := fun e => by
      have h3 := SA.out
      rw [e, XA.out] at h3
      cases h3
    omega
  have I0 : CI D s kz w H (tmN D kz 0) W2 := ⟨bthen BA.out bW, e2, heap_on CA.out bW, heap_on SA.out bW, .slice none 0 0, heap_on XA.out bW, World.ownsRow_nil _ _ _ _⟩
  simp only [← hW2]
  clear hW2 bW e2 CA SA BA XA d0 d1 d2 f1 szA
  have hz := (chk_all hc).2.2.1 kz hkz
  have hm : (D.zs kz).n ≤ maxLen := hF.zn kz hkz
  refine spansT_p Tryz.func7 9 (H + 1) (D.zs kz).n (D.zs kz).c (D.zs kz).a (D.zs kz).es rfl rfl hm (fun k => CI D s kz w H (tmN D kz k)) (fun _ _ => False) (fun _ _ => False) ?hI ?hIx ?hrd I0
    (fun k hb => { tmps := #[D.v, Value.string s, Value.pointer (some { block := w.heap.size, off := 0 }),
          Value.pointer (some { block := w.heap.size + 1, off := 0 }), Value.slice none 0 0, Value.int IntKind.i64 0,
          Value.int IntKind.i64 kz, Value.int IntKind.i64 0, Value.pointer (some { block := H, off := 0 }), .int .i64 (frm (D.zs kz).es k),
          .pointer (some ⟨hb, 0, none⟩), undef, undef, undef, undef, Value.tuple #[Value.int IntKind.i64 kz, Value.int IntKind.i64 0],
          Value.agg #[Value.slice D.sa D.ns D.sc, Value.slice D.za D.nz D.zc, Value.slice D.la D.nl D.lc],
          Value.string s, Value.tuple #[Value.int IntKind.i64 kz, Value.int IntKind.i64 0], Value.int IntKind.i64 kz,
          Value.int IntKind.i64 0, Value.int IntKind.i64 0, Value.bool false, undef,
          Value.pointer (some { block := w.heap.size, off := 1 }),
          Value.slice (some { block := zb, off := zo }) D.nz D.zc, Value.int IntKind.i64 kz,
          Value.pointer (some { block := zb, off := zo + kz * 2 }),
          Value.pointer (some { block := zb, off := zo + kz * 2 + 1 }), Value.slice (D.zs kz).a (D.zs kz).n (D.zs kz).c,
          Value.func (Fn.func 31) #[] #[Value.pointer (some { block := H + 1, off := 0 })], .int .i64 (frm (D.zs kz).es k), ((D.zs kz).es k).v, undef, undef, undef, undef, undef, undef, undef, undef, undef, undef, undef, undef, undef, undef, undef, undef, undef, undef, undef, undef, undef, undef, undef, undef, undef, undef, undef, undef, undef, undef, undef, undef, undef, undef, undef, undef, undef, undef, undef], defers := [] })
    ?assign ?body ?done ?stop ?pan
  case hI =>
    rintro k W W' hi hb hs
    exact hi.same (hi.bel.trans (hb.mono (by omega))) hs
  case hIx =>
    rintro c W W' h
    exact h.elim
  case hrd =>
    rintro k W hi
    exact ⟨by simp [World.cell?, hi.era], (HE.out.on hi.bel).dat.eras kz hkz⟩
  case assign =>
    intro l k W K hk hK
    gi_wp2
    exact hK
  case stop =>
    rintro Dk c W hDk h
    exact h.elim
  case pan => rintro D' ch W _ h _; exact h.elim
  case done =>
    rintro Dk W hDk hi hk
    show wpG _ _ _ _ _ _
    obtain ⟨tv, ht, ho⟩ := hi.row
    have hlt : Dk < W.heap.size := (Array.getElem?_eq_some_iff.1 hk).1
    have hcell : W.cell? ⟨H, 0, none⟩ = some tv := by simp [World.cell?, ht]
    have HO := hideH ho
    have HK := hideH hk
    have HB := hideH hi.bel
    clear ht ho hi hk
    refine wpG_plain ?_
    go_wp2
    refine mark_leaves (by simp) HK.out ?_
    refine ⟨.tuple #[tv, .int .i64 0], by simp [results, Tryz.results7, go_sem], tv, rfl, ?_, HB.out.trans (low_put _ (by omega) HK.out)⟩
    refine owns_mono (base := H + 2) ⟨HO.out.1, HO.out.2.imp id fun ⟨g, cap, cur, h1, h2, h3, h4⟩ => ⟨g, cap, cur, h1, h2, (World.putObj_heap_other (fun e => ?_)).trans h3, h4⟩⟩ (by omega)
    rw [e, HK.out] at h3
    cases h3
  case body =>
    rintro l k hb W hk hi hb1 hb2 ⟨e0, e1, e2, e3, e4⟩
    rw [sz2] at hb1 ⊢
    simp only [Nat.zero_add] at e1 e2 e3 e4
    have heb := ebnd_of (hz.1 k hk).1
    have hEW := HE.out.on hi.bel
    have HT := hideH (Tbegins_c D (frm (D.zs kz).es k) ((D.zs kz).es k) W hEW.laid hEW.dat hF hc heb.1 heb.2.1 heb.2.2.1 heb.2.2.2.1)
    have hLn := bgL_ne D (frm (D.zs kz).es k) ((D.zs kz).es k)
    have HLS := hideH (tmN_succ D kz k)
    have HLI : Hid (∀ a ∈ bgL D (frm (D.zs kz).es k) ((D.zs kz).es k), 0 ≤ a ∧ a < 1893456000) := hideH (bgL_day hc hkz hk)
    have HTL : Hid (∀ j, (cpT D kz (tmN D kz k ++ (bgL D (frm (D.zs kz).es k) ((D.zs kz).es k)).take j)).length ≤ 1000000) := hideH (cp_len hc hkz hk)
    obtain ⟨L, hL⟩ : ∃ L, L = bgL D (frm (D.zs kz).es k) ((D.zs kz).es k) := ⟨_, rfl⟩
    simp only [← hL] at HT hLn HLS HLI HTL
    clear hL
    obtain ⟨d0, d1, d2⟩ := cells3 hi.dat
    have HI := hideH hi
    clear hi hEW
    gi_wp2_with (refine ⟨trivial, ?_⟩; gi_at_call 17; refine (CallsIn.inRound l (callsIn_wide.2 HT.out)).mono ?_; rintro e w3 ⟨v, rfl, ho, hw⟩; refine Hid.out ?_)
    clear HT e0 e1 e2 e3 e4 d0 d1 d2
    rcases ho.2 with ⟨_, h0⟩ | ⟨g, cap, cur, rfl, hg1, hg2, hg3, hg4, hg5, hg6⟩
    · omega
    have HI3 : Hid (CI D s kz w H (tmN D kz k ++ L.take 0) w3) := by
      refine hideH ?_
      rw [List.take_zero, List.append_nil]
      exact HI.out.same (bthen HI.out.bel hw) (fun b hb _ => hw.block b hb)
    have HK3 : Hid (KeptT (H + 2) W w3) := keptT_below hw
    have HG3 := hideH hg2
    have HG6 := hideH hg6
    clear ho hw hg2 hg6
    refine hideH ?_
    gi_wp2
    have hLm : L.length ≤ maxLen := by omega
    unfold maxLen at hLm
    gi_loopw [39] (fun x39 wr => ∃ j : Nat, j ≤ L.length ∧ x39 = .int .i64 j ∧ Hid (CI D s kz w H (tmN D kz k ++ L.take j) wr) ∧ Hid (KeptT (H + 2) W wr) ∧ Hid (W.heap.size ≤ g ∧ wr.heap[g]? = some (.cells cur 3))) (fun x39 _ => L.length - (intOf x39).toNat)
    case atStart => exact ⟨0, Nat.zero_le _, rfl, HI3, HK3, hideH ⟨hg1, HG3.out⟩⟩
    case round =>
      obtain ⟨j, hj, rfl, HJ, HKJ, HGJ⟩ := hrel
      by_cases hlt : j < L.length
      · have hcell : wr.cell? ⟨g, j, none⟩ = some (.int .i64 L[j]) := by
          have h6 : cur.toList[j]? = some (encI L[j]) := by
            have : (cur.toList.take (L.length * 1))[j]? = (L.map encI)[j]? := by rw [HG6.out]
            rw [List.getElem?_take_of_lt (by omega), List.getElem?_map, List.getElem?_eq_getElem hlt] at this
            simpa using this
          have h7 : cur[j]? = some (encI L[j]) := by rw [← Array.getElem?_toList]; exact h6
          have hgj := HGJ.out.2
          simp [World.cell?, hgj, h7]
        have hli := HLI.out L[j] (List.getElem_mem hlt)
        have HOT : Hid (Calls Tryz.prog 13 #[D.v, .string s, .int .i64 L[j]] wr fun e w' => e = .returned (.tuple #[(offR D kz L[j]).v, .int .i64 0]) ∧ Below wr.heap.size wr w') := by
          have := OAt_c D s L[j] wr (HE.out.on HJ.out.bel) hF hs
          have e1 : atsE D s L[j] = 0 := by unfold atsE; rw [if_pos h0, if_pos hli]
          have e2 : atsR D s L[j] = offR D kz L[j] := by unfold atsR; rw [if_pos h0, if_pos hli, hkZ]; rfl
          rwa [e1, e2] at this
        have HLT : Hid (L.take (j + 1) = L.take j ++ [L[j]]) := by
          refine hideH ?_
          rw [List.take_add_one, List.getElem?_eq_getElem hlt]
          rfl
        have HLTJ := hideH (HTL.out j)
        obtain ⟨t, ht⟩ : ∃ t, t = L[j] := ⟨_, rfl⟩
        simp only [← ht] at hcell HOT HLT hli
        clear ht
        obtain ⟨d0, d1, d2⟩ := cells3 HJ.out.dat
        have n0 : wr.cell? ⟨w.heap.size + 1, 0, none⟩ = some (.string s) := by have := HJ.out.nam; simp [World.cell?, this]
        simp only [Dt.v] at HOT
        gi_wp2_with (refine ⟨trivial, ?_⟩; gi_at_call 13; refine (CallsIn.inRound l (callsIn_wide.2 HOT.out)).mono ?_; rintro e w4 ⟨rfl, hw4⟩; refine Hid.out ?_)
        clear HOT hcell d0 d1 d2 n0
        have HJ4 := hideH (HJ.out.same (bthen HJ.out.bel hw4) (fun b hb _ => hw4.block b hb))
        have HK4 := hideH (keptT_trans HKJ.out (keptT_below hw4))
        have HG4 := hideH ((hw4.block g (Array.getElem?_eq_some_iff.1 HGJ.out.2).1).trans HGJ.out.2)
        have HGW := hideH HGJ.out.1
        clear HJ HKJ HGJ hw4
        obtain ⟨T, hT⟩ : ∃ T, T = cpT D kz (tmN D kz k ++ L.take j) := ⟨_, rfl⟩
        obtain ⟨o, hoo⟩ : ∃ o, o = offR D kz t := ⟨_, rfl⟩
        have HTS : Hid (cpT D kz (tmN D kz k ++ L.take (j + 1)) = Tab.push1 oeq (offR D kz) T t) := by
          refine hideH ?_
          rw [HLT.out, ← List.append_assoc]
          show Tab.pushL _ _ _ _ = _
          rw [Tab.pushL_app, hT]
          rfl
        obtain ⟨tv, ht4, ho4⟩ := HJ4.out.row
        have hc4 : w4.cell? ⟨H, 0, none⟩ = some tv := by simp [World.cell?, ht4]
        rw [← hT] at ho4 HLTJ
        have hH2 : H + 1 < w4.heap.size := (Array.getElem?_eq_some_iff.1 HJ4.out.era).1
        have hHs : H < w4.heap.size := (Array.getElem?_eq_some_iff.1 ht4).1
        have HT4 := hideH ht4
        have HO4 := hideH ho4
        clear ht4
        simp only [← hoo]
        have HOO := hideH hoo
        have HTT := hideH hT
        clear hoo hT
        refine hideH ?_
        rcases own_last ho4 with ⟨hTe, ta, tc, rfl⟩ | ⟨m, tg, tc, x, hTm, hmx, hx, rfl, q1, q2, q3⟩
        · have HTE := hideH hTe
          clear ho4 hTe
          gi_wp2
          refine quiet_roundW (by kernel_rfl) (by kernel_rfl) (by kernel_rfl) ?_
          iterate 14 (refine WQ.step (fun K hK => hideH ?_); go_simp; refine hK _ ?_; clear hK K)
          refine WQ.nil ?_
          rintro _ ⟨nq, rfl⟩
          obtain ⟨W5, hW5⟩ : ∃ W5, W5 = (w4.alloc (.cells #[.int .i64 o.tot, .int .i64 o.sv, .string o.ab] 32)).drewN nq := ⟨_, rfl⟩
          have b5 : Below w4.heap.size w4 W5 := by rw [hW5]; exact below_drewN ((Below.refl _ w4).alloc (Nat.le_refl _) _) _
          have x5 : W5.heap[w4.heap.size]? = some (.cells #[.int .i64 o.tot, .int .i64 o.sv, .string o.ab] 32) := by rw [hW5]; exact World.alloc_heap_new _ _
          obtain ⟨y0, y1, y2⟩ := cells3 x5
          simp only [← hW5]
          have c5 := cell_on hc4 b5
          have l5 : w4.heap.size < W5.heap.size := (Array.getElem?_eq_some_iff.1 x5).1
          have HI5 := hideH (HJ4.out.same (bthen HJ4.out.bel b5) (fun b hb _ => b5.block b hb))
          have HK5 := hideH (keptT_trans HK4.out (keptT_below b5))
          have HG5 := hideH (heap_on HG4.out b5)
          have HO5 := hideH (own_onT HO4.out b5)
          have HT5 := hideH (heap_on HT4.out b5)
          clear hW5 b5 x5 hc4 HJ4 HK4 HG4 HO4 HT4
          have b6 := (Below.refl _ W5).alloc (Nat.le_refl _) (.cells #[.int .i64 t, .int .i64 o.tot, .int .i64 o.sv, .string o.ab] 41)
          have HI6 := hideH (HI5.out.same (bthen HI5.out.bel b6) (fun b hb _ => b6.block b hb))
          have HK6 := hideH (keptT_trans HK5.out (keptT_below b6))
          have HG6' := hideH (heap_on HG5.out b6)
          have HO6 := hideH (own_onT HO5.out b6)
          have HT6 := hideH (heap_on HT5.out b6)
          have HNw := hideH (cells_new W5 [.int .i64 t, .int .i64 o.tot, .int .i64 o.sv, .string o.ab] 41)
          clear b6
          have HP : Hid (cpT D kz (tmN D kz k ++ L.take (j + 1)) = T ++ [(t, o)]) := by
            refine hideH ?_
            rw [HTS.out, HOO.out]
            exact push_new (fun x hx => by rw [HTE.out] at hx; cases hx)
          have hTL := HLTJ.out
          have hgH : H < g := by have := HGW.out; omega
          gi_wp2_with (gi_at_builtin; refine Hid.out ?_)
          refine hideH ?_
          refine wpListIn_append_own _ rfl _ _ 27 rfl (H + 2) 41 i0 _ 4 40 Tryz.underlying27 hiT hz0 hz1 hz2 rfl (by decide) _ _ _ rfl HO6.out ⟨W5.heap.size, 0, none⟩ 1 1 [.int .i64 t, .int .i64 o.tot, .int .i64 o.sv, .string o.ab] rfl rfl HNw.out (by simp [Value.oneCell']) (by unfold maxLen; omega) (by omega) (by simp; omega) ?_
          intro v7 w7 hown7 hgrow7 _
          obtain ⟨a7, q7, rfl⟩ := own_slice hown7
          have h7 := heap_grown HT6.out hgrow7 (far_box HO6.out (by omega))
          have c7 : w7.cell? ⟨H, 0, none⟩ = some (.slice ta 0 tc) := by simp [World.cell?, h7]
          have f7 : w7.frozen? ⟨H, 0, none⟩ = false := by simp [World.frozen?, h7]
          have HW7 := hideH hown7
          have HGr := hideH hgrow7
          clear hown7 hgrow7 h7
          gi_wp2
          go_roundw
          case rel => exact ⟨j + 1, by omega, by go_num, hideH (CI_push HI6.out hwH HT6.out HO6.out HGr.out HW7.out rfl HP.out), hideH (keptT_push HK6.out HO6.out HGr.out), hideH ⟨HGW.out, (Below.heap_setCell _ _ _ _ (by show g ≠ H; omega)).trans (heap_grown HG6'.out HGr.out (own_other HO6.out (notT_int HG6'.out)))⟩⟩
          case measure => simp [intOf]; omega
        · clear ho4 hTm
          unfold maxLen at hmx
          have hgs : tg < w4.heap.size := World.block_lt_of_cell? w4 _ q1
          have HX := hideH hx
          clear hx
          by_cases hq : oeq x.2 o = true
          · have hxo : x.2 = o := (oeq_iff _ _).1 hq
            rw [hxo] at q1 q2 q3
            have HQ := hideH hq
            clear hq hxo
            gi_wp2
            have hm1 : ((m : Int) + 1 = 0) = False := eq_false (by omega)
            have hwr : IntKind.i64.wrap (m : Int) = (m : Int) := by unfold IntKind.wrap; simp [IntKind.bits, IntKind.signed]; omega
            have hm2 : ((m : Int) < (m : Int) + 1) = True := eq_true (by omega)
            have hm3 : ((0 : Int) ≤ (m : Int)) = True := eq_true (by omega)
            refine quiet_roundW (by kernel_rfl) (by kernel_rfl) (by kernel_rfl) ?_
            iterate 14 (refine WQ.step (fun K hK => hideH ?_); go_simp; refine hK _ ?_; clear hK K)
            refine WQ.nil ?_
            rintro _ ⟨nq, rfl⟩
            have b5 : Below w4.heap.size w4 ((w4.alloc (.cells #[.int .i64 o.tot, .int .i64 o.sv, .string o.ab] 32)).drewN nq) := below_drewN ((Below.refl _ w4).alloc (Nat.le_refl _) _) _
            have HI5 := hideH (HJ4.out.same (bthen HJ4.out.bel b5) (fun b hb _ => b5.block b hb))
            have HK5 := hideH (keptT_trans HK4.out (keptT_below b5))
            have HG5 := hideH (heap_on HG4.out b5)
            have HP : Hid (cpT D kz (tmN D kz k ++ L.take (j + 1)) = cpT D kz (tmN D kz k ++ L.take j)) := by
              refine hideH ?_
              rw [HTS.out, push_old HX.out (by rw [← HOO.out]; exact HQ.out)]
              exact HTT.out
            clear b5 q1 q2 q3 hm1 hm2 hm3 hwr hc4
            gi_wp2
            go_roundw
            case rel => exact ⟨j + 1, by omega, by go_num, hideH (HI5.out.eq HP.out), HK5, hideH ⟨HGW.out, HG5.out⟩⟩
            case measure => simp [intOf]; omega
          · have HQ := hideH hq
            have HNE : Hid (¬ (x.2.tot = o.tot ∧ x.2.sv = o.sv ∧ x.2.ab.toList = o.ab.toList)) := hideH (fun h => hq ((oeq_iff _ _).2 (of_ext h)))
            clear hq
            gi_wp2
            have hm1 : ((m : Int) + 1 = 0) = False := eq_false (by omega)
            have hwr : IntKind.i64.wrap (m : Int) = (m : Int) := by unfold IntKind.wrap; simp [IntKind.bits, IntKind.signed]; omega
            have hm2 : ((m : Int) < (m : Int) + 1) = True := eq_true (by omega)
            have hm3 : ((0 : Int) ≤ (m : Int)) = True := eq_true (by omega)
            refine quiet_roundW (by kernel_rfl) (by kernel_rfl) (by kernel_rfl) ?_
            iterate 12 (refine WQ.step (fun K hK => hideH ?_); go_simp; refine hK _ ?_; clear hK K)
            refine WQ.step (fun K hK => hideH ?_)
            go_simp
            refine ⟨.bool true, fun _ => ?_, hK _ ?_⟩
            · by_cases h1 : x.2.tot = o.tot
              · by_cases h2 : x.2.sv = o.sv
                · by_cases h3 : x.2.ab.toList = o.ab.toList
                  · exact (HNE.out ⟨h1, h2, h3⟩).elim
                  · simp [h1, h2, h3]
                · simp [h1, h2]
              · simp [h1]
            clear hK K
            refine WQ.step (fun K hK => hideH ?_)
            go_simp
            refine hK _ ?_
            clear hK K
            refine WQ.nil ?_
            rintro _ ⟨nq, rfl⟩
            clear q1 q2 q3 hm1 hm2 hm3 hwr
            obtain ⟨W5, hW5⟩ : ∃ W5, W5 = (w4.alloc (.cells #[.int .i64 o.tot, .int .i64 o.sv, .string o.ab] 32)).drewN nq := ⟨_, rfl⟩
            have b5 : Below w4.heap.size w4 W5 := by rw [hW5]; exact below_drewN ((Below.refl _ w4).alloc (Nat.le_refl _) _) _
            have x5 : W5.heap[w4.heap.size]? = some (.cells #[.int .i64 o.tot, .int .i64 o.sv, .string o.ab] 32) := by rw [hW5]; exact World.alloc_heap_new _ _
            obtain ⟨y0, y1, y2⟩ := cells3 x5
            simp only [← hW5]
            have c5 := cell_on hc4 b5
            have l5 : w4.heap.size < W5.heap.size := (Array.getElem?_eq_some_iff.1 x5).1
            have HI5 := hideH (HJ4.out.same (bthen HJ4.out.bel b5) (fun b hb _ => b5.block b hb))
            have HK5 := hideH (keptT_trans HK4.out (keptT_below b5))
            have HG5 := hideH (heap_on HG4.out b5)
            have HO5 := hideH (own_onT HO4.out b5)
            have HT5 := hideH (heap_on HT4.out b5)
            clear hW5 b5 x5 hc4 HJ4 HK4 HG4 HO4 HT4
            have b6 := (Below.refl _ W5).alloc (Nat.le_refl _) (.cells #[.int .i64 t, .int .i64 o.tot, .int .i64 o.sv, .string o.ab] 41)
            have HI6 := hideH (HI5.out.same (bthen HI5.out.bel b6) (fun b hb _ => b6.block b hb))
            have HK6 := hideH (keptT_trans HK5.out (keptT_below b6))
            have HG6' := hideH (heap_on HG5.out b6)
            have HO6 := hideH (own_onT HO5.out b6)
            have HT6 := hideH (heap_on HT5.out b6)
            have HNw := hideH (cells_new W5 [.int .i64 t, .int .i64 o.tot, .int .i64 o.sv, .string o.ab] 41)
            clear b6
            have HP : Hid (cpT D kz (tmN D kz k ++ L.take (j + 1)) = T ++ [(t, o)]) := by
              refine hideH ?_
              rw [HTS.out, HOO.out]
              exact push_new (fun y hy => by rw [HX.out] at hy; cases hy; rw [← HOO.out]; exact Bool.not_eq_true _ ▸ HQ.out)
            have hTL := HLTJ.out
            have hgH : H < g := by have := HGW.out; omega
            gi_wp2_with (gi_at_builtin; refine Hid.out ?_)
            refine hideH ?_
            refine wpListIn_append_own _ rfl _ _ 27 rfl (H + 2) 41 i0 _ 4 40 Tryz.underlying27 hiT hz0 hz1 hz2 rfl (by decide) _ _ _ rfl HO6.out ⟨W5.heap.size, 0, none⟩ 1 1 [.int .i64 t, .int .i64 o.tot, .int .i64 o.sv, .string o.ab] rfl rfl HNw.out (by simp [Value.oneCell']) (by unfold maxLen; omega) (by omega) (by simp; omega) ?_
            intro v7 w7 hown7 hgrow7 _
            obtain ⟨a7, q7, rfl⟩ := own_slice hown7
            have h7 := heap_grown HT6.out hgrow7 (far_box HO6.out (by omega))
            have c7 : w7.cell? ⟨H, 0, none⟩ = some (.slice (some ⟨tg, 0, none⟩) (m + 1) tc) := by simp [World.cell?, h7]
            have f7 : w7.frozen? ⟨H, 0, none⟩ = false := by simp [World.frozen?, h7]
            have HW7 := hideH hown7
            have HGr := hideH hgrow7
            clear hown7 hgrow7 h7
            gi_wp2
            go_roundw
            case rel => exact ⟨j + 1, by omega, by go_num, hideH (CI_push HI6.out hwH HT6.out HO6.out HGr.out HW7.out rfl HP.out), hideH (keptT_push HK6.out HO6.out HGr.out), hideH ⟨HGW.out, (Below.heap_setCell _ _ _ _ (by show g ≠ H; omega)).trans (heap_grown HG6'.out HGr.out (own_other HO6.out (notT_int HG6'.out)))⟩⟩
            case measure => simp [intOf]; omega
      · obtain rfl : j = L.length := by omega
        gi_wp2
        refine ⟨HKJ.out, ?_⟩
        have := HJ.out
        rwa [List.take_length, ← HLS.out] at this
end Go.Proofs.YtdffopkljomipaaGreatDoor
