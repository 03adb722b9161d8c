/- The contract of trie.add. -/
import Derived.Test.YthkdjklpegmnnaaTrieJ
import Derived.Deep.RegionHeld3
namespace Go.Proofs.Ythkdjklpegmnnaa.Tri
open Go Go.RowKit Go.Maps
set_option linter.unusedVariables false

theorem lay_far : ∀ (m : Nat) (s : List UInt8) (t : List Nd) (a b : Nat), m ≤ s.length → go t a (s.take m) = some b → lay t a s = lay t b (s.drop m)
  | 0, s, t, a, b, _, h => by simp only [List.take_zero, go, Option.some.injEq] at h; subst h; rfl
  | m + 1, [], t, a, b, h, _ => by simp at h
  | m + 1, c :: s, t, a, b, hm, h => by
    simp only [List.take_succ_cons, go] at h
    simp only [lay, List.drop_succ_cons]
    cases hc : edg (nod t a).es c with
    | none => rw [hc] at h; cases h
    | some k =>
      rw [hc] at h
      exact lay_far m s t k.toNat b (by simpa using hm) h
theorem ok_okT {t : List Nd} {pre : List (List UInt8)} (h : Ok t pre) (hw : ∀ i, i < t.length → -1 ≤ (nod t i).wd) : okT t := by
  have h0 : 0 < t.length := by
    rw [h.len]
    exact (List.getElem?_eq_some_iff.1 h.zero).1
  refine ⟨h0, fun i hi => ?_⟩
  unfold okN
  rw [Bool.and_eq_true, Bool.and_eq_true]
  refine ⟨decide_eq_true (hw i hi), risB_rises.2 (h.so i), (leaB_iff _ _ _).2 fun j hj => ?_⟩
  have hm : (eC (nod t i).es j, eT (nod t i).es j) ∈ (nod t i).es := by rw [← eC_at hj]; exact List.getElem_mem hj
  have h1 := h.up i _ hm
  have hil : i < pre.length := by rw [← h.len]; exact hi
  have hp : pre[i]? = some pre[i] := List.getElem?_eq_getElem hil
  obtain ⟨h2, h3⟩ := (h.ed i _ hp _ _).1 hm
  have h4 := (List.getElem?_eq_some_iff.1 h3).1
  rw [← h.len] at h4
  simp only at h1 h2 h4
  omega
theorem ins_put (es : List (UInt8 × Int)) (c : UInt8) (k : Int) : ins es c k = put1 es (cnt es c) c k := rfl
theorem cnt_le (es : List (UInt8 × Int)) (c : UInt8) : cnt es c ≤ es.length := List.countP_le_length
theorem grow_put (t : List Nd) (a : Nat) (c : UInt8) : grow t a c = t.set a ⟨put1 (nod t a).es (cnt (nod t a).es c) c t.length, (nod t a).wd⟩ ++ [⟨[], -1⟩] := rfl
theorem info_node : (Try.prog.info? 47).map (fun i => (i.zero, i.size, i.bytes)) = some (some (.agg #[.slice none 0 0, .int .i64 0]), 2, 32) := by kernel_rfl
theorem below_own {base : Nat} {w W w1 : World} {n size : Nat} {e : TypeId} {v : Value} {xs : List Value} (hB : Below base w W) (hb : base ≤ w.heap.size) (h : W.ownsRow base e size v n xs) (hg : W.grownBy w1 v.ownBlock) : Below base w w1 :=
  hB.grown hg (by have := hB.size; omega) (fun k hk => (own_lt h hk).1)
theorem grown_cell {w w' : World} {row : Option Nat} (hg : w.grownBy w' row) {b o : Nat} (hb : b < w.heap.size) (hne : some b ≠ row) : w'.cell? ⟨b, o, none⟩ = w.cell? ⟨b, o, none⟩ ∧ w'.frozen? ⟨b, o, none⟩ = w.frozen? ⟨b, o, none⟩ :=
  ⟨World.cell?_of_block (hg.block b hb hne), World.frozen?_of_block (hg.block b hb hne)⟩
/-- where trie.add stands in its loop -/
def aI (base : Nat) (w : World) (t : List Nd) (s : ByteArray) (T : List Nd) (v : Value) (n a : Nat) (W : World) : Prop :=
  ∃ vs pre p, OwT W base v vs T ∧ Ok T pre ∧ pre[a]? = some p ∧ lay t 0 s.data.toList = lay T a (s.data.toList.drop n) ∧ (∀ h : n < s.size, edg (nod T a).es (s[n]'h) = none) ∧ T.length ≤ t.length + n ∧ Below base w W
/-- what trie.add leaves -/
def adP (base : Nat) (w : World) (t : List Nd) (e : Ending) (w' : World) : Prop := ∃ v' vs', e = .returned v' ∧ OwT w' base v' vs' t ∧ Below base w w'
theorem drop_cons (s : ByteArray) (n : Nat) (h : n < s.size) : s.data.toList.drop n = s[n] :: s.data.toList.drop (n + 1) := by
  rw [List.drop_eq_getElem_cons (by simpa using h)]; rfl
theorem grow_len (t : List Nd) (a : Nat) (c : UInt8) : (grow t a c).length = t.length + 1 := by simp [grow]
theorem nod_grow_last {t : List Nd} {a : Nat} (c : UInt8) (ha : a < t.length) : nod (grow t a c) t.length = ⟨[], -1⟩ := by
  rw [nod_grow_other c ha (by omega)]
  rw [nod, List.getElem?_eq_none (Nat.le_refl _)]; rfl
theorem aI_next {base : Nat} {w : World} {t : List Nd} {s : ByteArray} {T : List Nd} {n a : Nat} {W : World} {v : Value} {vs : Nat → Value} {pre : List (List UInt8)} {p : List UInt8} (hlt : n < s.size) (hO : OwT W base v vs (grow T a s[n])) (hk : Ok T pre) (hp : pre[a]? = some p)
    (hlay : lay t 0 s.data.toList = lay T a (s.data.toList.drop n)) (hed : edg (nod T a).es s[n] = none) (hT : T.length ≤ t.length + n) (hb : Below base w W) : aI base w t s (grow T a s[n]) v (n + 1) T.length W := by
  have hal : a < T.length := by rw [hk.len]; exact (List.getElem?_eq_some_iff.1 hp).1
  refine ⟨vs, pre ++ [p ++ [s[n]]], p ++ [s[n]], hO, ok_grow hk hp hed, ?_, ?_, fun h => ?_, by rw [grow_len]; omega, hb⟩
  · rw [List.getElem?_append_right (by rw [hk.len]; exact Nat.le_refl _), hk.len]; simp
  · rw [hlay, drop_cons s n hlt, lay, hed]
  · rw [nod_grow_last _ hal]; rfl
set_option maxRecDepth 100000 in
set_option maxHeartbeats 8000000 in
theorem add_c (base : Nat) (v : Value) (vs : Nat → Value) (t : List Nd) (pre : List (List UInt8)) (s : ByteArray) (num : Int) (w : World) (hO : OwT w base v vs t) (hok : Ok t pre) (hwd : ∀ i, i < t.length → -1 ≤ (nod t i).wd) (hlen : t.length ≤ 600) (hs : s.size ≤ 12) (hb : base ≤ w.heap.size) :
    Calls Try.prog 20 #[v, .string s, .int .i64 num] w fun e w' => adP base w (addw t s.data.toList num) e w' := by
  have hokT := ok_okT hok hwd
  have hfit : fitT t := ⟨by unfold maxLen; omega, fun j hj => by have := rises_len (hok.so j); unfold maxLen; omega⟩
  obtain ⟨g0, cap0, rfl, -, -, hc0, -, -⟩ := hO.slice hokT.1
  obtain ⟨a1, cap1, he1, -, htr⟩ := hO.trl hokT.1
  simp only [Value.slice.injEq, true_and] at he1
  obtain ⟨rfl, rfl⟩ := he1
  obtain ⟨i0, hi, hz0, hz1, hz2⟩ := info_parts info_node
  have HFa := hideH (farthest_c (some ⟨g0, 0, none⟩) cap0 t s w (by unfold maxLen; omega) hfit hokT htr)
  have HO := hideH hO
  have HK := hideH hok
  have HB := hideH hb
  have HT := hideH hokT
  obtain ⟨tl, htl⟩ : ∃ tl, tl = t.length := ⟨_, rfl⟩
  rw [← htl] at hlen
  have HTL := hideH htl
  clear hO hok hwd hfit htr hb hokT htl hc0
  go_enter Try.func20, Try.ntmps20
  go_wp2_with fail
  refine HFa.out.mono ?_
  rintro e w1 ⟨m, rfl, hfar, hw1⟩
  have HI : Hid (aI base w t s t (.slice (some ⟨g0, 0, none⟩) t.length cap0) m (atN t s m) w1) := by
    obtain ⟨h1, h2, h3⟩ := hfar
    have hat := far_at (t := t) (s := s) (m := m) ⟨h1, h2, h3⟩
    have hlt := go_lt HT.out _ 0 _ HT.out.1 hat
    refine ⟨vs, pre, pre[atN t s m]'(by rw [← HK.out.len]; exact hlt), HO.out.on hw1, HK.out, List.getElem?_eq_getElem _, lay_far m _ t 0 _ (by rw [sz_len]; exact h1) hat, fun h => ?_, by omega, hw1.mono HB.out⟩
    rcases h3 with h3 | h3
    · omega
    · rw [go_next h hat] at h3
      cases he : edg (nod t (atN t s m)).es s[m] with
      | none => rfl
      | some j => rw [he] at h3; cases h3
  have hm := hfar.1
  clear hfar hw1 HFa
  generalize atN t s m = at0 at HI
  go_wp2_with fail
  go_loopw [0, 7, 8] (fun x0 x7 x8 W => ∃ (T : List Nd) (n a g cap : Nat), n ≤ s.size ∧ x0 = .slice (some ⟨g, 0, none⟩) T.length cap ∧ x7 = .int .i64 n ∧ x8 = .int .i64 a ∧ Hid (aI base w t s T (.slice (some ⟨g, 0, none⟩) T.length cap) n a W)) (fun _ x7 _ _ => s.size - (intOf x7).toNat)
  case atStart => exact ⟨t, m, at0, g0, cap0, hm, rfl, rfl, rfl, HI⟩
  case round =>
    obtain ⟨T, n, a, g, cap, hn, rfl, rfl, rfl, HA⟩ := hrel
    by_cases hlt : n < s.size
    · obtain ⟨vs, pre, p, hO, hk, hp, hlay, hed, hTl, hbel⟩ := HA.out
      have hal : a < T.length := by rw [hk.len]; exact (List.getElem?_eq_some_iff.1 hp).1
      obtain ⟨ea, ec, he1, hec, hedl⟩ := own_edl (hO.es a hal)
      obtain ⟨g', cap', he2, hbg, hgw, -, hcells, hfz⟩ := hO.slice (by omega)
      simp only [Value.slice.injEq, Option.some.injEq, Addr.mk.injEq, and_true, true_and] at he2
      obtain ⟨rfl, rfl⟩ := he2
      have d0 := (hcells a hal).1
      rw [he1] at d0
      have fz := hfz (a * 2)
      have HC := hideH (cnt_le (nod T a).es s[n])
      have HR := hideH (hk.so a)
      have HE := hideH (hed hlt)
      have HL := hideH hedl
      have hrl := rises_len (hk.so a)
      have HP := hideH (fun v (hv : Below wr.heap.size wr v) => place_c ea ec (nod T a).es s[n] v (HL.out.on hv) HR.out)
      unfold plP at HP
      rw [HE.out] at HP
      simp only [Option.isSome_none] at HP
      have hTl2 : T.length ≤ tl + n := by have := HTL.out; omega
      have HO2 := hideH hO
      have HB2 := hideH hbel
      have HK2 := hideH hk
      have HPp := hideH hp
      have HLy := hideH hlay
      have HE1 := hideH he1
      clear hO hk hp hlay hed hTl hbel he1 hec hedl hcells hfz HA
      have hai : (a : Int) < (T.length : Int) := by omega
      have hni : (n : Int) < (s.size : Int) := by omega
      obtain ⟨C, hC⟩ : ∃ C, C = cnt (nod T a).es s[n] := ⟨_, rfl⟩
      rw [← hC] at HP HC
      have HCC := hideH hC
      clear hC
      go_wp2_with fail
      go_region_held3 (fun v => v.cell? ⟨g, a * 2, none⟩ = some (.slice ea (nod T a).es.length ec)) (first | (exact d0) | (exact cell_on (w := wr.drew) d0 hw2)) ((go_at_call 27; refine (HP.out _ (Below.refl _ wr).drew).mono ?_; rintro e w2 ⟨rfl, hw2⟩))
      have H2 := hideH (show Below wr.heap.size wr w2 from bthen (a := wr.drew) (Below.refl _ wr).drew hw2)
      have d1 := cell_on d0 H2.out
      have fz1 : w2.frozen? ⟨g, a * 2, none⟩ = false := by rw [H2.out.frozen (p := ⟨g, a * 2, none⟩) hgw]; exact fz
      have O2 := hideH (HO2.out.on H2.out)
      clear hw2 d0 fz
      have HBa : Hid (Below w2.heap.size w2 (w2.drew.alloc (.cells #[.int .u8 (s[n].toNat : Int), .int .i64 T.length] 52))) := (Below.refl _ w2).drew.alloc (Nat.le_refl _) _
      have HNe : Hid (some g ≠ (Value.slice ea (nod T a).es.length ec).ownBlock) := fun h => by
        have := O2.out.av a hal
        rw [HE1.out] at this
        exact this g h.symm rfl
      have hgw2 : g < w2.heap.size := by have := H2.out.size; omega
      have HIn : Hid (Calls Try.prog 28 #[.slice ea (nod T a).es.length ec, .int .i64 C, .slice (some ⟨w2.heap.size, 0, none⟩) 1 1] (w2.drew.alloc (.cells #[.int .u8 (s[n].toNat : Int), .int .i64 T.length] 52)) fun e w' => ∃ gu qu, e = .returned (.slice (some ⟨gu, 0, none⟩) ((nod T a).es.length + 1) qu) ∧ w'.ownsRow base 52 2 (.slice (some ⟨gu, 0, none⟩) ((nod T a).es.length + 1) qu) ((nod T a).es.length + 1) (ecells (put1 (nod T a).es C s[n] T.length)) ∧ (w2.drew.alloc (.cells #[.int .u8 (s[n].toNat : Int), .int .i64 T.length] 52)).grownBy w' (Value.slice ea (nod T a).es.length ec).ownBlock ∧ ((Value.slice (some ⟨gu, 0, none⟩) ((nod T a).es.length + 1) qu).ownBlock = (Value.slice ea (nod T a).es.length ec).ownBlock ∨ ∃ g, (Value.slice (some ⟨gu, 0, none⟩) ((nod T a).es.length + 1) qu).ownBlock = some g ∧ (w2.drew.alloc (.cells #[.int .u8 (s[n].toNat : Int), .int .i64 T.length] 52)).heap.size ≤ g)) := by
        have ho := O2.out.es a hal
        rw [HE1.out] at ho
        refine (Insert_own base _ (nod T a).es C s[n] T.length w2.heap.size _ (own_on ho HBa.out) HC.out (by omega) ?_ (heap_alloc_new w2.drew _) (fun h => ?_)).mono ?_
        · have h1 := HBa.out.size
          have h2 := H2.out.size
          have h3 := HB2.out.size
          have h4 := HB.out
          omega
        · have := (own_lt ho h).2
          omega
        · rintro e w' ⟨u, rfl, hu, hgr, hx⟩
          obtain ⟨gu, qu, rfl, -, -⟩ := hu.form (by omega)
          refine ⟨gu, qu, rfl, hu, hgr, ?_⟩
          rcases hx with h | ⟨g2, h, h2⟩
          · exact .inl h
          · exact .inr ⟨g2, h, h2⟩
      go_wp2_with fail
      have da := cell_on d1 HBa.out
      have dfa := (HBa.out.frozen (p := ⟨g, a * 2, none⟩) hgw2).trans fz1
      go_region_with ((go_at_call 28; refine HIn.out.mono ?_; rintro e w3 ⟨gu, qu, rfl, hu, hgr, hx⟩; have d3 := (grown_cell hgr (by have := HBa.out.size; omega) HNe.out).1.trans da; have f3 := (grown_cell hgr (by have := HBa.out.size; omega) HNe.out).2.trans dfa))
      all_goals
        have O3 : Hid (OwT (w3.setCell ⟨g, a * 2, none⟩ (.slice (some ⟨gu, 0, none⟩) ((nod T a).es.length + 1) qu)) base (.slice (some ⟨g, 0, none⟩) T.length cap) (fun j => if j = a then (.slice (some ⟨gu, 0, none⟩) ((nod T a).es.length + 1) qu) else vs j) (T.set a ⟨put1 (nod T a).es C s[n] T.length, (nod T a).wd⟩)) := by
          refine OwT.edge (O2.out.on HBa.out) hal (by rw [HE1.out]; exact hgr) ?_ (by rw [HE1.out]; exact hx)
          rw [put1_len _ _ _ _ HC.out]
          exact hu
        have B3 : Hid (Below base w (w3.setCell ⟨g, a * 2, none⟩ (.slice (some ⟨gu, 0, none⟩) ((nod T a).es.length + 1) qu))) := by
          have h1 : Below base w (w2.drew.alloc (.cells #[.int .u8 (s[n].toNat : Int), .int .i64 T.length] 52)) := (HB2.out.trans (H2.out.mono (by have := HB2.out.size; have := HB.out; omega))).trans (HBa.out.mono (by have := HB2.out.size; have := H2.out.size; have := HB.out; omega))
          have ho := (O2.out.on HBa.out).es a hal
          rw [HE1.out] at ho
          exact (below_own h1 HB.out ho hgr).setCell (p := ⟨g, a * 2, none⟩) hbg _
        have S3 : w2.heap.size < w3.heap.size := by
          have := hgr.size
          simp at this
          omega
        clear hu hgr hx d3 f3 da dfa d1 fz1
        obtain ⟨W3, hW3⟩ : ∃ W3, W3 = w3.setCell ⟨g, a * 2, none⟩ (.slice (some ⟨gu, 0, none⟩) ((nod T a).es.length + 1) qu) := ⟨_, rfl⟩
        rw [← hW3] at O3 B3
        simp only [← hW3]
        clear hW3
        generalize (fun j => if j = a then (Value.slice (some ⟨gu, 0, none⟩) ((nod T a).es.length + 1) qu) else vs j) = VS at O3
        have HBn : Hid (Below W3.heap.size W3 (W3.alloc (.cells #[.slice none 0 0, .int .i64 (-1)] 47))) := (Below.refl _ W3).alloc (Nat.le_refl _) _
        have HNw : Hid (∀ j u, [Value.slice none 0 0, Value.int .i64 (-1)][j]? = some u → (W3.alloc (.cells #[.slice none 0 0, .int .i64 (-1)] 47)).cell? ((⟨W3.heap.size, 0, none⟩ : Addr).add j) = some u) := fun j u hj => by
          match j, hj with
          | 0, hj => simp at hj; subst hj; simp [Addr.add_lit]
          | 1, hj => simp at hj; subst hj; simp [Addr.add_lit]
          | j + 2, hj => simp at hj
        have O4 := hideH (O3.out.on HBn.out)
        have R4 : Hid ((W3.alloc (.cells #[.slice none 0 0, .int .i64 (-1)] 47)).ownsRow base 47 2 (.slice (some ⟨g, 0, none⟩) T.length cap) T.length (ncells VS (T.set a ⟨put1 (nod T a).es C s[n] T.length, (nod T a).wd⟩) T.length)) := by
          have := O4.out.row
          rw [List.length_set] at this
          exact this
        have HBs : Hid (base ≤ (W3.alloc (.cells #[.slice none 0 0, .int .i64 (-1)] 47)).heap.size) := by
          have h1 := B3.out.size
          have h2 := HB.out
          have h3 := HBn.out.size
          show _ ≤ _
          omega
        go_wp2_with (at_builtin; refine wpList_append_lies _ rfl _ _ 23 rfl base 47 i0 _ 2 32 Try.underlying23 hi hz0 hz1 hz2 rfl (by decide) _ _ _ rfl R4.out ⟨W3.heap.size, 0, none⟩ 1 1 [.slice none 0 0, .int .i64 (-1)] rfl rfl HNw.out (by simp [Value.oneCell']) (by decide) (by unfold maxLen; omega) (by omega) HBs.out _ rfl ?_; intro g4 q4 w4 hown4 hgrow4 hat4 hl4)
        have HI5 : Hid (aI base w t s (grow T a s[n]) (.slice (some ⟨g4, 0, none⟩) (grow T a s[n]).length q4) (n + 1) T.length w4) := by
          have h5 := OwT.node (g := g4) (cap := q4) O4.out hgrow4 (by rw [List.length_set]; exact hown4) hat4 (Nat.le_refl _)
          rw [HCC.out, ← grow_put, List.length_set] at h5
          rw [grow_len]
          exact aI_next hlt h5 HK2.out HPp.out HLy.out HE.out (by have := HTL.out; omega) (below_own (B3.out.trans (HBn.out.mono (by have := B3.out.size; have := HB.out; omega))) HB.out R4.out hgrow4)
        clear hown4 hgrow4 hat4 hl4 O3 O4 R4 HBn HNw HBs B3
        go_roundw
        case rel => exact ⟨grow T a s[n], n + 1, T.length, g4, q4, by omega, by rw [grow_len], by go_num, rfl, HI5⟩
        case measure => simp [intOf]; omega
    · obtain rfl : n = s.size := by omega
      obtain ⟨vs, pre, p, hO, hk, hp, hlay, -, hTl, hbel⟩ := HA.out
      have hal : a < T.length := by rw [hk.len]; exact (List.getElem?_eq_some_iff.1 hp).1
      obtain ⟨g', cap', he2, hbg, hgw, -, hcells, hfz⟩ := hO.slice (by omega)
      simp only [Value.slice.injEq, Option.some.injEq, Addr.mk.injEq, and_true, true_and] at he2
      obtain ⟨rfl, rfl⟩ := he2
      have d1 := (hcells a hal).2
      have f1 := hfz (a * 2 + 1)
      have hTl2 : T.length ≤ tl + s.size := by have := HTL.out; omega
      have HEnd : Hid (addw t s.data.toList num = mark T a num) := by
        show _ = _
        unfold addw
        rw [hlay, List.drop_of_length_le (by rw [sz_len]; exact Nat.le_refl _)]
        rfl
      have HO2 := hideH hO
      have HB2 := hideH hbel
      clear hO hk hp hlay hTl hbel hcells hfz HA
      have hai : (a : Int) < (T.length : Int) := by omega
      have hni : ¬ ((s.size : Int) < (s.size : Int)) := by omega
      by_cases hq : (nod T a).wd = -1
      · have HE2 : Hid (addw t s.data.toList num = T.set a ⟨(nod T a).es, num⟩) := by show _ = _; rw [HEnd.out]; unfold mark; rw [if_pos hq]
        rw [hq] at d1
        clear hq HEnd
        go_wp2_with fail
        go_ret
        unfold adP
        refine ⟨_, vs, rfl, ?_, HB2.out.setCell (p := ⟨g, a * 2 + 1, none⟩) hbg _⟩
        rw [HE2.out]
        exact HO2.out.word num hal
      · have HE2 : Hid (addw t s.data.toList num = T) := by show _ = _; rw [HEnd.out]; unfold mark; rw [if_neg hq]
        have hqb : ((nod T a).wd == -1) = false := beq_eq_false_iff_ne.2 hq
        clear hq HEnd
        go_wp2_with fail
        go_ret
        unfold adP
        refine ⟨_, vs, rfl, ?_, HB2.out⟩
        rw [HE2.out]
        exact HO2.out
end Go.Proofs.Ythkdjklpegmnnaa.Tri
