/- Contracts of package off: eraAt. -/
import Derived.Test.YtdffopkljomipaaGreatDoorDataQ
import Derived.Test.YtdffopkljomipaaGreatDoorLinksM
import Derived.Test.YtdffopkljomipaaGreatDoorEurope
namespace Go.Proofs.YtdffopkljomipaaGreatDoor
open Go Go.RowKit Go.Maps Go.Shelf
set_option linter.unusedVariables false
attribute [local go_sem] Oper.semAt_some

/-- which era has a time: the first one that ends behind it, else the last one -/
def eraI (es : Nat → Er) (n : Nat) (t : Int) : Nat := ((List.range n).find? fun j => decide (t < (es j).un)).getD (n - 1)
theorem eraI_at {es : Nat → Er} {n k : Nat} {t : Int} (hk : k < n) (h : t < (es k).un) (h0 : ∀ i, i < k → (es i).un ≤ t) : eraI es n t = k := by
  unfold eraI
  rw [find_range hk (by simpa using h) (fun i hi => by have := h0 i hi; simp; omega)]
  rfl
theorem eraI_no {es : Nat → Er} {n : Nat} {t : Int} (h0 : ∀ i, i < n → (es i).un ≤ t) : eraI es n t = n - 1 := by
  unfold eraI
  rw [List.find?_eq_none.2 (fun x hx => by have := h0 x (List.mem_range.1 hx); simp; omega)]
  rfl
abbrev eZ : Array Value := #[.int .i64 0, .int .i64 0, .int .i64 0, .string ⟨#[]⟩, .int .i64 0]
theorem cells5 {w : World} {b : Nat} {x y z u v : Value} {t : TypeId} (h : w.heap[b]? = some (.cells #[x, y, z, u, v] t)) : w.cell? ⟨b, 0, none⟩ = some x ∧ w.cell? ⟨b, 1, none⟩ = some y ∧ w.cell? ⟨b, 2, none⟩ = some z ∧ w.cell? ⟨b, 3, none⟩ = some u ∧ w.cell? ⟨b, 4, none⟩ = some v := by
  refine ⟨?_, ?_, ?_, ?_, ?_⟩ <;> simp [World.cell?, h]

theorem setCell_at {w : World} {b o : Nat} {cs : Array Value} {t : TypeId} (h : w.heap[b]? = some (.cells cs t)) (v : Value) : (w.setCell ⟨b, o, none⟩ v).heap[b]? = some (.cells (cs.setIfInBounds o v) t) := by
  have hlt := (Array.getElem?_eq_some_iff.1 h).1
  have h' := (Array.getElem?_eq_some_iff.1 h).2
  simp [World.setCell, hlt, Array.getElem_modify, h']
/-- five cells stored in a row -/
def set5 (w : World) (b : Nat) (x : Er) : World := ((((w.setCell ⟨b, 0, none⟩ (.int .i64 x.std)).setCell ⟨b, 1, none⟩ (.int .i64 x.set)).setCell ⟨b, 2, none⟩ (.int .i64 x.sv)).setCell ⟨b, 3, none⟩ (.string x.fm)).setCell ⟨b, 4, none⟩ (.int .i64 x.un)
theorem set5_at {w : World} {b : Nat} {c0 c1 c2 c3 c4 : Value} {t : TypeId} (h : w.heap[b]? = some (.cells #[c0, c1, c2, c3, c4] t)) (x : Er) : (set5 w b x).heap[b]? = some (.cells x.cs t) := by
  unfold set5
  exact setCell_at (setCell_at (setCell_at (setCell_at (setCell_at h _) _) _) _) _
theorem set5_other {w : World} {b k : Nat} (h : k ≠ b) (x : Er) : (set5 w b x).heap[k]? = w.heap[k]? := by
  unfold set5
  rw [Below.heap_setCell _ _ _ _ (by exact h), Below.heap_setCell _ _ _ _ (by exact h), Below.heap_setCell _ _ _ _ (by exact h), Below.heap_setCell _ _ _ _ (by exact h), Below.heap_setCell _ _ _ _ (by exact h)]
theorem set5_size (w : World) (b : Nat) (x : Er) : (set5 w b x).heap.size = w.heap.size := by unfold set5; simp
theorem set5_below {B : Nat} {w v : World} {b : Nat} (h : Below B w v) (hb : B ≤ b) (x : Er) : Below B w (set5 v b x) := by
  unfold set5
  exact ((((h.setCell (p := ⟨b, 0, none⟩) hb _).setCell (p := ⟨b, 1, none⟩) hb _).setCell (p := ⟨b, 2, none⟩) hb _).setCell (p := ⟨b, 3, none⟩) hb _).setCell (p := ⟨b, 4, none⟩) hb _
theorem set5_kept {B : Nat} {w : World} {b : Nat} (hb : b < B) (x : Er) : Kept B w (set5 w b x) := ⟨by rw [set5_size]; exact Nat.le_refl _, fun k h1 _ => set5_other (by omega) x⟩

/-- what holds between two rounds of eraAt -/
def OI (z : Zn) (t : Int) (w : World) (k : Nat) (W : World) : Prop := Below w.heap.size w W ∧ W.heap[w.heap.size + 4]? = some (.cells #[.slice z.a z.n z.c] 46) ∧ W.heap[w.heap.size + 1]? = some (.cells #[.int .i64 t] 3) ∧ W.heap[w.heap.size + 2]? = some (.cells eZ 50) ∧
  W.heap[w.heap.size + 3]? = some (.cells (if k = 0 then eZ else (z.es (k - 1)).cs) 50) ∧ ∀ i, i < k → (z.es i).un ≤ t
/-- what holds where it breaks -/
def OX (z : Zn) (t : Int) (w : World) (c : Code) (W : World) : Prop := c = .exit 0 ∧ Below w.heap.size w W ∧ W.heap[w.heap.size + 2]? = some (.cells eZ 50) ∧ W.heap[w.heap.size + 3]? = some (.cells (z.es (eraI z.es z.n t)).cs 50)

set_option maxRecDepth 100000 in
set_option maxHeartbeats 2000000 in
theorem era_end (z : Zn) (t : Int) (w W : World) (Dk : Nat) (V : Value) (hV : (z.es (eraI z.es z.n t)).v = V) (hDk : w.heap.size + 5 ≤ Dk) (h1 : Below w.heap.size w W) (h4 : W.heap[w.heap.size + 2]? = some (.cells eZ 50)) (h5 : W.heap[w.heap.size + 3]? = some (.cells (z.es (eraI z.es z.n t)).cs 50))
    (hk : W.heap[Dk]? = some (.deferred (some []))) :
    wpG Tryz.prog 24 ((Code.region 6 #[{ dst := some 18, op := Op.load 50 (Operand.tmp 5), type := 50, pos := "off.go:40", after := #[], guard := none }, { dst := none, op := Op.store 50 (Operand.tmp 4) (Operand.tmp 18), type := 0, pos := "off.go:40", after := #[{ on := 0, ground := Ground.data }, { on := 0, ground := Ground.phase }], guard := none }] false).seq Code.ret)
      (bodyPostM Fence.wide 0 Tryz.prog Tryz.f24 fun e w' => e = .returned V ∧ Below w.heap.size w w')
      { tmps := #[.agg #[.string z.nm, z.sl], .int .i64 t, .pointer (some ⟨w.heap.size, 0, none⟩), .pointer (some ⟨w.heap.size + 1, 0, none⟩), .pointer (some ⟨w.heap.size + 2, 0, none⟩), .pointer (some ⟨w.heap.size + 3, 0, none⟩), undef, undef,
      .pointer (some ⟨w.heap.size, 1, none⟩), z.sl, .func (.func 31) #[] #[.pointer (some ⟨w.heap.size + 4, 0, none⟩)], undef, undef, undef, undef, undef, undef, undef, undef], defers := [mark Dk] } W := by
  obtain ⟨f0, f1, f2, f3, f4⟩ := cells5 h4
  obtain ⟨g0, g1, g2, g3, g4⟩ := cells5 h5
  have fz : ∀ o, W.frozen? ⟨w.heap.size + 2, o, none⟩ = false := fun o => by simp [World.frozen?, h4]
  have z0 := fz 0
  have z1 := fz 1
  have z2 := fz 2
  have z3 := fz 3
  have z4 := fz 4
  have H1 := hideH h1
  have H4 := hideH h4
  have HK := hideH hk
  have HV := hideH hV
  clear fz h1 h4 h5 hk hV
  refine wpG_plain ?_
  go_wp2
  show LeavesInM _ _ _ _ _ _ _ _ (set5 W (w.heap.size + 2) (z.es (eraI z.es z.n t)))
  have hlt : Dk < W.heap.size := (Array.getElem?_eq_some_iff.1 HK.out).1
  have hms : Marks (w.heap.size + 5) W.heap.size [mark Dk] (set5 W (w.heap.size + 2) (z.es (eraI z.es z.n t))) := ⟨Dk, rfl, hDk, hlt, (set5_other (by omega) _).trans HK.out, trivial⟩
  refine hms.leaves (by simp) fun W' hw => ?_
  have hb' : Below w.heap.size w W' := (set5_below H1.out (by omega) _).trans (hw.mono (by omega))
  have hc := (hw.block (w.heap.size + 2) (by omega)).trans (set5_at H4.out (z.es (eraI z.es z.n t)))
  obtain ⟨y0, y1, y2, y3, y4⟩ := cells5 hc
  refine ⟨(z.es (eraI z.es z.n t)).v, ?_, by rw [HV.out], hb'⟩
  simp [results, Tryz.results24, go_sem, y0, y1, y2, y3, y4]

set_option maxRecDepth 100000 in
set_option maxHeartbeats 2000000 in
theorem eraAt_c (z : Zn) (t : Int) (w : World) (hn : 1 ≤ z.n) (hm : z.n ≤ maxLen) (hE : ERow w z.a z.n z.es) : Calls Tryz.prog 24 #[.agg #[.string z.nm, z.sl], .int .i64 t] w fun e w' => e = .returned (z.es (eraI z.es z.n t)).v ∧ Below w.heap.size w w' := by
  have HE := hideH hE
  clear hE
  generalize hV : (z.es (eraI z.es z.n t)).v = V
  have HV := hideH hV
  clear hV
  refine calls_of_wpG Tryz.func24 rfl ?_
  simp only [Tryz.ntmps24, List.size_toArray, List.length_cons, List.length_nil, Nat.reduceAdd, Nat.reduceSub, Array.replicate_succ, Array.replicate_zero, List.push_toArray, List.append_toArray, List.nil_append, List.cons_append]
  refine wpG_seq (wpG_plain ?_)
  go_wp2
  refine wpG_seq (wpG_plain ?_)
  go_wp2
  refine wpG_seq (wpG_seq (wpG_plain ?_))
  go_wp2_with (go_at_call 16; refine (Spans_c _ _ _ _).mono ?_; rintro e w1 ⟨rfl, rfl⟩)
  refine wpG_block ?_
  obtain ⟨W5, hW5⟩ : ∃ W5, W5 = ((((w.alloc (.cells #[.string z.nm, z.sl] 48)).alloc (.cells #[.int .i64 t] 3)).alloc (.cells eZ 50)).alloc (.cells eZ 50)).alloc (.cells #[.slice z.a z.n z.c] 46) := ⟨_, rfl⟩
  have hs5 : W5.heap.size = w.heap.size + 5 := by rw [hW5]; simp
  have hb5 : Below w.heap.size w W5 := by rw [hW5]; exact (((((Below.refl _ w).alloc (Nat.le_refl _) _).alloc (by simp) _).alloc (by simp; omega) _).alloc (by simp; omega) _).alloc (by simp; omega) _
  have hk5 := heap5 w (.cells #[.string z.nm, z.sl] 48) (.cells #[.int .i64 t] 3) (.cells eZ 50) (.cells eZ 50) (.cells #[.slice z.a z.n z.c] 46)
  rw [← hW5] at hk5
  have HI0 : Hid (OI z t w 0 W5) := ⟨hb5, hk5.2.2.2.2, hk5.2.1, hk5.2.2.1, hk5.2.2.2.1, fun i hi => by omega⟩
  simp only [eZ] at hW5
  simp only [← hW5]
  simp only [Nat.add_assoc, Nat.reduceAdd]
  clear hW5 hk5 hb5
  refine spans_p Tryz.func24 9 (w.heap.size + 4) z.n z.c z.a z.es rfl rfl hm (OI z t w) (OX z t w) (fun _ _ => False) ?hI ?hIx ?hrd HI0.out
    (fun k hb => { tmps := #[.agg #[.string z.nm, z.sl], .int .i64 t, .pointer (some ⟨w.heap.size, 0, none⟩), .pointer (some ⟨w.heap.size + 1, 0, none⟩), .pointer (some ⟨w.heap.size + 2, 0, none⟩), .pointer (some ⟨w.heap.size + 3, 0, none⟩), undef, .pointer (some ⟨hb, 0, none⟩),
      .pointer (some ⟨w.heap.size, 1, none⟩), z.sl, .func (.func 31) #[] #[.pointer (some ⟨w.heap.size + 4, 0, none⟩)], .int .i64 (frm z.es k), (z.es k).v, undef, undef, undef, undef, undef, undef], defers := [] })
    ?assign ?body ?done ?stop ?pan
  case hI =>
    rintro k W W' ⟨h1, h2, h3, h4, h5, h6⟩ hb
    exact ⟨h1.trans (hb.mono (by omega)), (hb.block _ (by omega)).trans h2, (hb.block _ (by omega)).trans h3, (hb.block _ (by omega)).trans h4, (hb.block _ (by omega)).trans h5, h6⟩
  case hIx =>
    rintro c W W' ⟨h0, h1, h2, h3⟩ hb
    exact ⟨h0, h1.trans (hb.mono (by omega)), (hb.block _ (by omega)).trans h2, (hb.block _ (by omega)).trans h3⟩
  case hrd =>
    rintro k W ⟨h1, h2, h3, h4, h5, h6⟩
    exact ⟨by simp [World.cell?, h2], HE.out.on h1⟩
  case assign =>
    intro l k W K hk hK
    gi_wp2
    exact hK
  case body =>
    rintro l k hb W hk ⟨h1, h2, h3, h4, h5, h6⟩ hb1 hb2 ⟨e0, e1, e2, e3, e4⟩
    rw [hs5] at hb1
    simp only [Nat.zero_add] at e1 e2 e3 e4
    have hne : hb ≠ w.heap.size + 3 := by omega
    have hne2 : ¬ (w.heap.size + 3 = hb) := by omega
    obtain ⟨c0, c1, c2, c3, c4, hcs⟩ : ∃ c0 c1 c2 c3 c4, W.heap[w.heap.size + 3]? = some (.cells #[c0, c1, c2, c3, c4] 50) := by
      by_cases h : k = 0
      · rw [if_pos h] at h5; exact ⟨_, _, _, _, _, h5⟩
      · rw [if_neg h] at h5; exact ⟨_, _, _, _, _, h5⟩
    obtain ⟨f0, f1, f2, f3, f4⟩ := cells5 hcs
    have fz : ∀ o, W.frozen? ⟨w.heap.size + 3, o, none⟩ = false := fun o => by simp [World.frozen?, hcs]
    have z0 := fz 0
    have z1 := fz 1
    have z2 := fz 2
    have z3 := fz 3
    have z4 := fz 4
    have ht : W.cell? ⟨w.heap.size + 1, 0, none⟩ = some (.int .i64 t) := by simp [World.cell?, h3]
    have HC := hideH hcs
    have H1 := hideH h1
    have H2 := hideH h2
    have H3 := hideH h3
    have H4 := hideH h4
    have H6 := hideH h6
    clear h1 h2 h3 h4 h5 h6 fz hcs
    by_cases hq : t < (z.es k).un
    · gi_wp2
      show Kept _ W (set5 W (w.heap.size + 3) (z.es k)) ∧ OX z t w (.exit 0) (set5 W (w.heap.size + 3) (z.es k))
      refine ⟨set5_kept (by omega) _, rfl, set5_below H1.out (by omega) _, (set5_other (by omega) _).trans H4.out, ?_⟩
      rw [eraI_at hk hq H6.out]
      exact set5_at HC.out _
    · gi_wp2
      show Kept _ W (set5 W (w.heap.size + 3) (z.es k)) ∧ OI z t w (k + 1) (set5 W (w.heap.size + 3) (z.es k))
      refine ⟨set5_kept (by omega) _, set5_below H1.out (by omega) _, (set5_other (by omega) _).trans H2.out, (set5_other (by omega) _).trans H3.out, (set5_other (by omega) _).trans H4.out, ?_, fun i hi => ?_⟩
      · rw [if_neg (by omega)]
        exact set5_at HC.out _
      · rcases Nat.lt_or_ge i k with h | h
        · exact H6.out i h
        · obtain rfl : i = k := by omega
          omega
  case done =>
    rintro Dk W hDk ⟨h1, h2, h3, h4, h5, h6⟩ hk
    rw [hs5] at hDk
    rw [if_neg (by omega)] at h5
    have he := eraI_no (es := z.es) (n := z.n) (t := t) h6
    rw [← he] at h5
    show wpG _ _ _ _ _ _
    exact era_end z t w W Dk V HV.out hDk h1 h4 h5 hk
  case stop =>
    rintro Dk c W hDk ⟨rfl, h1, h4, h5⟩ hk
    rw [hs5] at hDk
    refine wpG_plain ?_
    go_wp2
    show wpG _ _ _ _ _ _
    exact era_end z t w W Dk V HV.out hDk h1 h4 h5 hk
  case pan => rintro D' ch W _ h _; exact h.elim
end Go.Proofs.YtdffopkljomipaaGreatDoor
