/- How a rule, and a list of rules, that is handed in lies in memory. -/
import Derived.Test.YtdffopkljomipaaGreatDoorFrame0
import Derived.Test.YtdffopkljomipaaGreatDoorRulesIAll
import Derived.Deep.Slices
import Derived.Deep.Strs
import Derived.Carry
namespace Go.Proofs.YtdffopkljomipaaGreatDoor
open Go Go.ChangeShapes Go.WideShapes Go.ChangeAt Go.RowKit Go.Deep
set_option maxRecDepth 100000

theorem laidOut : laidOutB Tryz.prog = true := by kernel_rfl
theorem cellsRule : Tryz.prog.cellsOf 57 = 9 := by kernel_rfl
theorem cellsOn : Tryz.prog.cellsOf 55 = 3 := by kernel_rfl
theorem cellsInt : Tryz.prog.cellsOf 3 = 1 := by kernel_rfl
theorem cellsStr : Tryz.prog.cellsOf 9 = 1 := by kernel_rfl

theorem rule_of_trod {H : Type} {enc : TypeId × Value → H} {w : World} {base : Nat} {sp : Nat → Bool} {hd : Bool} {fuel : Nat} {cs : List Value} {y : DataW H × List MemPlace}
    (h : DataW.trod enc Tryz.prog w base sp hd fuel 57 cs = some y) : ∃ r : Rl, cs = r.cs.toList ∧ r.s.size ≤ maxLen := by
  obtain ⟨xs, n, _, _, hl, hn, hf⟩ := DataW.trod_struct Tryz.underlying57 h
  rw [cellsRule] at hl
  match cs, hl with
  | [c0, c1, c2, c3, c4, c5, c6, c7, c8], _ =>
    have f0 : DataW.trod enc Tryz.prog w base sp hd n 3 [c0] = xs[0]? := by simpa [cellsInt] using hf 0 _ rfl
    have f1 : DataW.trod enc Tryz.prog w base sp hd n 3 [c1] = xs[1]? := by simpa [cellsInt] using hf 1 _ rfl
    have f2 : DataW.trod enc Tryz.prog w base sp hd n 3 [c2] = xs[2]? := by simpa [cellsInt] using hf 2 _ rfl
    have f3 : DataW.trod enc Tryz.prog w base sp hd n 55 [c3, c4, c5] = xs[3]? := by simpa [cellsOn] using hf 3 _ rfl
    have f4 : DataW.trod enc Tryz.prog w base sp hd n 3 [c6] = xs[4]? := by simpa [cellsInt] using hf 4 _ rfl
    have f5 : DataW.trod enc Tryz.prog w base sp hd n 3 [c7] = xs[5]? := by simpa [cellsInt] using hf 5 _ rfl
    have f6 : DataW.trod enc Tryz.prog w base sp hd n 9 [c8] = xs[6]? := by simpa [cellsStr] using hf 6 _ rfl
    have hx : ∀ i, i < 7 → ∃ x, xs[i]? = some x := fun i hi => ⟨xs[i]'(by rw [hn]; exact hi), List.getElem?_eq_getElem (by rw [hn]; exact hi)⟩
    obtain ⟨x0, e0⟩ := hx 0 (by omega)
    obtain ⟨x1, e1⟩ := hx 1 (by omega)
    obtain ⟨x2, e2⟩ := hx 2 (by omega)
    obtain ⟨x3, e3⟩ := hx 3 (by omega)
    obtain ⟨x4, e4⟩ := hx 4 (by omega)
    obtain ⟨x5, e5⟩ := hx 5 (by omega)
    obtain ⟨x6, e6⟩ := hx 6 (by omega)
    rw [e0] at f0; rw [e1] at f1; rw [e2] at f2; rw [e3] at f3; rw [e4] at f4; rw [e5] at f5; rw [e6] at f6
    obtain ⟨a0, g0, _⟩ := DataW.trod_int Tryz.underlying3 f0
    obtain ⟨a1, g1, _⟩ := DataW.trod_int Tryz.underlying3 f1
    obtain ⟨a2, g2, _⟩ := DataW.trod_int Tryz.underlying3 f2
    obtain ⟨a4, g4, _⟩ := DataW.trod_int Tryz.underlying3 f4
    obtain ⟨a5, g5, _⟩ := DataW.trod_int Tryz.underlying3 f5
    obtain ⟨s, g6, _, hs⟩ := DataW.trod_string Tryz.underlying9 f6
    obtain ⟨y0, y1, y2, m, _, _, k0, k1, k2⟩ := trod_struct3 Tryz.underlying55 f3
    have k0' : DataW.trod enc Tryz.prog w base sp hd m 3 [c3] = some y0 := by simpa [cellsInt] using k0
    have k1' : DataW.trod enc Tryz.prog w base sp hd m 3 [c4] = some y1 := by simpa [cellsInt] using k1
    have k2' : DataW.trod enc Tryz.prog w base sp hd m 3 [c5] = some y2 := by simpa [cellsInt] using k2
    obtain ⟨b0, q0, _⟩ := DataW.trod_int Tryz.underlying3 k0'
    obtain ⟨b1, q1, _⟩ := DataW.trod_int Tryz.underlying3 k1'
    obtain ⟨b2, q2, _⟩ := DataW.trod_int Tryz.underlying3 k2'
    simp at g0 g1 g2 g4 g5 g6 q0 q1 q2
    exact ⟨⟨a0, a1, a2, b0, b1, b2, a4, a5, s⟩, by simp [g0, g1, g2, g4, g5, g6, q0, q1, q2], hs⟩

/-- a rule that is handed in -/
theorem open_rule {H : Type} {enc : TypeId × Value → H} {w : World} {r0 : Reach} {b0 base : Nat} {sp : Nat → Bool} {hd : Bool} {v : Value} {d : DataW H} {p : List MemPlace}
    (hv : Value.okWide Tryz.prog w r0 b0 57 v) (h : DataW.Trod enc Tryz.prog w base sp hd 57 v d p) : ∃ r : Rl, v = r.v ∧ r.s.size ≤ maxLen := by
  obtain ⟨cs, rfl, _⟩ := okWide_struct Tryz.underlying57 hv
  obtain ⟨fuel, hf⟩ := h
  obtain ⟨r, hr, hs⟩ := rule_of_trod hf
  refine ⟨r, ?_, hs⟩
  have : cs.toList = r.cs.toList := by simpa [Value.cells] using hr
  have e : cs = r.cs := by cases cs; simpa using this
  rw [e]

/-- a list of rules that is handed in -/
theorem open_rules {H : Type} {enc : TypeId × Value → H} {w : World} {r0 : Reach} {b0 : Nat} {sp : Nat → Bool} {hd : Bool} {v : Value} {d : DataW H} {p : List MemPlace}
    (hv : Value.okWide Tryz.prog w r0 b0 51 v) (h : DataW.Trod enc Tryz.prog w 0 sp hd 51 v d p) :
    ∃ (a : Option Addr) (n cap : Nat) (rs : Nat → Rl), v = .slice a n cap ∧ ARow w a n cap rs ∧ n ≤ maxLen ∧ ∀ j, j < n → (rs j).s.size ≤ maxLen := by
  obtain ⟨a, len, cap, rfl⟩ := okWide_slice Tryz.underlying51 hv
  obtain ⟨fuel, hf⟩ := h
  rcases open_slice Tryz.underlying51 hf with ⟨hcs, _⟩ | ⟨x, len', cap', m, n, D, Pl, hcs, _, hl, hm, hmm, _, hx⟩
  · simp [Value.cells] at hcs
    obtain ⟨rfl, rfl, rfl⟩ := hcs
    exact ⟨none, 0, 0, spr, rfl, .inl rfl, Nat.zero_le _, fun j hj => absurd hj (Nat.not_lt_zero _)⟩
  · simp [Value.cells] at hcs
    obtain ⟨rfl, rfl, rfl⟩ := hcs
    have hlm : len ≤ m := by rw [hmm]; split <;> omega
    have key : ∀ i, i < len → ∃ r : Rl, (∀ j, j < 9 → w.cell? ((x.add (i * 9)).add j) = r.cs[j]?) ∧ r.s.size ≤ maxLen := by
      intro i hi
      obtain ⟨cs', hc, ht⟩ := hx i (by omega)
      rw [cellsRule] at hc
      obtain ⟨r, rfl, hs⟩ := rule_of_trod ht
      refine ⟨r, ?_, hs⟩
      intro j hj
      unfold World.cells? at hc
      split at hc
      · have := mapM_some_get hc j j (by simp [hj])
        rw [this]; simp
      · cases hc
    obtain ⟨rs, hrs⟩ := @choose_lt Rl ⟨spr 0⟩ _ _ key
    refine ⟨some x, len, cap, rs, rfl, ?_, by omega, fun j hj => (hrs j hj).2⟩
    by_cases h0 : len = 0
    · exact .inl h0
    · right
      obtain ⟨b, off, spot⟩ := x
      have hc := (hrs 0 (by omega)).1 0 (by omega)
      have hspot : spot = none := by
        have h2 : w.cell? ⟨b, off, spot⟩ = some (.int .i64 (rs 0).f) := by simpa [Addr.add, Rl.cs] using hc
        exact World.cell?_spot h2
      subst hspot
      refine ⟨b, off, rfl, ?_⟩
      intro j hj
      have hall := (hrs j hj).1
      have ha : (⟨b, off, none⟩ : Addr).add (j * 9) = ⟨b, off + j * 9, none⟩ := by
        unfold Addr.add
        split
        · rename_i h; rw [h]; rfl
        · rfl
      rw [ha] at hall
      refine ⟨?_, ?_, ?_, ?_, ?_, ?_, ?_, ?_, ?_⟩
      · simpa [Addr.add, Rl.cs] using hall 0 (by omega)
      · simpa [Addr.add, Rl.cs] using hall 1 (by omega)
      · simpa [Addr.add, Rl.cs] using hall 2 (by omega)
      · simpa [Addr.add, Rl.cs] using hall 3 (by omega)
      · simpa [Addr.add, Rl.cs] using hall 4 (by omega)
      · simpa [Addr.add, Rl.cs] using hall 5 (by omega)
      · simpa [Addr.add, Rl.cs] using hall 6 (by omega)
      · simpa [Addr.add, Rl.cs] using hall 7 (by omega)
      · simpa [Addr.add, Rl.cs] using hall 8 (by omega)
end Go.Proofs.YtdffopkljomipaaGreatDoor
