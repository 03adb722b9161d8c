/- How a rule, and a list of rules, that is handed in lies in memory. -/
import Derived.Test.YtbpdbggojgijiaaGreatDoorFrame0
import Derived.Test.YtbpdbggojgijiaaGreatDoorRulesIAll
import Derived.Deep.Slices
import Derived.Deep.Strs
import Derived.Carry
import Derived.Test.YtbpdbggojgijiaaGreatDoorDataKAll
import Derived.Test.YtbpdbggojgijiaaGreatDoorRows
import Derived.Lay
import Derived.SizedLaws
import Derived.Shelf.Vars
namespace Go.Proofs.YtbpdbggojgijiaaGreatDoor
open Go Go.ChangeShapes Go.WideShapes Go.ChangeAt Go.RowKit Go.Deep
set_option maxRecDepth 100000

theorem laidOut : laidOutB Tryz.prog = true := by kernel_rfl
theorem cellsRule : Tryz.prog.cellsOf 65 = 9 := by kernel_rfl
theorem cellsOn : Tryz.prog.cellsOf 63 = 3 := by kernel_rfl
theorem cellsInt : Tryz.prog.cellsOf 3 = 1 := by kernel_rfl
theorem cellsStr : Tryz.prog.cellsOf 9 = 1 := by kernel_rfl

theorem rule_of_trod {H : Type} {enc : TypeId × Value → H} {w : World} {base : Nat} {sp : Nat → Bool} {hd : Bool} {fuel : Nat} {cs : List Value} {y : DataW H × List MemPlace}
    (h : DataW.trod enc Tryz.prog w base sp hd fuel 65 cs = some y) : ∃ r : Rl, cs = r.cs.toList ∧ r.s.size ≤ maxLen := by
  obtain ⟨xs, n, _, _, hl, hn, hf⟩ := DataW.trod_struct Tryz.underlying65 h
  rw [cellsRule] at hl
  match cs, hl with
  | [c0, c1, c2, c3, c4, c5, c6, c7, c8], _ =>
    have f0 : DataW.trod enc Tryz.prog w base sp hd n 3 [c0] = xs[0]? := by simpa [cellsInt] using hf 0 _ rfl
    have f1 : DataW.trod enc Tryz.prog w base sp hd n 3 [c1] = xs[1]? := by simpa [cellsInt] using hf 1 _ rfl
    have f2 : DataW.trod enc Tryz.prog w base sp hd n 3 [c2] = xs[2]? := by simpa [cellsInt] using hf 2 _ rfl
    have f3 : DataW.trod enc Tryz.prog w base sp hd n 63 [c3, c4, c5] = xs[3]? := by simpa [cellsOn] using hf 3 _ rfl
    have f4 : DataW.trod enc Tryz.prog w base sp hd n 3 [c6] = xs[4]? := by simpa [cellsInt] using hf 4 _ rfl
    have f5 : DataW.trod enc Tryz.prog w base sp hd n 3 [c7] = xs[5]? := by simpa [cellsInt] using hf 5 _ rfl
    have f6 : DataW.trod enc Tryz.prog w base sp hd n 9 [c8] = xs[6]? := by simpa [cellsStr] using hf 6 _ rfl
    have hx : ∀ i, i < 7 → ∃ x, xs[i]? = some x := fun i hi => ⟨xs[i]'(by rw [hn]; exact hi), List.getElem?_eq_getElem (by rw [hn]; exact hi)⟩
    obtain ⟨x0, e0⟩ := hx 0 (by omega)
    obtain ⟨x1, e1⟩ := hx 1 (by omega)
    obtain ⟨x2, e2⟩ := hx 2 (by omega)
    obtain ⟨x3, e3⟩ := hx 3 (by omega)
    obtain ⟨x4, e4⟩ := hx 4 (by omega)
    obtain ⟨x5, e5⟩ := hx 5 (by omega)
    obtain ⟨x6, e6⟩ := hx 6 (by omega)
    rw [e0] at f0; rw [e1] at f1; rw [e2] at f2; rw [e3] at f3; rw [e4] at f4; rw [e5] at f5; rw [e6] at f6
    obtain ⟨a0, g0, _⟩ := DataW.trod_int Tryz.underlying3 f0
    obtain ⟨a1, g1, _⟩ := DataW.trod_int Tryz.underlying3 f1
    obtain ⟨a2, g2, _⟩ := DataW.trod_int Tryz.underlying3 f2
    obtain ⟨a4, g4, _⟩ := DataW.trod_int Tryz.underlying3 f4
    obtain ⟨a5, g5, _⟩ := DataW.trod_int Tryz.underlying3 f5
    obtain ⟨s, g6, _, hs⟩ := DataW.trod_string Tryz.underlying9 f6
    obtain ⟨y0, y1, y2, m, _, _, k0, k1, k2⟩ := trod_struct3 Tryz.underlying63 f3
    have k0' : DataW.trod enc Tryz.prog w base sp hd m 3 [c3] = some y0 := by simpa [cellsInt] using k0
    have k1' : DataW.trod enc Tryz.prog w base sp hd m 3 [c4] = some y1 := by simpa [cellsInt] using k1
    have k2' : DataW.trod enc Tryz.prog w base sp hd m 3 [c5] = some y2 := by simpa [cellsInt] using k2
    obtain ⟨b0, q0, _⟩ := DataW.trod_int Tryz.underlying3 k0'
    obtain ⟨b1, q1, _⟩ := DataW.trod_int Tryz.underlying3 k1'
    obtain ⟨b2, q2, _⟩ := DataW.trod_int Tryz.underlying3 k2'
    simp at g0 g1 g2 g4 g5 g6 q0 q1 q2
    exact ⟨⟨a0, a1, a2, b0, b1, b2, a4, a5, s⟩, by simp [g0, g1, g2, g4, g5, g6, q0, q1, q2], hs⟩

/-- a rule that is handed in -/
theorem open_rule {H : Type} {enc : TypeId × Value → H} {w : World} {r0 : Reach} {b0 base : Nat} {sp : Nat → Bool} {hd : Bool} {v : Value} {d : DataW H} {p : List MemPlace}
    (hv : Value.okWide Tryz.prog w r0 b0 65 v) (h : DataW.Trod enc Tryz.prog w base sp hd 65 v d p) : ∃ r : Rl, v = r.v ∧ r.s.size ≤ maxLen := by
  obtain ⟨cs, rfl, _⟩ := okWide_struct Tryz.underlying65 hv
  obtain ⟨fuel, hf⟩ := h
  obtain ⟨r, hr, hs⟩ := rule_of_trod hf
  refine ⟨r, ?_, hs⟩
  have : cs.toList = r.cs.toList := by simpa [Value.cells] using hr
  have e : cs = r.cs := by cases cs; simpa using this
  rw [e]

/-- a list of rules that is handed in -/
theorem open_rules {H : Type} {enc : TypeId × Value → H} {w : World} {r0 : Reach} {b0 : Nat} {sp : Nat → Bool} {hd : Bool} {v : Value} {d : DataW H} {p : List MemPlace}
    (hv : Value.okWide Tryz.prog w r0 b0 45 v) (h : DataW.Trod enc Tryz.prog w 0 sp hd 45 v d p) :
    ∃ (a : Option Addr) (n cap : Nat) (rs : Nat → Rl), v = .slice a n cap ∧ ARow w a n cap rs ∧ n ≤ maxLen ∧ ∀ j, j < n → (rs j).s.size ≤ maxLen := by
  obtain ⟨a, len, cap, rfl⟩ := okWide_slice Tryz.underlying45 hv
  obtain ⟨fuel, hf⟩ := h
  rcases open_slice Tryz.underlying45 hf with ⟨hcs, _⟩ | ⟨x, len', cap', m, n, D, Pl, hcs, _, hl, hm, hmm, _, hx⟩
  · simp [Value.cells] at hcs
    obtain ⟨rfl, rfl, rfl⟩ := hcs
    exact ⟨none, 0, 0, spr, rfl, .inl rfl, Nat.zero_le _, fun j hj => absurd hj (Nat.not_lt_zero _)⟩
  · simp [Value.cells] at hcs
    obtain ⟨rfl, rfl, rfl⟩ := hcs
    have hlm : len ≤ m := by rw [hmm]; split <;> omega
    have key : ∀ i, i < len → ∃ r : Rl, (∀ j, j < 9 → w.cell? ((x.add (i * 9)).add j) = r.cs[j]?) ∧ r.s.size ≤ maxLen := by
      intro i hi
      obtain ⟨cs', hc, ht⟩ := hx i (by omega)
      rw [cellsRule] at hc
      obtain ⟨r, rfl, hs⟩ := rule_of_trod ht
      refine ⟨r, ?_, hs⟩
      intro j hj
      unfold World.cells? at hc
      split at hc
      · have := mapM_some_get hc j j (by simp [hj])
        rw [this]; simp
      · cases hc
    obtain ⟨rs, hrs⟩ := @choose_lt Rl ⟨spr 0⟩ _ _ key
    refine ⟨some x, len, cap, rs, rfl, ?_, by omega, fun j hj => (hrs j hj).2⟩
    by_cases h0 : len = 0
    · exact .inl h0
    · right
      obtain ⟨b, off, spot⟩ := x
      have hc := (hrs 0 (by omega)).1 0 (by omega)
      have hspot : spot = none := by
        have h2 : w.cell? ⟨b, off, spot⟩ = some (.int .i64 (rs 0).f) := by simpa [Addr.add, Rl.cs] using hc
        exact World.cell?_spot h2
      subst hspot
      refine ⟨b, off, rfl, ?_⟩
      intro j hj
      have hall := (hrs j hj).1
      have ha : (⟨b, off, none⟩ : Addr).add (j * 9) = ⟨b, off + j * 9, none⟩ := by
        unfold Addr.add
        split
        · rename_i h; rw [h]; rfl
        · rfl
      rw [ha] at hall
      refine ⟨?_, ?_, ?_, ?_, ?_, ?_, ?_, ?_, ?_⟩
      · simpa [Addr.add, Rl.cs] using hall 0 (by omega)
      · simpa [Addr.add, Rl.cs] using hall 1 (by omega)
      · simpa [Addr.add, Rl.cs] using hall 2 (by omega)
      · simpa [Addr.add, Rl.cs] using hall 3 (by omega)
      · simpa [Addr.add, Rl.cs] using hall 4 (by omega)
      · simpa [Addr.add, Rl.cs] using hall 5 (by omega)
      · simpa [Addr.add, Rl.cs] using hall 6 (by omega)
      · simpa [Addr.add, Rl.cs] using hall 7 (by omega)
      · simpa [Addr.add, Rl.cs] using hall 8 (by omega)
end Go.Proofs.YtbpdbggojgijiaaGreatDoor

/- How data that are handed in lie in memory. -/
namespace Go.Proofs.YtbpdbggojgijiaaGreatDoor
open Go Go.ChangeShapes Go.WideShapes Go.ChangeAt Go.RowKit Go.Deep
set_option maxRecDepth 100000
set_option linter.unusedVariables false
set_option linter.unnecessarySimpa false

theorem add_plain (b off k : Nat) : (⟨b, off, none⟩ : Addr).add k = ⟨b, off + k, none⟩ := by
  unfold Addr.add
  split
  · rename_i h; rw [h]; rfl
  · rfl
/-- a slice that is handed in: its elements' cells -/
theorem slice_of_trod {H : Type} {enc : TypeId × Value → H} {w : World} {sp : Nat → Bool} {hd : Bool} {fuel : Nat} {cs : List Value} {y : DataW H × List MemPlace} {t e : TypeId} {k : Nat}
    (ht : Tryz.prog.underlying t = some (.slice e)) (hk : Tryz.prog.cellsOf e = k) (hk0 : 0 < k) (h : DataW.trod enc Tryz.prog w 0 sp hd fuel t cs = some y) :
    ∃ (a : Option Addr) (n cap : Nat), cs = [.slice a n cap] ∧ n ≤ maxLen ∧ (n = 0 ∨ ∃ b off, a = some ⟨b, off, none⟩ ∧ ∃ m : Nat, ∀ j, j < n → ∃ (cs' : List Value) (y' : DataW H × List MemPlace), cs'.length = k ∧ (∀ i, i < k → w.cell? ⟨b, off + j * k + i, none⟩ = cs'[i]?) ∧ DataW.trod enc Tryz.prog w 0 sp hd m e cs' = some y') := by
  rcases open_slice ht h with ⟨hcs, _⟩ | ⟨x, len, cap, m, n, D, Pl, hcs, _, hl, hm, hmm, _, hx⟩
  · exact ⟨none, 0, 0, hcs, Nat.zero_le _, .inl rfl⟩
  · refine ⟨some x, len, cap, hcs, by omega, ?_⟩
    have hlm : len ≤ m := by rw [hmm]; split <;> omega
    rw [hk] at hx
    by_cases h0 : len = 0
    · exact .inl h0
    · right
      obtain ⟨b, off, spot⟩ := x
      have hspot : spot = none := by
        obtain ⟨cs', hc, _⟩ := hx 0 (by omega)
        obtain ⟨_, hlen, hcell⟩ := World.cells?_some hc
        have h1 := hcell 0 hk0
        rw [List.getElem?_eq_getElem (by omega)] at h1
        have h2 : w.cell? ⟨b, off, spot⟩ = some cs'[0] := by simpa [Addr.add] using h1
        exact World.cell?_spot h2
      subst hspot
      refine ⟨b, off, rfl, n, fun j hj => ?_⟩
      obtain ⟨cs', hc, ht⟩ := hx j (by omega)
      obtain ⟨_, hlen, hcell⟩ := World.cells?_some hc
      refine ⟨cs', _, hlen, fun i hi => ?_, ht⟩
      have := hcell i hi
      rwa [add_plain, add_plain] at this

theorem cellsSet : Tryz.prog.cellsOf 47 = 2 := by kernel_rfl
theorem cellsZone : Tryz.prog.cellsOf 51 = 2 := by kernel_rfl
theorem cellsLink : Tryz.prog.cellsOf 54 = 2 := by kernel_rfl
theorem cellsEra : Tryz.prog.cellsOf 67 = 5 := by kernel_rfl
theorem cellsData : Tryz.prog.cellsOf 26 = 3 := by kernel_rfl
theorem cellsSets : Tryz.prog.cellsOf 22 = 1 := by kernel_rfl
theorem cellsZones : Tryz.prog.cellsOf 23 = 1 := by kernel_rfl
theorem cellsLinks : Tryz.prog.cellsOf 24 = 1 := by kernel_rfl
theorem cellsEras : Tryz.prog.cellsOf 49 = 1 := by kernel_rfl
theorem cellsRules : Tryz.prog.cellsOf 45 = 1 := by kernel_rfl


def rl0 : Rl := spr 0
def er0 : Er := ⟨0, 0, 0, ByteArray.empty, 0⟩
def st0 : St := ⟨ByteArray.empty, none, 0, 0, fun _ => rl0⟩
def zn0 : Zn := ⟨ByteArray.empty, none, 0, 0, fun _ => er0⟩
def lk0 : Lk := ⟨ByteArray.empty, ByteArray.empty⟩
variable {H : Type} {enc : TypeId × Value → H} {w : World} {sp : Nat → Bool} {hd : Bool}
theorem rules_of_trod {fuel : Nat} {cs : List Value} {y : DataW H × List MemPlace} (h : DataW.trod enc Tryz.prog w 0 sp hd fuel 45 cs = some y) :
    ∃ (a : Option Addr) (n cap : Nat) (rs : Nat → Rl), cs = [.slice a n cap] ∧ n ≤ maxLen ∧ ARow w a n cap rs ∧ ∀ i, i < n → (rs i).s.size ≤ maxLen := by
  obtain ⟨a, n, cap, hcs, hn, hr⟩ := slice_of_trod Tryz.underlying45 cellsRule (by omega) h
  rcases hr with rfl | ⟨b, off, rfl, m, hj⟩
  · exact ⟨a, 0, cap, fun _ => rl0, hcs, hn, .inl rfl, fun i hi => absurd hi (Nat.not_lt_zero _)⟩
  · haveI : Inhabited Rl := ⟨rl0⟩
    obtain ⟨rs, hrs⟩ := choose_lt (α := Rl) (n := n) (p := fun j r => RAt w b (off + j * 9) r ∧ r.s.size ≤ maxLen) (fun j hlt => by
      obtain ⟨cs', y', hlen, hcell, ht⟩ := hj j hlt
      obtain ⟨r, rfl, hs⟩ := rule_of_trod ht
      refine ⟨r, ?_, hs⟩
      unfold RAt
      refine ⟨?_, ?_, ?_, ?_, ?_, ?_, ?_, ?_, ?_⟩
      · simpa [Rl.cs] using hcell 0 (by omega)
      · simpa [Rl.cs] using hcell 1 (by omega)
      · simpa [Rl.cs] using hcell 2 (by omega)
      · simpa [Rl.cs] using hcell 3 (by omega)
      · simpa [Rl.cs] using hcell 4 (by omega)
      · simpa [Rl.cs] using hcell 5 (by omega)
      · simpa [Rl.cs] using hcell 6 (by omega)
      · simpa [Rl.cs] using hcell 7 (by omega)
      · simpa [Rl.cs] using hcell 8 (by omega))
    exact ⟨_, n, cap, rs, hcs, hn, .inr ⟨b, off, rfl, fun j hlt => (hrs j hlt).1⟩, fun i hi => (hrs i hi).2⟩
theorem era_of_trod {fuel : Nat} {cs : List Value} {y : DataW H × List MemPlace} (h : DataW.trod enc Tryz.prog w 0 sp hd fuel 67 cs = some y) : ∃ x : Er, cs = [.int .i64 x.std, .int .i64 x.set, .int .i64 x.sv, .string x.fm, .int .i64 x.un] ∧ x.fm.size ≤ maxLen := by
  obtain ⟨xs, n, _, _, hl, hn, hf⟩ := DataW.trod_struct Tryz.underlying67 h
  rw [cellsEra] at hl
  match cs, hl with
  | [c0, c1, c2, c3, c4], _ =>
    have f0 : DataW.trod enc Tryz.prog w 0 sp hd n 3 [c0] = xs[0]? := by simpa [cellsInt] using hf 0 _ rfl
    have f1 : DataW.trod enc Tryz.prog w 0 sp hd n 3 [c1] = xs[1]? := by simpa [cellsInt] using hf 1 _ rfl
    have f2 : DataW.trod enc Tryz.prog w 0 sp hd n 3 [c2] = xs[2]? := by simpa [cellsInt] using hf 2 _ rfl
    have f3 : DataW.trod enc Tryz.prog w 0 sp hd n 9 [c3] = xs[3]? := by simpa [cellsStr] using hf 3 _ rfl
    have f4 : DataW.trod enc Tryz.prog w 0 sp hd n 3 [c4] = xs[4]? := by simpa [cellsInt] using hf 4 _ rfl
    have hx : ∀ i, i < 5 → ∃ x, xs[i]? = some x := fun i hi => ⟨xs[i]'(by rw [hn]; exact hi), List.getElem?_eq_getElem (by rw [hn]; exact hi)⟩
    obtain ⟨x0, e0⟩ := hx 0 (by omega)
    obtain ⟨x1, e1⟩ := hx 1 (by omega)
    obtain ⟨x2, e2⟩ := hx 2 (by omega)
    obtain ⟨x3, e3⟩ := hx 3 (by omega)
    obtain ⟨x4, e4⟩ := hx 4 (by omega)
    rw [e0] at f0; rw [e1] at f1; rw [e2] at f2; rw [e3] at f3; rw [e4] at f4
    obtain ⟨a0, g0, _⟩ := DataW.trod_int Tryz.underlying3 f0
    obtain ⟨a1, g1, _⟩ := DataW.trod_int Tryz.underlying3 f1
    obtain ⟨a2, g2, _⟩ := DataW.trod_int Tryz.underlying3 f2
    obtain ⟨s, g3, _, hs⟩ := DataW.trod_string Tryz.underlying9 f3
    obtain ⟨a4, g4, _⟩ := DataW.trod_int Tryz.underlying3 f4
    simp at g0 g1 g2 g3 g4
    exact ⟨⟨a0, a1, a2, s, a4⟩, by simp [g0, g1, g2, g3, g4], hs⟩
theorem eras_of_trod {fuel : Nat} {cs : List Value} {y : DataW H × List MemPlace} (h : DataW.trod enc Tryz.prog w 0 sp hd fuel 49 cs = some y) :
    ∃ (a : Option Addr) (n cap : Nat) (es : Nat → Er), cs = [.slice a n cap] ∧ n ≤ maxLen ∧ ERow w a n es ∧ ∀ i, i < n → (es i).fm.size ≤ maxLen := by
  obtain ⟨a, n, cap, hcs, hn, hr⟩ := slice_of_trod Tryz.underlying49 cellsEra (by omega) h
  rcases hr with rfl | ⟨b, off, rfl, m, hj⟩
  · exact ⟨a, 0, cap, fun _ => er0, hcs, hn, .inl rfl, fun i hi => absurd hi (Nat.not_lt_zero _)⟩
  · haveI : Inhabited Er := ⟨er0⟩
    obtain ⟨es, hes⟩ := choose_lt (α := Er) (n := n) (p := fun j x => EAt w b (off + j * 5) x ∧ x.fm.size ≤ maxLen) (fun j hlt => by
      obtain ⟨cs', y', hlen, hcell, ht⟩ := hj j hlt
      obtain ⟨x, rfl, hs⟩ := era_of_trod ht
      refine ⟨x, ?_, hs⟩
      unfold EAt
      refine ⟨?_, ?_, ?_, ?_, ?_⟩
      · simpa using hcell 0 (by omega)
      · simpa using hcell 1 (by omega)
      · simpa using hcell 2 (by omega)
      · simpa using hcell 3 (by omega)
      · simpa using hcell 4 (by omega))
    exact ⟨_, n, cap, es, hcs, hn, .inr ⟨b, off, rfl, fun j hlt => (hes j hlt).1⟩, fun i hi => (hes i hi).2⟩
theorem set_of_trod {fuel : Nat} {cs : List Value} {y : DataW H × List MemPlace} (h : DataW.trod enc Tryz.prog w 0 sp hd fuel 47 cs = some y) : ∃ x : St, cs = [.string x.nm, x.sl] ∧ x.nm.size ≤ maxLen ∧ x.n ≤ maxLen ∧ ARow w x.a x.n x.c x.rs ∧ ∀ i, i < x.n → (x.rs i).s.size ≤ maxLen := by
  obtain ⟨y0, y1, n, _, hl, f0, f1⟩ := trod_struct2 Tryz.underlying47 h
  rw [cellsSet] at hl
  match cs, hl with
  | [c0, c1], _ =>
    have f0' : DataW.trod enc Tryz.prog w 0 sp hd n 9 [c0] = some y0 := by simpa [cellsStr] using f0
    have f1' : DataW.trod enc Tryz.prog w 0 sp hd n 45 [c1] = some y1 := by simpa [cellsRules] using f1
    obtain ⟨s, g0, _, hs⟩ := DataW.trod_string Tryz.underlying9 f0'
    obtain ⟨a, m, cap, rs, g1, hm, hr, hz⟩ := rules_of_trod f1'
    simp at g0 g1
    exact ⟨⟨s, a, m, cap, rs⟩, by simp [g0, g1], hs, hm, hr, hz⟩
theorem zone_of_trod {fuel : Nat} {cs : List Value} {y : DataW H × List MemPlace} (h : DataW.trod enc Tryz.prog w 0 sp hd fuel 51 cs = some y) : ∃ x : Zn, cs = [.string x.nm, x.sl] ∧ x.nm.size ≤ maxLen ∧ x.n ≤ maxLen ∧ ERow w x.a x.n x.es ∧ ∀ i, i < x.n → (x.es i).fm.size ≤ maxLen := by
  obtain ⟨y0, y1, n, _, hl, f0, f1⟩ := trod_struct2 Tryz.underlying51 h
  rw [cellsZone] at hl
  match cs, hl with
  | [c0, c1], _ =>
    have f0' : DataW.trod enc Tryz.prog w 0 sp hd n 9 [c0] = some y0 := by simpa [cellsStr] using f0
    have f1' : DataW.trod enc Tryz.prog w 0 sp hd n 49 [c1] = some y1 := by simpa [cellsEras] using f1
    obtain ⟨s, g0, _, hs⟩ := DataW.trod_string Tryz.underlying9 f0'
    obtain ⟨a, m, cap, es, g1, hm, hr, hz⟩ := eras_of_trod f1'
    simp at g0 g1
    exact ⟨⟨s, a, m, cap, es⟩, by simp [g0, g1], hs, hm, hr, hz⟩
theorem link_of_trod {fuel : Nat} {cs : List Value} {y : DataW H × List MemPlace} (h : DataW.trod enc Tryz.prog w 0 sp hd fuel 54 cs = some y) : ∃ x : Lk, cs = [.string x.nm, .string x.tgt] ∧ x.nm.size ≤ maxLen ∧ x.tgt.size ≤ maxLen := by
  obtain ⟨y0, y1, n, _, hl, f0, f1⟩ := trod_struct2 Tryz.underlying54 h
  rw [cellsLink] at hl
  match cs, hl with
  | [c0, c1], _ =>
    have f0' : DataW.trod enc Tryz.prog w 0 sp hd n 9 [c0] = some y0 := by simpa [cellsStr] using f0
    have f1' : DataW.trod enc Tryz.prog w 0 sp hd n 9 [c1] = some y1 := by simpa [cellsStr] using f1
    obtain ⟨s, g0, _, hs⟩ := DataW.trod_string Tryz.underlying9 f0'
    obtain ⟨t, g1, _, ht⟩ := DataW.trod_string Tryz.underlying9 f1'
    simp at g0 g1
    exact ⟨⟨s, t⟩, by simp [g0, g1], hs, ht⟩
/-- pairs of cells of a slice that is handed in -/
theorem pairs_of {α : Type} (x0 : α) {a : Option Addr} {n m : Nat} {e : TypeId} {f g : α → Value} {Q : α → Prop}
    (h : n = 0 ∨ ∃ b off, a = some ⟨b, off, none⟩ ∧ ∃ m : Nat, ∀ j, j < n → ∃ (cs' : List Value) (y' : DataW H × List MemPlace), cs'.length = 2 ∧ (∀ i, i < 2 → w.cell? ⟨b, off + j * 2 + i, none⟩ = cs'[i]?) ∧ DataW.trod enc Tryz.prog w 0 sp hd m e cs' = some y')
    (hq : ∀ (k : Nat) (cs : List Value) (y : DataW H × List MemPlace), DataW.trod enc Tryz.prog w 0 sp hd k e cs = some y → ∃ x : α, cs = [f x, g x] ∧ Q x) :
    ∃ xs : Nat → α, P2 w a n (fun j => f (xs j)) (fun j => g (xs j)) ∧ ∀ j, j < n → Q (xs j) := by
  rcases h with rfl | ⟨b, off, rfl, m, hj⟩
  · exact ⟨fun _ => x0, .inl rfl, fun j hj => absurd hj (Nat.not_lt_zero _)⟩
  · haveI : Inhabited α := ⟨x0⟩
    obtain ⟨xs, hxs⟩ := choose_lt (α := α) (n := n) (p := fun j x => (w.cell? ⟨b, off + j * 2, none⟩ = some (f x) ∧ w.cell? ⟨b, off + j * 2 + 1, none⟩ = some (g x)) ∧ Q x) (fun j hlt => by
      obtain ⟨cs', y', hlen, hcell, ht⟩ := hj j hlt
      obtain ⟨x, rfl, hx⟩ := hq _ _ _ ht
      exact ⟨x, ⟨by simpa using hcell 0 (by omega), by simpa using hcell 1 (by omega)⟩, hx⟩)
    exact ⟨xs, .inr ⟨b, off, rfl, fun j hlt => (hxs j hlt).1⟩, fun j hlt => (hxs j hlt).2⟩
theorem data_of_trod {fuel : Nat} {cs : List Value} {y : DataW H × List MemPlace} (h : DataW.trod enc Tryz.prog w 0 sp hd fuel 26 cs = some y) :
    ∃ D : Dt, cs = [.slice D.sa D.ns D.sc, .slice D.za D.nz D.zc, .slice D.la D.nl D.lc] ∧ DAt w D ∧ D.fits := by
  obtain ⟨y0, y1, y2, n, _, hl, f0, f1, f2⟩ := trod_struct3 Tryz.underlying26 h
  rw [cellsData] at hl
  match cs, hl with
  | [c0, c1, c2], _ =>
    have f0' : DataW.trod enc Tryz.prog w 0 sp hd n 22 [c0] = some y0 := by simpa [cellsSets] using f0
    have f1' : DataW.trod enc Tryz.prog w 0 sp hd n 23 [c1] = some y1 := by simpa [cellsZones] using f1
    have f2' : DataW.trod enc Tryz.prog w 0 sp hd n 24 [c2] = some y2 := by simpa [cellsLinks] using f2
    obtain ⟨a0, n0, k0, g0, m0, r0⟩ := slice_of_trod Tryz.underlying22 cellsSet (by omega) f0'
    obtain ⟨a1, n1, k1, g1, m1, r1⟩ := slice_of_trod Tryz.underlying23 cellsZone (by omega) f1'
    obtain ⟨a2, n2, k2, g2, m2, r2⟩ := slice_of_trod Tryz.underlying24 cellsLink (by omega) f2'
    simp at g0 g1 g2
    obtain ⟨ss, p0, q0⟩ := pairs_of st0 (f := fun x : St => .string x.nm) (g := fun x => x.sl) (m := 0) r0 (fun k cs y h => set_of_trod h)
    obtain ⟨zs, p1, q1⟩ := pairs_of zn0 (f := fun x : Zn => .string x.nm) (g := fun x => x.sl) (m := 0) r1 (fun k cs y h => zone_of_trod h)
    obtain ⟨ls, p2, q2⟩ := pairs_of lk0 (f := fun x : Lk => .string x.nm) (g := fun x => .string x.tgt) (m := 0) r2 (fun k cs y h => link_of_trod h)
    refine ⟨⟨a0, n0, k0, ss, a1, n1, k1, zs, a2, n2, k2, ls⟩, by simp [g0, g1, g2], ⟨p0, fun j hj => (q0 j hj).2.2.1, p1, fun j hj => (q1 j hj).2.2.1, p2⟩, ?_⟩
    exact ⟨m0, m1, m2, fun j hj => (q0 j hj).1, fun j hj => (q0 j hj).2.1, fun j hj => (q0 j hj).2.2.2, fun j hj => (q1 j hj).1, fun j hj => (q1 j hj).2.1, fun j hj => (q1 j hj).2.2.2, fun j hj => (q2 j hj).1, fun j hj => (q2 j hj).2⟩
/-- data that are handed in -/
theorem open_data {r0 : Reach} {b0 : Nat} {v : Value} {d : DataW H} {p : List MemPlace}
    (hv : Value.okWide Tryz.prog w r0 b0 26 v) (h : DataW.Trod enc Tryz.prog w 0 sp hd 26 v d p) : ∃ D : Dt, v = D.v ∧ DAt w D ∧ D.fits := by
  obtain ⟨cs, rfl, _⟩ := okWide_struct Tryz.underlying26 hv
  obtain ⟨fuel, hf⟩ := h
  obtain ⟨D, hr, hD, hF⟩ := data_of_trod hf
  refine ⟨D, ?_, hD, hF⟩
  have : cs.toList = [.slice D.sa D.ns D.sc, .slice D.za D.nz D.zc, .slice D.la D.nl D.lc] := by simpa [Value.cells] using hr
  have e : cs = #[.slice D.sa D.ns D.sc, .slice D.za D.nz D.zc, .slice D.la D.nl D.lc] := by cases cs; simpa using this
  rw [e]
/-- a text that is handed in -/
theorem open_text {r0 : Reach} {b0 : Nat} {v : Value} {d : DataW H} {p : List MemPlace}
    (hv : Value.okWide Tryz.prog w r0 b0 9 v) (h : DataW.Trod enc Tryz.prog w 0 sp hd 9 v d p) : ∃ s : ByteArray, v = .string s ∧ s.size ≤ maxLen := by
  obtain ⟨s, rfl⟩ := okWide_string Tryz.underlying9 hv
  obtain ⟨fuel, hf⟩ := h
  obtain ⟨s', g, _, hs⟩ := DataW.trod_string Tryz.underlying9 hf
  simp [Value.cells] at g
  subst g
  exact ⟨s, rfl, hs⟩
end Go.Proofs.YtbpdbggojgijiaaGreatDoor

/- What the tied tables give the walks over data: the months' days lie in block 0, a number in block 1; and the wrap that keeps the world's shape beside the tables. -/
namespace Go.Proofs.YtbpdbggojgijiaaGreatDoor
open Go Go.ChangeShapes Go.WideShapes Go.ChangeAt Go.WideMaps Go.WideElems Go.RowKit
set_option maxRecDepth 100000

def laid3 : List (String × DataW Unit) := [("gnomon/days.monthDays", Rows.laid_gnomon_days_monthDays), ("unicode/utf8.acceptRanges", Rows.laid_unicode_utf8_acceptRanges), ("unicode/utf8.first", Rows.laid_unicode_utf8_first)]
theorem all_met (os : Os) (args : Array Value) : laidMetH Tryz.prog laid3 ((World.laidAll Tryz.prog os laid3).forCall (fun _ _ => 0) ⟨#[], args, []⟩).memory := by
  rw [MakeChecks.laidMetH_plain _ _ _ (by kernel_rfl)]
  exact laidMet_laidAll _ (by kernel_rfl) (by kernel_rfl)
theorem all_shaped (os : Os) : (World.laidAll Tryz.prog os laid3).Shaped Tryz.prog := World.shaped_of_ZipB (by kernel_rfl) (by kernel_rfl)
theorem of_laid3 {W : World} (h : laidMetH Tryz.prog laid3 W) : Laid W := by
  rw [MakeChecks.laidMetH_plain _ _ _ (by kernel_rfl)] at h
  exact laid_head h
theorem of_shape {W : World} (h : W.ShapedOpen Tryz.prog) : Mx W :=
  cell_of_shapedOpen_int (g := 1) (t := 3) (zero := #[.int .i64 0]) (k := .i64) h (of_decide_eq_true (by kernel_rfl)) (by kernel_rfl) rfl (by kernel_rfl) (by kernel_rfl) Tryz.underlying3

/-- the wrap with the tables' condition and the world's shape -/
theorem handed_shaped {H : Type} {enc : TypeId × Value → H} {a : Assume} {C : Checked} {os : Os} {f : FuncId} {fn : Func} {s : ChangeSpec} {conds : List PathCond} {apart fresh handsOn again : Bool} {X : World → Array Value → Prop}
    (hX : ∀ (w w' : World) (args : Array Value), w.heap = w'.heap → X w args → X w' args)
    (own : ownKnob C.prog.godebug = none) (started : os.Started) (noInit : C.prog.inits.idxOf? f = none) (hfn : C.prog.funcs[f]? = some fn)
    (witness : ∃ (w : World) (tape : Tape) (i : Input), w.os = os ∧ (w.forCall tape i).Shaped C.prog ∧ i.vars = [] ∧ Input.okWide C.prog (w.forCall tape i) .any w.heap.size f i ∧
      ((s.pre enc C.prog fn conds apart (w.forCall tape i).memory i.args ∧ X (w.forCall tape i).memory i.args) ∧ sizedMet enc C.prog fn (OpenSpec.ofChange s) apart (w.forCall tape i).memory i.args) ∧ a.holds C.prog (lone (Frame.enter C.prog f i.args .normal) [] (w.forCall tape i)))
    (contract : ∀ (W : World) (base : Nat) (args : Array Value) (ds gs : List (DataW H)) (before : List MemPlace),
      (∀ (j : Nat) t v, fn.params[j]? = some t → args[j]? = some v → Value.okWide C.prog W .any base t v) →
      DataW.Whole enc C.prog fn.params.toList s.vars apart W args.toList ds gs before → X W args → W.ShapedOpen C.prog →
      Calls C.prog f args W fun e W' => ∃ v, e = .returned v ∧ s.post enc C.prog fn apart fresh handsOn again W args v W') :
    ReturnsInHanded a C os f .any (fun w args => (s.pre enc C.prog fn conds apart w args ∧ X w args) ∧ sizedMet enc C.prog fn (OpenSpec.ofChange s) apart w args) (s.post enc C.prog fn apart fresh handsOn again) := by
  refine returnsInHanded_of_calls own started noInit witness ?_
  intro w tape i _ hsh _ hok hpre _
  obtain ⟨_, _, _, fn', hfn', _, _, _, _, hval⟩ := hok
  obtain rfl : fn' = fn := Option.some.inj (hfn'.symm.trans hfn)
  obtain ⟨⟨⟨ds, gs, before, hw, _⟩, hx⟩, _⟩ := hpre
  refine (contract (w.forCall tape i) w.heap.size i.args ds gs before hval (DataW.Whole.of_heap (w' := w.forCall tape i) (by rfl) hw) (hX _ _ _ (by rfl) hx) hsh).mono fun e W' ⟨v, he, hp⟩ => ?_
  subst he
  exact ChangeSpec.post_blind hp
end Go.Proofs.YtbpdbggojgijiaaGreatDoor
