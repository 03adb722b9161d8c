/- Data, as they lie in memory; the contract of refuseMany. -/
import Derived.Test.YtdffopkljomipaaGreatDoorDataA
import Derived.Test.YtdffopkljomipaaGreatDoorRulesIAll
namespace Go.Proofs.YtdffopkljomipaaGreatDoor
open Go Go.RowKit
set_option linter.unusedVariables false

/-- a set: its name; where its rules lie -/
structure St where
  nm : ByteArray
  a : Option Addr
  n : Nat
  c : Nat
  rs : Nat → Rl
/-- an era -/
structure Er where
  std : Int
  set : Int
  sv : Int
  fm : ByteArray
  un : Int
/-- a zone: its name; where its eras lie -/
structure Zn where
  nm : ByteArray
  a : Option Addr
  n : Nat
  c : Nat
  es : Nat → Er
/-- a link -/
structure Lk where
  nm : ByteArray
  to : ByteArray
/-- data: where sets, zones and links lie, and what they are -/
structure Dt where
  sa : Option Addr
  ns : Nat
  sc : Nat
  ss : Nat → St
  za : Option Addr
  nz : Nat
  zc : Nat
  zs : Nat → Zn
  la : Option Addr
  nl : Nat
  lc : Nat
  ls : Nat → Lk
abbrev Er.v (x : Er) : Value := .agg #[.int .i64 x.std, .int .i64 x.set, .int .i64 x.sv, .string x.fm, .int .i64 x.un]
abbrev Dt.v (D : Dt) : Value := .agg #[.slice D.sa D.ns D.sc, .slice D.za D.nz D.zc, .slice D.la D.nl D.lc]
abbrev St.sl (x : St) : Value := .slice x.a x.n x.c
abbrev Zn.sl (x : Zn) : Value := .slice x.a x.n x.c

/-- n pairs of cells in a row -/
def P2 (w : World) (a : Option Addr) (n : Nat) (f g : Nat → Value) : Prop := n = 0 ∨ ∃ b off, a = some ⟨b, off, none⟩ ∧ ∀ j, j < n → w.cell? ⟨b, off + j * 2, none⟩ = some (f j) ∧ w.cell? ⟨b, off + j * 2 + 1, none⟩ = some (g j)
theorem P2.on {w w' : World} {a : Option Addr} {n : Nat} {f g : Nat → Value} (h : P2 w a n f g) (hb : Below w.heap.size w w') : P2 w' a n f g := by
  rcases h with h | ⟨b, off, h1, h2⟩
  · exact .inl h
  · exact .inr ⟨b, off, h1, fun j hj => ⟨cell_on (h2 j hj).1 hb, cell_on (h2 j hj).2 hb⟩⟩
/-- five cells of an era, from offset o on -/
def EAt (w : World) (b o : Nat) (x : Er) : Prop := w.cell? ⟨b, o, none⟩ = some (.int .i64 x.std) ∧ w.cell? ⟨b, o + 1, none⟩ = some (.int .i64 x.set) ∧ w.cell? ⟨b, o + 2, none⟩ = some (.int .i64 x.sv) ∧ w.cell? ⟨b, o + 3, none⟩ = some (.string x.fm) ∧ w.cell? ⟨b, o + 4, none⟩ = some (.int .i64 x.un)
def ERow (w : World) (a : Option Addr) (n : Nat) (es : Nat → Er) : Prop := n = 0 ∨ ∃ b off, a = some ⟨b, off, none⟩ ∧ ∀ j, j < n → EAt w b (off + j * 5) (es j)
theorem ERow.on {w w' : World} {a : Option Addr} {n : Nat} {es : Nat → Er} (h : ERow w a n es) (hb : Below w.heap.size w w') : ERow w' a n es := by
  rcases h with h | ⟨b, off, h1, h2⟩
  · exact .inl h
  · exact .inr ⟨b, off, h1, fun j hj => ⟨cell_on (h2 j hj).1 hb, cell_on (h2 j hj).2.1 hb, cell_on (h2 j hj).2.2.1 hb, cell_on (h2 j hj).2.2.2.1 hb, cell_on (h2 j hj).2.2.2.2 hb⟩⟩
/-- data lie in a world -/
structure DAt (w : World) (D : Dt) : Prop where
  sets : P2 w D.sa D.ns (fun j => .string (D.ss j).nm) (fun j => (D.ss j).sl)
  rules : ∀ j, j < D.ns → ARow w (D.ss j).a (D.ss j).n (D.ss j).c (D.ss j).rs
  zones : P2 w D.za D.nz (fun j => .string (D.zs j).nm) (fun j => (D.zs j).sl)
  eras : ∀ j, j < D.nz → ERow w (D.zs j).a (D.zs j).n (D.zs j).es
  links : P2 w D.la D.nl (fun j => .string (D.ls j).nm) (fun j => .string (D.ls j).to)
theorem DAt.on {w w' : World} {D : Dt} (h : DAt w D) (hb : Below w.heap.size w w') : DAt w' D :=
  ⟨h.sets.on hb, fun j hj => (h.rules j hj).on hb, h.zones.on hb, fun j hj => (h.eras j hj).on hb, h.links.on hb⟩
/-- no length is beyond Go's -/
structure Dt.fits (D : Dt) : Prop where
  ns : D.ns ≤ maxLen
  nz : D.nz ≤ maxLen
  nl : D.nl ≤ maxLen
  snm : ∀ j, j < D.ns → (D.ss j).nm.size ≤ maxLen
  sn : ∀ j, j < D.ns → (D.ss j).n ≤ maxLen
  lt : ∀ j, j < D.ns → ∀ i, i < (D.ss j).n → ((D.ss j).rs i).s.size ≤ maxLen
  znm : ∀ j, j < D.nz → (D.zs j).nm.size ≤ maxLen
  zn : ∀ j, j < D.nz → (D.zs j).n ≤ maxLen
  fm : ∀ j, j < D.nz → ∀ i, i < (D.zs j).n → ((D.zs j).es i).fm.size ≤ maxLen
  lnm : ∀ j, j < D.nl → (D.ls j).nm.size ≤ maxLen
  lto : ∀ j, j < D.nl → (D.ls j).to.size ≤ maxLen

/-- not too many -/
abbrev few1 (D : Dt) : Prop := D.ns ≤ 3 ∧ D.nz ≤ 5 ∧ D.nl ≤ 4
abbrev few2 (D : Dt) : Prop := ∀ j, j < D.ns → 1 ≤ (D.ss j).n ∧ (D.ss j).n ≤ 4
abbrev few3 (D : Dt) : Prop := ∀ j, j < D.nz → 1 ≤ (D.zs j).n ∧ (D.zs j).n ≤ 4
def few (D : Dt) : Bool := decide (few1 D) && (decide (few2 D) && decide (few3 D))
theorem few_of {D : Dt} (h1 : few1 D) (h2 : few2 D) (h3 : few3 D) : few D = true := by unfold few; rw [decide_eq_true h1, decide_eq_true h2, decide_eq_true h3]; rfl
theorem few_no1 {D : Dt} (h : ¬ few1 D) : few D = false := by unfold few; rw [decide_eq_false h]; rfl
theorem few_no2 {D : Dt} (h : ¬ few2 D) : few D = false := by unfold few; rw [decide_eq_false h]; cases decide (few1 D) <;> rfl
theorem few_no3 {D : Dt} (h : ¬ few3 D) : few D = false := by unfold few; rw [decide_eq_false h]; cases decide (few1 D) <;> cases decide (few2 D) <;> rfl
theorem few_all {D : Dt} (h : few D = true) : few1 D ∧ few2 D ∧ few3 D := by
  unfold few at h
  rw [Bool.and_eq_true, Bool.and_eq_true, decide_eq_true_iff, decide_eq_true_iff, decide_eq_true_iff] at h
  exact h

theorem left_2 {b : Bool} (h : b = false) : left (if b then 0 else 2) = .panicked [{ v := errV 2, recovered := false }] := by subst h; rfl
theorem left_0 {b : Bool} (h : b = true) (e : Int) : left (if b then 0 else e) = .returned (.tuple #[]) := by subst h; rfl
/-- a pair of cells in a box of its own -/
theorem box2 (w : World) (x y : Value) (t : TypeId) : (w.alloc (.cells #[x, y] t)).cell? ⟨w.heap.size, 0, none⟩ = some x ∧ (w.alloc (.cells #[x, y] t)).cell? ⟨w.heap.size, 1, none⟩ = some y := by constructor <;> simp

set_option maxRecDepth 100000 in
set_option maxHeartbeats 4000000 in
theorem refuseMany_c (D : Dt) (w : World) (hD : DAt w D) (hF : D.fits) : Calls Tryz.prog 52 #[D.v] w fun e w' => e = left (if few D then 0 else 2) ∧ Below w.heap.size w w' := by
  generalize hV : left (if few D then 0 else 2) = V
  have HV := hideH hV
  clear hV
  have HD := hideH hD
  have n1 := hF.ns
  have n2 := hF.nz
  have n3 := hF.nl
  have HN1 := hideH hF.sn
  have HN2 := hideH hF.zn
  unfold maxLen at n1 n2 n3
  clear hD hF
  have hc : (D.ns ≤ 3 ∧ D.nz ≤ 5 ∧ D.nl ≤ 4) ∨ (3 < D.ns ∨ D.ns ≤ 3 ∧ (5 < D.nz ∨ D.nz ≤ 5 ∧ 4 < D.nl)) := by omega
  rcases hc with ⟨c1, c2, c3⟩ | hc
  · go_enter Tryz.func52, Tryz.ntmps52
    go_wp2_with (go_at_call 51; refine (refuse_f (by first | rfl | (simp; done) | (simp; omega)) _ _).mono ?_; rintro x w1 ⟨rfl, rfl⟩)
    have HB0 : Hid (Below w.heap.size w (w.alloc (.cells #[.slice D.sa D.ns D.sc, .slice D.za D.nz D.zc, .slice D.la D.nl D.lc] 26))) := (Below.refl _ _).alloc (Nat.le_refl _) _
    have HC0 : Hid ((w.alloc (.cells #[.slice D.sa D.ns D.sc, .slice D.za D.nz D.zc, .slice D.la D.nl D.lc] 26)).cell? ⟨w.heap.size, 1, none⟩ = some (.slice D.za D.nz D.zc)) := by unfold Hid; simp
    go_loopw [26] (fun i wr => ∃ j : Nat, j ≤ D.ns ∧ i = .int .i64 j ∧ Hid (Below w.heap.size w wr) ∧ Hid (wr.cell? ⟨w.heap.size, 1, none⟩ = some (.slice D.za D.nz D.zc)) ∧ Hid (∀ i, i < j → 1 ≤ (D.ss i).n ∧ (D.ss i).n ≤ 4)) (fun i _ => D.ns - (intOf i).toNat)
    case atStart => exact ⟨0, Nat.zero_le _, rfl, HB0, HC0, fun i hi => by omega⟩
    case round =>
      obtain ⟨j, hj, rfl, HW, HC, HA⟩ := hrel
      by_cases hlt : j < D.ns
      · have nj := HN1.out j hlt
        unfold maxLen at nj
        rcases (HD.out.on HW.out).sets with h0 | ⟨b, off, hsa, hcs⟩
        · omega
        obtain ⟨c0, c1⟩ := hcs j hlt
        clear hcs
        have hcc : (1 ≤ (D.ss j).n ∧ (D.ss j).n ≤ 4) ∨ ((D.ss j).n < 1 ∨ 1 ≤ (D.ss j).n ∧ 4 < (D.ss j).n) := by omega
        rcases hcc with ⟨d1, d2⟩ | hcc
        · have HA2 : Hid (∀ i, i < j + 1 → 1 ≤ (D.ss i).n ∧ (D.ss i).n ≤ 4) := fun i hi => by
            rcases Nat.lt_or_ge i j with h | h
            · exact HA.out i h
            · obtain rfl : i = j := by omega
              exact ⟨d1, d2⟩
          go_wp2_with (go_at_call 51; refine (refuse_f (by first | rfl | (simp; done) | (simp; omega)) _ _).mono ?_; rintro x w1 ⟨rfl, rfl⟩)
          simp only [← hsa]
          go_roundw
          case rel =>
            have hl := cell_lt HC.out
            have hb := (Below.refl _ wr).alloc (Nat.le_refl _) (.cells #[.string (D.ss j).nm, (D.ss j).sl] 53)
            exact ⟨j + 1, by omega, by go_num, bthen HW.out hb, cell_on HC.out hb, HA2.out⟩
          case measure => simp [intOf]; omega
        · have HX := hideH (left_2 (few_no2 (D := D) (fun h => by have := h j hlt; omega)))
          have hb := hideH ((Below.refl _ wr).alloc (Nat.le_refl _) (.cells #[.string (D.ss j).nm, (D.ss j).sl] 53))
          rcases hcc with hcc | ⟨hcc, hcc'⟩
          all_goals
            go_wp2_with (go_at_call 51; refine (refuse_t (by first | rfl | (simp; done) | (simp; omega)) _ _).mono ?_; rintro x w1 ⟨rfl, rfl⟩)
            exact ⟨rfl, by rw [← HV.out, HX.out], bthen HW.out hb.out⟩
      · have hc := HC.out
        have hz := cell_lt HC.out
        go_wp2_with fail
        clear hc
        go_loopw [45] (fun i wr => ∃ j : Nat, j ≤ D.nz ∧ i = .int .i64 j ∧ Hid (Below w.heap.size w wr) ∧ Hid (∀ i, i < j → 1 ≤ (D.zs i).n ∧ (D.zs i).n ≤ 4)) (fun i _ => D.nz - (intOf i).toNat)
        case atStart => exact ⟨0, Nat.zero_le _, rfl, HW, fun i hi => by omega⟩
        case round =>
          obtain ⟨k, hk, rfl, HW2, HB⟩ := hrel
          by_cases hlt2 : k < D.nz
          · have nj := HN2.out k hlt2
            unfold maxLen at nj
            rcases (HD.out.on HW2.out).zones with h0 | ⟨b, off, hsa, hcs⟩
            · omega
            obtain ⟨c0, c1⟩ := hcs k hlt2
            clear hcs
            have hcc : (1 ≤ (D.zs k).n ∧ (D.zs k).n ≤ 4) ∨ ((D.zs k).n < 1 ∨ 1 ≤ (D.zs k).n ∧ 4 < (D.zs k).n) := by omega
            rcases hcc with ⟨d1, d2⟩ | hcc
            · have HA2 : Hid (∀ i, i < k + 1 → 1 ≤ (D.zs i).n ∧ (D.zs i).n ≤ 4) := fun i hi => by
                rcases Nat.lt_or_ge i k with h | h
                · exact HB.out i h
                · obtain rfl : i = k := by omega
                  exact ⟨d1, d2⟩
              have hb := hideH ((Below.refl _ wr).alloc (Nat.le_refl _) (.cells #[.string (D.zs k).nm, (D.zs k).sl] 48))
              go_wp2_with (go_at_call 51; refine (refuse_f (by first | rfl | (simp; done) | (simp; omega)) _ _).mono ?_; rintro x w1 ⟨rfl, rfl⟩)
              simp only [← hsa]
              go_roundw
              case rel => exact ⟨k + 1, by omega, by go_num, bthen HW2.out hb.out, HA2.out⟩
              case measure => simp [intOf]; omega
            · have HX := hideH (left_2 (few_no3 (D := D) (fun h => by have := h k hlt2; omega)))
              have hb := hideH ((Below.refl _ wr).alloc (Nat.le_refl _) (.cells #[.string (D.zs k).nm, (D.zs k).sl] 48))
              rcases hcc with hcc | ⟨hcc, hcc'⟩
              all_goals
                go_wp2_with (go_at_call 51; refine (refuse_t (by first | rfl | (simp; done) | (simp; omega)) _ _).mono ?_; rintro x w1 ⟨rfl, rfl⟩)
                exact ⟨rfl, by rw [← HV.out, HX.out], bthen HW2.out hb.out⟩
          · have HX := hideH (left_0 (few_of (D := D) ⟨c1, c2, c3⟩ (fun i hi => HA.out i (by omega)) (fun i hi => HB.out i (by omega))) 2)
            go_wp2_with fail
            go_end0
            exact ⟨by rw [← HV.out, HX.out], HW2.out⟩
  · have HX := hideH (left_2 (few_no1 (D := D) (fun h => by unfold few1 at h; omega)))
    rcases hc with hc | ⟨hc, hc' | ⟨hc', hc''⟩⟩
    all_goals
      have hb := hideH ((Below.refl _ w).alloc (Nat.le_refl _) (.cells #[.slice D.sa D.ns D.sc, .slice D.za D.nz D.zc, .slice D.la D.nl D.lc] 26))
      go_enter Tryz.func52, Tryz.ntmps52
      go_wp2_with (go_at_call 51; refine (refuse_t (by first | rfl | (simp; done) | (simp; omega)) _ _).mono ?_; rintro x w1 ⟨rfl, rfl⟩)
      exact ⟨rfl, by rw [← HV.out, HX.out], hb.out⟩
end Go.Proofs.YtdffopkljomipaaGreatDoor
