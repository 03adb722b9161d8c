/- Contracts of package data: refuse, letters, digits, Name. -/
import Derived.Test.YtbpdbggojgijiaaGreatDoorRulesAAll
import Derived.Test.YtbpdbggojgijiaaGreatDoorShelf
import Derived.Test.YtbpdbggojgijiaaGreatDoorRulesIAll
import Derived.RangeFuncNested
import Derived.RangeFuncCalls
import Derived.RangeFuncLeaves
import Derived.RangeFuncBox
import Derived.Shelf.Abstract
import Derived.Shelf.RegionOpen
import Derived.OwnWalkIn
import Derived.TacticsInMore
import Derived.LoopNIn
import Derived.LoopIn
namespace Go.Proofs.YtbpdbggojgijiaaGreatDoor
open Go Go.RowKit
set_option linter.unusedVariables false

/-- an error, as it is panicked with -/
abbrev errV (e : Int) : Value := .iface 27 (.int .i64 e)
/-- how a function that refuses is left -/
def left (e : Int) : Ending := if e = 0 then .returned (.tuple #[]) else .panicked [{ v := errV e, recovered := false }]
theorem left_ok : left 0 = .returned (.tuple #[]) := rfl
theorem left_no {e : Int} (h : e ≠ 0) : left e = .panicked [{ v := errV e, recovered := false }] := by unfold left; rw [if_neg h]

theorem refuse_no (e : Int) (w : World) : Calls Tryz.prog 58 #[.bool false, .int .i64 e] w fun x w' => x = .returned (.tuple #[]) ∧ w' = w := by
  go_enter Tryz.func58, Tryz.ntmps58
  go_wp2
  go_end0
  exact ⟨rfl, rfl⟩
theorem refuse_yes (e : Int) (w : World) : Calls Tryz.prog 58 #[.bool true, .int .i64 e] w fun x w' => x = .panicked [{ v := errV e, recovered := false }] ∧ w' = w := by
  go_enter Tryz.func58, Tryz.ntmps58
  go_wp2
  exact ⟨rfl, rfl, rfl⟩
theorem refuse_f {b : Bool} (h : b = false) (e : Int) (w : World) : Calls Tryz.prog 58 #[.bool b, .int .i64 e] w fun x w' => x = .returned (.tuple #[]) ∧ w' = w := by
  subst h; exact refuse_no e w
theorem refuse_t {b : Bool} (h : b = true) (e : Int) (w : World) : Calls Tryz.prog 58 #[.bool b, .int .i64 e] w fun x w' => x = .panicked [{ v := errV e, recovered := false }] ∧ w' = w := by
  subst h; exact refuse_yes e w
theorem refuse_c (b : Bool) (e : Int) (he : e ≠ 0) (w : World) : Calls Tryz.prog 58 #[.bool b, .int .i64 e] w fun x w' => x = left (if b then e else 0) ∧ w' = w := by
  cases b
  · exact refuse_no e w
  · simp only [if_true, left_no he]
    exact refuse_yes e w

theorem disLetter_c (n : Int) (w : World) (h0 : 0 ≤ n) (h255 : n ≤ 255) : Calls Tryz.prog 75 #[.int .u8 n] w fun e w' => e = .returned (.bool (ltrB n)) ∧ w' = w := by
  have h : n < 65 ∨ (65 ≤ n ∧ n ≤ 90) ∨ (90 < n ∧ n < 97) ∨ (97 ≤ n ∧ n ≤ 122) ∨ (122 < n) := by omega
  rcases h with h | ⟨h, h'⟩ | ⟨h, h'⟩ | ⟨h, h'⟩ | h
  all_goals
    go_enter Tryz.func75, Tryz.ntmps75
    go_wp2
    go_ret
    exact ⟨ret_bool (by unfold ltrB; rw [Bool.eq_iff_iff]; simp; try omega), rfl⟩
def digB (n : Int) : Bool := decide (48 ≤ n ∧ n ≤ 57)
theorem disDigit_c (n : Int) (w : World) (h0 : 0 ≤ n) (h255 : n ≤ 255) : Calls Tryz.prog 76 #[.int .u8 n] w fun e w' => e = .returned (.bool (digB n)) ∧ w' = w := by
  have h : n < 48 ∨ (48 ≤ n ∧ n ≤ 57) ∨ (57 < n) := by omega
  rcases h with h | ⟨h, h'⟩ | h
  all_goals
    go_enter Tryz.func76, Tryz.ntmps76
    go_wp2
    go_ret
    exact ⟨ret_bool (by unfold digB; rw [Bool.eq_iff_iff]; simp; try omega), rfl⟩
def sgnB (n : Int) : Bool := decide (n = 47 ∨ n = 95 ∨ n = 43 ∨ n = 45)
theorem u8_ne {c d : UInt8} (h : c ≠ d) : (c.toNat : Int) ≠ (d.toNat : Int) := fun e => h (UInt8.toNat_inj.1 (by omega))
theorem sgn_lib (c : UInt8) : Lib.indexByte [47, 95, 43, 45] c < 0 ↔ sgnB c.toNat = false := by
  by_cases h1 : c = 47
  · subst h1; decide
  by_cases h2 : c = 95
  · subst h2; decide
  by_cases h3 : c = 43
  · subst h3; decide
  by_cases h4 : c = 45
  · subst h4; decide
  have e1 : (47 == c) = false := beq_eq_false_iff_ne.2 (Ne.symm h1)
  have e2 : (95 == c) = false := beq_eq_false_iff_ne.2 (Ne.symm h2)
  have e3 : (43 == c) = false := beq_eq_false_iff_ne.2 (Ne.symm h3)
  have e4 : (45 == c) = false := beq_eq_false_iff_ne.2 (Ne.symm h4)
  have g1 := u8_ne h1
  have g2 := u8_ne h2
  have g3 := u8_ne h3
  have g4 := u8_ne h4
  simp at g1 g2 g3 g4
  unfold sgnB
  simp only [Lib.indexByte, e1, e2, e3, e4]
  simp
  omega
/-- what may stand in a name -/
def okB (n : Int) : Bool := ltrB n || digB n || sgnB n
def allOk (l : List UInt8) : Bool := l.all fun c => okB c.toNat
theorem allOk_snoc (s : ByteArray) (k : Nat) (h : k < s.size) (h1 : allOk (s.data.toList.take k) = true) (h2 : okB (s[k].toNat : Int) = true) : allOk (s.data.toList.take (k + 1)) = true := by
  rw [take_snoc s k h]; unfold allOk at *; rw [List.all_append, h1]; simpa using h2
theorem allOk_bad (s : ByteArray) (k : Nat) (h : k < s.size) (h2 : okB (s[k].toNat : Int) = false) : allOk s.data.toList = false := by
  unfold allOk
  rw [List.all_eq_false]
  exact ⟨s[k], by simp [ByteArray.getElem_eq_getElem_data], by simpa using h2⟩
/-- the byte at k -/
def bat (s : ByteArray) (k : Nat) : Int := (s.data.toList[k]?.getD 0).toNat
theorem bat_eq (s : ByteArray) (k : Nat) (h : k < s.size) : bat s k = (s[k].toNat : Int) := by
  unfold bat
  rw [List.getElem?_eq_getElem (by simpa using h)]
  rfl
def nameB (s : ByteArray) : Bool := decide (1 ≤ s.size ∧ s.size ≤ 12) && (allOk s.data.toList && (ltrB (bat s 0) && (bat s (s.size - 1) != 47)))
theorem nameB_long {s : ByteArray} (h : ¬ (1 ≤ s.size ∧ s.size ≤ 12)) : nameB s = false := by unfold nameB; simp [h]
theorem nameB_bad {s : ByteArray} (h : allOk s.data.toList = false) : nameB s = false := by unfold nameB; simp [h]
theorem nameB_eq {s : ByteArray} (h : 1 ≤ s.size ∧ s.size ≤ 12) (h2 : allOk s.data.toList = true) : nameB s = (ltrB (bat s 0) && (bat s (s.size - 1) != 47)) := by unfold nameB; simp [h, h2]
set_option maxHeartbeats 4000000 in
theorem Name_c (s : ByteArray) (w : World) (hs : s.size ≤ maxLen) : Calls Tryz.prog 59 #[.string s] w fun e w' => e = .returned (.bool (nameB s)) ∧ w' = w := by
  unfold maxLen at hs
  have hc : (1 ≤ s.size ∧ s.size ≤ 12) ∨ (s.size < 1 ∨ (1 ≤ s.size ∧ 12 < s.size)) := by omega
  rcases hc with ⟨h1, h12⟩ | hc
  · generalize hV : nameB s = V
    have HV := hideH hV
    clear hV
    go_enter Tryz.func59, Tryz.ntmps59
    go_wp2_with fail
    go_loop [3] (fun i => ∃ k : Nat, k ≤ s.size ∧ i = .int .i64 k ∧ allOk (s.data.toList.take k) = true) (fun i => s.size - (intOf i).toNat)
    case atStart => exact ⟨0, Nat.zero_le _, rfl, rfl⟩
    case round =>
      obtain ⟨k, hk, rfl, ha⟩ := hrel
      by_cases hlt : k < s.size
      · have hb := s[k].toNat_lt
        have HA := hideH ha
        clear ha
        have hlib := sgn_lib s[k]
        cases hl : ltrB (s[k].toNat : Int)
        · cases hd : digB (s[k].toNat : Int)
          · cases hg : sgnB (s[k].toNat : Int)
            · have HB := hideH (allOk_bad s k hlt (by unfold okB; simp [hl, hd, hg]))
              have hx : Lib.indexByte [47, 95, 43, 45] s[k] < 0 := hlib.2 hg
              clear hlib
              go_wp2_with (first
                | (go_at_call 75; refine (disLetter_c _ _ (by omega) (by omega)).mono ?_; rintro e w ⟨rfl, rfl⟩)
                | (go_at_call 76; refine (disDigit_c _ _ (by omega) (by omega)).mono ?_; rintro e w ⟨rfl, rfl⟩)
                | (go_at_call 77; refine (Tryz.strings_IndexByte _ _ _).mono ?_; rintro e w ⟨rfl, rfl⟩))
              go_ret
              exact ⟨ret_bool ((nameB_bad HB.out).symm.trans HV.out), rfl⟩
            · have HB := hideH (allOk_snoc s k hlt HA.out (by unfold okB; simp [hg]))
              have hx : ¬ Lib.indexByte [47, 95, 43, 45] s[k] < 0 := by rw [hlib, hg]; simp
              clear hlib
              go_wp2_with (first
                | (go_at_call 75; refine (disLetter_c _ _ (by omega) (by omega)).mono ?_; rintro e w ⟨rfl, rfl⟩)
                | (go_at_call 76; refine (disDigit_c _ _ (by omega) (by omega)).mono ?_; rintro e w ⟨rfl, rfl⟩)
                | (go_at_call 77; refine (Tryz.strings_IndexByte _ _ _).mono ?_; rintro e w ⟨rfl, rfl⟩))
              go_round
              case rel => exact ⟨k + 1, by omega, by go_num, HB.out⟩
              case measure => simp [intOf]; omega
          · have HB := hideH (allOk_snoc s k hlt HA.out (by unfold okB; simp [hd]))
            clear hlib
            go_wp2_with (first
              | (go_at_call 75; refine (disLetter_c _ _ (by omega) (by omega)).mono ?_; rintro e w ⟨rfl, rfl⟩)
              | (go_at_call 76; refine (disDigit_c _ _ (by omega) (by omega)).mono ?_; rintro e w ⟨rfl, rfl⟩))
            go_round
            case rel => exact ⟨k + 1, by omega, by go_num, HB.out⟩
            case measure => simp [intOf]; omega
        · have HB := hideH (allOk_snoc s k hlt HA.out (by unfold okB; simp [hl]))
          clear hlib
          go_wp2_with (go_at_call 75; refine (disLetter_c _ _ (by omega) (by omega)).mono ?_; rintro e w ⟨rfl, rfl⟩)
          go_round
          case rel => exact ⟨k + 1, by omega, by go_num, HB.out⟩
          case measure => simp [intOf]; omega
      · have hk' : k = s.size := by omega
        have HA := hideH (nameB_eq ⟨h1, h12⟩ (by rw [List.take_of_length_le (by simp; omega)] at ha; exact ha))
        clear ha
        have b1 := s[0].toNat_lt
        have b2 := s[s.size - 1].toNat_lt
        have HE := hideH (bat_eq s 0 (by omega))
        have HF := hideH (bat_eq s (s.size - 1) (by omega))
        cases hl : ltrB (s[0].toNat : Int)
        · go_wp2_with (go_at_call 75; refine (disLetter_c _ _ (by omega) (by omega)).mono ?_; rintro e w ⟨rfl, rfl⟩)
          go_ret
          exact ⟨ret_bool (by rw [← HV.out, HA.out, HE.out, hl]; rfl), rfl⟩
        · go_wp2_with (go_at_call 75; refine (disLetter_c _ _ (by omega) (by omega)).mono ?_; rintro e w ⟨rfl, rfl⟩)
          go_ret
          exact ⟨ret_bool (by rw [← HV.out, HA.out, HE.out, hl, HF.out]; simp), rfl⟩
  · have hv : nameB s = false := nameB_long (by omega)
    rw [hv]
    clear hv
    rcases hc with hc | ⟨hc, hc'⟩
    all_goals
      go_enter Tryz.func59, Tryz.ntmps59
      go_wp2_with fail
      go_ret
      exact ⟨rfl, rfl⟩
end Go.Proofs.YtbpdbggojgijiaaGreatDoor

/- Data, as they lie in memory; the contract of refuseMany. -/
namespace Go.Proofs.YtbpdbggojgijiaaGreatDoor
open Go Go.RowKit
set_option linter.unusedVariables false

/-- a set: its name; where its rules lie -/
structure St where
  nm : ByteArray
  a : Option Addr
  n : Nat
  c : Nat
  rs : Nat → Rl
/-- an era -/
structure Er where
  std : Int
  set : Int
  sv : Int
  fm : ByteArray
  un : Int
/-- a zone: its name; where its eras lie -/
structure Zn where
  nm : ByteArray
  a : Option Addr
  n : Nat
  c : Nat
  es : Nat → Er
/-- a link -/
structure Lk where
  nm : ByteArray
  tgt : ByteArray
/-- data: where sets, zones and links lie, and what they are -/
structure Dt where
  sa : Option Addr
  ns : Nat
  sc : Nat
  ss : Nat → St
  za : Option Addr
  nz : Nat
  zc : Nat
  zs : Nat → Zn
  la : Option Addr
  nl : Nat
  lc : Nat
  ls : Nat → Lk
abbrev Er.v (x : Er) : Value := .agg #[.int .i64 x.std, .int .i64 x.set, .int .i64 x.sv, .string x.fm, .int .i64 x.un]
abbrev Dt.v (D : Dt) : Value := .agg #[.slice D.sa D.ns D.sc, .slice D.za D.nz D.zc, .slice D.la D.nl D.lc]
abbrev St.sl (x : St) : Value := .slice x.a x.n x.c
abbrev Zn.sl (x : Zn) : Value := .slice x.a x.n x.c

/-- n pairs of cells in a row -/
def P2 (w : World) (a : Option Addr) (n : Nat) (f g : Nat → Value) : Prop := n = 0 ∨ ∃ b off, a = some ⟨b, off, none⟩ ∧ ∀ j, j < n → w.cell? ⟨b, off + j * 2, none⟩ = some (f j) ∧ w.cell? ⟨b, off + j * 2 + 1, none⟩ = some (g j)
theorem P2.on {w w' : World} {a : Option Addr} {n : Nat} {f g : Nat → Value} (h : P2 w a n f g) (hb : Below w.heap.size w w') : P2 w' a n f g := by
  rcases h with h | ⟨b, off, h1, h2⟩
  · exact .inl h
  · exact .inr ⟨b, off, h1, fun j hj => ⟨cell_on (h2 j hj).1 hb, cell_on (h2 j hj).2 hb⟩⟩
/-- five cells of an era, from offset o on -/
def EAt (w : World) (b o : Nat) (x : Er) : Prop := w.cell? ⟨b, o, none⟩ = some (.int .i64 x.std) ∧ w.cell? ⟨b, o + 1, none⟩ = some (.int .i64 x.set) ∧ w.cell? ⟨b, o + 2, none⟩ = some (.int .i64 x.sv) ∧ w.cell? ⟨b, o + 3, none⟩ = some (.string x.fm) ∧ w.cell? ⟨b, o + 4, none⟩ = some (.int .i64 x.un)
def ERow (w : World) (a : Option Addr) (n : Nat) (es : Nat → Er) : Prop := n = 0 ∨ ∃ b off, a = some ⟨b, off, none⟩ ∧ ∀ j, j < n → EAt w b (off + j * 5) (es j)
theorem ERow.on {w w' : World} {a : Option Addr} {n : Nat} {es : Nat → Er} (h : ERow w a n es) (hb : Below w.heap.size w w') : ERow w' a n es := by
  rcases h with h | ⟨b, off, h1, h2⟩
  · exact .inl h
  · exact .inr ⟨b, off, h1, fun j hj => ⟨cell_on (h2 j hj).1 hb, cell_on (h2 j hj).2.1 hb, cell_on (h2 j hj).2.2.1 hb, cell_on (h2 j hj).2.2.2.1 hb, cell_on (h2 j hj).2.2.2.2 hb⟩⟩
/-- data lie in a world -/
structure DAt (w : World) (D : Dt) : Prop where
  sets : P2 w D.sa D.ns (fun j => .string (D.ss j).nm) (fun j => (D.ss j).sl)
  rules : ∀ j, j < D.ns → ARow w (D.ss j).a (D.ss j).n (D.ss j).c (D.ss j).rs
  zones : P2 w D.za D.nz (fun j => .string (D.zs j).nm) (fun j => (D.zs j).sl)
  eras : ∀ j, j < D.nz → ERow w (D.zs j).a (D.zs j).n (D.zs j).es
  links : P2 w D.la D.nl (fun j => .string (D.ls j).nm) (fun j => .string (D.ls j).tgt)
theorem DAt.on {w w' : World} {D : Dt} (h : DAt w D) (hb : Below w.heap.size w w') : DAt w' D :=
  ⟨h.sets.on hb, fun j hj => (h.rules j hj).on hb, h.zones.on hb, fun j hj => (h.eras j hj).on hb, h.links.on hb⟩
/-- no length is beyond Go's -/
structure Dt.fits (D : Dt) : Prop where
  ns : D.ns ≤ maxLen
  nz : D.nz ≤ maxLen
  nl : D.nl ≤ maxLen
  snm : ∀ j, j < D.ns → (D.ss j).nm.size ≤ maxLen
  sn : ∀ j, j < D.ns → (D.ss j).n ≤ maxLen
  lt : ∀ j, j < D.ns → ∀ i, i < (D.ss j).n → ((D.ss j).rs i).s.size ≤ maxLen
  znm : ∀ j, j < D.nz → (D.zs j).nm.size ≤ maxLen
  zn : ∀ j, j < D.nz → (D.zs j).n ≤ maxLen
  fm : ∀ j, j < D.nz → ∀ i, i < (D.zs j).n → ((D.zs j).es i).fm.size ≤ maxLen
  lnm : ∀ j, j < D.nl → (D.ls j).nm.size ≤ maxLen
  lto : ∀ j, j < D.nl → (D.ls j).tgt.size ≤ maxLen

/-- not too many -/
abbrev few1 (D : Dt) : Prop := D.ns ≤ 3 ∧ D.nz ≤ 5 ∧ D.nl ≤ 4
abbrev few2 (D : Dt) : Prop := ∀ j, j < D.ns → 1 ≤ (D.ss j).n ∧ (D.ss j).n ≤ 4
abbrev few3 (D : Dt) : Prop := ∀ j, j < D.nz → 1 ≤ (D.zs j).n ∧ (D.zs j).n ≤ 4
def few (D : Dt) : Bool := decide (few1 D) && (decide (few2 D) && decide (few3 D))
theorem few_of {D : Dt} (h1 : few1 D) (h2 : few2 D) (h3 : few3 D) : few D = true := by unfold few; rw [decide_eq_true h1, decide_eq_true h2, decide_eq_true h3]; rfl
theorem few_no1 {D : Dt} (h : ¬ few1 D) : few D = false := by unfold few; rw [decide_eq_false h]; rfl
theorem few_no2 {D : Dt} (h : ¬ few2 D) : few D = false := by unfold few; rw [decide_eq_false h]; cases decide (few1 D) <;> rfl
theorem few_no3 {D : Dt} (h : ¬ few3 D) : few D = false := by unfold few; rw [decide_eq_false h]; cases decide (few1 D) <;> cases decide (few2 D) <;> rfl
theorem few_all {D : Dt} (h : few D = true) : few1 D ∧ few2 D ∧ few3 D := by
  unfold few at h
  rw [Bool.and_eq_true, Bool.and_eq_true, decide_eq_true_iff, decide_eq_true_iff, decide_eq_true_iff] at h
  exact h

theorem left_2 {b : Bool} (h : b = false) : left (if b then 0 else 2) = .panicked [{ v := errV 2, recovered := false }] := by subst h; rfl
theorem left_0 {b : Bool} (h : b = true) (e : Int) : left (if b then 0 else e) = .returned (.tuple #[]) := by subst h; rfl
/-- a pair of cells in a box of its own -/
theorem box2 (w : World) (x y : Value) (t : TypeId) : (w.alloc (.cells #[x, y] t)).cell? ⟨w.heap.size, 0, none⟩ = some x ∧ (w.alloc (.cells #[x, y] t)).cell? ⟨w.heap.size, 1, none⟩ = some y := by constructor <;> simp

set_option maxRecDepth 100000 in
set_option maxHeartbeats 4000000 in
theorem refuseMany_c (D : Dt) (w : World) (hD : DAt w D) (hF : D.fits) : Calls Tryz.prog 49 #[D.v] w fun e w' => e = left (if few D then 0 else 2) ∧ Below w.heap.size w w' := by
  generalize hV : left (if few D then 0 else 2) = V
  have HV := hideH hV
  clear hV
  have HD := hideH hD
  have n1 := hF.ns
  have n2 := hF.nz
  have n3 := hF.nl
  have HN1 := hideH hF.sn
  have HN2 := hideH hF.zn
  unfold maxLen at n1 n2 n3
  clear hD hF
  have hc : (D.ns ≤ 3 ∧ D.nz ≤ 5 ∧ D.nl ≤ 4) ∨ (3 < D.ns ∨ D.ns ≤ 3 ∧ (5 < D.nz ∨ D.nz ≤ 5 ∧ 4 < D.nl)) := by omega
  rcases hc with ⟨c1, c2, c3⟩ | hc
  · go_enter Tryz.func49, Tryz.ntmps49
    go_wp2_with (go_at_call 58; refine (refuse_f (by first | rfl | (simp; done) | (simp; omega)) _ _).mono ?_; rintro x w1 ⟨rfl, rfl⟩)
    have HB0 : Hid (Below w.heap.size w (w.alloc (.cells #[.slice D.sa D.ns D.sc, .slice D.za D.nz D.zc, .slice D.la D.nl D.lc] 26))) := (Below.refl _ _).alloc (Nat.le_refl _) _
    have HC0 : Hid ((w.alloc (.cells #[.slice D.sa D.ns D.sc, .slice D.za D.nz D.zc, .slice D.la D.nl D.lc] 26)).cell? ⟨w.heap.size, 1, none⟩ = some (.slice D.za D.nz D.zc)) := by unfold Hid; simp
    go_loopw [26] (fun i wr => ∃ j : Nat, j ≤ D.ns ∧ i = .int .i64 j ∧ Hid (Below w.heap.size w wr) ∧ Hid (wr.cell? ⟨w.heap.size, 1, none⟩ = some (.slice D.za D.nz D.zc)) ∧ Hid (∀ i, i < j → 1 ≤ (D.ss i).n ∧ (D.ss i).n ≤ 4)) (fun i _ => D.ns - (intOf i).toNat)
    case atStart => exact ⟨0, Nat.zero_le _, rfl, HB0, HC0, fun i hi => by omega⟩
    case round =>
      obtain ⟨j, hj, rfl, HW, HC, HA⟩ := hrel
      by_cases hlt : j < D.ns
      · have nj := HN1.out j hlt
        unfold maxLen at nj
        rcases (HD.out.on HW.out).sets with h0 | ⟨b, off, hsa, hcs⟩
        · omega
        obtain ⟨c0, c1⟩ := hcs j hlt
        clear hcs
        have hcc : (1 ≤ (D.ss j).n ∧ (D.ss j).n ≤ 4) ∨ ((D.ss j).n < 1 ∨ 1 ≤ (D.ss j).n ∧ 4 < (D.ss j).n) := by omega
        rcases hcc with ⟨d1, d2⟩ | hcc
        · have HA2 : Hid (∀ i, i < j + 1 → 1 ≤ (D.ss i).n ∧ (D.ss i).n ≤ 4) := fun i hi => by
            rcases Nat.lt_or_ge i j with h | h
            · exact HA.out i h
            · obtain rfl : i = j := by omega
              exact ⟨d1, d2⟩
          go_wp2_with (go_at_call 58; refine (refuse_f (by first | rfl | (simp; done) | (simp; omega)) _ _).mono ?_; rintro x w1 ⟨rfl, rfl⟩)
          simp only [← hsa]
          go_roundw
          case rel =>
            have hl := cell_lt HC.out
            have hb := (Below.refl _ wr).alloc (Nat.le_refl _) (.cells #[.string (D.ss j).nm, (D.ss j).sl] 47)
            exact ⟨j + 1, by omega, by go_num, bthen HW.out hb, cell_on HC.out hb, HA2.out⟩
          case measure => simp [intOf]; omega
        · have HX := hideH (left_2 (few_no2 (D := D) (fun h => by have := h j hlt; omega)))
          have hb := hideH ((Below.refl _ wr).alloc (Nat.le_refl _) (.cells #[.string (D.ss j).nm, (D.ss j).sl] 47))
          rcases hcc with hcc | ⟨hcc, hcc'⟩
          all_goals
            go_wp2_with (go_at_call 58; refine (refuse_t (by first | rfl | (simp; done) | (simp; omega)) _ _).mono ?_; rintro x w1 ⟨rfl, rfl⟩)
            exact ⟨rfl, by rw [← HV.out, HX.out], bthen HW.out hb.out⟩
      · have hc := HC.out
        have hz := cell_lt HC.out
        go_wp2_with fail
        clear hc
        go_loopw [45] (fun i wr => ∃ j : Nat, j ≤ D.nz ∧ i = .int .i64 j ∧ Hid (Below w.heap.size w wr) ∧ Hid (∀ i, i < j → 1 ≤ (D.zs i).n ∧ (D.zs i).n ≤ 4)) (fun i _ => D.nz - (intOf i).toNat)
        case atStart => exact ⟨0, Nat.zero_le _, rfl, HW, fun i hi => by omega⟩
        case round =>
          obtain ⟨k, hk, rfl, HW2, HB⟩ := hrel
          by_cases hlt2 : k < D.nz
          · have nj := HN2.out k hlt2
            unfold maxLen at nj
            rcases (HD.out.on HW2.out).zones with h0 | ⟨b, off, hsa, hcs⟩
            · omega
            obtain ⟨c0, c1⟩ := hcs k hlt2
            clear hcs
            have hcc : (1 ≤ (D.zs k).n ∧ (D.zs k).n ≤ 4) ∨ ((D.zs k).n < 1 ∨ 1 ≤ (D.zs k).n ∧ 4 < (D.zs k).n) := by omega
            rcases hcc with ⟨d1, d2⟩ | hcc
            · have HA2 : Hid (∀ i, i < k + 1 → 1 ≤ (D.zs i).n ∧ (D.zs i).n ≤ 4) := fun i hi => by
                rcases Nat.lt_or_ge i k with h | h
                · exact HB.out i h
                · obtain rfl : i = k := by omega
                  exact ⟨d1, d2⟩
              have hb := hideH ((Below.refl _ wr).alloc (Nat.le_refl _) (.cells #[.string (D.zs k).nm, (D.zs k).sl] 51))
              go_wp2_with (go_at_call 58; refine (refuse_f (by first | rfl | (simp; done) | (simp; omega)) _ _).mono ?_; rintro x w1 ⟨rfl, rfl⟩)
              simp only [← hsa]
              go_roundw
              case rel => exact ⟨k + 1, by omega, by go_num, bthen HW2.out hb.out, HA2.out⟩
              case measure => simp [intOf]; omega
            · have HX := hideH (left_2 (few_no3 (D := D) (fun h => by have := h k hlt2; omega)))
              have hb := hideH ((Below.refl _ wr).alloc (Nat.le_refl _) (.cells #[.string (D.zs k).nm, (D.zs k).sl] 51))
              rcases hcc with hcc | ⟨hcc, hcc'⟩
              all_goals
                go_wp2_with (go_at_call 58; refine (refuse_t (by first | rfl | (simp; done) | (simp; omega)) _ _).mono ?_; rintro x w1 ⟨rfl, rfl⟩)
                exact ⟨rfl, by rw [← HV.out, HX.out], bthen HW2.out hb.out⟩
          · have HX := hideH (left_0 (few_of (D := D) ⟨c1, c2, c3⟩ (fun i hi => HA.out i (by omega)) (fun i hi => HB.out i (by omega))) 2)
            go_wp2_with fail
            go_end0
            exact ⟨by rw [← HV.out, HX.out], HW2.out⟩
  · have HX := hideH (left_2 (few_no1 (D := D) (fun h => by unfold few1 at h; omega)))
    rcases hc with hc | ⟨hc, hc' | ⟨hc', hc''⟩⟩
    all_goals
      have hb := hideH ((Below.refl _ w).alloc (Nat.le_refl _) (.cells #[.slice D.sa D.ns D.sc, .slice D.za D.nz D.zc, .slice D.la D.nl D.lc] 26))
      go_enter Tryz.func49, Tryz.ntmps49
      go_wp2_with (go_at_call 58; refine (refuse_t (by first | rfl | (simp; done) | (simp; omega)) _ _).mono ?_; rintro x w1 ⟨rfl, rfl⟩)
      exact ⟨rfl, by rw [← HV.out, HX.out], hb.out⟩
end Go.Proofs.YtbpdbggojgijiaaGreatDoor

/- Contracts of package data: isFormat, inBounds. -/
namespace Go.Proofs.YtbpdbggojgijiaaGreatDoor
open Go Go.RowKit
set_option linter.unusedVariables false

/-- internal/bytealg.MaxLen holds a number -/
def Mx (w : World) : Prop := ∃ m, w.cell? ⟨1, 0, none⟩ = some (.int .i64 m)
theorem Mx.on {w w' : World} (h : Mx w) (hb : Below w.heap.size w w') : Mx w' := by
  obtain ⟨m, hm⟩ := h
  exact ⟨m, cell_on hm hb⟩
/-- '%s' -/
abbrev pct : List UInt8 := [37, 115]
theorem rep1 (l new : List UInt8) (hn : (pct == new) = false) : Lib.replace l pct new 1 = if Lib.index l pct = -1 then l else l.take (Lib.index l pct).toNat ++ new ++ l.drop ((Lib.index l pct).toNat + 2) := by
  unfold Lib.replace
  rw [hn]
  simp only [Bool.false_eq_true, if_false]
  by_cases h : Lib.index l pct = -1
  · rw [if_pos h]
    have hc : Lib.count l pct = 0 := by unfold Lib.count Lib.countFrom; rw [if_pos (by rw [h]; rfl)]
    unfold Lib.replaceNum
    rw [hc, if_pos (.inr (by decide))]
    rfl
  · rw [if_neg h]
    have hc : 1 ≤ Lib.count l pct := by unfold Lib.count Lib.countFrom; rw [if_neg (by simpa using h)]; omega
    unfold Lib.replaceNum
    rw [if_neg (by omega)]
    have hge := Lib.index_ge l pct
    have hk := Lib.replaceK_hit pct new 0 l (Lib.index l pct).toNat (by omega)
    exact hk
theorem rep1_len (l : List UInt8) : (Lib.replace l pct [] 1).length ≤ l.length := by
  rw [rep1 l [] rfl]
  split
  · exact Nat.le_refl _
  · rw [List.append_nil, List.length_append, List.length_take, List.length_drop]; omega
def fmtB (s : ByteArray) : Bool := decide (1 ≤ s.size ∧ s.size ≤ 12) && allLet (Lib.replace s.data.toList pct [] 1)
set_option maxHeartbeats 4000000 in
theorem disFormat_c (s : ByteArray) (w : World) (hs : s.size ≤ maxLen) (hM : Mx w) : Calls Tryz.prog 81 #[.string s] w fun e w' => e = .returned (.bool (fmtB s)) ∧ Below w.heap.size w w' := by
  unfold maxLen at hs
  have hc : (1 ≤ s.size ∧ s.size ≤ 12) ∨ (s.size < 1 ∨ (1 ≤ s.size ∧ 12 < s.size)) := by omega
  rcases hc with ⟨h1, h12⟩ | hc
  · obtain ⟨m, hm⟩ := hM
    have hv : fmtB s = allLet (Lib.replace s.data.toList pct [] 1) := by unfold fmtB; simp [h1, h12]
    rw [hv]
    clear hv
    have hlen := rep1_len s.data.toList
    have HM := hideH hm
    clear hm
    have hsz : s.data.toList.length = s.size := by simp
    obtain ⟨r, hr⟩ : ∃ r : ByteArray, r = ⟨(Lib.replace s.data.toList pct [] 1).toArray⟩ := ⟨_, rfl⟩
    have hrd : r.data.toList = Lib.replace s.data.toList pct [] 1 := by rw [hr]
    have hrs : r.size ≤ 12 := by
      have : r.size = r.data.toList.length := by simp
      rw [this, hrd]; omega
    rw [← hrd]
    have HR : Hid (r = ⟨(Lib.replace s.data.toList pct [] 1).toArray⟩) := hr
    clear hr hrd hlen hsz
    go_enter Tryz.func81, Tryz.ntmps81
    go_wp2_with fail
    refine (Tryz.strings_Replace s ⟨#[37, 115]⟩ ⟨#[]⟩ 1 m _ (by omega) HM.out (by decide) (by show s.size + _ * 0 ≤ _; omega)).mono ?_
    rintro e w1 ⟨rfl, hw1⟩
    have HW := hideH hw1
    clear hw1
    have hval : (Value.string ⟨(Lib.replace s.data.toList ([37, 115] : List UInt8) [] 1).toArray⟩) = .string r := by rw [HR.out]
    simp only [hval]
    clear hval
    go_wp2_with fail
    go_loop [4] (fun i => ∃ k : Nat, k ≤ r.size ∧ i = .int .i64 k ∧ allLet (r.data.toList.take k) = true) (fun i => r.size - (intOf i).toNat)
    case atStart => exact ⟨0, Nat.zero_le _, rfl, rfl⟩
    case round =>
      obtain ⟨k, hk, rfl, ha⟩ := hrel
      by_cases hlt : k < r.size
      · cases hl : ltrB (r[k].toNat : Int)
        · have HB := hideH (all_bad r k hlt hl)
          clear ha
          have hb := r[k].toNat_lt
          go_wp2_with (go_at_call 75; refine (disLetter_c _ _ (by omega) (by omega)).mono ?_; rintro e w1 ⟨rfl, rfl⟩)
          go_ret
          exact ⟨ret_bool HB.out.symm, HW.out⟩
        · have HA := hideH (all_snoc r k hlt ha hl)
          clear ha
          have hb := r[k].toNat_lt
          go_wp2_with (go_at_call 75; refine (disLetter_c _ _ (by omega) (by omega)).mono ?_; rintro e w1 ⟨rfl, rfl⟩)
          go_round
          case rel => exact ⟨k + 1, by omega, by go_num, HA.out⟩
          case measure => simp [intOf]; omega
      · have hk' : k = r.size := by omega
        have HA := hideH ha
        clear ha
        go_wp2_with fail
        go_ret
        exact ⟨ret_bool (by have := HA.out; rw [List.take_of_length_le (by simp; omega)] at this; exact this.symm), HW.out⟩
  · have hv : fmtB s = false := by unfold fmtB; simp; omega
    rw [hv]
    clear hv
    rcases hc with hc | ⟨hc, hc'⟩
    all_goals
      go_enter Tryz.func81, Tryz.ntmps81
      go_wp2_with fail
      go_ret
      exact ⟨rfl, Below.refl _ _⟩

/-- an era's bounds, but for its end -/
def ebnd (x : Er) (n : Int) : Bool := decide (-50400 ≤ x.std ∧ x.std ≤ 50400 ∧ -1 ≤ x.set ∧ x.set < n ∧ 0 ≤ x.sv ∧ (0 ≤ x.set ∧ x.sv ≤ 0 ∨ x.set < 0 ∧ x.sv ≤ 7200))
set_option maxHeartbeats 4000000 in
theorem dinBounds_c (x : Er) (n : Int) (w : World) : Calls Tryz.prog 80 #[x.v, .int .i64 n] w fun e w' => e = .returned (.bool (ebnd x n)) ∧ Below w.heap.size w w' := by
  have hc : (0 ≤ x.set ∨ x.set < 0) := by omega
  have hd : (x.std < -50400 ∨ -50400 ≤ x.std ∧ (50400 < x.std ∨ x.std ≤ 50400 ∧ (x.set < -1 ∨ -1 ≤ x.set ∧ (n ≤ x.set ∨ x.set < n ∧ (x.sv < 0 ∨ 0 ≤ x.sv))))) := by omega
  have hb := hideH ((Below.refl _ w).alloc (Nat.le_refl _) (.cells #[.int .i64 x.std, .int .i64 x.set, .int .i64 x.sv, .string x.fm, .int .i64 x.un] 67))
  generalize hV : ebnd x n = V
  have HV := hideH hV
  clear hV
  rcases hc with hc | hc
  all_goals
    rcases hd with h1 | ⟨h1, h2 | ⟨h2, h3 | ⟨h3, h4 | ⟨h4, h5 | h5⟩⟩⟩⟩
    all_goals first
      | (exfalso; omega)
      | (go_enter Tryz.func80, Tryz.ntmps80
         go_wp2_with fail
         go_ret
         exact ⟨ret_bool (by rw [← HV.out]; unfold ebnd; rw [Bool.eq_iff_iff]; simp; try omega), hb.out⟩)
end Go.Proofs.YtbpdbggojgijiaaGreatDoor

/- A round of a loop over a function that may be left by a panic; the statement over it, at the wide fence. Of whatever program. -/
namespace Go.Proofs.YtbpdbggojgijiaaGreatDoor
open Go Go.RowKit
set_option linter.unusedVariables false

/-- what is asked where a round's body ends, a panic too -/
def rpost (P : Program) (l : Nat) (R : Ending → World → Prop) : Exit → Act → World → Prop
  | .normal, _, w => ∃ v w', (Instr.endRound l none).run P w = .ok v w' ∧ R (.returned v) w'
  | .ret, _, w => ∃ v w', (Instr.endRound l (some .ret)).run P w = .ok v w' ∧ R (.returned v) w'
  | .exit id, _, w => ∃ v w', (Instr.endRound l (some (.exit id))).run P w = .ok v w' ∧ R (.returned v) w'
  | .panic chain, a, w => a.defers = [] ∧ R (.panicked chain) w
  | _, _, _ => False

theorem round_p {F : Fence} {n : Nat} {P : Program} {l : Nat} {f : FuncId} {fn : Func} {tmps : Array Value} {assign body : Code} {w : World} {R : Ending → World → Prop} (hF : F.fn f) (hf : P.funcs[f]? = some fn)
    (h : assign.wpIn (F.inRound l) n P (Exit.then (fun a₁ w₁ => ∃ w₂, (Instr.beginRound l).run P w₁ = .ok () w₂ ∧ body.wpIn (F.inRound l) n P (rpost P l R) a₁ w₂) (fun _ _ _ => False))
      { tmps := tmps, defers := [] } w) :
    RoundIn F n P l f tmps assign body w R := by
  refine ⟨hF, fun c cs hr => ?_⟩
  let b : Frame := { (default : Frame) with fn := f, kind := .normal, roundOf := some l }
  have hb0 : Frame.round l f tmps assign body .normal = b.atR { tmps := tmps, defers := [] } [.code assign, .beginRound, .code body] := by
    simp [Frame.round, Frame.atR, b]
  have hr' : (F.inRound l).room ((c :: cs).length + 1 + n) := hr
  have hF' : (F.inRound l).fn b.fn := hF
  obtain ⟨e, a₁, w₁, hq, h1⟩ := h b [.beginRound, .code body] (c :: cs) rfl hF' hr'
  rw [← hb0] at h1
  cases e
  case normal =>
    obtain ⟨w₂, hbr, hbody⟩ := hq
    have s1 : StepsIn (Machine.fenced P (F.inRound l)) P (lone (b.atR a₁ [.beginRound, .code body]) (c :: cs) w₁) (lone (b.atR a₁ [.code body]) (c :: cs) w₂) :=
      .one (fenced_calm (fr := b.atR a₁ [.beginRound, .code body]) hF' hr' rfl) (stepR_beginRound rfl hbr)
    have s2 := StepsIn.trans h1 s1
    obtain ⟨e₂, a₂, w₃, hq₂, h2⟩ := hbody b [] (c :: cs) rfl hF' hr'
    cases e₂
    case normal =>
      obtain ⟨v, w₄, hend, hR⟩ := hq₂
      exact ⟨.returned v, w₄, hR, s2.trans (StepsIn.trans h2 (.one (fenced_calm (fr := b.atR a₂ []) hF' hr' rfl) (stepR_round_end rfl rfl hend)))⟩
    case ret =>
      obtain ⟨v, w₄, hend, hR⟩ := hq₂
      obtain ⟨k₁, hs⟩ := h2.2 rfl
      exact ⟨.returned v, w₄, hR, s2.trans (StepsIn.trans hs (.one (fenced_calm (fr := b.atR a₂ (.code .ret :: k₁)) hF' hr' rfl) (stepR_round_ret rfl rfl hend)))⟩
    case exit id =>
      obtain ⟨v, w₄, hend, hR⟩ := hq₂
      obtain ⟨k₁, hk, hs⟩ := h2.2 rfl rfl
      exact ⟨.returned v, w₄, hR, s2.trans (StepsIn.trans hs (.one (fenced_calm (fr := b.atR a₂ (.code (.exit id) :: k₁)) hF' hr' rfl) (stepR_round_exit rfl rfl hk hend)))⟩
    case panic chain =>
      obtain ⟨hd, hR⟩ := hq₂
      obtain ⟨todo, hs⟩ := h2
      have hl : ({ b.atR a₂ todo with mode := .panicking chain } : Frame).leaving P w₃ (.panicked chain) := ⟨rfl, hd, fn, hf⟩
      exact ⟨.panicked chain, w₃, hR, s2.trans (StepsIn.trans hs (.one (fenced_leaving (fr := { b.atR a₂ todo with mode := .panicking chain }) hF' hr' hl) (step_leave_panicked hl)))⟩
    all_goals exact hq₂.elim
  all_goals exact hq.elim

end Go.Proofs.YtbpdbggojgijiaaGreatDoor

/- Loops over eras.Spans: the iterator's contract, whatever the body does, and the statement, where the body may be left by a panic. -/
namespace Go.Proofs.YtbpdbggojgijiaaGreatDoor
open Go Go.RowKit Go.Shelf
set_option linter.unusedVariables false
attribute [local go_sem] Oper.semAt_some

/-- what lies from B on lies as it lay -/
structure Kept (B : Nat) (W W' : World) : Prop where
  size : W.heap.size ≤ W'.heap.size
  same : ∀ b, B ≤ b → b < W.heap.size → W'.heap[b]? = W.heap[b]?
theorem Kept.refl (B : Nat) (W : World) : Kept B W W := ⟨Nat.le_refl _, fun _ _ _ => rfl⟩
theorem Kept.trans {B : Nat} {X Y Z : World} (h : Kept B X Y) (k : Kept B Y Z) : Kept B X Z := ⟨Nat.le_trans h.size k.size, fun b h1 h2 => (k.same b h1 (Nat.lt_of_lt_of_le h2 h.size)).trans (h.same b h1 h2)⟩
theorem Kept.of_below {B : Nat} {W W' : World} (h : Below W.heap.size W W') : Kept B W W' := ⟨h.size, fun b _ h2 => h.block b h2⟩
theorem Kept.set {B : Nat} (W : World) {b o : Nat} (h : b < B) (v : Value) : Kept B W (W.setCell ⟨b, o, none⟩ v) :=
  ⟨by simp [World.setCell], fun k h1 _ => Below.heap_setCell _ _ _ _ (by simp; omega)⟩

abbrev Er.cs (x : Er) : Array Value := #[.int .i64 x.std, .int .i64 x.set, .int .i64 x.sv, .string x.fm, .int .i64 x.un]
theorem ebox_new (w : World) (x : Er) : EAt (w.alloc (.cells x.cs 67)) w.heap.size 0 x := by
  refine ⟨?_, ?_, ?_, ?_, ?_⟩ <;> simp
/-- where the era k begins -/
def frm (es : Nat → Er) : Nat → Int | 0 => 0 | k + 1 => (es k).un
theorem EAt.same {w w' : World} {b o : Nat} {x : Er} (h : EAt w b o x) (hb : w'.heap[b]? = w.heap[b]?) : EAt w' b o x := by
  have hc : ∀ o, w'.cell? ⟨b, o, none⟩ = w.cell? ⟨b, o, none⟩ := fun o => World.cell?_of_block hb
  obtain ⟨h0, h1, h2, h3, h4⟩ := h
  exact ⟨(hc _).trans h0, (hc _).trans h1, (hc _).trans h2, (hc _).trans h3, (hc _).trans h4⟩

theorem Spans_c (ea : Option Addr) (ne ec : Nat) (w : World) : Calls Tryz.prog 79 #[.slice ea ne ec] w fun e w' => e = .returned (.func (.func 96) #[] #[.pointer (some ⟨w.heap.size, 0, none⟩)]) ∧ w' = w.alloc (.cells #[.slice ea ne ec] 49) := by
  have hmf : ∀ (fn : Fn) (first cap : Array Value) (w : World), (Instr.makeFunc fn first cap).run Tryz.prog w = .ok (.func fn first cap) w := fun _ _ _ _ => rfl
  go_enter Tryz.func79, Tryz.ntmps79
  go_wp2
  go_ret
  exact ⟨rfl, rfl⟩

/-- the iterator: whatever is true ahead of each round -/
theorem spans1_c (n l cb ne ec B : Nat) (ea : Option Addr) (es : Nat → Er) (J : Nat → World → Prop) (Jx : World → Prop) (Jp : List PanicEntry → World → Prop) (hne : ne ≤ maxLen)
    (hJa : ∀ k W o, J k W → J k (W.alloc o)) (hrd : ∀ k W, J k W → W.cell? ⟨cb, 0, none⟩ = some (.slice ea ne ec) ∧ ERow W ea ne es ∧ l < W.heap.size ∧ B ≤ W.heap.size)
    (hY : ∀ k W, J k W → k < ne → YieldAt Fence.wide (n - 1) Tryz.prog l #[.int .i64 (frm es k), (es k).v] W fun e W' =>
      (e = .returned (.bool true) ∧ J (k + 1) W' ∧ ∀ b, B ≤ b → b < W.heap.size → b ≠ l → W'.heap[b]? = W.heap[b]?) ∨ (e = .returned (.bool false) ∧ Jx W') ∨ ∃ ch, e = .panicked ch ∧ Jp ch W')
    (W : World) (h0 : J 0 W) :
    CallsIn Fence.wide n Tryz.prog 96 #[.func (.yield l) #[] #[], .pointer (some ⟨cb, 0, none⟩)] W fun e W' => (∃ v, e = .returned v ∧ (J ne W' ∨ Jx W')) ∨ ∃ ch, e = .panicked ch ∧ Jp ch W' := by
  unfold maxLen at hne
  have hc0 := (hrd 0 W h0).1
  refine callsIn_of_wp Tryz.func96 rfl trivial ?_ rfl
  simp only [Tryz.ntmps96, List.size_toArray, List.length_cons, List.length_nil, Nat.reduceAdd, Nat.reduceSub, Array.replicate_succ, Array.replicate_zero, List.push_toArray, List.append_toArray, List.nil_append, List.cons_append]
  have HJa := hideH hJa
  have Hrd := hideH hrd
  have HY := hideH hY
  have H0 := hideH h0
  clear hJa hrd hY h0
  gi_wp2
  clear hc0
  gi_loopw [3, 8] (fun x3 x8 wr => ∃ k : Nat, k ≤ ne ∧ x3 = .int .i64 (frm es k) ∧ x8 = .int .i64 k ∧ Hid (J k wr)) (fun _ x8 _ => ne - (intOf x8).toNat)
  case atStart => exact ⟨0, Nat.zero_le _, rfl, rfl, H0⟩
  case round =>
    obtain ⟨k, hk, rfl, rfl, HJ⟩ := hrel
    by_cases hlt : k < ne
    · obtain ⟨_, hrow, hl, hB⟩ := Hrd.out k wr HJ.out
      rcases hrow with h0 | ⟨b, off, hsa, hcs⟩
      · omega
      obtain ⟨c0, c1, c2, c3, c4⟩ := hcs k hlt
      clear hcs
      obtain ⟨fn, tmps, assign, body, hy, hR⟩ := HY.out k _ (HJa.out k wr (.cells (es k).cs 67) HJ.out) hlt
      have HR := hideH hR
      clear hR
      gi_wp2
      refine ⟨fun h => by simp [Fence.wide] at h, ?_⟩
      refine HR.out.mono ?_
      rintro e W3 (⟨rfl, hJ3, hk3⟩ | ⟨rfl, hx3⟩ | ⟨ch, rfl, hp3⟩)
      · have hu : W3.cell? ⟨wr.heap.size, 4, none⟩ = some (.int .i64 (es k).un) := by
          have := (ebox_new wr (es k)).same (hk3 wr.heap.size hB (by simp) (by omega))
          simpa using this.2.2.2.2
        have HJ3 := hideH hJ3
        clear hJ3 hk3 hy c0 c1 c2 c3 c4
        gi_wp2
        try simp only [← hsa]
        go_roundw
        case rel => exact ⟨k + 1, by omega, rfl, by go_num, HJ3⟩
        case measure => simp [intOf]; omega
      · have HX := hideH hx3
        clear hx3
        gi_wp2
        refine bodyPost_ret (results_none rfl _ _ _) rfl ?_
        exact .inl ⟨_, rfl, .inr HX.out⟩
      · exact ⟨rfl, .inr ⟨ch, rfl, hp3⟩⟩
    · obtain rfl : k = ne := by omega
      gi_wp2
      go_end0
      exact .inl ⟨_, rfl, .inl HJ.out⟩
end Go.Proofs.YtbpdbggojgijiaaGreatDoor

/- The walk of one function's own activation (its number is known): what a loop over a function wants whose rounds may panic. Of whatever program. -/
namespace Go.Proofs.YtbpdbggojgijiaaGreatDoor
open Go Go.RowKit
set_option linter.unusedVariables false

/-- as 'wpIn' at the wide fence, of activations of function f alone -/
def wpG (P : Program) (f : FuncId) (c : Code) (Q : Exit → Act → World → Prop) (a : Act) (w : World) : Prop :=
  ∀ (b : Frame) (k : List Item) (cs : List Frame), b.roundOf = none → b.fn = f →
    ∃ e a' w', Q e a' w' ∧ ArrivesIn (Machine.fenced P Fence.wide) P (lone (b.atR a (.code c :: k)) cs w) b k cs e a' w'
section
variable {P : Program} {f : FuncId} {Q : Exit → Act → World → Prop} {a : Act} {w : World}
theorem wpG_of {n : Nat} {c : Code} (h : c.wpIn Fence.wide n P Q a w) : wpG P f c Q a w := fun b k cs hr _ => h b k cs hr trivial (room_wide _)
theorem wpG_mono {c : Code} {Q' : Exit → Act → World → Prop} (h : wpG P f c Q a w) (hq : ∀ e a w, Q e a w → Q' e a w) : wpG P f c Q' a w :=
  fun b k cs hr hf => let ⟨e, a', w', q, r⟩ := h b k cs hr hf; ⟨e, a', w', hq _ _ _ q, r⟩
theorem wpG_seq {x y : Code} (h : wpG P f x (Exit.then (wpG P f y Q) Q) a w) : wpG P f (.seq x y) Q a w := by
  intro b k cs hr hf
  have st : StepsIn (Machine.fenced P Fence.wide) P (lone (b.atR a (.code (.seq x y) :: k)) cs w) (lone (b.atR a (.code x :: .code y :: k)) cs w) := .one (fenced_wide _ _) stepR_seq
  obtain ⟨e, a₁, w₁, hq, har⟩ := h b (.code y :: k) cs hr hf
  cases e
  case normal =>
    obtain ⟨e₂, a₂, w₂, hq₂, h2⟩ := hq b k cs hr hf
    exact ⟨e₂, a₂, w₂, hq₂, .of_steps (st.trans har) h2⟩
  all_goals exact ⟨_, a₁, w₁, hq, .of_steps st (.pass (x := .code y) rfl (fun _ _ => .inl (by simp)) har)⟩
theorem wpG_cond {c : Operand} {x y : Code} {t : Bool} (hc : a.eval c = .bool t) (h : wpG P f (if t then x else y) Q a w) : wpG P f (.cond c x y) Q a w :=
  fun b k cs hr hf => let ⟨e, a', w', q, r⟩ := h b k cs hr hf; ⟨e, a', w', q, .of_steps (.one (fenced_wide _ _) (stepR_cond hc)) r⟩
theorem wpG_block {id : Nat} {c : Code} (h : wpG P f c (Exit.inBlock id Q) a w) : wpG P f (.block id c) Q a w := by
  intro b k cs hr hf
  have st : StepsIn (Machine.fenced P Fence.wide) P (lone (b.atR a (.code (.block id c) :: k)) cs w) (lone (b.atR a (.code c :: .inBlock id :: k)) cs w) := .one (fenced_wide _ _) stepR_block
  obtain ⟨e, a₁, w₁, hq, har⟩ := h b (.inBlock id :: k) cs hr hf
  cases e
  case normal => exact ⟨.normal, a₁, w₁, hq, st.trans (StepsIn.trans har (.one (fenced_wide _ _) stepR_inBlock))⟩
  case exit i =>
    by_cases hi : i = id
    · simp only [Exit.inBlock, hi, if_true] at hq
      exact ⟨.normal, a₁, w₁, hq, st.trans (har.1 k (by simp [exitTo, hi]))⟩
    · simp only [Exit.inBlock, hi, if_false] at hq
      have e1 : (id == i) = false := by simp; exact fun h => hi h.symm
      have hx : exitTo i (.inBlock id :: k) = exitTo i k := by simp [exitTo, e1]
      exact ⟨.exit i, a₁, w₁, hq, fun k' hk => st.trans (har.1 k' (by rw [hx]; exact hk)), fun hr' hk => let ⟨k₁, h1, h2⟩ := har.2 hr' (by rw [hx]; exact hk); ⟨k₁, h1, st.trans h2⟩⟩
  case goto l =>
    have hx : gotoIn l (.inBlock id :: k) = gotoIn l k := by simp [gotoIn]
    exact ⟨_, a₁, w₁, hq, fun k' hk => st.trans (har.1 k' (by rw [hx]; exact hk)), fun hr' hk => let ⟨k₁, h1, h2⟩ := har.2 hr' (by rw [hx]; exact hk); ⟨k₁, h1, st.trans h2⟩⟩
  all_goals exact ⟨_, a₁, w₁, hq, .of_steps st har⟩
theorem wpG_loop {c : Code} (I : Act → World → Prop) (μ : Act → World → Nat) (h0 : I a w)
    (round : ∀ a w, I a w → wpG P f c (Exit.then (fun a' w' => I a' w' ∧ μ a' w' < μ a w) Q) a w) : wpG P f (.loop c) Q a w := by
  intro b k cs hr hf
  have key : ∀ j a w, μ a w = j → I a w →
      ∃ e a' w', Q e a' w' ∧ ArrivesIn (Machine.fenced P Fence.wide) P (lone (b.atR a (.code c :: .inLoop c :: k)) cs w) b k cs e a' w' := by
    intro j
    induction j using Nat.strongRecOn
    rename_i j ih
    intro a w hn hI
    obtain ⟨e, a₁, w₁, hq, har⟩ := round a w hI b (.inLoop c :: k) cs hr hf
    cases e
    case normal =>
      obtain ⟨hI₁, hlt⟩ := hq
      obtain ⟨e₂, a₂, w₂, hq₂, h2⟩ := ih (μ a₁ w₁) (hn ▸ hlt) a₁ w₁ rfl hI₁
      exact ⟨e₂, a₂, w₂, hq₂, .of_steps (StepsIn.trans har (.one (fenced_wide _ _) stepR_inLoop)) h2⟩
    all_goals exact ⟨_, a₁, w₁, hq, .pass (x := .inLoop c) rfl (fun _ _ => .inl (by simp)) har⟩
  obtain ⟨e, a', w', hq, har⟩ := key _ a w rfl h0
  exact ⟨e, a', w', hq, .of_steps (.one (fenced_wide _ _) stepR_loop) har⟩

/-- a function's contract from its body -/
theorem calls_of_wpG {fn : Func} {c : Code} {args : Array Value} {R : Ending → World → Prop} (hf : P.funcs[f]? = some fn) (hb : fn.body = some c)
    (h : wpG P f c (bodyPostM Fence.wide 0 P fn R) { tmps := args ++ Array.replicate (fn.ntmps - args.size) undef, defers := [] } w) : Calls P f args w R := by
  refine (callsIn_wide (n := 0)).1 ⟨trivial, fun cs _ => ?_⟩
  let b : Frame := { (default : Frame) with fn := f, kind := .normal, roundOf := none }
  have henter : Frame.enter P f args .normal = b.atR { tmps := args ++ Array.replicate (fn.ntmps - args.size) undef, defers := [] } [.code c] := by
    simp [Frame.enter, Frame.atR, hf, hb, b]
  obtain ⟨e, a', w', hq, har⟩ := h b [] cs rfl rfl
  rw [← henter] at har
  cases e
  case normal =>
    obtain ⟨e', w'', fr', hR, hs, hfn, hl⟩ := leaves_stepsInM a'.defers .returning w' { b.atR a' [] with mode := .returning } cs rfl rfl rfl hf rfl trivial (room_wide _) hq
    exact ⟨e', w'', fr', hR, ComesIn.of_steps (StepsIn.trans har (.one (fenced_wide _ _) (stepR_end rfl))) hs, hfn, hl⟩
  case ret =>
    obtain ⟨todo, hs₀⟩ := har.1 rfl
    obtain ⟨e', w'', fr', hR, hs, hfn, hl⟩ := leaves_stepsInM a'.defers .returning w' { b.atR a' todo with mode := .returning } cs rfl rfl rfl hf rfl trivial (room_wide _) hq
    exact ⟨e', w'', fr', hR, ComesIn.of_steps hs₀ hs, hfn, hl⟩
  case panic chain =>
    obtain ⟨todo, hs₀⟩ := har
    obtain ⟨e', w'', fr', hR, hs, hfn, hl⟩ := leaves_stepsInM a'.defers (.panicking chain) w' { b.atR a' todo with mode := .panicking chain } cs rfl rfl rfl hf rfl trivial (room_wide _) hq
    exact ⟨e', w'', fr', hR, ComesIn.of_steps hs₀ hs, hfn, hl⟩
  case outgrown => exact ⟨.outgrown, w', b, hq, har.resolve_left (by simp [b]), rfl, trivial⟩
  all_goals exact hq.elim

/-- the statement -/
theorem wpG_range {g : Operand} {ps : Array Tmp} {assign body : Code} {l : Nat} {mk : List Deferred} {w₁ w₁' w₂ : World} {d : Deferred} {gf : FuncId} {args : Array Value} {R : Ending → World → Prop}
    (he : (Instr.enterLoop f a.tmps ps assign body none).run P w = .ok (l, mk) w₁) (hres : (resolve a.eval (rangeCall g l) 0).run P w₁ = .ok d w₁') (hinv : (invoke d.target d.args).run P w₁' = .ok (.enter gf args) w₂)
    (hc : Calls P gf args w₂ R)
    (hr : ∀ v w₃, R (.returned v) w₃ → ∃ jump w₄, (Instr.endLoop l).run P w₃ = .ok jump w₄ ∧ (match jump with | none => Q .normal { a with defers := mk ++ a.defers } w₄ | some c => wpG P f c Q { a with defers := mk ++ a.defers } w₄))
    (hp : ∀ ch w₃, R (.panicked ch) w₃ → Q (.panic ch) { a with defers := mk ++ a.defers } w₃) (ho : ∀ w₃, ¬ R .outgrown w₃) :
    wpG P f (.rangeFunc g ps assign body) Q a w := by
  intro b k cs hro hf
  have he' : (Instr.enterLoop b.fn a.tmps ps assign body b.roundOf).run P w = .ok (l, mk) w₁ := by rw [hf, hro]; exact he
  have st := stepR_rangeFunc (P := P) (b := b) (a := a) (k := k) (cs := cs) (w := w) he' hres hinv
  obtain ⟨e, w₃, fr, hR, hs, hfn, hl⟩ := hc (b.atR { a with defers := mk ++ a.defers } (.inRangeFunc l :: k) :: cs)
  cases e
  case outgrown => exact (ho _ hR).elim
  case returned v =>
    obtain ⟨jump, w₄, hend, hj⟩ := hr v w₃ hR
    have sb : StepsIn (Machine.fenced P Fence.wide) P (lone (b.atR a (.code (.rangeFunc g ps assign body) :: k)) cs w) (lone (b.atR { a with defers := mk ++ a.defers } ((jump.map Item.code).toList ++ k)) cs w₄) := by
      refine .head (fenced_wide _ _) st (StepsIn.trans (stepsIn_wide.2 hs) (.head (fenced_wide _ _) ?_ (.one (fenced_wide _ _) (stepR_endRangeFunc hend))))
      rw [← finish_atR_inRangeFunc l v]; exact step_leave_returned hl
    cases jump
    case none => exact ⟨.normal, _, w₄, hj, sb⟩
    case some c =>
      obtain ⟨e', a'', w₅, hq, har⟩ := hj b k cs hro hf
      exact ⟨e', a'', w₅, hq, .of_steps sb har⟩
  case panicked ch =>
    refine ⟨.panic ch, _, w₃, hp ch w₃ hR, .inRangeFunc l :: k, .head (fenced_wide _ _) st (StepsIn.trans (stepsIn_wide.2 hs) (.one (fenced_wide _ _) ?_))⟩
    rw [← Frame.raise_atR]; exact step_leave_panicked hl
end
end Go.Proofs.YtbpdbggojgijiaaGreatDoor

/- The statement 'for .. := range eras.Spans(..)': its rounds may go on, break, return, or panic. And what a function with such loops owes where it is left. -/
namespace Go.Proofs.YtbpdbggojgijiaaGreatDoor
open Go Go.RowKit Go.Shelf
set_option linter.unusedVariables false

/-- what a round's body owes -/
def bpost (B : Nat) (I : Nat → World → Prop) (Ix : Code → World → Prop) (Ip : List PanicEntry → World → Prop) (k : Nat) (W : World) : Exit → Act → World → Prop
  | .normal, _, W' => Kept B W W' ∧ I (k + 1) W'
  | .ret, _, W' => Kept B W W' ∧ Ix .ret W'
  | .exit id, _, W' => Kept B W W' ∧ Ix (.exit id) W'
  | .panic ch, a', W' => a'.defers = [] ∧ Kept B W W' ∧ Ip ch W'
  | _, _, _ => False
abbrev mark (D : Nat) : Deferred := { target := .collected D, args := #[] }
theorem low_put {B l : Nat} {W : World} {o : Obj} (o' : Obj) (hl : B ≤ l) (h : W.heap[l]? = some o) : Below B W (W.putObj l o') :=
  (Below.refl B W).grown (grownBy_putObj' W l o') (by have := (Array.getElem?_eq_some_iff.1 h).1; omega) (fun k e => by cases e; exact hl)
theorem low_alloc {B : Nat} {W : World} (hB : B ≤ W.heap.size) (o : Obj) : Below B W (W.alloc o) := (Below.refl B W).alloc hB o

theorem spans_p {g : Operand} {ps : Array Tmp} {assign body : Code} {Q : Exit → Act → World → Prop} {a : Act} {w : World} {f0 : FuncId} {fn0 : Func} (hf0 : Tryz.prog.funcs[f0]? = some fn0) (n cb ne ec : Nat) (ea : Option Addr) (es : Nat → Er)
    (hg : a.eval g = .func (.func 96) #[] #[.pointer (some ⟨cb, 0, none⟩)]) (hps : ps.size = 2) (hne : ne ≤ maxLen)
    (I : Nat → World → Prop) (Ix : Code → World → Prop) (Ip : List PanicEntry → World → Prop)
    (hI : ∀ k W W', I k W → Below w.heap.size W W' → I k W') (hIx : ∀ c W W', Ix c W → Below w.heap.size W W' → Ix c W')
    (hrd : ∀ k W, I k W → W.cell? ⟨cb, 0, none⟩ = some (.slice ea ne ec) ∧ ERow W ea ne es) (h0 : I 0 w) (a₁ : Nat → Nat → Act)
    (hassign : ∀ (l k : Nat) (W : World) (K : Act → World → Prop), k < ne → K (a₁ k W.heap.size) (W.alloc (.cells (es k).cs 67)) →
      assign.wpIn (Fence.wide.inRound l) (n - 1 - 1) Tryz.prog (Exit.then K (fun _ _ _ => False)) { tmps := (ps.zip #[.int .i64 (frm es k), (es k).v]).foldl (fun t (p, v) => t.setIfInBounds p v) a.tmps, defers := [] } W)
    (hbody : ∀ (l k hb : Nat) (W : World), k < ne → I k W → w.heap.size ≤ hb → hb < W.heap.size → EAt W hb 0 (es k) → body.wpIn (Fence.wide.inRound l) (n - 1 - 1) Tryz.prog (bpost w.heap.size I Ix Ip k W) (a₁ k hb) W)
    (hdone : ∀ (D : Nat) (W : World), w.heap.size ≤ D → I ne W → W.heap[D]? = some (.deferred (some [])) → Q .normal { a with defers := mark D :: a.defers } W)
    (hstop : ∀ (D : Nat) (c : Code) (W : World), w.heap.size ≤ D → Ix c W → W.heap[D]? = some (.deferred (some [])) → wpG Tryz.prog f0 c Q { a with defers := mark D :: a.defers } W)
    (hpan : ∀ (D : Nat) (ch : List PanicEntry) (W : World), w.heap.size ≤ D → Ip ch W → W.heap[D]? = some (.deferred (some [])) → Q (.panic ch) { a with defers := mark D :: a.defers } W) :
    wpG Tryz.prog f0 (Code.rangeFunc g ps assign body) Q a w := by
  obtain ⟨rec, hrec⟩ : ∃ rec : LoopState → Option Code → Loop, rec = fun st pe => { state := st, pending := pe, fn := f0, tmps := a.tmps, params := ps, assign, body, defers := w.heap.size } := ⟨_, rfl⟩
  obtain ⟨W1, hW1⟩ : ∃ W1, (w.alloc (.deferred (some []))).alloc (.loop (rec .ready none)) = W1 := ⟨_, rfl⟩
  have hL1 : W1.heap[w.heap.size + 1]? = some (.loop (rec .ready none)) := by
    rw [← hW1]; have := World.alloc_heap_new (w.alloc (.deferred (some []))) (.loop (rec .ready none)); rwa [World.size_alloc] at this
  have hK1 : W1.heap[w.heap.size]? = some (.deferred (some [])) := by
    rw [← hW1]; exact (Below.heap_alloc _ _ _ (by simp)).trans (World.alloc_heap_new w _)
  have hb1 : Below w.heap.size w W1 := by
    rw [← hW1]; exact ((Below.refl _ w).alloc (Nat.le_refl _) _).alloc (by simp) _
  have h1 : I 0 W1 := hI 0 w W1 h0 hb1
  -- the iterator, at the caller's word with the two blocks beside it
  have hit := spans1_c (n - 1) (w.heap.size + 1) cb ne ec w.heap.size ea es
    (fun k W => I k W ∧ W.heap[w.heap.size + 1]? = some (.loop (rec .ready none)) ∧ W.heap[w.heap.size]? = some (.deferred (some [])))
    (fun W => ∃ c, Ix c W ∧ W.heap[w.heap.size + 1]? = some (.loop (rec .done (some c))) ∧ W.heap[w.heap.size]? = some (.deferred (some [])))
    (fun ch W => Ip ch W ∧ W.heap[w.heap.size]? = some (.deferred (some []))) hne ?ha ?hr ?hy W1 ⟨h1, hL1, hK1⟩
  case ha =>
    rintro k W o ⟨hi, hl, hk⟩
    have l1 := (Array.getElem?_eq_some_iff.1 hl).1
    exact ⟨hI k W _ hi (low_alloc (by omega) o), (Below.heap_alloc _ _ _ l1).trans hl, (Below.heap_alloc _ _ _ (by omega)).trans hk⟩
  case hr =>
    rintro k W ⟨hi, hl, hk⟩
    have l1 := (Array.getElem?_eq_some_iff.1 hl).1
    exact ⟨(hrd k W hi).1, (hrd k W hi).2, l1, by omega⟩
  case hy =>
    rintro k W ⟨hi, hl, hk⟩ hlt
    have l1 := (Array.getElem?_eq_some_iff.1 hl).1
    have hy := run_yield (P := Tryz.prog) (args := #[.int .i64 (frm es k), (es k).v]) hl (by rw [hrec]; simpa using hps.symm)
    rw [hrec] at hy
    have hlA : (W.alloc (.cells (es k).cs 67)).heap[w.heap.size + 1]? = some (.loop (rec .ready none)) := (Below.heap_alloc _ _ _ l1).trans hl
    have hkA : (W.alloc (.cells (es k).cs 67)).heap[w.heap.size]? = some (.deferred (some [])) := (Below.heap_alloc _ _ _ (by omega)).trans hk
    refine ⟨f0, _, assign, body, hy, round_p trivial hf0 (hassign _ k W _ hlt ⟨_, run_beginRound hlA (by rw [hrec]), ?_⟩)⟩
    obtain ⟨W2, hW2⟩ : ∃ W2, (W.alloc (.cells (es k).cs 67)).putObj (w.heap.size + 1) (.loop { rec .ready none with state := .busy }) = W2 := ⟨_, rfl⟩
    rw [hW2]
    have hs2 : W2.heap.size = W.heap.size + 1 := by rw [← hW2]; simp
    have hl2 : W2.heap[w.heap.size + 1]? = some (.loop { rec .ready none with state := .busy }) := by rw [← hW2]; exact World.putObj_heap_same (by simp; omega)
    have ho2 : ∀ b, b ≠ w.heap.size + 1 → W2.heap[b]? = (W.alloc (.cells (es k).cs 67)).heap[b]? := fun b hb => by rw [← hW2]; exact World.putObj_heap_other hb
    have hk2 : W2.heap[w.heap.size]? = some (.deferred (some [])) := (ho2 _ (by omega)).trans hkA
    have hi2 : I k W2 := by
      refine hI k _ W2 (hI k W _ hi (low_alloc (by omega) (.cells (es k).cs 67))) ?_
      rw [← hW2]; exact low_put _ (by omega) hlA
    have he2 : EAt W2 W.heap.size 0 (es k) := (ebox_new W (es k)).same (ho2 _ (by omega))
    have hw2 : ∀ b, w.heap.size ≤ b → b < W.heap.size → b ≠ w.heap.size + 1 → W2.heap[b]? = W.heap[b]? := fun b _ hb hne => (ho2 b hne).trans (Below.heap_alloc _ _ _ hb)
    refine wpIn_mono (hbody (w.heap.size + 1) k W.heap.size W2 hlt hi2 (by omega) (by omega) he2) ?_
    have fin : ∀ (jump : Option Code) (W3 : World), Kept w.heap.size W2 W3 → ∃ W4, (Instr.endRound (w.heap.size + 1) jump).run Tryz.prog W3 = .ok (.bool jump.isNone) W4 ∧ Below w.heap.size W3 W4 ∧
        W4.heap[w.heap.size + 1]? = some (.loop (rec (if jump.isNone then .ready else .done) jump)) ∧ W4.heap[w.heap.size]? = some (.deferred (some [])) ∧ (∀ b, w.heap.size ≤ b → b < W.heap.size → b ≠ w.heap.size + 1 → W4.heap[b]? = W.heap[b]?) := by
      intro jump W3 hk3
      have hl3 : W3.heap[w.heap.size + 1]? = some (.loop { rec .ready none with state := .busy }) := (hk3.same _ (by omega) (by omega)).trans hl2
      have hd3 : W3.heap[w.heap.size]? = some (.deferred (some [])) := (hk3.same _ (by omega) (by omega)).trans hk2
      have hr := run_endRound (P := Tryz.prog) jump hl3
      rw [hrec] at hr
      refine ⟨_, hr, low_put _ (by omega) hl3, ?_, (World.putObj_heap_other (by omega)).trans hd3, fun b h1 h2 h3 => (World.putObj_heap_other h3).trans ((hk3.same b h1 (by omega)).trans (hw2 b h1 h2 h3))⟩
      rw [hrec]; exact World.putObj_heap_same (Array.getElem?_eq_some_iff.1 hl3).1
    rintro e a3 W3 hp
    cases e
    case normal =>
      obtain ⟨hk3, hi3⟩ := hp
      obtain ⟨W4, hr, hb, hl4, hd4, hs4⟩ := fin none W3 hk3
      exact ⟨_, _, hr, .inl ⟨rfl, ⟨hI _ _ _ hi3 hb, hl4, hd4⟩, hs4⟩⟩
    case ret =>
      obtain ⟨hk3, hi3⟩ := hp
      obtain ⟨W4, hr, hb, hl4, hd4, hs4⟩ := fin (some .ret) W3 hk3
      exact ⟨_, _, hr, .inr (.inl ⟨rfl, .ret, hIx _ _ _ hi3 hb, hl4, hd4⟩)⟩
    case exit id =>
      obtain ⟨hk3, hi3⟩ := hp
      obtain ⟨W4, hr, hb, hl4, hd4, hs4⟩ := fin (some (.exit id)) W3 hk3
      exact ⟨_, _, hr, .inr (.inl ⟨rfl, .exit id, hIx _ _ _ hi3 hb, hl4, hd4⟩)⟩
    case panic ch =>
      obtain ⟨hd, hk3, hi3⟩ := hp
      exact ⟨hd, .inr (.inr ⟨ch, rfl, hi3, (hk3.same _ (by omega) (by omega)).trans hk2⟩)⟩
    all_goals exact hp.elim
  refine wpG_range (l := w.heap.size + 1) (mk := [mark w.heap.size]) (w₁ := W1) (w₁' := W1) (w₂ := W1) (d := { target := .fn (.func 96) #[.pointer (some ⟨cb, 0, none⟩)], args := #[.func (.yield (w.heap.size + 1)) #[] #[]] }) (gf := 96)
    (args := #[.func (.yield (w.heap.size + 1)) #[] #[], .pointer (some ⟨cb, 0, none⟩)]) ?_ ?_ ?_ (callsIn_wide.1 hit) ?_ ?_ ?_
  · rw [← hW1, hrec]; exact run_enterLoop_outer _ _ _ _ _
  · simp only [resolve, hg]
    simp [go_sem]
  · simp [invoke, go_sem]
  · rintro v W3 (⟨v', hv, (⟨hi, hl, hk⟩ | ⟨c, hi, hl, hk⟩)⟩ | ⟨ch, hc, _⟩)
    · refine ⟨none, _, by have := run_endLoop (P := Tryz.prog) hl (by rw [hrec]; simp); rw [hrec] at this; exact this, ?_⟩
      exact hdone _ _ (Nat.le_refl _) (hI _ _ _ hi (low_put _ (by omega) hl)) ((World.putObj_heap_other (by omega)).trans hk)
    · refine ⟨some c, _, by have := run_endLoop (P := Tryz.prog) hl (by rw [hrec]; simp); rw [hrec] at this; exact this, ?_⟩
      exact hstop _ c _ (Nat.le_refl _) (hIx _ _ _ hi (low_put _ (by omega) hl)) ((World.putObj_heap_other (by omega)).trans hk)
    · cases hc
  · rintro ch W3 (⟨v', hv, _⟩ | ⟨ch', hc, hi, hk⟩)
    · cases hv
    · cases hc
      exact hpan _ _ _ (Nat.le_refl _) hi hk
  · rintro W3 (⟨v', hv, _⟩ | ⟨ch', hc, _⟩)
    · cases hv
    · cases hc

theorem wpG_plain {P : Program} {f : FuncId} {c : Code} {Q : Exit → Act → World → Prop} {a : Act} {w : World} (h : c.wp P Q a w) : wpG P f c Q a w := wpG_of (n := 0) (wpIn_wide.2 h)
/-- the marks that loops over functions have left, below hi -/
def Marks (B : Nat) : Nat → List Deferred → World → Prop
  | _, [], _ => True
  | hi, d :: ds, W => ∃ D, d = mark D ∧ B ≤ D ∧ D < hi ∧ W.heap[D]? = some (.deferred (some [])) ∧ Marks B D ds W
theorem Marks.on {B : Nat} {W W' : World} : ∀ {ds : List Deferred} {hi : Nat}, Marks B hi ds W → Below hi W W' → Marks B hi ds W'
  | [], _, _, _ => trivial
  | d :: ds, hi, ⟨D, h1, h2, h3, h4, h5⟩, hb => ⟨D, h1, h2, h3, (hb.block D h3).trans h4, Marks.on h5 (hb.mono (by omega))⟩
theorem Marks.up {B : Nat} {W : World} {ds : List Deferred} {hi hi' : Nat} (h : Marks B hi ds W) (hh : hi ≤ hi') : Marks B hi' ds W := by
  cases ds with
  | nil => trivial
  | cons d ds => obtain ⟨D, h1, h2, h3, h4, h5⟩ := h; exact ⟨D, h1, h2, by omega, h4, h5⟩
theorem Marks.leaves {B : Nat} {F : Fence} {n : Nat} {P : Program} {fn : Func} {tmps : Array Value} {R : Ending → World → Prop} {u : FrameMode} (hu : u ≠ .run) :
    ∀ {ds : List Deferred} {hi : Nat} {W : World}, Marks B hi ds W → (∀ W', Below B W W' → LeavesInM F n P fn tmps R [] u W') → LeavesInM F n P fn tmps R ds u W
  | [], _, W, _, h => h W (Below.refl _ _)
  | d :: ds, hi, W, ⟨D, h1, h2, h3, h4, h5⟩, h => by
    subst h1
    have hb : Below D W (W.putObj D (.deferred none)) := low_put _ (Nat.le_refl _) h4
    exact ⟨hu, .inl ⟨D, _, rfl, run_takeDeferred h4, Marks.leaves hu (h5.on hb) fun W' hw => h W' ((hb.mono h2).trans hw)⟩⟩
end Go.Proofs.YtbpdbggojgijiaaGreatDoor
