/- Contracts of package data: refuse, letters, digits, Name. -/
import Derived.Test.YtdffopkljomipaaGreatDoorRulesAAll
import Derived.Test.YtdffopkljomipaaGreatDoorShelf
namespace Go.Proofs.YtdffopkljomipaaGreatDoor
open Go Go.RowKit
set_option linter.unusedVariables false

/-- an error, as it is panicked with -/
abbrev errV (e : Int) : Value := .iface 28 (.int .i64 e)
/-- how a function that refuses is left -/
def left (e : Int) : Ending := if e = 0 then .returned (.tuple #[]) else .panicked [{ v := errV e, recovered := false }]
theorem left_ok : left 0 = .returned (.tuple #[]) := rfl
theorem left_no {e : Int} (h : e ≠ 0) : left e = .panicked [{ v := errV e, recovered := false }] := by unfold left; rw [if_neg h]

theorem refuse_no (e : Int) (w : World) : Calls Tryz.prog 51 #[.bool false, .int .i64 e] w fun x w' => x = .returned (.tuple #[]) ∧ w' = w := by
  go_enter Tryz.func51, Tryz.ntmps51
  go_wp2
  go_end0
  exact ⟨rfl, rfl⟩
theorem refuse_yes (e : Int) (w : World) : Calls Tryz.prog 51 #[.bool true, .int .i64 e] w fun x w' => x = .panicked [{ v := errV e, recovered := false }] ∧ w' = w := by
  go_enter Tryz.func51, Tryz.ntmps51
  go_wp2
  exact ⟨rfl, rfl, rfl⟩
theorem refuse_f {b : Bool} (h : b = false) (e : Int) (w : World) : Calls Tryz.prog 51 #[.bool b, .int .i64 e] w fun x w' => x = .returned (.tuple #[]) ∧ w' = w := by
  subst h; exact refuse_no e w
theorem refuse_t {b : Bool} (h : b = true) (e : Int) (w : World) : Calls Tryz.prog 51 #[.bool b, .int .i64 e] w fun x w' => x = .panicked [{ v := errV e, recovered := false }] ∧ w' = w := by
  subst h; exact refuse_yes e w
theorem refuse_c (b : Bool) (e : Int) (he : e ≠ 0) (w : World) : Calls Tryz.prog 51 #[.bool b, .int .i64 e] w fun x w' => x = left (if b then e else 0) ∧ w' = w := by
  cases b
  · exact refuse_no e w
  · simp only [if_true, left_no he]
    exact refuse_yes e w

theorem disLetter_c (n : Int) (w : World) (h0 : 0 ≤ n) (h255 : n ≤ 255) : Calls Tryz.prog 89 #[.int .u8 n] w fun e w' => e = .returned (.bool (ltrB n)) ∧ w' = w := by
  have h : n < 65 ∨ (65 ≤ n ∧ n ≤ 90) ∨ (90 < n ∧ n < 97) ∨ (97 ≤ n ∧ n ≤ 122) ∨ (122 < n) := by omega
  rcases h with h | ⟨h, h'⟩ | ⟨h, h'⟩ | ⟨h, h'⟩ | h
  all_goals
    go_enter Tryz.func89, Tryz.ntmps89
    go_wp2
    go_ret
    exact ⟨ret_bool (by unfold ltrB; rw [Bool.eq_iff_iff]; simp; try omega), rfl⟩
def digB (n : Int) : Bool := decide (48 ≤ n ∧ n ≤ 57)
theorem disDigit_c (n : Int) (w : World) (h0 : 0 ≤ n) (h255 : n ≤ 255) : Calls Tryz.prog 90 #[.int .u8 n] w fun e w' => e = .returned (.bool (digB n)) ∧ w' = w := by
  have h : n < 48 ∨ (48 ≤ n ∧ n ≤ 57) ∨ (57 < n) := by omega
  rcases h with h | ⟨h, h'⟩ | h
  all_goals
    go_enter Tryz.func90, Tryz.ntmps90
    go_wp2
    go_ret
    exact ⟨ret_bool (by unfold digB; rw [Bool.eq_iff_iff]; simp; try omega), rfl⟩
def sgnB (n : Int) : Bool := decide (n = 47 ∨ n = 95 ∨ n = 43 ∨ n = 45)
theorem u8_ne {c d : UInt8} (h : c ≠ d) : (c.toNat : Int) ≠ (d.toNat : Int) := fun e => h (UInt8.toNat_inj.1 (by omega))
theorem sgn_lib (c : UInt8) : Lib.indexByte [47, 95, 43, 45] c < 0 ↔ sgnB c.toNat = false := by
  by_cases h1 : c = 47
  · subst h1; decide
  by_cases h2 : c = 95
  · subst h2; decide
  by_cases h3 : c = 43
  · subst h3; decide
  by_cases h4 : c = 45
  · subst h4; decide
  have e1 : (47 == c) = false := beq_eq_false_iff_ne.2 (Ne.symm h1)
  have e2 : (95 == c) = false := beq_eq_false_iff_ne.2 (Ne.symm h2)
  have e3 : (43 == c) = false := beq_eq_false_iff_ne.2 (Ne.symm h3)
  have e4 : (45 == c) = false := beq_eq_false_iff_ne.2 (Ne.symm h4)
  have g1 := u8_ne h1
  have g2 := u8_ne h2
  have g3 := u8_ne h3
  have g4 := u8_ne h4
  simp at g1 g2 g3 g4
  unfold sgnB
  simp only [Lib.indexByte, e1, e2, e3, e4]
  simp
  omega
/-- what may stand in a name -/
def okB (n : Int) : Bool := ltrB n || digB n || sgnB n
def allOk (l : List UInt8) : Bool := l.all fun c => okB c.toNat
theorem allOk_snoc (s : ByteArray) (k : Nat) (h : k < s.size) (h1 : allOk (s.data.toList.take k) = true) (h2 : okB (s[k].toNat : Int) = true) : allOk (s.data.toList.take (k + 1)) = true := by
  rw [take_snoc s k h]; unfold allOk at *; rw [List.all_append, h1]; simpa using h2
theorem allOk_bad (s : ByteArray) (k : Nat) (h : k < s.size) (h2 : okB (s[k].toNat : Int) = false) : allOk s.data.toList = false := by
  unfold allOk
  rw [List.all_eq_false]
  exact ⟨s[k], by simp [ByteArray.getElem_eq_getElem_data], by simpa using h2⟩
/-- the byte at k -/
def bat (s : ByteArray) (k : Nat) : Int := (s.data.toList[k]?.getD 0).toNat
theorem bat_eq (s : ByteArray) (k : Nat) (h : k < s.size) : bat s k = (s[k].toNat : Int) := by
  unfold bat
  rw [List.getElem?_eq_getElem (by simpa using h)]
  rfl
def nameB (s : ByteArray) : Bool := decide (1 ≤ s.size ∧ s.size ≤ 12) && (allOk s.data.toList && (ltrB (bat s 0) && (bat s (s.size - 1) != 47)))
theorem nameB_long {s : ByteArray} (h : ¬ (1 ≤ s.size ∧ s.size ≤ 12)) : nameB s = false := by unfold nameB; simp [h]
theorem nameB_bad {s : ByteArray} (h : allOk s.data.toList = false) : nameB s = false := by unfold nameB; simp [h]
theorem nameB_eq {s : ByteArray} (h : 1 ≤ s.size ∧ s.size ≤ 12) (h2 : allOk s.data.toList = true) : nameB s = (ltrB (bat s 0) && (bat s (s.size - 1) != 47)) := by unfold nameB; simp [h, h2]
set_option maxHeartbeats 4000000 in
theorem Name_c (s : ByteArray) (w : World) (hs : s.size ≤ maxLen) : Calls Tryz.prog 61 #[.string s] w fun e w' => e = .returned (.bool (nameB s)) ∧ w' = w := by
  unfold maxLen at hs
  have hc : (1 ≤ s.size ∧ s.size ≤ 12) ∨ (s.size < 1 ∨ (1 ≤ s.size ∧ 12 < s.size)) := by omega
  rcases hc with ⟨h1, h12⟩ | hc
  · generalize hV : nameB s = V
    have HV := hideH hV
    clear hV
    go_enter Tryz.func61, Tryz.ntmps61
    go_wp2_with fail
    go_loop [3] (fun i => ∃ k : Nat, k ≤ s.size ∧ i = .int .i64 k ∧ allOk (s.data.toList.take k) = true) (fun i => s.size - (intOf i).toNat)
    case atStart => exact ⟨0, Nat.zero_le _, rfl, rfl⟩
    case round =>
      obtain ⟨k, hk, rfl, ha⟩ := hrel
      by_cases hlt : k < s.size
      · have hb := s[k].toNat_lt
        have HA := hideH ha
        clear ha
        have hlib := sgn_lib s[k]
        cases hl : ltrB (s[k].toNat : Int)
        · cases hd : digB (s[k].toNat : Int)
          · cases hg : sgnB (s[k].toNat : Int)
            · have HB := hideH (allOk_bad s k hlt (by unfold okB; simp [hl, hd, hg]))
              have hx : Lib.indexByte [47, 95, 43, 45] s[k] < 0 := hlib.2 hg
              clear hlib
              go_wp2_with (first
                | (go_at_call 89; refine (disLetter_c _ _ (by omega) (by omega)).mono ?_; rintro e w ⟨rfl, rfl⟩)
                | (go_at_call 90; refine (disDigit_c _ _ (by omega) (by omega)).mono ?_; rintro e w ⟨rfl, rfl⟩)
                | (go_at_call 91; refine (Tryz.strings_IndexByte _ _ _).mono ?_; rintro e w ⟨rfl, rfl⟩))
              go_ret
              exact ⟨ret_bool ((nameB_bad HB.out).symm.trans HV.out), rfl⟩
            · have HB := hideH (allOk_snoc s k hlt HA.out (by unfold okB; simp [hg]))
              have hx : ¬ Lib.indexByte [47, 95, 43, 45] s[k] < 0 := by rw [hlib, hg]; simp
              clear hlib
              go_wp2_with (first
                | (go_at_call 89; refine (disLetter_c _ _ (by omega) (by omega)).mono ?_; rintro e w ⟨rfl, rfl⟩)
                | (go_at_call 90; refine (disDigit_c _ _ (by omega) (by omega)).mono ?_; rintro e w ⟨rfl, rfl⟩)
                | (go_at_call 91; refine (Tryz.strings_IndexByte _ _ _).mono ?_; rintro e w ⟨rfl, rfl⟩))
              go_round
              case rel => exact ⟨k + 1, by omega, by go_num, HB.out⟩
              case measure => simp [intOf]; omega
          · have HB := hideH (allOk_snoc s k hlt HA.out (by unfold okB; simp [hd]))
            clear hlib
            go_wp2_with (first
              | (go_at_call 89; refine (disLetter_c _ _ (by omega) (by omega)).mono ?_; rintro e w ⟨rfl, rfl⟩)
              | (go_at_call 90; refine (disDigit_c _ _ (by omega) (by omega)).mono ?_; rintro e w ⟨rfl, rfl⟩))
            go_round
            case rel => exact ⟨k + 1, by omega, by go_num, HB.out⟩
            case measure => simp [intOf]; omega
        · have HB := hideH (allOk_snoc s k hlt HA.out (by unfold okB; simp [hl]))
          clear hlib
          go_wp2_with (go_at_call 89; refine (disLetter_c _ _ (by omega) (by omega)).mono ?_; rintro e w ⟨rfl, rfl⟩)
          go_round
          case rel => exact ⟨k + 1, by omega, by go_num, HB.out⟩
          case measure => simp [intOf]; omega
      · have hk' : k = s.size := by omega
        have HA := hideH (nameB_eq ⟨h1, h12⟩ (by rw [List.take_of_length_le (by simp; omega)] at ha; exact ha))
        clear ha
        have b1 := s[0].toNat_lt
        have b2 := s[s.size - 1].toNat_lt
        have HE := hideH (bat_eq s 0 (by omega))
        have HF := hideH (bat_eq s (s.size - 1) (by omega))
        cases hl : ltrB (s[0].toNat : Int)
        · go_wp2_with (go_at_call 89; refine (disLetter_c _ _ (by omega) (by omega)).mono ?_; rintro e w ⟨rfl, rfl⟩)
          go_ret
          exact ⟨ret_bool (by rw [← HV.out, HA.out, HE.out, hl]; rfl), rfl⟩
        · go_wp2_with (go_at_call 89; refine (disLetter_c _ _ (by omega) (by omega)).mono ?_; rintro e w ⟨rfl, rfl⟩)
          go_ret
          exact ⟨ret_bool (by rw [← HV.out, HA.out, HE.out, hl, HF.out]; simp), rfl⟩
  · have hv : nameB s = false := nameB_long (by omega)
    rw [hv]
    clear hv
    rcases hc with hc | ⟨hc, hc'⟩
    all_goals
      go_enter Tryz.func61, Tryz.ntmps61
      go_wp2_with fail
      go_ret
      exact ⟨rfl, rfl⟩
end Go.Proofs.YtdffopkljomipaaGreatDoor
