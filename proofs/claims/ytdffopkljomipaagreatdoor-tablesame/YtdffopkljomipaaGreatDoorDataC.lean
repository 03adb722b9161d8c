/- Contracts of package data: isFormat, inBounds. -/
import Derived.Test.YtdffopkljomipaaGreatDoorDataB
namespace Go.Proofs.YtdffopkljomipaaGreatDoor
open Go Go.RowKit
set_option linter.unusedVariables false

/-- internal/bytealg.MaxLen holds a number -/
def Mx (w : World) : Prop := ∃ m, w.cell? ⟨0, 0, none⟩ = some (.int .i64 m)
theorem Mx.on {w w' : World} (h : Mx w) (hb : Below w.heap.size w w') : Mx w' := by
  obtain ⟨m, hm⟩ := h
  exact ⟨m, cell_on hm hb⟩
/-- '%s' -/
abbrev pct : List UInt8 := [37, 115]
theorem rep1 (l new : List UInt8) (hn : (pct == new) = false) : Lib.replace l pct new 1 = if Lib.index l pct = -1 then l else l.take (Lib.index l pct).toNat ++ new ++ l.drop ((Lib.index l pct).toNat + 2) := by
  unfold Lib.replace
  rw [hn]
  simp only [Bool.false_eq_true, if_false]
  by_cases h : Lib.index l pct = -1
  · rw [if_pos h]
    have hc : Lib.count l pct = 0 := by unfold Lib.count Lib.countFrom; rw [if_pos (by rw [h]; rfl)]
    unfold Lib.replaceNum
    rw [hc, if_pos (.inr (by decide))]
    rfl
  · rw [if_neg h]
    have hc : 1 ≤ Lib.count l pct := by unfold Lib.count Lib.countFrom; rw [if_neg (by simpa using h)]; omega
    unfold Lib.replaceNum
    rw [if_neg (by omega)]
    have hge := Lib.index_ge l pct
    have hk := Lib.replaceK_hit pct new 0 l (Lib.index l pct).toNat (by omega)
    exact hk
theorem rep1_len (l : List UInt8) : (Lib.replace l pct [] 1).length ≤ l.length := by
  rw [rep1 l [] rfl]
  split
  · exact Nat.le_refl _
  · rw [List.append_nil, List.length_append, List.length_take, List.length_drop]; omega
def fmtB (s : ByteArray) : Bool := decide (1 ≤ s.size ∧ s.size ≤ 12) && allLet (Lib.replace s.data.toList pct [] 1)
set_option maxHeartbeats 4000000 in
theorem disFormat_c (s : ByteArray) (w : World) (hs : s.size ≤ maxLen) (hM : Mx w) : Calls Tryz.prog 93 #[.string s] w fun e w' => e = .returned (.bool (fmtB s)) ∧ Below w.heap.size w w' := by
  unfold maxLen at hs
  have hc : (1 ≤ s.size ∧ s.size ≤ 12) ∨ (s.size < 1 ∨ (1 ≤ s.size ∧ 12 < s.size)) := by omega
  rcases hc with ⟨h1, h12⟩ | hc
  · obtain ⟨m, hm⟩ := hM
    have hv : fmtB s = allLet (Lib.replace s.data.toList pct [] 1) := by unfold fmtB; simp [h1, h12]
    rw [hv]
    clear hv
    have hlen := rep1_len s.data.toList
    have HM := hideH hm
    clear hm
    have hsz : s.data.toList.length = s.size := by simp
    obtain ⟨r, hr⟩ : ∃ r : ByteArray, r = ⟨(Lib.replace s.data.toList pct [] 1).toArray⟩ := ⟨_, rfl⟩
    have hrd : r.data.toList = Lib.replace s.data.toList pct [] 1 := by rw [hr]
    have hrs : r.size ≤ 12 := by
      have : r.size = r.data.toList.length := by simp
      rw [this, hrd]; omega
    rw [← hrd]
    have HR : Hid (r = ⟨(Lib.replace s.data.toList pct [] 1).toArray⟩) := hr
    clear hr hrd hlen hsz
    go_enter Tryz.func93, Tryz.ntmps93
    go_wp2_with fail
    refine (Tryz.strings_Replace s ⟨#[37, 115]⟩ ⟨#[]⟩ 1 m _ (by omega) HM.out (by decide) (by show s.size + _ * 0 ≤ _; omega)).mono ?_
    rintro e w1 ⟨rfl, hw1⟩
    have HW := hideH hw1
    clear hw1
    have hval : (Value.string ⟨(Lib.replace s.data.toList ([37, 115] : List UInt8) [] 1).toArray⟩) = .string r := by rw [HR.out]
    simp only [hval]
    clear hval
    go_wp2_with fail
    go_loop [4] (fun i => ∃ k : Nat, k ≤ r.size ∧ i = .int .i64 k ∧ allLet (r.data.toList.take k) = true) (fun i => r.size - (intOf i).toNat)
    case atStart => exact ⟨0, Nat.zero_le _, rfl, rfl⟩
    case round =>
      obtain ⟨k, hk, rfl, ha⟩ := hrel
      by_cases hlt : k < r.size
      · cases hl : ltrB (r[k].toNat : Int)
        · have HB := hideH (all_bad r k hlt hl)
          clear ha
          have hb := r[k].toNat_lt
          go_wp2_with (go_at_call 89; refine (disLetter_c _ _ (by omega) (by omega)).mono ?_; rintro e w1 ⟨rfl, rfl⟩)
          go_ret
          exact ⟨ret_bool HB.out.symm, HW.out⟩
        · have HA := hideH (all_snoc r k hlt ha hl)
          clear ha
          have hb := r[k].toNat_lt
          go_wp2_with (go_at_call 89; refine (disLetter_c _ _ (by omega) (by omega)).mono ?_; rintro e w1 ⟨rfl, rfl⟩)
          go_round
          case rel => exact ⟨k + 1, by omega, by go_num, HA.out⟩
          case measure => simp [intOf]; omega
      · have hk' : k = r.size := by omega
        have HA := hideH ha
        clear ha
        go_wp2_with fail
        go_ret
        exact ⟨ret_bool (by have := HA.out; rw [List.take_of_length_le (by simp; omega)] at this; exact this.symm), HW.out⟩
  · have hv : fmtB s = false := by unfold fmtB; simp; omega
    rw [hv]
    clear hv
    rcases hc with hc | ⟨hc, hc'⟩
    all_goals
      go_enter Tryz.func93, Tryz.ntmps93
      go_wp2_with fail
      go_ret
      exact ⟨rfl, Below.refl _ _⟩

/-- an era's bounds, but for its end -/
def ebnd (x : Er) (n : Int) : Bool := decide (-50400 ≤ x.std ∧ x.std ≤ 50400 ∧ -1 ≤ x.set ∧ x.set < n ∧ 0 ≤ x.sv ∧ (0 ≤ x.set ∧ x.sv ≤ 0 ∨ x.set < 0 ∧ x.sv ≤ 7200))
set_option maxHeartbeats 4000000 in
theorem dinBounds_c (x : Er) (n : Int) (w : World) : Calls Tryz.prog 92 #[x.v, .int .i64 n] w fun e w' => e = .returned (.bool (ebnd x n)) ∧ Below w.heap.size w w' := by
  have hc : (0 ≤ x.set ∨ x.set < 0) := by omega
  have hd : (x.std < -50400 ∨ -50400 ≤ x.std ∧ (50400 < x.std ∨ x.std ≤ 50400 ∧ (x.set < -1 ∨ -1 ≤ x.set ∧ (n ≤ x.set ∨ x.set < n ∧ (x.sv < 0 ∨ 0 ≤ x.sv))))) := by omega
  have hb := hideH ((Below.refl _ w).alloc (Nat.le_refl _) (.cells #[.int .i64 x.std, .int .i64 x.set, .int .i64 x.sv, .string x.fm, .int .i64 x.un] 50))
  generalize hV : ebnd x n = V
  have HV := hideH hV
  clear hV
  rcases hc with hc | hc
  all_goals
    rcases hd with h1 | ⟨h1, h2 | ⟨h2, h3 | ⟨h3, h4 | ⟨h4, h5 | h5⟩⟩⟩⟩
    all_goals first
      | (exfalso; omega)
      | (go_enter Tryz.func92, Tryz.ntmps92
         go_wp2_with fail
         go_ret
         exact ⟨ret_bool (by rw [← HV.out]; unfold ebnd; rw [Bool.eq_iff_iff]; simp; try omega), hb.out⟩)
end Go.Proofs.YtdffopkljomipaaGreatDoor
