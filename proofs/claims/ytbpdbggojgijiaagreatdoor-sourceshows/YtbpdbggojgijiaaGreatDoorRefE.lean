/- Contracts of the document's own answers on data: IsName, mark, isFormat. -/
import Derived.Test.YtbpdbggojgijiaaGreatDoorDataAAll
import Derived.Laws.Strings2
namespace Go.Proofs.YtbpdbggojgijiaaGreatDoor
open Go Go.RowKit
set_option linter.unusedVariables false

theorem ext_list (s : ByteArray) (a b : Nat) : (s.extract a b).data.toList = (s.data.toList.drop a).take (b - a) := by
  obtain ⟨⟨l⟩⟩ := s
  rw [ByteArray.extract_mk]
theorem ext_one (s : ByteArray) (k : Nat) (h : k < s.size) : (s.extract k (k + 1)).data.toList = [s[k]] := by
  rw [ext_list, show k + 1 - k = 1 by omega]
  have hl : k < s.data.toList.length := by simpa using h
  rw [List.drop_eq_getElem_cons hl]
  rfl
theorem ext_size (s : ByteArray) (a b : Nat) : (s.extract a b).size ≤ s.size := by rw [ByteArray.size_extract]; omega
theorem let_one (s : ByteArray) (k : Nat) (h : k < s.size) : allLet (s.extract k (k + 1)).data.toList = ltrB (s[k].toNat : Int) := by
  rw [ext_one s k h]; unfold allLet; simp
theorem letters_v (x : ByteArray) (v : Bool) (w : World) (hx : x.size ≤ maxLen) (hv : allLet x.data.toList = v) : Calls Tryz.prog 37 #[.string x] w fun e w' => e = .returned (.bool v) ∧ w' = w := by
  subst hv; exact letters_c x w hx
theorem nameB_first {s : ByteArray} (h : ltrB (bat s 0) = false) : nameB s = false := by unfold nameB; simp [h]
theorem nameB_last {s : ByteArray} (h : bat s (s.size - 1) = 47) : nameB s = false := by unfold nameB; simp [h]
theorem nameB_all {s : ByteArray} (h : 1 ≤ s.size ∧ s.size ≤ 12) (h2 : allOk s.data.toList = true) (h3 : ltrB (bat s 0) = true) (h4 : bat s (s.size - 1) ≠ 47) : nameB s = true := by unfold nameB; simp [h, h2, h3, h4]

set_option maxRecDepth 100000 in
set_option maxHeartbeats 2000000 in
theorem RIsName_c (s : ByteArray) (w : World) (hs : s.size ≤ maxLen) : Calls Tryz.prog 18 #[.string s] w fun e w' => e = .returned (.bool (nameB s)) ∧ w' = w := by
  have HS := hideH hs
  unfold maxLen at hs
  have hc : (1 ≤ s.size ∧ s.size ≤ 12) ∨ (s.size < 1 ∨ (1 ≤ s.size ∧ 12 < s.size)) := by omega
  rcases hc with ⟨h1, h12⟩ | hc
  · generalize hV : nameB s = V
    have HV := hideH hV
    clear hV
    have hin := in_mk (n := (s.size : Int)) (a := 1) (b := 12) ⟨by omega, by omega⟩
    have hz : 0 < s.size := by omega
    have e0 := bat_eq s 0 hz
    have el := bat_eq s (s.size - 1) (by omega)
    cases hl : ltrB (s[0].toNat : Int)
    · have HX := hideH (nameB_first (s := s) (by rw [e0]; exact hl))
      go_enter Tryz.func18, Tryz.ntmps18
      go_wp2_with (first
        | (go_at_call 17; refine (within_c _ _ _ _).mono ?_; rintro e w ⟨rfl, rfl⟩; rw [hin])
        | (go_at_call 37; refine (letters_v _ false _ (Nat.le_trans (ext_size _ _ _) HS.out) ((let_one s 0 hz).trans hl)).mono ?_; rintro e w ⟨rfl, rfl⟩))
      go_ret
      exact ⟨ret_bool (HX.out.symm.trans HV.out), rfl⟩
    · have hb := s[s.size - 1].toNat_lt
      have hcc : ((s[s.size - 1].toNat : Int) = 47) ∨ ((s[s.size - 1].toNat : Int) ≠ 47) := by omega
      rcases hcc with hcc | hcc
      · have HX := hideH (nameB_last (s := s) (by rw [el]; exact hcc))
        go_enter Tryz.func18, Tryz.ntmps18
        go_wp2_with (first
            | (go_at_call 17; refine (within_c _ _ _ _).mono ?_; rintro e w ⟨rfl, rfl⟩; rw [hin])
            | (go_at_call 37; refine (letters_v _ true _ (Nat.le_trans (ext_size _ _ _) HS.out) ((let_one s 0 hz).trans hl)).mono ?_; rintro e w ⟨rfl, rfl⟩))
        go_ret
        exact ⟨ret_bool (HX.out.symm.trans HV.out), rfl⟩
      · have HF := hideH (show allOk s.data.toList = true → nameB s = true from fun h => nameB_all ⟨h1, h12⟩ h (by rw [e0]; exact hl) (by rw [el]; exact hcc))
        have hcb : ((s[s.size - 1].toNat : Int) == 47) = false := beq_eq_false_iff_ne.2 hcc
        clear hcc
        go_enter Tryz.func18, Tryz.ntmps18
        go_wp2_with (first
            | (go_at_call 17; refine (within_c _ _ _ _).mono ?_; rintro e w ⟨rfl, rfl⟩; rw [hin])
            | (go_at_call 37; refine (letters_v _ true _ (Nat.le_trans (ext_size _ _ _) HS.out) ((let_one s 0 hz).trans hl)).mono ?_; rintro e w ⟨rfl, rfl⟩))
        clear hin hl e0 el hb hz hcb
        go_loop [3] (fun x3 => ∃ k : Nat, k ≤ s.size ∧ x3 = .int .i64 k ∧ Hid (allOk (s.data.toList.take k) = true)) (fun x3 => s.size - (intOf x3).toNat)
        case atStart => exact ⟨0, Nat.zero_le _, rfl, rfl⟩
        case round =>
          obtain ⟨k, hk, rfl, HA⟩ := hrel
          by_cases hlt : k < s.size
          · have hb := s[k].toNat_lt
            have hk2 : (k : Int) + 1 ≤ (s.size : Int) := by omega
            have hk3 : (k : Int) ≤ (k : Int) + 1 := by omega
            cases hk1 : ltrB (s[k].toNat : Int)
            · have hcs : (48 ≤ (s[k].toNat : Int) ∧ (s[k].toNat : Int) ≤ 57) ∨ ((s[k].toNat : Int) = 47) ∨ ((s[k].toNat : Int) = 43) ∨ ((s[k].toNat : Int) = 45) ∨ ((s[k].toNat : Int) = 95) ∨ ((s[k].toNat : Int) < 48 ∧ (s[k].toNat : Int) ≠ 47 ∧ (s[k].toNat : Int) ≠ 43 ∧ (s[k].toNat : Int) ≠ 45) ∨ (57 < (s[k].toNat : Int) ∧ (s[k].toNat : Int) ≠ 95) := by omega
              rcases hcs with ⟨c1, c2⟩ | c1 | c1 | c1 | c1 | ⟨c1, c2, c3, c4⟩ | ⟨c1, c2⟩
              · have HB := hideH (allOk_snoc s k hlt HA.out (by unfold okB digB; simp; omega))
                go_wp2_with (go_at_call 37; refine (letters_v _ false _ (Nat.le_trans (ext_size _ _ _) HS.out) ((let_one s k hlt).trans hk1)).mono ?_; rintro e w ⟨rfl, rfl⟩)
                exact ⟨⟨k + 1, by omega, by first | omega | go_num, HB⟩, by simp [intOf]; omega⟩
              iterate 4
                · have HB := hideH (allOk_snoc s k hlt HA.out (by unfold okB sgnB; simp; omega))
                  go_wp2_with (go_at_call 37; refine (letters_v _ false _ (Nat.le_trans (ext_size _ _ _) HS.out) ((let_one s k hlt).trans hk1)).mono ?_; rintro e w ⟨rfl, rfl⟩)
                  exact ⟨⟨k + 1, by omega, by first | omega | go_num, HB⟩, by simp [intOf]; omega⟩
              · have HX := hideH (nameB_bad (allOk_bad s k hlt (by unfold okB digB sgnB; rw [hk1]; simp; omega)))
                have n47 : ((s[k].toNat : Int) != 47) = true := by rw [bne_iff_ne]; omega
                have n95 : ((s[k].toNat : Int) != 95) = true := by rw [bne_iff_ne]; omega
                have n43 : ((s[k].toNat : Int) != 43) = true := by rw [bne_iff_ne]; omega
                have n45 : ((s[k].toNat : Int) != 45) = true := by rw [bne_iff_ne]; omega
                clear c2 c3 c4
                go_wp2_with (go_at_call 37; refine (letters_v _ false _ (Nat.le_trans (ext_size _ _ _) HS.out) ((let_one s k hlt).trans hk1)).mono ?_; rintro e w ⟨rfl, rfl⟩)
                go_ret
                exact ⟨ret_bool (HX.out.symm.trans HV.out), rfl⟩
              · have HX := hideH (nameB_bad (allOk_bad s k hlt (by unfold okB digB sgnB; rw [hk1]; simp; omega)))
                have n47 : ((s[k].toNat : Int) != 47) = true := by rw [bne_iff_ne]; omega
                have n95 : ((s[k].toNat : Int) != 95) = true := by rw [bne_iff_ne]; omega
                have n43 : ((s[k].toNat : Int) != 43) = true := by rw [bne_iff_ne]; omega
                have n45 : ((s[k].toNat : Int) != 45) = true := by rw [bne_iff_ne]; omega
                have d57 : decide ((s[k].toNat : Int) ≤ 57) = false := by simp; omega
                have d48 : 48 ≤ (s[k].toNat : Int) := by omega
                clear c1 c2
                go_wp2_with (go_at_call 37; refine (letters_v _ false _ (Nat.le_trans (ext_size _ _ _) HS.out) ((let_one s k hlt).trans hk1)).mono ?_; rintro e w ⟨rfl, rfl⟩)
                go_ret
                exact ⟨ret_bool (HX.out.symm.trans HV.out), rfl⟩
            · have HB := hideH (allOk_snoc s k hlt HA.out (by unfold okB; simp [hk1]))
              go_wp2_with (go_at_call 37; refine (letters_v _ true _ (Nat.le_trans (ext_size _ _ _) HS.out) ((let_one s k hlt).trans hk1)).mono ?_; rintro e w ⟨rfl, rfl⟩)
              exact ⟨⟨k + 1, by omega, by first | omega | go_num, HB⟩, by simp [intOf]; omega⟩
          · have HX := hideH (HF.out (by have ha := HA.out; rw [List.take_of_length_le (by simp; omega)] at ha; exact ha))
            go_wp2_with fail
            go_ret
            exact ⟨ret_bool (HX.out.symm.trans HV.out), rfl⟩
  · have hin := in_not (n := (s.size : Int)) (a := 1) (b := 12) (by omega)
    rw [nameB_long (s := s) (by omega)]
    go_enter Tryz.func18, Tryz.ntmps18
    go_wp2_with (go_at_call 17; refine (within_c _ _ _ _).mono ?_; rintro e w ⟨rfl, rfl⟩; rw [hin])
    go_ret
    exact ⟨rfl, rfl⟩
end Go.Proofs.YtbpdbggojgijiaaGreatDoor
