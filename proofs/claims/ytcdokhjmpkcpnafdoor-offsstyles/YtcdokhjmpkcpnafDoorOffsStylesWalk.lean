/- The walk of the statement OffsStyles: it returns true, and nothing that lay in memory has turned. -/
import Derived.Test.YtcdokhjmpkcpnafDoorOffsC
namespace Go.Proofs.YtcdokhjmpkcpnafDoor
open Go Go.RowKit
set_option linter.unusedVariables false

theorem off_neg {n : Int} (h : Ofs.offB n = true) : Ofs.offB (-n) = true := by
  unfold Ofs.offB at h ⊢
  simp only [decide_eq_true_eq] at h ⊢
  refine ⟨by omega, by omega, ?_⟩
  rw [Int.neg_tmod, h.2.2]; rfl
/-- the five letters of an offset that is not 0 -/
theorem sh_letters {n : Int} (h : Ofs.offB n = true) (h0 : n ≠ 0) : ∃ x1 x2 x3 x4 : UInt8, ∃ d : List UInt8,
    Ofs.sh 1 n = [if n < 0 then 45 else 43, x1, x2, x3, x4] ∧ Ofs.sh 1 (-n) = [if n < 0 then 43 else 45, x1, x2, x3, x4] ∧ Ofs.sh 2 n = [if n < 0 then 45 else 43, x1, x2, 58, x3, x4] ∧
    Ofs.sh 4 n = [71, 77, 84, if n < 0 then 45 else 43, x1, x2, 58, x3, x4] ∧ Ofs.sh 3 n = d ∧ d.length ≤ 9 := by
  have hr : -57600 ≤ n ∧ n ≤ 57600 := by unfold Ofs.offB at h; simp only [decide_eq_true_eq] at h; omega
  refine ⟨UInt8.ofNat (48 + n.natAbs / 3600 / 10), UInt8.ofNat (48 + n.natAbs / 3600 % 10), UInt8.ofNat (48 + n.natAbs % 3600 / 60 / 10), UInt8.ofNat (48 + n.natAbs % 3600 / 60 % 10), Ofs.sh 3 n, ?_, ?_, ?_, ?_, rfl, ?_⟩
  · unfold Ofs.sh Ofs.shF
    rw [if_neg h0]
    show [] ++ [_] ++ Ofs.clk [] false _ _ = _
    rfl
  · unfold Ofs.sh Ofs.shF
    rw [if_neg (by omega)]
    show [] ++ [_] ++ Ofs.clk [] false _ _ = _
    rw [Int.natAbs_neg]
    by_cases hn : n < 0
    · rw [if_neg (by omega), if_pos hn]; rfl
    · rw [if_pos (by omega), if_neg hn]; rfl
  · unfold Ofs.sh Ofs.shF
    rw [if_neg h0]
    rfl
  · unfold Ofs.sh Ofs.shF
    rw [if_neg h0]
    rfl
  · unfold Ofs.sh Ofs.shF
    rw [if_neg h0]
    have := clk_len (Ofs.bb 3) (Ofs.brB 3) (n.natAbs / 3600) (n.natAbs % 3600 / 60)
    have e1 : (Ofs.bb 3).length = 1 := rfl
    have e2 : (Ofs.aa 3).length = 3 := rfl
    simp only [List.length_append, List.length_cons, List.length_nil]
    omega
theorem cut1 (s x1 x2 x3 x4 : UInt8) : (⟨#[s, x1, x2, x3, x4]⟩ : ByteArray).extract 0 3 = ⟨#[s, x1, x2]⟩ := by apply ByteArray.ext; simp
theorem cut2 (s x1 x2 x3 x4 : UInt8) : (⟨#[s, x1, x2, x3, x4]⟩ : ByteArray).extract 3 5 = ⟨#[x3, x4]⟩ := by apply ByteArray.ext; simp
theorem cut3 (s x1 x2 x3 x4 : UInt8) : (⟨#[s, x1, x2, x3, x4]⟩ : ByteArray).extract 1 5 = ⟨#[x1, x2, x3, x4]⟩ := by apply ByteArray.ext; simp
theorem cut4 (s x1 x2 : UInt8) : (⟨#[s, x1, x2]⟩ : ByteArray) ++ ⟨#[58]⟩ = ⟨#[s, x1, x2, 58]⟩ := bapp _ _
theorem cut5 (s x1 x2 x3 x4 : UInt8) : (⟨#[s, x1, x2, 58]⟩ : ByteArray) ++ ⟨#[x3, x4]⟩ = ⟨#[s, x1, x2, 58, x3, x4]⟩ := bapp _ _
theorem cut6 (s x1 x2 x3 x4 : UInt8) : (⟨#[71, 77, 84]⟩ : ByteArray) ++ ⟨#[s, x1, x2, 58, x3, x4]⟩ = ⟨#[71, 77, 84, s, x1, x2, 58, x3, x4]⟩ := bapp _ _
theorem cut8 (s x1 x2 x3 x4 : UInt8) (h : 0 < (⟨#[s, x1, x2, x3, x4]⟩ : ByteArray).size) : (⟨#[s, x1, x2, x3, x4]⟩ : ByteArray)[0] = s := rfl
theorem shw_yes {st n : Int} (h : Ofs.isSt st = true) (ho : Ofs.offB n = true) : shwT st n = Ofs.sh st n ∧ shwE st n = 0 := by
  unfold shwT shwE; rw [if_pos ⟨h, ho⟩, if_pos h, if_pos ho]; exact ⟨rfl, rfl⟩
theorem shw_no {st n : Int} (h : Ofs.isSt st = true) (ho : Ofs.offB n = false) : shwT st n = [] ∧ shwE st n = 3 := by
  unfold shwT shwE; simp [h, ho]
set_option maxRecDepth 100000 in
set_option maxHeartbeats 8000000 in
theorem OffsStyles_w (n : Int) (w : World) (hE : EV w) (hn : -9223372036854775808 ≤ n ∧ n ≤ 9223372036854775807) : Calls Tryd.prog 5 #[.int .i64 n] w fun e w' => e = .returned (.bool true) ∧ Below w.heap.size w w' := by
  have HBg : Hid (∀ v, Below w.heap.size w v → Calls Tryd.prog 10 #[] v fun e w' => e = .returned (.bool true) ∧ Below v.heap.size v w') := fun v hv => offsBegun_c v (hE.on hv)
  clear hE
  have HS1 := hideO (fun v => Show_c 1 n v)
  have HS2 := hideO (fun v => Show_c 2 n v)
  have HS3 := hideO (fun v => Show_c 3 n v)
  have HS4 := hideO (fun v => Show_c 4 n v)
  cases ho : Ofs.offB n
  · rw [(shw_no rfl ho).1, (shw_no rfl ho).2] at HS1 HS2 HS3 HS4
    clear ho
    go_enter Tryd.func5, Tryd.ntmps5
    go_wp2_with fail
    refine (HS1.out _).mono ?_
    rintro e w1 ⟨rfl, h1⟩
    have H1 := hideO h1
    clear h1
    go_wp2_with fail
    refine (HS2.out _).mono ?_
    rintro e w2 ⟨rfl, h2⟩
    have H2 := hideO (bthenO H1.out h2)
    clear h2
    go_wp2_with fail
    refine (HS4.out _).mono ?_
    rintro e w3 ⟨rfl, h3⟩
    have H3 := hideO (bthenO H2.out h3)
    clear h3
    go_wp2_with fail
    refine (HS3.out _).mono ?_
    rintro e w4 ⟨rfl, h4⟩
    have H4 := hideO (bthenO H3.out h4)
    clear h4
    go_wp2_with (go_at_call 10; refine (HBg.out _ H4.out).mono ?_; rintro e w5 ⟨rfl, hw5⟩)
    go_ret
    exact ⟨rfl, bthenO H4.out hw5⟩
  · by_cases h0 : n = 0
    · subst h0
      have e1 : shwT 1 0 = [43, 48, 48, 48, 48] ∧ shwE 1 0 = 0 := by decide +kernel
      have e2 : shwT 2 0 = [90] ∧ shwE 2 0 = 0 := by decide +kernel
      have e3 : shwT 3 0 = [71, 77, 84] ∧ shwE 3 0 = 0 := by decide +kernel
      have e4 : shwT 4 0 = [71, 77, 84] ∧ shwE 4 0 = 0 := by decide +kernel
      rw [e1.1, e1.2] at HS1
      rw [e2.1, e2.2] at HS2
      rw [e3.1, e3.2] at HS3
      rw [e4.1, e4.2] at HS4
      clear ho e1 e2 e3 e4
      go_enter Tryd.func5, Tryd.ntmps5
      go_wp2_with fail
      refine (HS1.out _).mono ?_
      rintro e w1 ⟨rfl, h1⟩
      have H1 := hideO h1
      clear h1
      go_wp2_with fail
      refine (HS2.out _).mono ?_
      rintro e w2 ⟨rfl, h2⟩
      have H2 := hideO (bthenO H1.out h2)
      clear h2
      go_wp2_with fail
      refine (HS4.out _).mono ?_
      rintro e w3 ⟨rfl, h3⟩
      have H3 := hideO (bthenO H2.out h3)
      clear h3
      go_wp2_with fail
      refine (HS3.out _).mono ?_
      rintro e w4 ⟨rfl, h4⟩
      have H4 := hideO (bthenO H3.out h4)
      clear h4
      go_wp2_with (go_at_call 10; refine (HBg.out _ H4.out).mono ?_; rintro e w5 ⟨rfl, hw5⟩)
      go_ret
      exact ⟨rfl, bthenO H4.out hw5⟩
    · obtain ⟨x1, x2, x3, x4, d, s1, s1n, s2, s4, s3, hd⟩ := sh_letters ho h0
      have hr : -57600 ≤ n ∧ n ≤ 57600 := by unfold Ofs.offB at ho; simp only [decide_eq_true_eq] at ho; omega
      have HS5 := hideO (fun v => Show_c 1 (-n) v)
      rw [(shw_yes rfl (off_neg ho)).1, (shw_yes rfl (off_neg ho)).2, s1n] at HS5
      rw [(shw_yes rfl ho).1, (shw_yes rfl ho).2] at HS1 HS2 HS3 HS4
      rw [s1] at HS1
      rw [s2] at HS2
      rw [s3] at HS3
      rw [s4] at HS4
      have hz : (n == 0) = false := beq_eq_false_iff_ne.2 h0
      clear s1 s1n s2 s3 s4 ho h0
      have hd1 : decide ((d.length : Int) ≤ 9) = true := by simp; omega
      have hd2 : decide (d.length ≤ 9) = true := by simp; omega
      by_cases hng : n < 0
      · rw [if_pos hng] at HS1 HS2 HS4 HS5
        have hgt : decide (0 < n) = false := by simp; omega
        have q1 := cut1 45 x1 x2 x3 x4
        have q2 := cut2 45 x1 x2 x3 x4
        have q3 := cut3 45 x1 x2 x3 x4
        have q4 := cut4 45 x1 x2
        have q5 := cut5 45 x1 x2 x3 x4
        have q6 := cut6 45 x1 x2 x3 x4
        have q7 := cut3 43 x1 x2 x3 x4
        have q8 := cut8 45 x1 x2 x3 x4
        have q9 := cut8 43 x1 x2 x3 x4
        go_enter Tryd.func5, Tryd.ntmps5
        go_wp2_with fail
        refine (HS1.out _).mono ?_
        rintro e w1 ⟨rfl, h1⟩
        have H1 := hideO h1
        clear h1
        go_wp2_with fail
        refine (HS2.out _).mono ?_
        rintro e w2 ⟨rfl, h2⟩
        have H2 := hideO (bthenO H1.out h2)
        clear h2
        go_wp2_with fail
        refine (HS4.out _).mono ?_
        rintro e w3 ⟨rfl, h3⟩
        have H3 := hideO (bthenO H2.out h3)
        clear h3
        go_wp2_with fail
        refine (HS3.out _).mono ?_
        rintro e w4 ⟨rfl, h4⟩
        have H4 := hideO (bthenO H3.out h4)
        clear h4
        go_wp2_with fail
        refine (HS5.out _).mono ?_
        rintro e w5 ⟨rfl, h5⟩
        have H5 := hideO (bthenO H4.out h5)
        clear h5
        go_wp2_with fail
        go_region_held3 (fun _ => True) (trivial) (first | (go_at_call 10; refine (HBg.out _ (by exact H5.out.drew)).mono ?_; rintro e w6 ⟨rfl, hw6⟩))
        all_goals
          go_wp2_with fail
          go_ret
          exact ⟨rfl, bthenO (a := w5.drew) H5.out.drew hw6⟩
      · rw [if_neg hng] at HS1 HS2 HS4 HS5
        have hps : 0 < n := by
          have : n ≠ 0 := by intro e; rw [e] at hz; cases hz
          omega
        have hgt : decide (0 < n) = true := by simp; omega
        have q1 := cut1 43 x1 x2 x3 x4
        have q2 := cut2 43 x1 x2 x3 x4
        have q3 := cut3 43 x1 x2 x3 x4
        have q4 := cut4 43 x1 x2
        have q5 := cut5 43 x1 x2 x3 x4
        have q6 := cut6 43 x1 x2 x3 x4
        have q7 := cut3 45 x1 x2 x3 x4
        have q8 := cut8 45 x1 x2 x3 x4
        have q9 := cut8 43 x1 x2 x3 x4
        go_enter Tryd.func5, Tryd.ntmps5
        go_wp2_with fail
        refine (HS1.out _).mono ?_
        rintro e w1 ⟨rfl, h1⟩
        have H1 := hideO h1
        clear h1
        go_wp2_with fail
        refine (HS2.out _).mono ?_
        rintro e w2 ⟨rfl, h2⟩
        have H2 := hideO (bthenO H1.out h2)
        clear h2
        go_wp2_with fail
        refine (HS4.out _).mono ?_
        rintro e w3 ⟨rfl, h3⟩
        have H3 := hideO (bthenO H2.out h3)
        clear h3
        go_wp2_with fail
        refine (HS3.out _).mono ?_
        rintro e w4 ⟨rfl, h4⟩
        have H4 := hideO (bthenO H3.out h4)
        clear h4
        go_wp2_with fail
        refine (HS5.out _).mono ?_
        rintro e w5 ⟨rfl, h5⟩
        have H5 := hideO (bthenO H4.out h5)
        clear h5
        go_wp2_with fail
        go_region_held3 (fun _ => True) (trivial) (first | (go_at_call 10; refine (HBg.out _ (by exact H5.out.drew)).mono ?_; rintro e w6 ⟨rfl, hw6⟩))
        all_goals
          go_wp2_with fail
          go_ret
          exact ⟨rfl, bthenO (a := w5.drew) H5.out.drew hw6⟩
end Go.Proofs.YtcdokhjmpkcpnafDoor
