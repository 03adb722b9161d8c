/- The document's own answers on offsets: OffText, OffFrom. -/
import Derived.Test.YtmpiijipebngcaaGreatDoorOffsD
namespace Go.Proofs.YtmpiijipebngcaaGreatDoor
open Go Go.RowKit
set_option linter.unusedVariables false

theorem shw_y {st n : Int} (h : Ofs.isSt st = true) (ho : Ofs.offB n = true) : shwT st n = Ofs.sh st n ∧ shwE st n = 0 := by
  unfold shwT shwE; rw [if_pos ⟨h, ho⟩, if_pos h, if_pos ho]; exact ⟨rfl, rfl⟩
theorem tup2 {a b : ByteArray} {k : Int} (h : a = b) : Ending.returned (.tuple #[.string a, .int .i64 k]) = .returned (.tuple #[.string b, .int .i64 k]) := by rw [h]
theorem clk_s0 {h m : Nat} (hm : m = 0) : Ofs.clk (Ofs.bb 3) (Ofs.brB 3) h m = Ofs.dg h := by
  unfold Ofs.clk
  rw [if_neg (by decide), if_pos hm]
theorem clk_s1 {h m : Nat} (hm : ¬ m = 0) : Ofs.clk (Ofs.bb 3) (Ofs.brB 3) h m = Ofs.dg h ++ [58] ++ Ofs.dd m := by
  unfold Ofs.clk
  rw [if_neg (by decide), if_neg hm]
  rfl
set_option maxRecDepth 100000 in
set_option maxHeartbeats 16000000 in
theorem OffText_p (st : Int) (N : Nat) (h0 : 0 < N) (hs : Ofs.isSt st = true) (ho : Ofs.offB ((N : Int)) = true) (w : World) : Calls Tryz.prog 70 #[.int .i64 st, .int .i64 ((N : Int))] w fun e w' => e = .returned (.tuple #[.string ⟨(shwT st ((N : Int))).toArray⟩, .int .i64 (shwE st ((N : Int)))]) ∧ Below w.heap.size w w' := by
  have HW := hideO (fun a b c v => within_o a b c v)
  have hN : N ≤ 57600 := by unfold Ofs.offB at ho; simp only [decide_eq_true_eq] at ho; omega
  have hin : inO st 1 4 = true := hs
  have hin2 : inO ((N : Int)) (-57600) 57600 = true := by unfold inO; simp; omega
  have hmd : (((N : Int)).tmod 60 != 0) = false := by
    unfold Ofs.offB at ho
    simp only [decide_eq_true_eq] at ho
    rw [ho.2.2]; rfl
  have hmd2 : ((N : Int) % 60 != 0) = false := by
    rw [← Int.tmod_eq_emod_of_nonneg (by omega)]; exact hmd
  have hz : (((N : Int)) == 0) = false := beq_eq_false_iff_ne.2 (by omega)
  have hlt : ¬ (N : Int) < 0 := by omega
  have r1 : ((N : Int) / 60) ≤ 960 := by omega
  rcases Ofs.st_cases hs with rfl | rfl | rfl | rfl
  · have HT : Hid (shwT 1 (N) = Ofs.sh 1 (N) ∧ shwE 1 (N) = 0) := shw_y rfl ho
    have HS := hideO (sh_pos (Ofs.zz 1) (Ofs.aa 1) (Ofs.bb 1) (Ofs.brB 1) h0)
    clear ho
    go_enter Tryz.func70, Tryz.ntmps70
    go_wp2_with (go_at_call 39; refine (HW.out _ _ _ _).mono ?_; rintro e w1 ⟨rfl, rfl⟩)
    refine (two_e ((N : Int) / 60 / 60) (by omega) (by omega) _).mono ?_
    rintro e v0 ⟨l0, E0, b0, rfl, h0⟩
    have H0 := hideO h0
    clear h0
    go_wp2_with fail
    refine (two_e ((N : Int) / 60 % 60) (by omega) (by omega) _).mono ?_
    rintro e v1 ⟨l1, E1, b1, rfl, h1⟩
    have H1 := hideO (bthenO H0.out h1)
    clear h1
    go_wp2_with fail
    go_ret2
    refine ⟨?_, H1.out⟩
    rw [HT.out.1, HT.out.2]
    refine tup2 ?_
    show _ = (⟨(Ofs.shF (Ofs.zz 1) (Ofs.aa 1) (Ofs.bb 1) (Ofs.brB 1) (N)).toArray⟩ : ByteArray)
    rw [HS.out, bapp, bapp, E0.out, show (((N : Int) / 60 / 60).toNat) = N / 3600 by omega, E1.out, show (((N : Int) / 60 % 60).toNat) = N % 3600 / 60 by omega]
    apply congrArg ByteArray.mk
    simp [Ofs.aa, Ofs.bb, Ofs.brB, Ofs.clk]
  · have HT : Hid (shwT 2 (N) = Ofs.sh 2 (N) ∧ shwE 2 (N) = 0) := shw_y rfl ho
    have HS := hideO (sh_pos (Ofs.zz 2) (Ofs.aa 2) (Ofs.bb 2) (Ofs.brB 2) h0)
    clear ho
    go_enter Tryz.func70, Tryz.ntmps70
    go_wp2_with (go_at_call 39; refine (HW.out _ _ _ _).mono ?_; rintro e w1 ⟨rfl, rfl⟩)
    refine (two_e ((N : Int) / 60 / 60) (by omega) (by omega) _).mono ?_
    rintro e v0 ⟨l0, E0, b0, rfl, h0⟩
    have H0 := hideO h0
    clear h0
    go_wp2_with fail
    refine (two_e ((N : Int) / 60 % 60) (by omega) (by omega) _).mono ?_
    rintro e v1 ⟨l1, E1, b1, rfl, h1⟩
    have H1 := hideO (bthenO H0.out h1)
    clear h1
    go_wp2_with fail
    go_ret2
    refine ⟨?_, H1.out⟩
    rw [HT.out.1, HT.out.2]
    refine tup2 ?_
    show _ = (⟨(Ofs.shF (Ofs.zz 2) (Ofs.aa 2) (Ofs.bb 2) (Ofs.brB 2) (N)).toArray⟩ : ByteArray)
    rw [HS.out, bapp, bapp, bapp, E0.out, show (((N : Int) / 60 / 60).toNat) = N / 3600 by omega, E1.out, show (((N : Int) / 60 % 60).toNat) = N % 3600 / 60 by omega]
    apply congrArg ByteArray.mk
    simp [Ofs.aa, Ofs.bb, Ofs.brB, Ofs.clk]
  · by_cases hm0 : N % 3600 / 60 = 0
    · have hmz : ((N : Int) / 60 % 60 == 0) = true := beq_iff_eq.2 (by omega)
      have HT : Hid (shwT 3 (N) = Ofs.sh 3 (N) ∧ shwE 3 (N) = 0) := shw_y rfl ho
      have HS := hideO (sh_pos (Ofs.zz 3) (Ofs.aa 3) (Ofs.bb 3) (Ofs.brB 3) h0)
      clear ho
      go_enter Tryz.func70, Tryz.ntmps70
      go_wp2_with (go_at_call 39; refine (HW.out _ _ _ _).mono ?_; rintro e w1 ⟨rfl, rfl⟩)
      refine (Digits_e ((N : Int) / 60 / 60) (by omega) (by omega) _).mono ?_
      rintro e v0 ⟨l0, E0, b0, rfl, h0⟩
      have H0 := hideO h0
      clear h0
      go_wp2_with fail
      go_ret2
      refine ⟨?_, H0.out⟩
      rw [HT.out.1, HT.out.2]
      refine tup2 ?_
      show _ = (⟨(Ofs.shF (Ofs.zz 3) (Ofs.aa 3) (Ofs.bb 3) (Ofs.brB 3) (N)).toArray⟩ : ByteArray)
      rw [HS.out, bapp, bapp, E0.out, show (((N : Int) / 60 / 60).toNat) = N / 3600 by omega]
      rw [clk_s0 hm0]
      apply congrArg ByteArray.mk
      simp [Ofs.aa]
    · have hmz : ((N : Int) / 60 % 60 == 0) = false := beq_eq_false_iff_ne.2 (by omega)
      have HT : Hid (shwT 3 (N) = Ofs.sh 3 (N) ∧ shwE 3 (N) = 0) := shw_y rfl ho
      have HS := hideO (sh_pos (Ofs.zz 3) (Ofs.aa 3) (Ofs.bb 3) (Ofs.brB 3) h0)
      clear ho
      go_enter Tryz.func70, Tryz.ntmps70
      go_wp2_with (go_at_call 39; refine (HW.out _ _ _ _).mono ?_; rintro e w1 ⟨rfl, rfl⟩)
      refine (Digits_e ((N : Int) / 60 / 60) (by omega) (by omega) _).mono ?_
      rintro e v0 ⟨l0, E0, b0, rfl, h0⟩
      have H0 := hideO h0
      clear h0
      go_wp2_with fail
      refine (two_e ((N : Int) / 60 % 60) (by omega) (by omega) _).mono ?_
      rintro e v1 ⟨l1, E1, b1, rfl, h1⟩
      have H1 := hideO (bthenO H0.out h1)
      clear h1
      go_wp2_with fail
      go_ret2
      refine ⟨?_, H1.out⟩
      rw [HT.out.1, HT.out.2]
      refine tup2 ?_
      show _ = (⟨(Ofs.shF (Ofs.zz 3) (Ofs.aa 3) (Ofs.bb 3) (Ofs.brB 3) (N)).toArray⟩ : ByteArray)
      rw [HS.out, bapp, bapp, bapp, bapp, E0.out, show (((N : Int) / 60 / 60).toNat) = N / 3600 by omega, E1.out, show (((N : Int) / 60 % 60).toNat) = N % 3600 / 60 by omega]
      rw [clk_s1 hm0]
      apply congrArg ByteArray.mk
      simp [Ofs.aa]
  · have HT : Hid (shwT 4 (N) = Ofs.sh 4 (N) ∧ shwE 4 (N) = 0) := shw_y rfl ho
    have HS := hideO (sh_pos (Ofs.zz 4) (Ofs.aa 4) (Ofs.bb 4) (Ofs.brB 4) h0)
    clear ho
    go_enter Tryz.func70, Tryz.ntmps70
    go_wp2_with (go_at_call 39; refine (HW.out _ _ _ _).mono ?_; rintro e w1 ⟨rfl, rfl⟩)
    refine (two_e ((N : Int) / 60 / 60) (by omega) (by omega) _).mono ?_
    rintro e v0 ⟨l0, E0, b0, rfl, h0⟩
    have H0 := hideO h0
    clear h0
    go_wp2_with fail
    refine (two_e ((N : Int) / 60 % 60) (by omega) (by omega) _).mono ?_
    rintro e v1 ⟨l1, E1, b1, rfl, h1⟩
    have H1 := hideO (bthenO H0.out h1)
    clear h1
    go_wp2_with fail
    go_ret2
    refine ⟨?_, H1.out⟩
    rw [HT.out.1, HT.out.2]
    refine tup2 ?_
    show _ = (⟨(Ofs.shF (Ofs.zz 4) (Ofs.aa 4) (Ofs.bb 4) (Ofs.brB 4) (N)).toArray⟩ : ByteArray)
    rw [HS.out, bapp, bapp, bapp, bapp, E0.out, show (((N : Int) / 60 / 60).toNat) = N / 3600 by omega, E1.out, show (((N : Int) / 60 % 60).toNat) = N % 3600 / 60 by omega]
    apply congrArg ByteArray.mk
    simp [Ofs.aa, Ofs.bb, Ofs.brB, Ofs.clk]
set_option maxRecDepth 100000 in
set_option maxHeartbeats 16000000 in
theorem OffText_n (st : Int) (N : Nat) (h0 : 0 < N) (hs : Ofs.isSt st = true) (ho : Ofs.offB (-(N : Int)) = true) (w : World) : Calls Tryz.prog 70 #[.int .i64 st, .int .i64 (-(N : Int))] w fun e w' => e = .returned (.tuple #[.string ⟨(shwT st (-(N : Int))).toArray⟩, .int .i64 (shwE st (-(N : Int)))]) ∧ Below w.heap.size w w' := by
  have HW := hideO (fun a b c v => within_o a b c v)
  have hN : N ≤ 57600 := by unfold Ofs.offB at ho; simp only [decide_eq_true_eq] at ho; omega
  have hin : inO st 1 4 = true := hs
  have hin2 : inO (-(N : Int)) (-57600) 57600 = true := by unfold inO; simp; omega
  have hmd : ((-(N : Int)).tmod 60 != 0) = false := by
    unfold Ofs.offB at ho
    simp only [decide_eq_true_eq] at ho
    rw [ho.2.2]; rfl
  have hmd2 : (-((N : Int) % 60) != 0) = false := by
    rw [← Int.tmod_eq_emod_of_nonneg (by omega), ← Int.neg_tmod]; exact hmd
  have hz : ((-(N : Int)) == 0) = false := beq_eq_false_iff_ne.2 (by omega)
  have hlt : -(N : Int) < 0 := by omega
  have r1 : ((N : Int) / 60) ≤ 960 := by omega
  rcases Ofs.st_cases hs with rfl | rfl | rfl | rfl
  · have HT : Hid (shwT 1 (-(N : Int)) = Ofs.sh 1 (-(N : Int)) ∧ shwE 1 (-(N : Int)) = 0) := shw_y rfl ho
    have HS := hideO (sh_neg (Ofs.zz 1) (Ofs.aa 1) (Ofs.bb 1) (Ofs.brB 1) h0)
    clear ho
    go_enter Tryz.func70, Tryz.ntmps70
    go_wp2_with (go_at_call 39; refine (HW.out _ _ _ _).mono ?_; rintro e w1 ⟨rfl, rfl⟩)
    refine (two_e ((N : Int) / 60 / 60) (by omega) (by omega) _).mono ?_
    rintro e v0 ⟨l0, E0, b0, rfl, h0⟩
    have H0 := hideO h0
    clear h0
    go_wp2_with fail
    refine (two_e ((N : Int) / 60 % 60) (by omega) (by omega) _).mono ?_
    rintro e v1 ⟨l1, E1, b1, rfl, h1⟩
    have H1 := hideO (bthenO H0.out h1)
    clear h1
    go_wp2_with fail
    go_ret2
    refine ⟨?_, H1.out⟩
    rw [HT.out.1, HT.out.2]
    refine tup2 ?_
    show _ = (⟨(Ofs.shF (Ofs.zz 1) (Ofs.aa 1) (Ofs.bb 1) (Ofs.brB 1) (-(N : Int))).toArray⟩ : ByteArray)
    rw [HS.out, bapp, bapp, E0.out, show (((N : Int) / 60 / 60).toNat) = N / 3600 by omega, E1.out, show (((N : Int) / 60 % 60).toNat) = N % 3600 / 60 by omega]
    apply congrArg ByteArray.mk
    simp [Ofs.aa, Ofs.bb, Ofs.brB, Ofs.clk]
  · have HT : Hid (shwT 2 (-(N : Int)) = Ofs.sh 2 (-(N : Int)) ∧ shwE 2 (-(N : Int)) = 0) := shw_y rfl ho
    have HS := hideO (sh_neg (Ofs.zz 2) (Ofs.aa 2) (Ofs.bb 2) (Ofs.brB 2) h0)
    clear ho
    go_enter Tryz.func70, Tryz.ntmps70
    go_wp2_with (go_at_call 39; refine (HW.out _ _ _ _).mono ?_; rintro e w1 ⟨rfl, rfl⟩)
    refine (two_e ((N : Int) / 60 / 60) (by omega) (by omega) _).mono ?_
    rintro e v0 ⟨l0, E0, b0, rfl, h0⟩
    have H0 := hideO h0
    clear h0
    go_wp2_with fail
    refine (two_e ((N : Int) / 60 % 60) (by omega) (by omega) _).mono ?_
    rintro e v1 ⟨l1, E1, b1, rfl, h1⟩
    have H1 := hideO (bthenO H0.out h1)
    clear h1
    go_wp2_with fail
    go_ret2
    refine ⟨?_, H1.out⟩
    rw [HT.out.1, HT.out.2]
    refine tup2 ?_
    show _ = (⟨(Ofs.shF (Ofs.zz 2) (Ofs.aa 2) (Ofs.bb 2) (Ofs.brB 2) (-(N : Int))).toArray⟩ : ByteArray)
    rw [HS.out, bapp, bapp, bapp, E0.out, show (((N : Int) / 60 / 60).toNat) = N / 3600 by omega, E1.out, show (((N : Int) / 60 % 60).toNat) = N % 3600 / 60 by omega]
    apply congrArg ByteArray.mk
    simp [Ofs.aa, Ofs.bb, Ofs.brB, Ofs.clk]
  · by_cases hm0 : N % 3600 / 60 = 0
    · have hmz : ((N : Int) / 60 % 60 == 0) = true := beq_iff_eq.2 (by omega)
      have HT : Hid (shwT 3 (-(N : Int)) = Ofs.sh 3 (-(N : Int)) ∧ shwE 3 (-(N : Int)) = 0) := shw_y rfl ho
      have HS := hideO (sh_neg (Ofs.zz 3) (Ofs.aa 3) (Ofs.bb 3) (Ofs.brB 3) h0)
      clear ho
      go_enter Tryz.func70, Tryz.ntmps70
      go_wp2_with (go_at_call 39; refine (HW.out _ _ _ _).mono ?_; rintro e w1 ⟨rfl, rfl⟩)
      refine (Digits_e ((N : Int) / 60 / 60) (by omega) (by omega) _).mono ?_
      rintro e v0 ⟨l0, E0, b0, rfl, h0⟩
      have H0 := hideO h0
      clear h0
      go_wp2_with fail
      go_ret2
      refine ⟨?_, H0.out⟩
      rw [HT.out.1, HT.out.2]
      refine tup2 ?_
      show _ = (⟨(Ofs.shF (Ofs.zz 3) (Ofs.aa 3) (Ofs.bb 3) (Ofs.brB 3) (-(N : Int))).toArray⟩ : ByteArray)
      rw [HS.out, bapp, bapp, E0.out, show (((N : Int) / 60 / 60).toNat) = N / 3600 by omega]
      rw [clk_s0 hm0]
      apply congrArg ByteArray.mk
      simp [Ofs.aa]
    · have hmz : ((N : Int) / 60 % 60 == 0) = false := beq_eq_false_iff_ne.2 (by omega)
      have HT : Hid (shwT 3 (-(N : Int)) = Ofs.sh 3 (-(N : Int)) ∧ shwE 3 (-(N : Int)) = 0) := shw_y rfl ho
      have HS := hideO (sh_neg (Ofs.zz 3) (Ofs.aa 3) (Ofs.bb 3) (Ofs.brB 3) h0)
      clear ho
      go_enter Tryz.func70, Tryz.ntmps70
      go_wp2_with (go_at_call 39; refine (HW.out _ _ _ _).mono ?_; rintro e w1 ⟨rfl, rfl⟩)
      refine (Digits_e ((N : Int) / 60 / 60) (by omega) (by omega) _).mono ?_
      rintro e v0 ⟨l0, E0, b0, rfl, h0⟩
      have H0 := hideO h0
      clear h0
      go_wp2_with fail
      refine (two_e ((N : Int) / 60 % 60) (by omega) (by omega) _).mono ?_
      rintro e v1 ⟨l1, E1, b1, rfl, h1⟩
      have H1 := hideO (bthenO H0.out h1)
      clear h1
      go_wp2_with fail
      go_ret2
      refine ⟨?_, H1.out⟩
      rw [HT.out.1, HT.out.2]
      refine tup2 ?_
      show _ = (⟨(Ofs.shF (Ofs.zz 3) (Ofs.aa 3) (Ofs.bb 3) (Ofs.brB 3) (-(N : Int))).toArray⟩ : ByteArray)
      rw [HS.out, bapp, bapp, bapp, bapp, E0.out, show (((N : Int) / 60 / 60).toNat) = N / 3600 by omega, E1.out, show (((N : Int) / 60 % 60).toNat) = N % 3600 / 60 by omega]
      rw [clk_s1 hm0]
      apply congrArg ByteArray.mk
      simp [Ofs.aa]
  · have HT : Hid (shwT 4 (-(N : Int)) = Ofs.sh 4 (-(N : Int)) ∧ shwE 4 (-(N : Int)) = 0) := shw_y rfl ho
    have HS := hideO (sh_neg (Ofs.zz 4) (Ofs.aa 4) (Ofs.bb 4) (Ofs.brB 4) h0)
    clear ho
    go_enter Tryz.func70, Tryz.ntmps70
    go_wp2_with (go_at_call 39; refine (HW.out _ _ _ _).mono ?_; rintro e w1 ⟨rfl, rfl⟩)
    refine (two_e ((N : Int) / 60 / 60) (by omega) (by omega) _).mono ?_
    rintro e v0 ⟨l0, E0, b0, rfl, h0⟩
    have H0 := hideO h0
    clear h0
    go_wp2_with fail
    refine (two_e ((N : Int) / 60 % 60) (by omega) (by omega) _).mono ?_
    rintro e v1 ⟨l1, E1, b1, rfl, h1⟩
    have H1 := hideO (bthenO H0.out h1)
    clear h1
    go_wp2_with fail
    go_ret2
    refine ⟨?_, H1.out⟩
    rw [HT.out.1, HT.out.2]
    refine tup2 ?_
    show _ = (⟨(Ofs.shF (Ofs.zz 4) (Ofs.aa 4) (Ofs.bb 4) (Ofs.brB 4) (-(N : Int))).toArray⟩ : ByteArray)
    rw [HS.out, bapp, bapp, bapp, bapp, E0.out, show (((N : Int) / 60 / 60).toNat) = N / 3600 by omega, E1.out, show (((N : Int) / 60 % 60).toNat) = N % 3600 / 60 by omega]
    apply congrArg ByteArray.mk
    simp [Ofs.aa, Ofs.bb, Ofs.brB, Ofs.clk]
set_option maxRecDepth 100000 in
set_option maxHeartbeats 8000000 in
theorem OffText_0 (st : Int) (hs : Ofs.isSt st = true) (w : World) : Calls Tryz.prog 70 #[.int .i64 st, .int .i64 0] w fun e w' => e = .returned (.tuple #[.string ⟨(shwT st 0).toArray⟩, .int .i64 (shwE st 0)]) ∧ Below w.heap.size w w' := by
  have HW := hideO (fun a b c v => within_o a b c v)
  have hin : inO st 1 4 = true := hs
  have hin2 : inO 0 (-57600) 57600 = true := by decide
  rcases Ofs.st_cases hs with rfl | rfl | rfl | rfl
  · have HT : Hid (shwT 1 0 = [43, 48, 48, 48, 48] ∧ shwE 1 0 = 0) := by show _ ∧ _; decide +kernel
    go_enter Tryz.func70, Tryz.ntmps70
    go_wp2_with (go_at_call 39; refine (HW.out _ _ _ _).mono ?_; rintro e w1 ⟨rfl, rfl⟩)
    refine (two_e 0 (by omega) (by omega) _).mono ?_
    rintro e v0 ⟨l0, E0, b0, rfl, h0⟩
    have H0 := hideO h0
    clear h0
    go_wp2_with fail
    refine (two_e 0 (by omega) (by omega) _).mono ?_
    rintro e v1 ⟨l1, E1, b1, rfl, h1⟩
    have H1 := hideO (bthenO H0.out h1)
    clear h1
    go_wp2_with fail
    go_ret2
    refine ⟨?_, H1.out⟩
    rw [HT.out.1, HT.out.2]
    refine tup2 ?_
    rw [bapp, bapp, E0.out, E1.out]
    rfl
  · have HT : Hid (shwT 2 0 = [90] ∧ shwE 2 0 = 0) := by show _ ∧ _; decide +kernel
    go_enter Tryz.func70, Tryz.ntmps70
    go_wp2_with (go_at_call 39; refine (HW.out _ _ _ _).mono ?_; rintro e w1 ⟨rfl, rfl⟩)
    go_ret2
    exact ⟨by rw [HT.out.1, HT.out.2]; rfl, Below.refl _ _⟩
  · have HT : Hid (shwT 3 0 = [71, 77, 84] ∧ shwE 3 0 = 0) := by show _ ∧ _; decide +kernel
    go_enter Tryz.func70, Tryz.ntmps70
    go_wp2_with (go_at_call 39; refine (HW.out _ _ _ _).mono ?_; rintro e w1 ⟨rfl, rfl⟩)
    go_ret2
    exact ⟨by rw [HT.out.1, HT.out.2]; rfl, Below.refl _ _⟩
  · have HT : Hid (shwT 4 0 = [71, 77, 84] ∧ shwE 4 0 = 0) := by show _ ∧ _; decide +kernel
    go_enter Tryz.func70, Tryz.ntmps70
    go_wp2_with (go_at_call 39; refine (HW.out _ _ _ _).mono ?_; rintro e w1 ⟨rfl, rfl⟩)
    go_ret2
    exact ⟨by rw [HT.out.1, HT.out.2]; rfl, Below.refl _ _⟩
theorem OffText_c (st n : Int) (w : World) : Calls Tryz.prog 70 #[.int .i64 st, .int .i64 n] w fun e w' => e = .returned (.tuple #[.string ⟨(shwT st n).toArray⟩, .int .i64 (shwE st n)]) ∧ Below w.heap.size w w' := by
  by_cases h : Ofs.isSt st = true ∧ Ofs.offB n = true
  · obtain ⟨hs, ho⟩ := h
    rcases Int.lt_trichotomy n 0 with h1 | h1 | h1
    · obtain ⟨N, hN⟩ : ∃ N : Nat, n = -(N : Int) := ⟨n.natAbs, by omega⟩
      subst hN
      exact OffText_n st N (by omega) hs ho w
    · subst h1; exact OffText_0 st hs w
    · obtain ⟨N, hN⟩ : ∃ N : Nat, n = (N : Int) := ⟨n.natAbs, by omega⟩
      subst hN
      exact OffText_p st N (by omega) hs ho w
  · exact OffText_bad st n w h
end Go.Proofs.YtmpiijipebngcaaGreatDoor
