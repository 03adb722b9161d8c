/- The document's own answers on offsets: Digits, two, OffText, OffFrom. -/
import Derived.Test.YtfjjdicgekgbeaaGreatDoorOffsC
import Derived.Laws.IdiomStrings
namespace Go.Proofs.YtfjjdicgekgbeaaGreatDoor
open Go Go.RowKit
set_option linter.unusedVariables false

theorem cvByte (w : World) (c : UInt8) : (convert 138 9 (.slice (some ⟨w.heap.size, 0, none⟩) 1 1)).run Tryz.prog (w.alloc (.cells #[.int .u8 (c.toNat : Int)] 5)) = .ok (.string ⟨#[c]⟩) (w.alloc (.cells #[.int .u8 (c.toNat : Int)] 5)) := by
  refine run_convert_bytes_back (P := Tryz.prog) (w.alloc (.cells #[.int .u8 (c.toNat : Int)] 5)) 138 9 5 ⟨w.heap.size, 0, none⟩ 1 [c] Tryz.underlying138 Tryz.underlying5 Tryz.underlying9 ?_
  intro j hj
  have : j = 0 := by simp at hj; omega
  subst this
  exact cell_one_new w _ _ 0 _ rfl
set_option maxRecDepth 100000 in
set_option maxHeartbeats 8000000 in
theorem Digits_1 (k : Nat) (h : k < 10) (w : World) : Calls Tryz.prog 75 #[.int .i64 k] w fun e w' => e = .returned (.string ⟨(Ofs.dg k).toArray⟩) ∧ Below w.heap.size w w' := by
  have HB : Hid (∀ o, Below w.heap.size w (w.alloc o)) := fun o => (Below.refl _ w).alloc (Nat.le_refl _) o
  have hk : k = 0 ∨ k = 1 ∨ k = 2 ∨ k = 3 ∨ k = 4 ∨ k = 5 ∨ k = 6 ∨ k = 7 ∨ k = 8 ∨ k = 9 := by omega
  rcases hk with rfl | rfl | rfl | rfl | rfl | rfl | rfl | rfl | rfl | rfl
  · have hcv : (convert 138 9 (.slice (some ⟨w.heap.size, 0, none⟩) 1 1)).run Tryz.prog (w.alloc (.cells #[.int .u8 48] 5)) = .ok (.string ⟨#[48]⟩) (w.alloc (.cells #[.int .u8 48] 5)) := cvByte w 48
    go_enter Tryz.func75, Tryz.ntmps75
    go_wp2_with fail
    go_ret
    exact ⟨rfl, HB.out _⟩
  · have hcv : (convert 138 9 (.slice (some ⟨w.heap.size, 0, none⟩) 1 1)).run Tryz.prog (w.alloc (.cells #[.int .u8 49] 5)) = .ok (.string ⟨#[49]⟩) (w.alloc (.cells #[.int .u8 49] 5)) := cvByte w 49
    go_enter Tryz.func75, Tryz.ntmps75
    go_wp2_with fail
    go_ret
    exact ⟨rfl, HB.out _⟩
  · have hcv : (convert 138 9 (.slice (some ⟨w.heap.size, 0, none⟩) 1 1)).run Tryz.prog (w.alloc (.cells #[.int .u8 50] 5)) = .ok (.string ⟨#[50]⟩) (w.alloc (.cells #[.int .u8 50] 5)) := cvByte w 50
    go_enter Tryz.func75, Tryz.ntmps75
    go_wp2_with fail
    go_ret
    exact ⟨rfl, HB.out _⟩
  · have hcv : (convert 138 9 (.slice (some ⟨w.heap.size, 0, none⟩) 1 1)).run Tryz.prog (w.alloc (.cells #[.int .u8 51] 5)) = .ok (.string ⟨#[51]⟩) (w.alloc (.cells #[.int .u8 51] 5)) := cvByte w 51
    go_enter Tryz.func75, Tryz.ntmps75
    go_wp2_with fail
    go_ret
    exact ⟨rfl, HB.out _⟩
  · have hcv : (convert 138 9 (.slice (some ⟨w.heap.size, 0, none⟩) 1 1)).run Tryz.prog (w.alloc (.cells #[.int .u8 52] 5)) = .ok (.string ⟨#[52]⟩) (w.alloc (.cells #[.int .u8 52] 5)) := cvByte w 52
    go_enter Tryz.func75, Tryz.ntmps75
    go_wp2_with fail
    go_ret
    exact ⟨rfl, HB.out _⟩
  · have hcv : (convert 138 9 (.slice (some ⟨w.heap.size, 0, none⟩) 1 1)).run Tryz.prog (w.alloc (.cells #[.int .u8 53] 5)) = .ok (.string ⟨#[53]⟩) (w.alloc (.cells #[.int .u8 53] 5)) := cvByte w 53
    go_enter Tryz.func75, Tryz.ntmps75
    go_wp2_with fail
    go_ret
    exact ⟨rfl, HB.out _⟩
  · have hcv : (convert 138 9 (.slice (some ⟨w.heap.size, 0, none⟩) 1 1)).run Tryz.prog (w.alloc (.cells #[.int .u8 54] 5)) = .ok (.string ⟨#[54]⟩) (w.alloc (.cells #[.int .u8 54] 5)) := cvByte w 54
    go_enter Tryz.func75, Tryz.ntmps75
    go_wp2_with fail
    go_ret
    exact ⟨rfl, HB.out _⟩
  · have hcv : (convert 138 9 (.slice (some ⟨w.heap.size, 0, none⟩) 1 1)).run Tryz.prog (w.alloc (.cells #[.int .u8 55] 5)) = .ok (.string ⟨#[55]⟩) (w.alloc (.cells #[.int .u8 55] 5)) := cvByte w 55
    go_enter Tryz.func75, Tryz.ntmps75
    go_wp2_with fail
    go_ret
    exact ⟨rfl, HB.out _⟩
  · have hcv : (convert 138 9 (.slice (some ⟨w.heap.size, 0, none⟩) 1 1)).run Tryz.prog (w.alloc (.cells #[.int .u8 56] 5)) = .ok (.string ⟨#[56]⟩) (w.alloc (.cells #[.int .u8 56] 5)) := cvByte w 56
    go_enter Tryz.func75, Tryz.ntmps75
    go_wp2_with fail
    go_ret
    exact ⟨rfl, HB.out _⟩
  · have hcv : (convert 138 9 (.slice (some ⟨w.heap.size, 0, none⟩) 1 1)).run Tryz.prog (w.alloc (.cells #[.int .u8 57] 5)) = .ok (.string ⟨#[57]⟩) (w.alloc (.cells #[.int .u8 57] 5)) := cvByte w 57
    go_enter Tryz.func75, Tryz.ntmps75
    go_wp2_with fail
    go_ret
    exact ⟨rfl, HB.out _⟩
theorem dg_two {k : Nat} (h : ¬ k < 10) (h2 : k < 100) : Ofs.dg k = Ofs.dg (k / 10) ++ Ofs.dg (k % 10) := by
  unfold Ofs.dg
  rw [if_neg h, if_pos (by omega), if_pos (by omega)]
  rfl
theorem dd_two {k : Nat} (h2 : k < 100) : Ofs.dd k = Ofs.dg (k / 10) ++ Ofs.dg (k % 10) := by
  unfold Ofs.dg Ofs.dd
  rw [if_pos (by omega), if_pos (by omega)]
  rfl
theorem Digits_i (k : Int) (h0 : 0 ≤ k) (h : k < 10) (w : World) : Calls Tryz.prog 75 #[.int .i64 k] w fun e w' => ∃ l : List UInt8, Hid (l = Ofs.dg k.toNat) ∧ l.length ≤ 2 ∧ e = .returned (.string ⟨l.toArray⟩) ∧ Below w.heap.size w w' := by
  obtain ⟨j, rfl⟩ := Int.eq_ofNat_of_zero_le h0
  exact (Digits_1 j (by omega) w).mono fun e w' ⟨h1, h2⟩ => ⟨_, rfl, dg_len _, h1, h2⟩
set_option maxHeartbeats 4000000 in
theorem two_c (k : Nat) (h : k < 100) (w : World) : Calls Tryz.prog 74 #[.int .i64 k] w fun e w' => e = .returned (.string ⟨(Ofs.dd k).toArray⟩) ∧ Below w.heap.size w w' := by
  have HD := hideO (dd_two h)
  go_enter Tryz.func74, Tryz.ntmps74
  go_wp2_with fail
  refine (Digits_i _ (by omega) (by omega) _).mono ?_
  rintro e w1 ⟨l1, E1, b1, rfl, h1⟩
  have H1 := hideO h1
  clear h1
  go_wp2_with fail
  refine (Digits_i _ (by omega) (by omega) _).mono ?_
  rintro e w2 ⟨l2, E2, b2, rfl, h2⟩
  have H2 := hideO (bthenO H1.out h2)
  clear h2
  go_wp2_with fail
  go_ret
  refine ⟨strB ?_, H2.out⟩
  rw [bappL, HD.out, E1.out, E2.out]
  rw [show ((k : Int) / 10).toNat = k / 10 by omega, show ((k : Int) % 10).toNat = k % 10 by omega]
set_option maxRecDepth 100000 in
set_option maxHeartbeats 8000000 in
theorem Digits_c (k : Nat) (h : k < 17) (w : World) : Calls Tryz.prog 75 #[.int .i64 k] w fun e w' => e = .returned (.string ⟨(Ofs.dg k).toArray⟩) ∧ Below w.heap.size w w' := by
  by_cases h1 : k < 10
  · exact Digits_1 k h1 w
  · have HB : Hid (∀ o, Below w.heap.size w (w.alloc o)) := fun o => (Below.refl _ w).alloc (Nat.le_refl _) o
    have HD : Hid (∀ v, Calls Tryz.prog 75 #[.int .i64 1] v fun e w' => e = .returned (.string ⟨#[49]⟩) ∧ Below v.heap.size v w') := fun v => Digits_1 1 (by omega) v
    have hk : k = 10 ∨ k = 11 ∨ k = 12 ∨ k = 13 ∨ k = 14 ∨ k = 15 ∨ k = 16 := by omega
    rcases hk with rfl | rfl | rfl | rfl | rfl | rfl | rfl
    · have hcv : (convert 138 9 (.slice (some ⟨w.heap.size, 0, none⟩) 1 1)).run Tryz.prog (w.alloc (.cells #[.int .u8 48] 5)) = .ok (.string ⟨#[48]⟩) (w.alloc (.cells #[.int .u8 48] 5)) := cvByte w 48
      go_enter Tryz.func75, Tryz.ntmps75
      go_wp2_with (go_at_call 75; refine (HD.out _).mono ?_; rintro e w2 ⟨rfl, hw2⟩)
      go_ret
      exact ⟨strB (by rw [bapp]; rfl), bthenO (HB.out _) hw2⟩
    · have hcv : (convert 138 9 (.slice (some ⟨w.heap.size, 0, none⟩) 1 1)).run Tryz.prog (w.alloc (.cells #[.int .u8 49] 5)) = .ok (.string ⟨#[49]⟩) (w.alloc (.cells #[.int .u8 49] 5)) := cvByte w 49
      go_enter Tryz.func75, Tryz.ntmps75
      go_wp2_with (go_at_call 75; refine (HD.out _).mono ?_; rintro e w2 ⟨rfl, hw2⟩)
      go_ret
      exact ⟨strB (by rw [bapp]; rfl), bthenO (HB.out _) hw2⟩
    · have hcv : (convert 138 9 (.slice (some ⟨w.heap.size, 0, none⟩) 1 1)).run Tryz.prog (w.alloc (.cells #[.int .u8 50] 5)) = .ok (.string ⟨#[50]⟩) (w.alloc (.cells #[.int .u8 50] 5)) := cvByte w 50
      go_enter Tryz.func75, Tryz.ntmps75
      go_wp2_with (go_at_call 75; refine (HD.out _).mono ?_; rintro e w2 ⟨rfl, hw2⟩)
      go_ret
      exact ⟨strB (by rw [bapp]; rfl), bthenO (HB.out _) hw2⟩
    · have hcv : (convert 138 9 (.slice (some ⟨w.heap.size, 0, none⟩) 1 1)).run Tryz.prog (w.alloc (.cells #[.int .u8 51] 5)) = .ok (.string ⟨#[51]⟩) (w.alloc (.cells #[.int .u8 51] 5)) := cvByte w 51
      go_enter Tryz.func75, Tryz.ntmps75
      go_wp2_with (go_at_call 75; refine (HD.out _).mono ?_; rintro e w2 ⟨rfl, hw2⟩)
      go_ret
      exact ⟨strB (by rw [bapp]; rfl), bthenO (HB.out _) hw2⟩
    · have hcv : (convert 138 9 (.slice (some ⟨w.heap.size, 0, none⟩) 1 1)).run Tryz.prog (w.alloc (.cells #[.int .u8 52] 5)) = .ok (.string ⟨#[52]⟩) (w.alloc (.cells #[.int .u8 52] 5)) := cvByte w 52
      go_enter Tryz.func75, Tryz.ntmps75
      go_wp2_with (go_at_call 75; refine (HD.out _).mono ?_; rintro e w2 ⟨rfl, hw2⟩)
      go_ret
      exact ⟨strB (by rw [bapp]; rfl), bthenO (HB.out _) hw2⟩
    · have hcv : (convert 138 9 (.slice (some ⟨w.heap.size, 0, none⟩) 1 1)).run Tryz.prog (w.alloc (.cells #[.int .u8 53] 5)) = .ok (.string ⟨#[53]⟩) (w.alloc (.cells #[.int .u8 53] 5)) := cvByte w 53
      go_enter Tryz.func75, Tryz.ntmps75
      go_wp2_with (go_at_call 75; refine (HD.out _).mono ?_; rintro e w2 ⟨rfl, hw2⟩)
      go_ret
      exact ⟨strB (by rw [bapp]; rfl), bthenO (HB.out _) hw2⟩
    · have hcv : (convert 138 9 (.slice (some ⟨w.heap.size, 0, none⟩) 1 1)).run Tryz.prog (w.alloc (.cells #[.int .u8 54] 5)) = .ok (.string ⟨#[54]⟩) (w.alloc (.cells #[.int .u8 54] 5)) := cvByte w 54
      go_enter Tryz.func75, Tryz.ntmps75
      go_wp2_with (go_at_call 75; refine (HD.out _).mono ?_; rintro e w2 ⟨rfl, hw2⟩)
      go_ret
      exact ⟨strB (by rw [bapp]; rfl), bthenO (HB.out _) hw2⟩

/-- contracts with letters for the answers, for the walk of OffText -/
theorem two_e (k : Int) (h0 : 0 ≤ k) (h : k < 100) (w : World) : Calls Tryz.prog 74 #[.int .i64 k] w fun e w' => ∃ l : List UInt8, Hid (l = Ofs.dd k.toNat) ∧ l.length ≤ 2 ∧ e = .returned (.string ⟨l.toArray⟩) ∧ Below w.heap.size w w' := by
  obtain ⟨j, rfl⟩ := Int.eq_ofNat_of_zero_le h0
  exact (two_c j (by omega) w).mono fun e w' ⟨h1, h2⟩ => ⟨_, rfl, dd_len _, h1, h2⟩
theorem Digits_e (k : Int) (h0 : 0 ≤ k) (h : k < 17) (w : World) : Calls Tryz.prog 75 #[.int .i64 k] w fun e w' => ∃ l : List UInt8, Hid (l = Ofs.dg k.toNat) ∧ l.length ≤ 2 ∧ e = .returned (.string ⟨l.toArray⟩) ∧ Below w.heap.size w w' := by
  obtain ⟨j, rfl⟩ := Int.eq_ofNat_of_zero_le h0
  exact (Digits_c j (by omega) w).mono fun e w' ⟨h1, h2⟩ => ⟨_, rfl, dg_len _, h1, h2⟩
def inO (n a b : Int) : Bool := decide (a ≤ n ∧ n ≤ b)
theorem within_o (n a b : Int) (w : World) : Calls Tryz.prog 26 #[.int .i64 n, .int .i64 a, .int .i64 b] w fun e w' => e = .returned (.bool (inO n a b)) ∧ w' = w := by
  by_cases h : a ≤ n
  all_goals
    go_enter Tryz.func26, Tryz.ntmps26
    go_wp2
    go_ret
    exact ⟨boolO (by unfold inO; rw [Bool.eq_iff_iff]; simp; omega), rfl⟩
set_option maxRecDepth 100000 in
set_option maxHeartbeats 8000000 in
theorem OffText_bad (st n : Int) (w : World) (h : ¬ (Ofs.isSt st = true ∧ Ofs.offB n = true)) : Calls Tryz.prog 45 #[.int .i64 st, .int .i64 n] w fun e w' => e = .returned (.tuple #[.string ⟨(shwT st n).toArray⟩, .int .i64 (shwE st n)]) ∧ Below w.heap.size w w' := by
  have HT : Hid (shwT st n = []) := by show _ = _; unfold shwT; rw [if_neg h]
  have HW := hideO (fun a b c v => within_o a b c v)
  cases hs : Ofs.isSt st
  · have HE : Hid (shwE st n = 8) := by show _ = _; unfold shwE; simp [hs]
    have hin : inO st 1 4 = false := hs
    clear hs h
    go_enter Tryz.func45, Tryz.ntmps45
    go_wp2_with (go_at_call 26; refine (HW.out _ _ _ _).mono ?_; rintro e w1 ⟨rfl, rfl⟩)
    go_ret2
    exact ⟨by rw [HT.out, HE.out]; rfl, Below.refl _ _⟩
  · cases ho : Ofs.offB n
    · have HE : Hid (shwE st n = 3) := by show _ = _; unfold shwE; simp [hs, ho]
      have hin : inO st 1 4 = true := hs
      by_cases hb : -57600 ≤ n ∧ n ≤ 57600
      · have hin2 : inO n (-57600) 57600 = true := by unfold inO; simpa using hb
        have hm : (n.tmod 60 != 0) = true := by
          unfold Ofs.offB at ho
          simp only [decide_eq_false_iff_not] at ho
          exact bne_iff_ne.2 (fun e => ho ⟨hb.1, hb.2, e⟩)
        obtain ⟨b1, b2⟩ := hb
        clear hs h ho
        go_enter Tryz.func45, Tryz.ntmps45
        go_wp2_with (go_at_call 26; refine (HW.out _ _ _ _).mono ?_; rintro e w1 ⟨rfl, rfl⟩)
        go_ret2
        exact ⟨by rw [HT.out, HE.out]; rfl, Below.refl _ _⟩
      · have hin2 : inO n (-57600) 57600 = false := by unfold inO; simpa using hb
        clear hs h ho hb
        go_enter Tryz.func45, Tryz.ntmps45
        go_wp2_with (go_at_call 26; refine (HW.out _ _ _ _).mono ?_; rintro e w1 ⟨rfl, rfl⟩)
        go_ret2
        exact ⟨by rw [HT.out, HE.out]; rfl, Below.refl _ _⟩
    · exact absurd ⟨hs, ho⟩ h
end Go.Proofs.YtfjjdicgekgbeaaGreatDoor

/- The document's own answers on offsets: OffText, OffFrom. -/
namespace Go.Proofs.YtfjjdicgekgbeaaGreatDoor
open Go Go.RowKit
set_option linter.unusedVariables false

theorem shw_y {st n : Int} (h : Ofs.isSt st = true) (ho : Ofs.offB n = true) : shwT st n = Ofs.sh st n ∧ shwE st n = 0 := by
  unfold shwT shwE; rw [if_pos ⟨h, ho⟩, if_pos h, if_pos ho]; exact ⟨rfl, rfl⟩
theorem tup2 {a b : ByteArray} {k : Int} (h : a = b) : Ending.returned (.tuple #[.string a, .int .i64 k]) = .returned (.tuple #[.string b, .int .i64 k]) := by rw [h]
theorem clk_s0 {h m : Nat} (hm : m = 0) : Ofs.clk (Ofs.bb 3) (Ofs.brB 3) h m = Ofs.dg h := by
  unfold Ofs.clk
  rw [if_neg (by decide), if_pos hm]
theorem clk_s1 {h m : Nat} (hm : ¬ m = 0) : Ofs.clk (Ofs.bb 3) (Ofs.brB 3) h m = Ofs.dg h ++ [58] ++ Ofs.dd m := by
  unfold Ofs.clk
  rw [if_neg (by decide), if_neg hm]
  rfl
set_option maxRecDepth 100000 in
set_option maxHeartbeats 16000000 in
theorem OffText_p (st : Int) (N : Nat) (h0 : 0 < N) (hs : Ofs.isSt st = true) (ho : Ofs.offB ((N : Int)) = true) (w : World) : Calls Tryz.prog 45 #[.int .i64 st, .int .i64 ((N : Int))] w fun e w' => e = .returned (.tuple #[.string ⟨(shwT st ((N : Int))).toArray⟩, .int .i64 (shwE st ((N : Int)))]) ∧ Below w.heap.size w w' := by
  have HW := hideO (fun a b c v => within_o a b c v)
  have hN : N ≤ 57600 := by unfold Ofs.offB at ho; simp only [decide_eq_true_eq] at ho; omega
  have hin : inO st 1 4 = true := hs
  have hin2 : inO ((N : Int)) (-57600) 57600 = true := by unfold inO; simp; omega
  have hmd : (((N : Int)).tmod 60 != 0) = false := by
    unfold Ofs.offB at ho
    simp only [decide_eq_true_eq] at ho
    rw [ho.2.2]; rfl
  have hmd2 : ((N : Int) % 60 != 0) = false := by
    rw [← Int.tmod_eq_emod_of_nonneg (by omega)]; exact hmd
  have hz : (((N : Int)) == 0) = false := beq_eq_false_iff_ne.2 (by omega)
  have hlt : ¬ (N : Int) < 0 := by omega
  have r1 : ((N : Int) / 60) ≤ 960 := by omega
  rcases Ofs.st_cases hs with rfl | rfl | rfl | rfl
  · have HT : Hid (shwT 1 (N) = Ofs.sh 1 (N) ∧ shwE 1 (N) = 0) := shw_y rfl ho
    have HS := hideO (sh_pos (Ofs.zz 1) (Ofs.aa 1) (Ofs.bb 1) (Ofs.brB 1) h0)
    clear ho
    go_enter Tryz.func45, Tryz.ntmps45
    go_wp2_with (go_at_call 26; refine (HW.out _ _ _ _).mono ?_; rintro e w1 ⟨rfl, rfl⟩)
    refine (two_e ((N : Int) / 60 / 60) (by omega) (by omega) _).mono ?_
    rintro e v0 ⟨l0, E0, b0, rfl, h0⟩
    have H0 := hideO h0
    clear h0
    go_wp2_with fail
    refine (two_e ((N : Int) / 60 % 60) (by omega) (by omega) _).mono ?_
    rintro e v1 ⟨l1, E1, b1, rfl, h1⟩
    have H1 := hideO (bthenO H0.out h1)
    clear h1
    go_wp2_with fail
    go_ret2
    refine ⟨?_, H1.out⟩
    rw [HT.out.1, HT.out.2]
    refine tup2 ?_
    show _ = (⟨(Ofs.shF (Ofs.zz 1) (Ofs.aa 1) (Ofs.bb 1) (Ofs.brB 1) (N)).toArray⟩ : ByteArray)
    rw [HS.out, bapp, bapp, E0.out, show (((N : Int) / 60 / 60).toNat) = N / 3600 by omega, E1.out, show (((N : Int) / 60 % 60).toNat) = N % 3600 / 60 by omega]
    apply congrArg ByteArray.mk
    simp [Ofs.aa, Ofs.bb, Ofs.brB, Ofs.clk]
  · have HT : Hid (shwT 2 (N) = Ofs.sh 2 (N) ∧ shwE 2 (N) = 0) := shw_y rfl ho
    have HS := hideO (sh_pos (Ofs.zz 2) (Ofs.aa 2) (Ofs.bb 2) (Ofs.brB 2) h0)
    clear ho
    go_enter Tryz.func45, Tryz.ntmps45
    go_wp2_with (go_at_call 26; refine (HW.out _ _ _ _).mono ?_; rintro e w1 ⟨rfl, rfl⟩)
    refine (two_e ((N : Int) / 60 / 60) (by omega) (by omega) _).mono ?_
    rintro e v0 ⟨l0, E0, b0, rfl, h0⟩
    have H0 := hideO h0
    clear h0
    go_wp2_with fail
    refine (two_e ((N : Int) / 60 % 60) (by omega) (by omega) _).mono ?_
    rintro e v1 ⟨l1, E1, b1, rfl, h1⟩
    have H1 := hideO (bthenO H0.out h1)
    clear h1
    go_wp2_with fail
    go_ret2
    refine ⟨?_, H1.out⟩
    rw [HT.out.1, HT.out.2]
    refine tup2 ?_
    show _ = (⟨(Ofs.shF (Ofs.zz 2) (Ofs.aa 2) (Ofs.bb 2) (Ofs.brB 2) (N)).toArray⟩ : ByteArray)
    rw [HS.out, bapp, bapp, bapp, E0.out, show (((N : Int) / 60 / 60).toNat) = N / 3600 by omega, E1.out, show (((N : Int) / 60 % 60).toNat) = N % 3600 / 60 by omega]
    apply congrArg ByteArray.mk
    simp [Ofs.aa, Ofs.bb, Ofs.brB, Ofs.clk]
  · by_cases hm0 : N % 3600 / 60 = 0
    · have hmz : ((N : Int) / 60 % 60 == 0) = true := beq_iff_eq.2 (by omega)
      have HT : Hid (shwT 3 (N) = Ofs.sh 3 (N) ∧ shwE 3 (N) = 0) := shw_y rfl ho
      have HS := hideO (sh_pos (Ofs.zz 3) (Ofs.aa 3) (Ofs.bb 3) (Ofs.brB 3) h0)
      clear ho
      go_enter Tryz.func45, Tryz.ntmps45
      go_wp2_with (go_at_call 26; refine (HW.out _ _ _ _).mono ?_; rintro e w1 ⟨rfl, rfl⟩)
      refine (Digits_e ((N : Int) / 60 / 60) (by omega) (by omega) _).mono ?_
      rintro e v0 ⟨l0, E0, b0, rfl, h0⟩
      have H0 := hideO h0
      clear h0
      go_wp2_with fail
      go_ret2
      refine ⟨?_, H0.out⟩
      rw [HT.out.1, HT.out.2]
      refine tup2 ?_
      show _ = (⟨(Ofs.shF (Ofs.zz 3) (Ofs.aa 3) (Ofs.bb 3) (Ofs.brB 3) (N)).toArray⟩ : ByteArray)
      rw [HS.out, bapp, bapp, E0.out, show (((N : Int) / 60 / 60).toNat) = N / 3600 by omega]
      rw [clk_s0 hm0]
      apply congrArg ByteArray.mk
      simp [Ofs.aa]
    · have hmz : ((N : Int) / 60 % 60 == 0) = false := beq_eq_false_iff_ne.2 (by omega)
      have HT : Hid (shwT 3 (N) = Ofs.sh 3 (N) ∧ shwE 3 (N) = 0) := shw_y rfl ho
      have HS := hideO (sh_pos (Ofs.zz 3) (Ofs.aa 3) (Ofs.bb 3) (Ofs.brB 3) h0)
      clear ho
      go_enter Tryz.func45, Tryz.ntmps45
      go_wp2_with (go_at_call 26; refine (HW.out _ _ _ _).mono ?_; rintro e w1 ⟨rfl, rfl⟩)
      refine (Digits_e ((N : Int) / 60 / 60) (by omega) (by omega) _).mono ?_
      rintro e v0 ⟨l0, E0, b0, rfl, h0⟩
      have H0 := hideO h0
      clear h0
      go_wp2_with fail
      refine (two_e ((N : Int) / 60 % 60) (by omega) (by omega) _).mono ?_
      rintro e v1 ⟨l1, E1, b1, rfl, h1⟩
      have H1 := hideO (bthenO H0.out h1)
      clear h1
      go_wp2_with fail
      go_ret2
      refine ⟨?_, H1.out⟩
      rw [HT.out.1, HT.out.2]
      refine tup2 ?_
      show _ = (⟨(Ofs.shF (Ofs.zz 3) (Ofs.aa 3) (Ofs.bb 3) (Ofs.brB 3) (N)).toArray⟩ : ByteArray)
      rw [HS.out, bapp, bapp, bapp, bapp, E0.out, show (((N : Int) / 60 / 60).toNat) = N / 3600 by omega, E1.out, show (((N : Int) / 60 % 60).toNat) = N % 3600 / 60 by omega]
      rw [clk_s1 hm0]
      apply congrArg ByteArray.mk
      simp [Ofs.aa]
  · have HT : Hid (shwT 4 (N) = Ofs.sh 4 (N) ∧ shwE 4 (N) = 0) := shw_y rfl ho
    have HS := hideO (sh_pos (Ofs.zz 4) (Ofs.aa 4) (Ofs.bb 4) (Ofs.brB 4) h0)
    clear ho
    go_enter Tryz.func45, Tryz.ntmps45
    go_wp2_with (go_at_call 26; refine (HW.out _ _ _ _).mono ?_; rintro e w1 ⟨rfl, rfl⟩)
    refine (two_e ((N : Int) / 60 / 60) (by omega) (by omega) _).mono ?_
    rintro e v0 ⟨l0, E0, b0, rfl, h0⟩
    have H0 := hideO h0
    clear h0
    go_wp2_with fail
    refine (two_e ((N : Int) / 60 % 60) (by omega) (by omega) _).mono ?_
    rintro e v1 ⟨l1, E1, b1, rfl, h1⟩
    have H1 := hideO (bthenO H0.out h1)
    clear h1
    go_wp2_with fail
    go_ret2
    refine ⟨?_, H1.out⟩
    rw [HT.out.1, HT.out.2]
    refine tup2 ?_
    show _ = (⟨(Ofs.shF (Ofs.zz 4) (Ofs.aa 4) (Ofs.bb 4) (Ofs.brB 4) (N)).toArray⟩ : ByteArray)
    rw [HS.out, bapp, bapp, bapp, bapp, E0.out, show (((N : Int) / 60 / 60).toNat) = N / 3600 by omega, E1.out, show (((N : Int) / 60 % 60).toNat) = N % 3600 / 60 by omega]
    apply congrArg ByteArray.mk
    simp [Ofs.aa, Ofs.bb, Ofs.brB, Ofs.clk]
set_option maxRecDepth 100000 in
set_option maxHeartbeats 16000000 in
theorem OffText_n (st : Int) (N : Nat) (h0 : 0 < N) (hs : Ofs.isSt st = true) (ho : Ofs.offB (-(N : Int)) = true) (w : World) : Calls Tryz.prog 45 #[.int .i64 st, .int .i64 (-(N : Int))] w fun e w' => e = .returned (.tuple #[.string ⟨(shwT st (-(N : Int))).toArray⟩, .int .i64 (shwE st (-(N : Int)))]) ∧ Below w.heap.size w w' := by
  have HW := hideO (fun a b c v => within_o a b c v)
  have hN : N ≤ 57600 := by unfold Ofs.offB at ho; simp only [decide_eq_true_eq] at ho; omega
  have hin : inO st 1 4 = true := hs
  have hin2 : inO (-(N : Int)) (-57600) 57600 = true := by unfold inO; simp; omega
  have hmd : ((-(N : Int)).tmod 60 != 0) = false := by
    unfold Ofs.offB at ho
    simp only [decide_eq_true_eq] at ho
    rw [ho.2.2]; rfl
  have hmd2 : (-((N : Int) % 60) != 0) = false := by
    rw [← Int.tmod_eq_emod_of_nonneg (by omega), ← Int.neg_tmod]; exact hmd
  have hz : ((-(N : Int)) == 0) = false := beq_eq_false_iff_ne.2 (by omega)
  have hlt : -(N : Int) < 0 := by omega
  have r1 : ((N : Int) / 60) ≤ 960 := by omega
  rcases Ofs.st_cases hs with rfl | rfl | rfl | rfl
  · have HT : Hid (shwT 1 (-(N : Int)) = Ofs.sh 1 (-(N : Int)) ∧ shwE 1 (-(N : Int)) = 0) := shw_y rfl ho
    have HS := hideO (sh_neg (Ofs.zz 1) (Ofs.aa 1) (Ofs.bb 1) (Ofs.brB 1) h0)
    clear ho
    go_enter Tryz.func45, Tryz.ntmps45
    go_wp2_with (go_at_call 26; refine (HW.out _ _ _ _).mono ?_; rintro e w1 ⟨rfl, rfl⟩)
    refine (two_e ((N : Int) / 60 / 60) (by omega) (by omega) _).mono ?_
    rintro e v0 ⟨l0, E0, b0, rfl, h0⟩
    have H0 := hideO h0
    clear h0
    go_wp2_with fail
    refine (two_e ((N : Int) / 60 % 60) (by omega) (by omega) _).mono ?_
    rintro e v1 ⟨l1, E1, b1, rfl, h1⟩
    have H1 := hideO (bthenO H0.out h1)
    clear h1
    go_wp2_with fail
    go_ret2
    refine ⟨?_, H1.out⟩
    rw [HT.out.1, HT.out.2]
    refine tup2 ?_
    show _ = (⟨(Ofs.shF (Ofs.zz 1) (Ofs.aa 1) (Ofs.bb 1) (Ofs.brB 1) (-(N : Int))).toArray⟩ : ByteArray)
    rw [HS.out, bapp, bapp, E0.out, show (((N : Int) / 60 / 60).toNat) = N / 3600 by omega, E1.out, show (((N : Int) / 60 % 60).toNat) = N % 3600 / 60 by omega]
    apply congrArg ByteArray.mk
    simp [Ofs.aa, Ofs.bb, Ofs.brB, Ofs.clk]
  · have HT : Hid (shwT 2 (-(N : Int)) = Ofs.sh 2 (-(N : Int)) ∧ shwE 2 (-(N : Int)) = 0) := shw_y rfl ho
    have HS := hideO (sh_neg (Ofs.zz 2) (Ofs.aa 2) (Ofs.bb 2) (Ofs.brB 2) h0)
    clear ho
    go_enter Tryz.func45, Tryz.ntmps45
    go_wp2_with (go_at_call 26; refine (HW.out _ _ _ _).mono ?_; rintro e w1 ⟨rfl, rfl⟩)
    refine (two_e ((N : Int) / 60 / 60) (by omega) (by omega) _).mono ?_
    rintro e v0 ⟨l0, E0, b0, rfl, h0⟩
    have H0 := hideO h0
    clear h0
    go_wp2_with fail
    refine (two_e ((N : Int) / 60 % 60) (by omega) (by omega) _).mono ?_
    rintro e v1 ⟨l1, E1, b1, rfl, h1⟩
    have H1 := hideO (bthenO H0.out h1)
    clear h1
    go_wp2_with fail
    go_ret2
    refine ⟨?_, H1.out⟩
    rw [HT.out.1, HT.out.2]
    refine tup2 ?_
    show _ = (⟨(Ofs.shF (Ofs.zz 2) (Ofs.aa 2) (Ofs.bb 2) (Ofs.brB 2) (-(N : Int))).toArray⟩ : ByteArray)
    rw [HS.out, bapp, bapp, bapp, E0.out, show (((N : Int) / 60 / 60).toNat) = N / 3600 by omega, E1.out, show (((N : Int) / 60 % 60).toNat) = N % 3600 / 60 by omega]
    apply congrArg ByteArray.mk
    simp [Ofs.aa, Ofs.bb, Ofs.brB, Ofs.clk]
  · by_cases hm0 : N % 3600 / 60 = 0
    · have hmz : ((N : Int) / 60 % 60 == 0) = true := beq_iff_eq.2 (by omega)
      have HT : Hid (shwT 3 (-(N : Int)) = Ofs.sh 3 (-(N : Int)) ∧ shwE 3 (-(N : Int)) = 0) := shw_y rfl ho
      have HS := hideO (sh_neg (Ofs.zz 3) (Ofs.aa 3) (Ofs.bb 3) (Ofs.brB 3) h0)
      clear ho
      go_enter Tryz.func45, Tryz.ntmps45
      go_wp2_with (go_at_call 26; refine (HW.out _ _ _ _).mono ?_; rintro e w1 ⟨rfl, rfl⟩)
      refine (Digits_e ((N : Int) / 60 / 60) (by omega) (by omega) _).mono ?_
      rintro e v0 ⟨l0, E0, b0, rfl, h0⟩
      have H0 := hideO h0
      clear h0
      go_wp2_with fail
      go_ret2
      refine ⟨?_, H0.out⟩
      rw [HT.out.1, HT.out.2]
      refine tup2 ?_
      show _ = (⟨(Ofs.shF (Ofs.zz 3) (Ofs.aa 3) (Ofs.bb 3) (Ofs.brB 3) (-(N : Int))).toArray⟩ : ByteArray)
      rw [HS.out, bapp, bapp, E0.out, show (((N : Int) / 60 / 60).toNat) = N / 3600 by omega]
      rw [clk_s0 hm0]
      apply congrArg ByteArray.mk
      simp [Ofs.aa]
    · have hmz : ((N : Int) / 60 % 60 == 0) = false := beq_eq_false_iff_ne.2 (by omega)
      have HT : Hid (shwT 3 (-(N : Int)) = Ofs.sh 3 (-(N : Int)) ∧ shwE 3 (-(N : Int)) = 0) := shw_y rfl ho
      have HS := hideO (sh_neg (Ofs.zz 3) (Ofs.aa 3) (Ofs.bb 3) (Ofs.brB 3) h0)
      clear ho
      go_enter Tryz.func45, Tryz.ntmps45
      go_wp2_with (go_at_call 26; refine (HW.out _ _ _ _).mono ?_; rintro e w1 ⟨rfl, rfl⟩)
      refine (Digits_e ((N : Int) / 60 / 60) (by omega) (by omega) _).mono ?_
      rintro e v0 ⟨l0, E0, b0, rfl, h0⟩
      have H0 := hideO h0
      clear h0
      go_wp2_with fail
      refine (two_e ((N : Int) / 60 % 60) (by omega) (by omega) _).mono ?_
      rintro e v1 ⟨l1, E1, b1, rfl, h1⟩
      have H1 := hideO (bthenO H0.out h1)
      clear h1
      go_wp2_with fail
      go_ret2
      refine ⟨?_, H1.out⟩
      rw [HT.out.1, HT.out.2]
      refine tup2 ?_
      show _ = (⟨(Ofs.shF (Ofs.zz 3) (Ofs.aa 3) (Ofs.bb 3) (Ofs.brB 3) (-(N : Int))).toArray⟩ : ByteArray)
      rw [HS.out, bapp, bapp, bapp, bapp, E0.out, show (((N : Int) / 60 / 60).toNat) = N / 3600 by omega, E1.out, show (((N : Int) / 60 % 60).toNat) = N % 3600 / 60 by omega]
      rw [clk_s1 hm0]
      apply congrArg ByteArray.mk
      simp [Ofs.aa]
  · have HT : Hid (shwT 4 (-(N : Int)) = Ofs.sh 4 (-(N : Int)) ∧ shwE 4 (-(N : Int)) = 0) := shw_y rfl ho
    have HS := hideO (sh_neg (Ofs.zz 4) (Ofs.aa 4) (Ofs.bb 4) (Ofs.brB 4) h0)
    clear ho
    go_enter Tryz.func45, Tryz.ntmps45
    go_wp2_with (go_at_call 26; refine (HW.out _ _ _ _).mono ?_; rintro e w1 ⟨rfl, rfl⟩)
    refine (two_e ((N : Int) / 60 / 60) (by omega) (by omega) _).mono ?_
    rintro e v0 ⟨l0, E0, b0, rfl, h0⟩
    have H0 := hideO h0
    clear h0
    go_wp2_with fail
    refine (two_e ((N : Int) / 60 % 60) (by omega) (by omega) _).mono ?_
    rintro e v1 ⟨l1, E1, b1, rfl, h1⟩
    have H1 := hideO (bthenO H0.out h1)
    clear h1
    go_wp2_with fail
    go_ret2
    refine ⟨?_, H1.out⟩
    rw [HT.out.1, HT.out.2]
    refine tup2 ?_
    show _ = (⟨(Ofs.shF (Ofs.zz 4) (Ofs.aa 4) (Ofs.bb 4) (Ofs.brB 4) (-(N : Int))).toArray⟩ : ByteArray)
    rw [HS.out, bapp, bapp, bapp, bapp, E0.out, show (((N : Int) / 60 / 60).toNat) = N / 3600 by omega, E1.out, show (((N : Int) / 60 % 60).toNat) = N % 3600 / 60 by omega]
    apply congrArg ByteArray.mk
    simp [Ofs.aa, Ofs.bb, Ofs.brB, Ofs.clk]
set_option maxRecDepth 100000 in
set_option maxHeartbeats 8000000 in
theorem OffText_0 (st : Int) (hs : Ofs.isSt st = true) (w : World) : Calls Tryz.prog 45 #[.int .i64 st, .int .i64 0] w fun e w' => e = .returned (.tuple #[.string ⟨(shwT st 0).toArray⟩, .int .i64 (shwE st 0)]) ∧ Below w.heap.size w w' := by
  have HW := hideO (fun a b c v => within_o a b c v)
  have hin : inO st 1 4 = true := hs
  have hin2 : inO 0 (-57600) 57600 = true := by decide
  rcases Ofs.st_cases hs with rfl | rfl | rfl | rfl
  · have HT : Hid (shwT 1 0 = [43, 48, 48, 48, 48] ∧ shwE 1 0 = 0) := by show _ ∧ _; decide +kernel
    go_enter Tryz.func45, Tryz.ntmps45
    go_wp2_with (go_at_call 26; refine (HW.out _ _ _ _).mono ?_; rintro e w1 ⟨rfl, rfl⟩)
    refine (two_e 0 (by omega) (by omega) _).mono ?_
    rintro e v0 ⟨l0, E0, b0, rfl, h0⟩
    have H0 := hideO h0
    clear h0
    go_wp2_with fail
    refine (two_e 0 (by omega) (by omega) _).mono ?_
    rintro e v1 ⟨l1, E1, b1, rfl, h1⟩
    have H1 := hideO (bthenO H0.out h1)
    clear h1
    go_wp2_with fail
    go_ret2
    refine ⟨?_, H1.out⟩
    rw [HT.out.1, HT.out.2]
    refine tup2 ?_
    rw [bapp, bapp, E0.out, E1.out]
    rfl
  · have HT : Hid (shwT 2 0 = [90] ∧ shwE 2 0 = 0) := by show _ ∧ _; decide +kernel
    go_enter Tryz.func45, Tryz.ntmps45
    go_wp2_with (go_at_call 26; refine (HW.out _ _ _ _).mono ?_; rintro e w1 ⟨rfl, rfl⟩)
    go_ret2
    exact ⟨by rw [HT.out.1, HT.out.2]; rfl, Below.refl _ _⟩
  · have HT : Hid (shwT 3 0 = [71, 77, 84] ∧ shwE 3 0 = 0) := by show _ ∧ _; decide +kernel
    go_enter Tryz.func45, Tryz.ntmps45
    go_wp2_with (go_at_call 26; refine (HW.out _ _ _ _).mono ?_; rintro e w1 ⟨rfl, rfl⟩)
    go_ret2
    exact ⟨by rw [HT.out.1, HT.out.2]; rfl, Below.refl _ _⟩
  · have HT : Hid (shwT 4 0 = [71, 77, 84] ∧ shwE 4 0 = 0) := by show _ ∧ _; decide +kernel
    go_enter Tryz.func45, Tryz.ntmps45
    go_wp2_with (go_at_call 26; refine (HW.out _ _ _ _).mono ?_; rintro e w1 ⟨rfl, rfl⟩)
    go_ret2
    exact ⟨by rw [HT.out.1, HT.out.2]; rfl, Below.refl _ _⟩
theorem OffText_c (st n : Int) (w : World) : Calls Tryz.prog 45 #[.int .i64 st, .int .i64 n] w fun e w' => e = .returned (.tuple #[.string ⟨(shwT st n).toArray⟩, .int .i64 (shwE st n)]) ∧ Below w.heap.size w w' := by
  by_cases h : Ofs.isSt st = true ∧ Ofs.offB n = true
  · obtain ⟨hs, ho⟩ := h
    rcases Int.lt_trichotomy n 0 with h1 | h1 | h1
    · obtain ⟨N, hN⟩ : ∃ N : Nat, n = -(N : Int) := ⟨n.natAbs, by omega⟩
      subst hN
      exact OffText_n st N (by omega) hs ho w
    · subst h1; exact OffText_0 st hs w
    · obtain ⟨N, hN⟩ : ∃ N : Nat, n = (N : Int) := ⟨n.natAbs, by omega⟩
      subst hN
      exact OffText_p st N (by omega) hs ho w
  · exact OffText_bad st n w h
end Go.Proofs.YtfjjdicgekgbeaaGreatDoor
