/- The document's own CheckBooks: its contract. The statement BooksTells: its walk. -/
import Derived.Test.YtainhpnmgligjafBooksP
import Derived.Test.YtainhpnmgligjafBooksK
namespace Go.Proofs.Ytainhpnmgligjaf
open Go Go.RowKit Go.Maps
set_option linter.unusedVariables false

theorem bchk_2 {n : Nat} {bs : Nat → Bk} (h : ¬ (n ≤ 4 ∧ ∀ j, j < n → fewB (bs j) = true)) : bchk n bs = 2 := by unfold bchk; rw [if_neg h]
theorem bchk_5 {n : Nat} {bs : Nat → Bk} (h : n ≤ 4 ∧ ∀ j, j < n → fewB (bs j) = true) (h2 : ¬ ∀ j, j < n → namB (bs j) = true) : bchk n bs = 5 := by unfold bchk; rw [if_pos h, if_neg h2]
theorem bchk_6 {n : Nat} {bs : Nat → Bk} (h : n ≤ 4 ∧ ∀ j, j < n → fewB (bs j) = true) (h2 : ∀ j, j < n → namB (bs j) = true) (h3 : ¬ (dist (fun j => (bs j).lc) n ∧ ∀ j, j < n → rsB (bs j) = true)) : bchk n bs = 6 := by unfold bchk; rw [if_pos h, if_pos h2, if_neg h3]
theorem bchk_l {n : Nat} {bs : Nat → Bk} (h : n ≤ 4 ∧ ∀ j, j < n → fewB (bs j) = true) (h2 : ∀ j, j < n → namB (bs j) = true) (h3 : dist (fun j => (bs j).lc) n ∧ ∀ j, j < n → rsB (bs j) = true) : bchk n bs = if paB bs n = true then 0 else 3 := by unfold bchk; rw [if_pos h, if_pos h2, if_pos h3]
set_option maxRecDepth 1000000 in
set_option maxHeartbeats 4000000 in
theorem cb_all {a : Option Addr} {n c : Nat} {bs : Nat → Bk} {w : World} (h4 : n ≤ 4) (hP : BAt w a n bs) (hf : ∀ j, j < n → (bs j).fits) : ((∀ j, j < n → fewB (bs j) = true) → CB3 bs a n c w (bchk n bs)) ∧ (¬ (∀ j, j < n → fewB (bs j) = true) → bchk n bs = 2) := by
  have HP := hideH hP
  have HF := hideH hf
  refine ⟨fun f2 => ?_, fun h => bchk_2 (fun x => h x.2)⟩
  have HE : Hid (∀ j, j < n → (bs j).n ≤ 8) := fun j hj => of_decide_eq_true (f2 j hj)
  have K6 : (∀ j, j < n → namB (bs j) = true) → dist (fun j => (bs j).lc) n → (∀ j, j < n → rsOK (bs j)) → CB6 a n c w (bchk n bs) := by
    intro a1 a2 a3 W
    intros
    rename_i HW
    have e := bchk_l ⟨h4, f2⟩ a1 ⟨a2, fun j hj => decide_eq_true (a3 j hj)⟩
    exact cb6 h4 HP HW (fun h => by rw [e, if_pos h]) (fun h => by rw [e, if_neg (by rw [h]; decide)])
  have K5 : (∀ j, j < n → namB (bs j) = true) → dist (fun j => (bs j).lc) n → CB5 a n c w (bchk n bs) := by
    intro a1 a2 W
    intros
    rename_i HW
    exact cb5 h4 HP HE HW (K6 a1 a2) (fun h => bchk_6 ⟨h4, f2⟩ a1 (fun x => h (fun j hj => of_decide_eq_true (x.2 j hj))))
  have K4 : (∀ j, j < n → namB (bs j) = true) → CB4 bs a n c w (bchk n bs) := by
    intro a1 W a3 q3
    intros
    rename_i HW R3
    exact cb4 h4 HW R3 (K5 a1) (fun h => bchk_6 ⟨h4, f2⟩ a1 (fun x => h x.1))
  intro W a3 q3
  intros
  rename_i HW R3
  exact cb3 h4 HP HF HE HW R3 K4 (fun h => bchk_5 ⟨h4, f2⟩ h)
set_option maxRecDepth 1000000 in
set_option maxHeartbeats 4000000 in
theorem CheckBooks_c (a : Option Addr) (n c : Nat) (bs : Nat → Bk) (w : World) (hn : n ≤ maxLen) (hP : BAt w a n bs) (hf : ∀ j, j < n → (bs j).fits) : Calls Try.prog 9 #[.slice a n c] w fun e w' => e = .returned (.int .i64 (bchk n bs)) ∧ Below w.heap.size w w' := by
  unfold maxLen at hn
  by_cases h : 4 < n
  · have HX := hideH (bchk_2 (n := n) (bs := bs) (fun x => by have := x.1; omega))
    have t1 : (4 : Int) < (n : Int) := by omega
    clear hP hf
    go_enter Try.func9, Try.ntmps9
    go_wp2_with fail
    go_ret
    exact ⟨ret_int HX.out.symm, Below.refl _ _⟩
  · have h4 : n ≤ 4 := by omega
    have HA := hideH (cb_all (c := c) h4 hP hf)
    have HP := hideH hP
    have HF := hideH hf
    have t1 : (n : Int) ≤ 4 := by omega
    clear hP hf
    go_enter Try.func9, Try.ntmps9
    refine wp_seq_k (fun K0 hK0 => ?_)
    have HK0 := hideH hK0
    clear hK0
    go_wp2_with fail
    refine HK0.out _ _ ?_
    clear HK0 K0
    refine wp_seq_k (fun K0 hK0 => ?_)
    have HK0 := hideH hK0
    clear hK0
    go_wp2_with fail
    refine HK0.out _ _ ?_
    clear HK0 K0
    refine wp_seq_k (fun K0 hK0 => ?_)
    have HK0 := hideH hK0
    clear hK0
    go_wp2_with fail
    refine HK0.out _ _ ?_
    clear HK0 K0
    exact cb2 h4 HP HF (Below.refl _ _) HA.out.1 HA.out.2
theorem BooksTells_w (a : Option Addr) (n c : Nat) (bs : Nat → Bk) (loc key : ByteArray) (w : World) (hn : n ≤ maxLen) (hc : n ≤ c) (hP : BAt w a n bs) (hf : ∀ j, j < n → (bs j).fits) :
    Calls Try.prog 3 #[.slice a n c, .string loc, .string key] w fun e w' => e = .returned (.bool true) ∧ Below w.heap.size w w' :=
  BooksTells_cb a n c bs loc key w (fun v hv => CheckBooks_c a n c bs v hn (hP.on hv) hf) hn hc hP hf
end Go.Proofs.Ytainhpnmgligjaf
