/- The document's own TextOf, and the walk of the statement BooksTells, once the document's own CheckBooks answers bchk. -/
import Derived.Test.YtainhpnmgligjafBooksJ
import Derived.Test.YtainhpnmgligjafBooksI
import Derived.OwnWalk
namespace Go.Proofs.Ytainhpnmgligjaf
open Go Go.RowKit
set_option linter.unusedVariables false

/-- what is owed of the document's own CheckBooks -/
def CBk (a : Option Addr) (n c : Nat) (bs : Nat → Bk) (w : World) : Prop := ∀ v, Below w.heap.size w v → Calls Try.prog 9 #[.slice a n c] v fun e w' => e = .returned (.int .i64 (bchk n bs)) ∧ Below v.heap.size v w'
set_option maxHeartbeats 8000000 in
theorem TextOf_c (a : Option Addr) (n c : Nat) (bs : Nat → Bk) (loc key : ByteArray) (w : World) (hCB : CBk a n c bs w) (hP : BAt w a n bs) :
    Calls Try.prog 6 #[.slice a n c, .string loc, .string key] w fun e w' => e = .returned (.tuple #[.string (btT bs n loc key), .bool (!(btT bs n loc key).toList.isEmpty), .int .i64 (btE bs n loc)]) ∧ Below w.heap.size w w' := by
  have HP := hideH hP
  have HC := hideH hCB
  have HI := hideH (fun v (hv : Below w.heap.size w v) (h0 : bchk n bs = 0) => bookAt_c a n c bs loc v (by have := (bchk_parts h0).1; omega) (HP.out.on hv))
  have HT := hideH (fun (v : World) (hv : Below w.heap.size w v) (h0 : bchk n bs = 0) => RtextOf_c a n c bs key (bixI bs n loc) v (by have := (bchk_parts h0).1; omega) (HP.out.on hv) (bchk_parts h0).2.1 (bchk_parts h0).2.2.1 (bixI_in bs n loc).1 (bixI_in bs n loc).2)
  obtain ⟨T, hT⟩ : ∃ T, T = btT bs n loc key := ⟨_, rfl⟩
  obtain ⟨E, hE⟩ : ∃ E, E = btE bs n loc := ⟨_, rfl⟩
  rw [← hT, ← hE]
  have HTT := hideH hT
  have HEE := hideH hE
  clear hP hCB hT hE
  go_enter Try.func6, Try.ntmps6
  go_wp2_with fail
  refine (HC.out _ (Below.refl _ w)).mono ?_
  rintro e w1 ⟨rfl, hw1⟩
  have H1 := hideH hw1
  clear hw1
  rcases beq_cases (bchk n bs) 0 with ⟨q1, q2⟩ | ⟨q1, q2⟩
  · rw [q2]
    have Q := hideH q2
    have HT2 := hideH (fun v hv => HT.out v hv q2)
    have HI2 := hideH (fun v hv => HI.out v hv q2)
    clear q1 q2 HT HI
    have hin := bixI_in bs n loc
    go_wp2_with fail
    refine (HI2.out _ H1.out).mono ?_
    rintro e w2 ⟨rfl, hw2⟩
    have H2 := hideH (bthen H1.out hw2)
    clear hw2
    by_cases hx : bixI bs n loc < 0
    · have ET : Hid (T = ⟨#[]⟩) := by show T = _; rw [HTT.out]; unfold btT; rw [if_pos Q.out, if_pos hx]
      have EE : Hid (E = 4) := by show E = _; rw [HEE.out]; unfold btE; rw [if_pos Q.out, if_pos hx]
      go_wp2_with fail
      go_ret3
      exact ⟨by rw [ET.out, EE.out, emp0]; rfl, H2.out⟩
    · have ET : Hid (T = txt bs key n (bixI bs n loc)) := by show T = _; rw [HTT.out]; unfold btT; rw [if_pos Q.out, if_neg hx]
      have EE : Hid (E = 0) := by show E = _; rw [HEE.out]; unfold btE; rw [if_pos Q.out, if_neg hx]
      have HT3 : Hid (∀ v, Below w.heap.size w v → Calls Try.prog 15 #[.slice a n c, .int .i64 (bixI bs n loc), .string key] v fun e w' => e = .returned (.tuple #[.string T, .bool (!T.toList.isEmpty)]) ∧ Below v.heap.size v w') := fun v hv => by rw [ET.out]; exact HT2.out v hv
      go_wp2_with fail
      refine (HT3.out _ H2.out).mono ?_
      rintro e w3 ⟨rfl, hw3⟩
      have H3 := hideH (bthen H2.out hw3)
      clear hw3
      go_wp2_with fail
      go_ret3
      exact ⟨by rw [EE.out]; rfl, H3.out⟩
  · have ET : Hid (T = ⟨#[]⟩) := by show T = _; rw [HTT.out]; unfold btT; rw [if_neg q2]
    have EE : Hid (E = bchk n bs) := by show E = _; rw [HEE.out]; unfold btE; rw [if_neg q2]
    have hne : (bchk n bs != 0) = true := by rw [bne_iff_ne]; exact q2
    clear q1 q2
    go_wp2_with fail
    go_ret3
    exact ⟨by rw [ET.out, EE.out, emp0]; rfl, H1.out⟩
set_option maxHeartbeats 8000000 in
theorem BooksTells_cb (a : Option Addr) (n c : Nat) (bs : Nat → Bk) (loc key : ByteArray) (w : World) (hCB : CBk a n c bs w) (hn : n ≤ maxLen) (hc : n ≤ c) (hP : BAt w a n bs) (hf : ∀ j, j < n → (bs j).fits) :
    Calls Try.prog 3 #[.slice a n c, .string loc, .string key] w fun e w' => e = .returned (.bool true) ∧ Below w.heap.size w w' := by
  have HP := hideH hP
  have HF := hideH hf
  have HCB := hideH hCB
  have HC := hideH (fun v (hv : Below w.heap.size w v) => BCheck_c a n c bs v hn hc (HP.out.on hv) HF.out)
  have HT := hideH (fun v (hv : Below w.heap.size w v) => BText_c a n c bs loc key v hn hc (HP.out.on hv) HF.out)
  have HR := hideH (fun v (hv : Below w.heap.size w v) => TextOf_c a n c bs loc key v (fun u hu => HCB.out u (bthen hv hu)) (HP.out.on hv))
  generalize btT bs n loc key = T at HT HR
  generalize btE bs n loc = E at HT HR
  obtain ⟨te, hte⟩ : ∃ te, T.toList.isEmpty = te := ⟨_, rfl⟩
  rw [hte] at HT HR
  obtain ⟨K, hK⟩ : ∃ K, bchk n bs = K := ⟨_, rfl⟩
  have HCB2 : Hid (∀ v, Below w.heap.size w v → Calls Try.prog 9 #[.slice a n c] v fun e w' => e = .returned (.int .i64 K) ∧ Below v.heap.size v w') := fun v hv => by rw [← hK]; exact HCB.out v hv
  rw [hK] at HC
  clear hP hf hCB HCB hK hte
  go_enter Try.func3, Try.ntmps3
  go_wp2_with fail
  refine (HT.out _ (Below.refl _ w)).mono ?_
  rintro e w1 ⟨rfl, hw1⟩
  have H1 := hideH hw1
  clear hw1
  go_wp2_with fail
  refine (HR.out _ H1.out).mono ?_
  rintro e w2 ⟨rfl, hw2⟩
  have H2 := hideH (bthen H1.out hw2)
  clear hw2
  go_wp2_with fail
  refine (booksBegun_c _).mono ?_
  rintro e w3 ⟨rfl, hw3⟩
  have H3 := hideH (bthen H2.out hw3)
  clear hw3
  go_wp2_with fail
  refine (HC.out _ H3.out).mono ?_
  rintro e w4 ⟨rfl, hw4⟩
  have H4 := hideH (bthen H3.out hw4)
  clear hw4
  go_wp2_with fail
  refine (HCB2.out _ H4.out).mono ?_
  rintro e w5 ⟨rfl, hw5⟩
  have H5 := hideH (bthen H4.out hw5)
  clear hw5
  go_wp2_with fail
  go_ret
  exact ⟨rfl, H5.out⟩
end Go.Proofs.Ytainhpnmgligjaf
