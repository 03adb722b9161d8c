/- The contract of books.Text. -/
import Derived.Test.YtainhpnmgligjafBooksF
import Derived.OwnWalk
namespace Go.Proofs.Ytainhpnmgligjaf
open Go Go.RowKit
set_option linter.unusedVariables false

theorem heap_onB {w w' : World} {b : Nat} {o : Obj} (h : w.heap[b]? = some o) (hb : Below w.heap.size w w') : w'.heap[b]? = some o := (hb.block b (Array.getElem?_eq_some_iff.1 h).1).trans h
theorem bchk_parts {n : Nat} {bs : Nat → Bk} (h : bchk n bs = 0) : n ≤ 4 ∧ (∀ j, j < n → (bs j).n ≤ 1000 ∧ rsOK (bs j)) ∧ (∀ j, j < n → -1 ≤ (bs j).pa ∧ (bs j).pa < j) ∧ dist (fun j => (bs j).lc) n := by
  unfold bchk at h
  split at h
  · rename_i h1
    split at h
    · split at h
      · rename_i h2
        split at h
        · rename_i h3
          refine ⟨h1.1, fun j hj => ⟨?_, of_decide_eq_true (h2.2 j hj)⟩, fun j hj => ?_, h2.1⟩
          · have := of_decide_eq_true (h1.2 j hj)
            omega
          · have := List.all_eq_true.1 h3 j (List.mem_range.2 hj)
            exact of_decide_eq_true this
        · cases h
      · cases h
    · cases h
  · cases h
theorem bixI_in (bs : Nat → Bk) (n : Nat) (s : ByteArray) : -1 ≤ bixI bs n s ∧ bixI bs n s < n := by
  unfold bixI
  cases h : bix bs n s with
  | none => simp; omega
  | some j =>
    have := List.mem_range.1 (List.mem_of_find?_eq_some h)
    simp
    omega
/-- what books.Text answers: the text, the error -/
def btT (bs : Nat → Bk) (n : Nat) (loc key : ByteArray) : ByteArray := if bchk n bs = 0 then (if bixI bs n loc < 0 then ⟨#[]⟩ else txt bs key n (bixI bs n loc)) else ⟨#[]⟩
def btE (bs : Nat → Bk) (n : Nat) (loc : ByteArray) : Int := if bchk n bs = 0 then (if bixI bs n loc < 0 then 4 else 0) else bchk n bs
theorem emp0 : (!(⟨#[]⟩ : ByteArray).toList.isEmpty) = false := by rw [tl]; rfl
set_option maxHeartbeats 8000000 in
theorem BText_c (a : Option Addr) (n c : Nat) (bs : Nat → Bk) (loc key : ByteArray) (w : World) (hn : n ≤ maxLen) (hc : n ≤ c) (hP : BAt w a n bs) (hf : ∀ j, j < n → (bs j).fits) :
    Calls Try.prog 5 #[.slice a n c, .string loc, .string key] w fun e w' => e = .returned (.tuple #[.string (btT bs n loc key), .bool (!(btT bs n loc key).toList.isEmpty), .int .i64 (btE bs n loc)]) ∧ Below w.heap.size w w' := by
  have HP := hideH hP
  have HF := hideH hf
  have hmf : ∀ (fn : Fn) (first cap : Array Value) (w : World), (Instr.makeFunc fn first cap).run Try.prog w = .ok (.func fn first cap) w := fun _ _ _ _ => rfl
  have hb0 := hideH ((Below.refl _ w).alloc (Nat.le_refl _) (.cells #[.string loc] 9))
  have hbx := hideH (show (w.alloc (.cells #[.string loc] 9)).heap[w.heap.size]? = some (.cells #[.string loc] 9) from World.alloc_heap_new _ _)
  have HC := hideH (fun v (hv : Below w.heap.size w v) => BCheck_c a n c bs v hn hc (HP.out.on hv) HF.out)
  have HI := hideH (fun v (hv : Below w.heap.size w v) (hq : v.cell? ⟨w.heap.size, 0, none⟩ = some (.string loc)) => IndexFunc_c a n c bs loc w.heap.size v hn (HP.out.on hv) hq)
  have HT := hideH (fun (v : World) (hv : Below w.heap.size w v) (h0 : bchk n bs = 0) => textOf_c a n c bs key (bixI bs n loc) v (by have := (bchk_parts h0).1; omega) (HP.out.on hv) (bchk_parts h0).2.1 (bchk_parts h0).2.2.1 (bixI_in bs n loc).1 (bixI_in bs n loc).2)
  obtain ⟨T, hT⟩ : ∃ T, T = btT bs n loc key := ⟨_, rfl⟩
  obtain ⟨E, hE⟩ : ∃ E, E = btE bs n loc := ⟨_, rfl⟩
  rw [← hT, ← hE]
  have HTT := hideH hT
  have HEE := hideH hE
  clear hP hf hT hE
  go_enter Try.func5, Try.ntmps5
  go_wp2_with fail
  refine (HC.out _ hb0.out).mono ?_
  rintro e w1 ⟨rfl, hw1⟩
  have H1 := hideH (bthen hb0.out hw1)
  have X1 := hideH (heap_onB hbx.out hw1)
  clear hw1 hb0 hbx
  rcases beq_cases (bchk n bs) 0 with ⟨q1, q2⟩ | ⟨q1, q2⟩
  · rw [q2]
    have Q := hideH q2
    have HT2 := hideH (fun v hv => HT.out v hv q2)
    clear q1 q2 HT
    have hin := bixI_in bs n loc
    go_wp2_with fail
    refine (HI.out _ H1.out (by simp [World.cell?, X1.out])).mono ?_
    rintro e w2 ⟨rfl, hw2⟩
    have H2 := hideH (bthen H1.out hw2)
    clear hw2
    by_cases hx : bixI bs n loc < 0
    · have ET : Hid (T = ⟨#[]⟩) := by show T = _; rw [HTT.out]; unfold btT; rw [if_pos Q.out, if_pos hx]
      have EE : Hid (E = 4) := by show E = _; rw [HEE.out]; unfold btE; rw [if_pos Q.out, if_pos hx]
      go_wp2_with fail
      go_ret3
      exact ⟨by rw [ET.out, EE.out, emp0]; rfl, H2.out⟩
    · have ET : Hid (T = txt bs key n (bixI bs n loc)) := by show T = _; rw [HTT.out]; unfold btT; rw [if_pos Q.out, if_neg hx]
      have EE : Hid (E = 0) := by show E = _; rw [HEE.out]; unfold btE; rw [if_pos Q.out, if_neg hx]
      have HT3 : Hid (∀ v, Below w.heap.size w v → Calls Try.prog 13 #[.slice a n c, .int .i64 (bixI bs n loc), .string key] v fun e w' => e = .returned (.string T) ∧ Below v.heap.size v w') := fun v hv => by rw [ET.out]; exact HT2.out v hv
      go_wp2_with fail
      refine (HT3.out _ H2.out).mono ?_
      rintro e w3 ⟨rfl, hw3⟩
      have H3 := hideH (bthen H2.out hw3)
      clear hw3
      go_wp2_with fail
      go_ret3
      exact ⟨by rw [EE.out]; rfl, H3.out⟩
  · have ET : Hid (T = ⟨#[]⟩) := by show T = _; rw [HTT.out]; unfold btT; rw [if_neg q2]
    have EE : Hid (E = bchk n bs) := by show E = _; rw [HEE.out]; unfold btE; rw [if_neg q2]
    have hne : (bchk n bs != 0) = true := by rw [bne_iff_ne]; exact q2
    clear q1 q2
    go_wp2_with fail
    go_ret3
    exact ⟨by rw [ET.out, EE.out, emp0]; rfl, H1.out⟩
end Go.Proofs.Ytainhpnmgligjaf
