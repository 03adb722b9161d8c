/- The walk of the statement TrieFinds. -/
import Derived.Test.YthkdjklpegmnnaaTrieT
import Derived.SizedLaws
namespace Go.Proofs.Ythkdjklpegmnnaa.Tri
open Go Go.RowKit Go.Maps
set_option linter.unusedVariables false

set_option maxRecDepth 100000 in
set_option maxHeartbeats 8000000 in
theorem TrieFinds_w (a : Option Addr) (c : Nat) (t : List Nd) (s : ByteArray) (w : World) (hf : fitT t) (hP : TrL w a t) (hsz : s.size ≤ reachBytes) :
    Calls Try.prog 4 #[.slice a t.length c, .string s] w fun e w' => e = .returned (.bool true) ∧ Below w.heap.size w w' := by
  have hsm : s.size ≤ maxLen := by have := reachBytes_lt; unfold maxLen; omega
  have HBg := hideH (fun v => trieBegun_c v)
  have HP := hideH hP
  have HFi := hideH (fun v (hv : Below w.heap.size w v) => Find_c a c t s v hsm hf (HP.out.on hv))
  have HLo := hideH (fun v (hv : Below w.heap.size w v) => Longest_c a c t s v hsm hf (HP.out.on hv))
  have HCk := hideH (fun v (hv : Below w.heap.size w v) => CheckTrie_c a c t v hf (HP.out.on hv))
  unfold ckP at HCk
  by_cases ho : okT t
  · have HTF := hideH (fun v (hv : Below w.heap.size w v) => TrieFind_c a c t s v hsm hf ho (HP.out.on hv))
    have HTL := hideH (fun v (hv : Below w.heap.size w v) => TrieLongest_c a c t s v hsm hf ho (HP.out.on hv))
    unfold ckP at HTF
    have h0 := tchk_yes ho
    rw [h0] at HFi HLo HCk
    rw [show fndR t s = findT t s.data.toList by unfold fndR; rw [if_pos h0]] at HFi
    rw [show longR t s = longT t s.data.toList by unfold longR; rw [if_pos h0]] at HLo
    generalize findT t s.data.toList = fv at *
    generalize (longT t s.data.toList).1 = l1 at *
    generalize (longT t s.data.toList).2 = l2 at *
    clear h0 ho hP hf hsz hsm
    generalize t.length = tn at *
    go_enter Try.func4, Try.ntmps4
    go_wp2_with fail
    refine (HFi.out _ (Below.refl _ _)).mono ?_
    rintro e w1 ⟨rfl, hw1⟩
    have H1 := hideH hw1
    clear hw1
    go_wp2_with fail
    refine (HLo.out _ H1.out).mono ?_
    rintro e w2 ⟨rfl, hw2⟩
    have H2 := hideH (bthen H1.out hw2)
    clear hw2 H1
    go_wp2_with fail
    refine (HCk.out _ H2.out).mono ?_
    rintro e w3 ⟨rfl, hw3⟩
    have H3 := hideH (bthen H2.out hw3)
    clear hw3 H2
    go_wp2_with fail
    refine (HTF.out _ H3.out).mono ?_
    rintro e w4 ⟨rfl, hw4⟩
    have H4 := hideH (bthen H3.out hw4)
    clear hw4 H3
    go_wp2_with fail
    refine (HTL.out _ H4.out).mono ?_
    rintro e w5 ⟨rfl, hw5⟩
    have H5 := hideH (bthen H4.out hw5)
    clear hw5 H4
    go_wp2_with fail
    refine (HBg.out _).mono ?_
    rintro e w6 ⟨rfl, hw6⟩
    go_wp2_with fail
    go_ret
    exact ⟨ret_bool (by simp), bthen H5.out hw6⟩
  · have h1 := tchk_no ho
    rw [h1] at HFi HLo HCk
    rw [show fndR t s = 0 by unfold fndR; rw [if_neg (by rw [h1]; decide)]] at HFi
    rw [show longR t s = (0, 0) by unfold longR; rw [if_neg (by rw [h1]; decide)]] at HLo
    clear h1 ho hP hf hsz hsm
    generalize t.length = tn at *
    go_enter Try.func4, Try.ntmps4
    go_wp2_with fail
    refine (HFi.out _ (Below.refl _ _)).mono ?_
    rintro e w1 ⟨rfl, hw1⟩
    have H1 := hideH hw1
    clear hw1
    go_wp2_with fail
    refine (HLo.out _ H1.out).mono ?_
    rintro e w2 ⟨rfl, hw2⟩
    have H2 := hideH (bthen H1.out hw2)
    clear hw2 H1
    go_wp2_with fail
    refine (HCk.out _ H2.out).mono ?_
    rintro e w3 ⟨rfl, hw3⟩
    have H3 := hideH (bthen H2.out hw3)
    clear hw3 H2
    go_wp2_with fail
    refine (HBg.out _).mono ?_
    rintro e w6 ⟨rfl, hw6⟩
    go_wp2_with fail
    go_ret
    exact ⟨ret_bool (by simp), bthen H3.out hw6⟩
end Go.Proofs.Ythkdjklpegmnnaa.Tri
