/- The walk of the statement TrieBuilds: it returns true, and nothing that lay in memory has turned. -/
import Derived.Test.YthkdjklpegmnnaaTrieU
import Derived.Test.YthkdjklpegmnnaaTrieW
namespace Go.Proofs.Ythkdjklpegmnnaa.Tri
open Go Go.RowKit Go.Maps
set_option linter.unusedVariables false

theorem BuildOf_t (a : Option Addr) (n c : Nat) (ss : Nat → ByteArray) (w : World) (hP : TxA w a n ss) (h0 : bldE n ss = 0) :
    Calls Try.prog 10 #[.slice a n c] w fun e w' => ∃ ta tc, e = .returned (.slice ta (trI n ss).length tc) ∧ TrL w' ta (trI n ss) ∧ Below w.heap.size w w' := by
  refine (BuildOf_c a n c ss w hP h0).mono ?_
  rintro e w' ⟨v, vs, rfl, hO, hb⟩
  obtain ⟨ta, tc, rfl, _, htr⟩ := hO.trl (bld_okT h0).1
  exact ⟨ta, tc, rfl, htr, hb⟩
set_option maxRecDepth 100000 in
set_option maxHeartbeats 8000000 in
theorem TrieBuilds_w (a : Option Addr) (n c : Nat) (ss : Nat → ByteArray) (ta : Option Addr) (tc : Nat) (t : List Nd) (w : World) (hn : n ≤ maxLen) (hP : TxA w a n ss) (hf : ∀ j, j < n → (ss j).size ≤ maxLen) (hft : fitT t) (hT : TrL w ta t) :
    Calls Try.prog 3 #[.slice a n c, .slice ta t.length tc] w fun e w' => e = .returned (.bool true) ∧ Below w.heap.size w w' := by
  have HP := hideH hP
  have HT := hideH hT
  have HE := hideH (fun v (hv : Below w.heap.size w v) => BuildError_c a n c ss v hn (HP.out.on hv) hf)
  have HBg := hideH trieBegun_c
  have HC := hideH (fun v (hv : Below w.heap.size w v) => TCheck_c ta tc t v hft (HT.out.on hv))
  have HR := hideH (fun v (hv : Below w.heap.size w v) => CheckTrie_c ta tc t v hft (HT.out.on hv))
  unfold ckP at HE HC HR
  by_cases h0 : bldE n ss = 0
  · have HB := hideH (Build_ok a n c ss w hn hP hf h0)
    have HO := hideH (fun v (hv : Below w.heap.size w v) => BuildOf_t a n c ss v (HP.out.on hv) h0)
    have HS := hideH (fun a1 a2 c1 c2 v h1 h2 => SameTries_c a1 a2 c1 c2 (trI n ss) v (bld_fitT h0) h1 h2)
    rw [h0] at HE
    obtain ⟨T, hTT⟩ : ∃ T, T = trI n ss := ⟨_, rfl⟩
    rw [← hTT] at HB HO HS
    clear hTT hP hf hft hT hn h0
    generalize tchk t = ck at *
    go_enter Try.func3, Try.ntmps3
    go_wp2_with fail
    refine HB.out.mono ?_
    rintro e w1 ⟨x1, y1, rfl, htr1, hw1⟩
    have R1 := hideH htr1
    have H1 := hideH hw1
    clear htr1 hw1
    go_wp2_with fail
    refine (HE.out _ H1.out).mono ?_
    rintro e w2 ⟨rfl, hw2⟩
    have R2 := hideH (R1.out.on hw2)
    have H2 := hideH (bthen H1.out hw2)
    clear hw2 R1 H1
    go_wp2_with fail
    refine (HO.out _ H2.out).mono ?_
    rintro e w3 ⟨x2, y2, rfl, htr2, hw3⟩
    have R3 := hideH (R2.out.on hw3)
    have S3 := hideH htr2
    have H3 := hideH (bthen H2.out hw3)
    clear hw3 htr2 R2 H2
    go_wp2_with fail
    refine (HBg.out _).mono ?_
    rintro e w4 ⟨rfl, hw4⟩
    have R4 := hideH (R3.out.on hw4)
    have S4 := hideH (S3.out.on hw4)
    have H4 := hideH (bthen H3.out hw4)
    clear hw4 R3 S3 H3
    go_wp2_with fail
    refine (HC.out _ H4.out).mono ?_
    rintro e w5 ⟨rfl, hw5⟩
    have R5 := hideH (R4.out.on hw5)
    have S5 := hideH (S4.out.on hw5)
    have H5 := hideH (bthen H4.out hw5)
    clear hw5 R4 S4 H4
    go_wp2_with fail
    refine (HR.out _ H5.out).mono ?_
    rintro e w6 ⟨rfl, hw6⟩
    have R6 := hideH (R5.out.on hw6)
    have S6 := hideH (S5.out.on hw6)
    have H6 := hideH (bthen H5.out hw6)
    clear hw6 R5 S5 H5
    go_wp2_with fail
    refine (HS.out _ _ _ _ _ R6.out S6.out).mono ?_
    rintro e w7 ⟨rfl, hw7⟩
    have H7 := hideH (bthen H6.out hw7)
    clear hw7 R6 S6 H6
    go_wp2_with fail
    go_ret
    exact ⟨ret_bool (by simp), H7.out⟩
  · have HB := hideH (Build_no a n c ss w hn hP hf h0)
    have HS := hideH (fun v => SameTries_c none none 0 0 [] v ⟨by simp, fun j hj => by simp at hj⟩ (.inl rfl) (.inl rfl))
    have hq : (bldE n ss == 0) = false := beq_eq_false_iff_ne.2 h0
    clear hP hf hft hT hn h0
    generalize tchk t = ck at *
    generalize bldE n ss = be at *
    go_enter Try.func3, Try.ntmps3
    go_wp2_with fail
    refine HB.out.mono ?_
    rintro e w1 ⟨rfl, hw1⟩
    have H1 := hideH hw1
    clear hw1
    go_wp2_with fail
    refine (HE.out _ H1.out).mono ?_
    rintro e w2 ⟨rfl, hw2⟩
    have H2 := hideH (bthen H1.out hw2)
    clear hw2 H1
    go_wp2_with fail
    refine (HBg.out _).mono ?_
    rintro e w4 ⟨rfl, hw4⟩
    have H4 := hideH (bthen H2.out hw4)
    clear hw4 H2
    go_wp2_with fail
    refine (HC.out _ H4.out).mono ?_
    rintro e w5 ⟨rfl, hw5⟩
    have H5 := hideH (bthen H4.out hw5)
    clear hw5 H4
    go_wp2_with fail
    refine (HR.out _ H5.out).mono ?_
    rintro e w6 ⟨rfl, hw6⟩
    have H6 := hideH (bthen H5.out hw6)
    clear hw6 H5
    go_wp2_with fail
    refine (HS.out _).mono ?_
    rintro e w7 ⟨rfl, hw7⟩
    have H7 := hideH (bthen H6.out hw7)
    clear hw7 H6
    go_wp2_with fail
    go_ret
    exact ⟨ret_bool (by simp), H7.out⟩
end Go.Proofs.Ythkdjklpegmnnaa.Tri
