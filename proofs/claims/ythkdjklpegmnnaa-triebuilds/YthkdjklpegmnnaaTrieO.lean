/- trieBegun; Build as the laws want it. -/
import Derived.Test.YthkdjklpegmnnaaTrieL
import Derived.KernelRfl
namespace Go.Proofs.Ythkdjklpegmnnaa.Tri
open Go Go.RowKit Go.Maps
set_option linter.unusedVariables false

/-- the trie of words -/
abbrev trI (n : Nat) (ss : Nat → ByteArray) : List Nd := bldN (wl n ss) n
def btP (n : Nat) (ss : Nat → ByteArray) (w : World) (e : Ending) (w' : World) : Prop :=
  Below w.heap.size w w' ∧ ((bldE n ss ≠ 0 ∧ e = .returned (.tuple #[.slice none 0 0, .int .i64 (bldE n ss)])) ∨ (bldE n ss = 0 ∧ ∃ ta tc, e = .returned (.tuple #[.slice ta (trI n ss).length tc, .int .i64 0]) ∧ TrL w' ta (trI n ss)))
theorem Build_t (a : Option Addr) (n c : Nat) (ss : Nat → ByteArray) (w : World) (hn : n ≤ maxLen) (hP : TxA w a n ss) (hf : ∀ j, j < n → (ss j).size ≤ maxLen) :
    Calls Try.prog 8 #[.slice a n c] w fun e w' => btP n ss w e w' := by
  refine (Build_c a n c ss w hn hP hf).mono ?_
  rintro e w' ⟨hb, h | ⟨h0, v, vs, rfl, hO⟩⟩
  · exact ⟨hb, .inl h⟩
  · obtain ⟨ta, tc, rfl, _, htr⟩ := hO.trl (bld_okT h0).1
    exact ⟨hb, .inr ⟨h0, ta, tc, rfl, htr⟩⟩
theorem Build_ok (a : Option Addr) (n c : Nat) (ss : Nat → ByteArray) (w : World) (hn : n ≤ maxLen) (hP : TxA w a n ss) (hf : ∀ j, j < n → (ss j).size ≤ maxLen) (h0 : bldE n ss = 0) :
    Calls Try.prog 8 #[.slice a n c] w fun e w' => ∃ ta tc, e = .returned (.tuple #[.slice ta (trI n ss).length tc, .int .i64 0]) ∧ TrL w' ta (trI n ss) ∧ Below w.heap.size w w' := by
  refine (Build_t a n c ss w hn hP hf).mono ?_
  rintro e w' ⟨hb, ⟨h, _⟩ | ⟨_, ta, tc, rfl, htr⟩⟩
  · exact absurd h0 h
  · exact ⟨ta, tc, rfl, htr, hb⟩
theorem Build_no (a : Option Addr) (n c : Nat) (ss : Nat → ByteArray) (w : World) (hn : n ≤ maxLen) (hP : TxA w a n ss) (hf : ∀ j, j < n → (ss j).size ≤ maxLen) (h0 : bldE n ss ≠ 0) :
    Calls Try.prog 8 #[.slice a n c] w fun e w' => e = .returned (.tuple #[.slice none 0 0, .int .i64 (bldE n ss)]) ∧ Below w.heap.size w w' := by
  refine (Build_t a n c ss w hn hP hf).mono ?_
  rintro e w' ⟨hb, ⟨h, rfl⟩ | ⟨h, _⟩⟩
  · exact ⟨rfl, hb⟩
  · exact absurd h h0
/-- the words of trieBegun -/
def bgS (j : Nat) : ByteArray := match j with | 0 => ⟨#[97, 98]⟩ | 1 => ⟨#[97, 98, 99]⟩ | 2 => ⟨#[98]⟩ | _ => ⟨#[97, 98]⟩
def emS (_ : Nat) : ByteArray := ⟨#[]⟩
theorem bg0 : bldE 4 bgS = 0 := by kernel_rfl
theorem bg1 : bldE 1 emS = 5 := by kernel_rfl
theorem bg2 : (trI 4 bgS).length = 5 := by kernel_rfl
theorem bg3 : fndR (trI 4 bgS) ⟨#[97, 98]⟩ = 0 := by kernel_rfl
theorem bg4 : longR (trI 4 bgS) ⟨#[97, 98, 100]⟩ = (0, 2) := by kernel_rfl
theorem bg5 : longR (trI 4 bgS) ⟨#[120]⟩ = (-1, 0) := by kernel_rfl
theorem bg6 : tchk (trI 4 bgS) = 0 := by kernel_rfl
theorem bg7 : tchk [] = 1 := by kernel_rfl
set_option maxRecDepth 100000 in
set_option maxHeartbeats 8000000 in
theorem trieBegun_c (w : World) : Calls Try.prog 11 #[] w fun e w' => e = .returned (.bool true) ∧ Below w.heap.size w w' := by
  have hm : ∀ k : Nat, k ≤ 100 → k ≤ maxLen := fun k hk => by unfold maxLen; omega
  have HM := hideH hm
  have hbs : ∀ j, (bgS j).size ≤ maxLen := fun j => by
    unfold bgS maxLen; split <;> (show _ ≤ _; decide)
  have HT : Hid (∀ v : World, TxA (v.alloc (.cells #[.string ⟨#[97, 98]⟩, .string ⟨#[97, 98, 99]⟩, .string ⟨#[98]⟩, .string ⟨#[97, 98]⟩] 9)) (some ⟨v.heap.size, 0, none⟩) 4 bgS) := fun v => .inr ⟨_, 0, rfl, fun j hj => by
    match j, hj with
    | 0, _ => simp [bgS]
    | 1, _ => simp [bgS]
    | 2, _ => simp [bgS]
    | 3, _ => simp [bgS]⟩
  have HT1 : Hid (∀ v : World, TxA (v.alloc (.cells #[.string ⟨#[]⟩] 9)) (some ⟨v.heap.size, 0, none⟩) 1 emS) := fun v => .inr ⟨_, 0, rfl, fun j hj => by
    match j, hj with
    | 0, _ => simp [emS]⟩
  have HB1 := hideH (fun v => Build_ok _ 4 4 bgS _ (hm 4 (by decide)) (HT.out v) (fun j _ => hbs j) bg0)
  have HB2 := hideH (fun v => Build_no _ 1 1 emS _ (hm 1 (by decide)) (HT1.out v) (fun j _ => by unfold emS maxLen; decide) (by rw [bg1]; decide))
  rw [bg1] at HB2
  have HTb : Hid (∀ v : World, TrL v none []) := fun v => .inl rfl
  have HC0 := hideH (fun v => TCheck_c none 0 [] v ⟨by simp, fun j hj => by simp at hj⟩ (.inl rfl))
  unfold ckP at HC0
  rw [bg7] at HC0
  have HF := hideH (bld_fitT bg0)
  have HFi := hideH (fun ta tc v (h : TrL v ta (trI 4 bgS)) => Find_c ta tc (trI 4 bgS) ⟨#[97, 98]⟩ v (by unfold maxLen; decide) HF.out h)
  have HL1 := hideH (fun ta tc v (h : TrL v ta (trI 4 bgS)) => Longest_c ta tc (trI 4 bgS) ⟨#[97, 98, 100]⟩ v (by unfold maxLen; decide) HF.out h)
  have HL2 := hideH (fun ta tc v (h : TrL v ta (trI 4 bgS)) => Longest_c ta tc (trI 4 bgS) ⟨#[120]⟩ v (by unfold maxLen; decide) HF.out h)
  have HCk := hideH (fun ta tc v (h : TrL v ta (trI 4 bgS)) => TCheck_c ta tc (trI 4 bgS) v HF.out h)
  unfold ckP at HCk
  rw [bg6, bg3] at HFi
  rw [bg6, bg4] at HL1
  rw [bg6, bg5] at HL2
  rw [bg6] at HCk
  have hlen := bg2
  generalize trI 4 bgS = t at *
  rw [hlen] at HB1 HFi HL1 HL2 HCk
  have W0 := hideH (fun v : World => (Below.refl _ v).alloc (Nat.le_refl _) (.cells #[.string ⟨#[97, 98]⟩, .string ⟨#[97, 98, 99]⟩, .string ⟨#[98]⟩, .string ⟨#[97, 98]⟩] 9))
  have W1 := hideH (fun v : World => (Below.refl _ v).alloc (Nat.le_refl _) (.cells #[.string ⟨#[]⟩] 9))
  clear hm hbs hlen HT HT1 HF
  go_enter Try.func11, Try.ntmps11
  go_wp2_with fail
  refine (HB1.out _).mono ?_
  rintro e w1 ⟨ta, tc, rfl, htr, hw1⟩
  have R1 := hideH htr
  have H1 := hideH (bthen (W0.out w) hw1)
  clear htr hw1
  go_wp2_with fail
  refine (HFi.out _ _ _ R1.out).mono ?_
  rintro e w2 ⟨rfl, hw2⟩
  have R2 := hideH (R1.out.on hw2)
  have H2 := hideH (bthen H1.out hw2)
  clear hw2 R1 H1
  go_wp2_with fail
  refine (HL1.out _ _ _ R2.out).mono ?_
  rintro e w3 ⟨rfl, hw3⟩
  have R3 := hideH (R2.out.on hw3)
  have H3 := hideH (bthen H2.out hw3)
  clear hw3 R2 H2
  go_wp2_with fail
  refine (HL2.out _ _ _ R3.out).mono ?_
  rintro e w4 ⟨rfl, hw4⟩
  have R4 := hideH (R3.out.on hw4)
  have H4 := hideH (bthen H3.out hw4)
  clear hw4 R3 H3
  go_wp2_with fail
  refine (HB2.out _).mono ?_
  rintro e w5 ⟨rfl, hw5⟩
  have R5 := hideH ((R4.out.on (W1.out w4)).on hw5)
  have H5 := hideH (bthen (bthen H4.out (W1.out w4)) hw5)
  clear hw5 R4 H4
  go_wp2_with fail
  refine (HCk.out _ _ _ R5.out).mono ?_
  rintro e w6 ⟨rfl, hw6⟩
  have H6 := hideH (bthen H5.out hw6)
  clear hw6 R5 H5
  go_wp2_with fail
  refine (HC0.out _).mono ?_
  rintro e w7 ⟨rfl, hw7⟩
  have H7 := hideH (bthen H6.out hw7)
  clear hw7 H6
  go_wp2_with fail
  go_ret
  exact ⟨ret_bool (by simp), H7.out⟩
end Go.Proofs.Ythkdjklpegmnnaa.Tri
