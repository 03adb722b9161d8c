/- Contracts of package books: what tells a locale, where a key stands. -/
import Derived.Test.YtainhpnmgligjafBooksC
import Derived.Test.YtainhpnmgligjafShelfB
namespace Go.Proofs.Ytainhpnmgligjaf
open Go Go.RowKit
set_option linter.unusedVariables false

theorem Text1_c (x : Bk) (s : ByteArray) (p : Nat) (w : World) (hp : w.cell? ⟨p, 0, none⟩ = some (.string s)) : Calls Try.prog 12 #[x.v, .pointer (some ⟨p, 0, none⟩)] w fun e w' => e = .returned (.bool (x.lc.toList == s.toList)) ∧ Below w.heap.size w w' := by
  have hb := hideH ((Below.refl _ w).alloc (Nat.le_refl _) x.cs)
  have hp2 := cell_on hp hb.out
  go_enter Try.func12, Try.ntmps12
  go_wp2_with fail
  go_ret
  exact ⟨rfl, hb.out⟩
/-- which of the books is a locale's -/
def bix (bs : Nat → Bk) (n : Nat) (s : ByteArray) : Option Nat := (List.range n).find? fun j => (bs j).lc.toList == s.toList
def bixI (bs : Nat → Bk) (n : Nat) (s : ByteArray) : Int := match bix bs n s with
  | some j => j
  | none => -1
theorem find_rng {p : Nat → Bool} {j : Nat} : ∀ {n : Nat}, j < n → p j = true → (∀ i, i < j → p i = false) → (List.range n).find? p = some j
  | 0, h, _, _ => absurd h (Nat.not_lt_zero _)
  | n + 1, h, hp, ha => by
    rw [List.range_succ, List.find?_append]
    rcases Nat.lt_or_ge j n with hl | hg
    · rw [find_rng hl hp ha]; rfl
    · obtain rfl : j = n := by omega
      rw [List.find?_eq_none.2 (fun x hx => by rw [ha x (List.mem_range.1 hx)]; decide)]
      simp [hp]
theorem find_rno {p : Nat → Bool} {n : Nat} (h : ∀ i, i < n → p i = false) : (List.range n).find? p = none :=
  List.find?_eq_none.2 (fun x hx => by rw [h x (List.mem_range.1 hx)]; decide)
set_option maxHeartbeats 4000000 in
theorem IndexFunc_c (a : Option Addr) (n c : Nat) (bs : Nat → Bk) (s : ByteArray) (p : Nat) (w : World) (hn : n ≤ maxLen) (hP : BAt w a n bs) (hp : w.cell? ⟨p, 0, none⟩ = some (.string s)) :
    Calls Try.prog 11 #[.slice a n c, .func (.func 12) #[] #[.pointer (some ⟨p, 0, none⟩)]] w fun e w' => e = .returned (.int .i64 (bixI bs n s)) ∧ Below w.heap.size w w' := by
  have HP := hideH hP
  have HQ := hideH hp
  unfold maxLen at hn
  clear hP hp
  generalize hV : bixI bs n s = V
  have HV := hideH hV
  clear hV
  go_enter Try.func11, Try.ntmps11
  go_wp2_with fail
  go_loopw [8] (fun x8 wr => ∃ j : Nat, j ≤ n ∧ x8 = .int .i64 j ∧ Hid (∀ i, i < j → ((bs i).lc.toList == s.toList) = false) ∧ Hid (Below w.heap.size w wr)) (fun x8 _ => n - (intOf x8).toNat)
  case atStart => exact ⟨0, Nat.zero_le _, rfl, fun i hi => by omega, Below.refl _ _⟩
  case round =>
    obtain ⟨j, hj, rfl, HA, HW⟩ := hrel
    by_cases hlt : j < n
    · rcases (HP.out.on HW.out).rows with h0 | ⟨b, off, hsa, hcs⟩
      · omega
      obtain ⟨c0, c1, c2⟩ := hcs j hlt
      clear hcs
      have hk0 : decide ((j : Int) < 0) = false := by simp
      have hkn : decide (n ≤ j) = false := by simp; omega
      have HC := hideH (Text1_c (bs j) s p wr (cell_on HQ.out HW.out))
      cases hq : ((bs j).lc.toList == s.toList)
      · rw [hq] at HC
        have HA2 : Hid (∀ i, i < j + 1 → ((bs i).lc.toList == s.toList) = false) := fun i hi => by
          rcases Nat.lt_or_ge i j with h | h
          · exact HA.out i h
          · obtain rfl : i = j := by omega
            exact hq
        clear hq
        go_wp2_with (go_at_call 12; refine HC.out.mono ?_; rintro e w1 ⟨rfl, hw1⟩)
        have H2 := hideH (bthen HW.out hw1)
        clear hw1
        try simp only [← hsa]
        go_roundw
        case rel => exact ⟨j + 1, by omega, by go_num, HA2, H2⟩
        case measure => simp [intOf]; omega
      · rw [hq] at HC
        have HX : Hid (V = j) := by
          show V = j
          rw [← HV.out]
          unfold bixI bix
          rw [find_rng hlt hq HA.out]
        clear hq
        go_wp2_with (go_at_call 12; refine HC.out.mono ?_; rintro e w1 ⟨rfl, hw1⟩)
        go_ret
        exact ⟨ret_int HX.out.symm, bthen HW.out hw1⟩
    · have HX : Hid (V = -1) := by
        show V = -1
        rw [← HV.out]
        unfold bixI bix
        rw [find_rno (fun i hi => HA.out i (by omega))]
      go_wp2_with fail
      go_ret
      exact ⟨ret_int HX.out.symm, HW.out⟩
theorem place1_c (k t key : ByteArray) (w : World) : Calls Try.prog 32 #[.agg #[.string k, .string t], .string key] w fun e w' => e = .returned (.int .i64 (Lib.compareBytes k.data.toList key.data.toList)) ∧ Below w.heap.size w w' := by
  have hb := hideH ((Below.refl _ w).alloc (Nat.le_refl _) (.cells #[.string k, .string t] 34))
  have HC := hideH (fun v => Try.strings_Compare k key v)
  go_enter Try.func32, Try.ntmps32
  go_wp2_with (go_at_call 33; refine (HC.out _).mono ?_; rintro e w2 ⟨rfl, rfl⟩)
  go_ret
  exact ⟨rfl, hb.out⟩
theorem less_trans : ∀ {a b c : List UInt8}, Op.bytesLess a b = true → Op.bytesLess b c = true → Op.bytesLess a c = true
  | _, _, [], _, h2 => by simp [Op.bytesLess] at h2
  | _, [], _ :: _, h1, _ => by simp [Op.bytesLess] at h1
  | [], _ :: _, _ :: _, _, _ => rfl
  | x :: a, y :: b, z :: c, h1, h2 => by
    simp only [Op.bytesLess, Bool.or_eq_true, decide_eq_true_eq, Bool.and_eq_true, beq_iff_eq] at h1 h2 ⊢
    rcases h1 with h1 | ⟨h1, h1'⟩
    · rcases h2 with h2 | ⟨h2, _⟩
      · exact .inl (UInt8.lt_trans h1 h2)
      · subst h2; exact .inl h1
    · subst h1
      rcases h2 with h2 | ⟨h2, h2'⟩
      · exact .inl h2
      · exact .inr ⟨h2, less_trans h1' h2'⟩
theorem less_irr : ∀ a : List UInt8, Op.bytesLess a a = false
  | [] => rfl
  | x :: a => by simp [Op.bytesLess, less_irr a]
theorem cmp_less : ∀ a b : List UInt8, (Lib.compareBytes a b < 0 ↔ Op.bytesLess a b = true) ∧ (Lib.compareBytes a b = 0 ↔ a = b)
  | [], [] => by simp [Lib.compareBytes, Op.bytesLess]
  | [], _ :: _ => by simp [Lib.compareBytes, Op.bytesLess]
  | _ :: _, [] => by simp [Lib.compareBytes, Op.bytesLess]
  | x :: a, y :: b => by
    have ih := cmp_less a b
    unfold Lib.compareBytes Op.bytesLess
    by_cases h1 : x < y
    · have h2 : x ≠ y := fun e => by subst e; exact UInt8.lt_irrefl _ h1
      simp [h1, h2]
    · by_cases h2 : y < x
      · have h3 : x ≠ y := fun e => by subst e; exact UInt8.lt_irrefl _ h2
        simp [h1, h2, h3]
      · have h3 : x = y := by
          rcases Classical.em (x = y) with h | h
          · exact h
          · rcases UInt8.lt_or_lt_of_ne h with h | h
            · exact absurd h h1
            · exact absurd h h2
        subst h3
        simp [UInt8.lt_irrefl, ih]
theorem rs_mono {x : Bk} (h : rsOK x) : ∀ (d i : Nat), i + d + 1 < x.n + 0 → ltB (x.ks i) (x.ks (i + d + 1)) = true
  | 0, i, hi => h i (by omega)
  | d + 1, i, hi => less_trans (rs_mono h d i (by omega)) (h (i + d + 1) (by omega))
theorem rs_lt {x : Bk} (h : rsOK x) {i j : Nat} (hij : i < j) (hj : j < x.n) : ltB (x.ks i) (x.ks j) = true := by
  have := rs_mono h (j - i - 1) i (by omega)
  rwa [show i + (j - i - 1) + 1 = j by omega] at this
end Go.Proofs.Ytainhpnmgligjaf
