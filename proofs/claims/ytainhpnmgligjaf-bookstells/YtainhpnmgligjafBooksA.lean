/- Locales: how books lie in memory; contracts of package books: isFewPairs, isPair, isNamed, all. -/
import Derived.Test.YtainhpnmgligjafDataF
import Derived.Deep.QuietTactic
import Derived.BigQuiet
namespace Go.Proofs.Ytainhpnmgligjaf
open Go Go.RowKit
set_option linter.unusedVariables false

structure Bk where
  lc : ByteArray
  pa : Int
  a : Option Addr
  n : Nat
  c : Nat
  ks : Nat → ByteArray
  ts : Nat → ByteArray
abbrev Bk.sl (x : Bk) : Value := .slice x.a x.n x.c
abbrev Bk.v (x : Bk) : Value := .agg #[.string x.lc, .int .i64 x.pa, x.sl]
abbrev Bk.cs (x : Bk) : Obj := .cells #[.string x.lc, .int .i64 x.pa, x.sl] 31
/-- three cells each, in a row -/
def P3 (w : World) (a : Option Addr) (n : Nat) (f g h : Nat → Value) : Prop := n = 0 ∨ ∃ b off, a = some ⟨b, off, none⟩ ∧ ∀ j, j < n → w.cell? ⟨b, off + j * 3, none⟩ = some (f j) ∧ w.cell? ⟨b, off + j * 3 + 1, none⟩ = some (g j) ∧ w.cell? ⟨b, off + j * 3 + 2, none⟩ = some (h j)
theorem P3.on {w w' : World} {a : Option Addr} {n : Nat} {f g h : Nat → Value} (p : P3 w a n f g h) (hb : Below w.heap.size w w') : P3 w' a n f g h := by
  rcases p with p | ⟨b, off, h1, h2⟩
  · exact .inl p
  · exact .inr ⟨b, off, h1, fun j hj => ⟨cell_on (h2 j hj).1 hb, cell_on (h2 j hj).2.1 hb, cell_on (h2 j hj).2.2 hb⟩⟩
abbrev Bk.row (w : World) (x : Bk) : Prop := P2 w x.a x.n (fun i => .string (x.ks i)) (fun i => .string (x.ts i))
structure BAt (w : World) (a : Option Addr) (n : Nat) (bs : Nat → Bk) : Prop where
  rows : P3 w a n (fun j => .string (bs j).lc) (fun j => .int .i64 (bs j).pa) (fun j => (bs j).sl)
  prs : ∀ j, j < n → (bs j).row w
theorem BAt.on {w w' : World} {a : Option Addr} {n : Nat} {bs : Nat → Bk} (h : BAt w a n bs) (hb : Below w.heap.size w w') : BAt w' a n bs := ⟨h.rows.on hb, fun j hj => (h.prs j hj).on hb⟩
structure Bk.fits (x : Bk) : Prop where
  lc : x.lc.size ≤ maxLen
  n : x.n ≤ maxLen
  ks : ∀ i, i < x.n → (x.ks i).size ≤ maxLen
  ts : ∀ i, i < x.n → (x.ts i).size ≤ maxLen
  pa : -9223372036854775808 ≤ x.pa ∧ x.pa ≤ 9223372036854775807

def fewB (x : Bk) : Bool := decide (x.n ≤ 8)
theorem isFewPairs_c (x : Bk) (w : World) (hn : x.n ≤ maxLen) : Calls Try.prog 18 #[x.v] w fun e w' => e = .returned (.bool (fewB x)) ∧ Below w.heap.size w w' := by
  unfold maxLen at hn
  have hb := hideH ((Below.refl _ w).alloc (Nat.le_refl _) x.cs)
  go_enter Try.func18, Try.ntmps18
  go_wp2
  go_ret
  exact ⟨ret_bool (by unfold fewB; rw [Bool.eq_iff_iff]; simp; try omega), hb.out⟩
def prB (k t : ByteArray) : Bool := nameB k && decide (t.size ≤ 12)
theorem isPair_c (k t : ByteArray) (w : World) (hk : k.size ≤ maxLen) (ht : t.size ≤ maxLen) : Calls Try.prog 29 #[.agg #[.string k, .string t]] w fun e w' => e = .returned (.bool (prB k t)) ∧ Below w.heap.size w w' := by
  have hb := hideH ((Below.refl _ w).alloc (Nat.le_refl _) (.cells #[.string k, .string t] 34))
  have HN := hideH (fun v => Name_c k v hk)
  unfold maxLen at ht hk
  cases hq : nameB k
  · rw [hq] at HN
    have HX : Hid (prB k t = false) := by show _ = _; unfold prB; rw [hq]; rfl
    clear hq
    go_enter Try.func29, Try.ntmps29
    go_wp2_with (go_at_call 27; refine (HN.out _).mono ?_; rintro e w2 ⟨rfl, rfl⟩)
    go_ret
    exact ⟨ret_bool HX.out.symm, hb.out⟩
  · rw [hq] at HN
    have HX : Hid (prB k t = decide (t.size ≤ 12)) := by show _ = _; unfold prB; rw [hq]; rfl
    clear hq
    go_enter Try.func29, Try.ntmps29
    go_wp2_with (go_at_call 27; refine (HN.out _).mono ?_; rintro e w2 ⟨rfl, rfl⟩)
    go_ret
    exact ⟨ret_bool (by rw [HX.out]; rw [Bool.eq_iff_iff]; simp; try omega), hb.out⟩
abbrev prsOK (x : Bk) : Prop := ∀ i, i < x.n → prB (x.ks i) (x.ts i) = true
set_option maxHeartbeats 4000000 in
theorem allPair_c (x : Bk) (w : World) (hf : x.fits) (hP : x.row w) : Calls Try.prog 28 #[.slice x.a x.n x.c, .func (.func 29) #[] #[]] w fun e w' => e = .returned (.bool (decide (prsOK x))) ∧ Below w.heap.size w w' := by
  have HP := hideH hP
  have HF := hideH hf
  have hn := hf.n
  unfold maxLen at hn
  clear hP hf
  generalize hV : decide (prsOK x) = V
  have HV := hideH hV
  clear hV
  go_enter Try.func28, Try.ntmps28
  go_wp2_with fail
  go_loopw [9] (fun x9 wr => ∃ j : Nat, j ≤ x.n ∧ x9 = .int .i64 j ∧ Hid (∀ i, i < j → prB (x.ks i) (x.ts i) = true) ∧ Hid (Below w.heap.size w wr)) (fun x9 _ => x.n - (intOf x9).toNat)
  case atStart => exact ⟨0, Nat.zero_le _, rfl, fun i hi => by omega, Below.refl _ _⟩
  case round =>
    obtain ⟨j, hj, rfl, HA, HW⟩ := hrel
    by_cases hlt : j < x.n
    · rcases HP.out.on HW.out with h0 | ⟨b, off, hsa, hcs⟩
      · omega
      obtain ⟨c0, c1⟩ := hcs j hlt
      clear hcs
      have hb := hideH ((Below.refl _ wr).alloc (Nat.le_refl _) (.cells #[.string (x.ks j), .string (x.ts j)] 34))
      have HC := hideH (fun v => isPair_c (x.ks j) (x.ts j) v (HF.out.ks j hlt) (HF.out.ts j hlt))
      cases hq : prB (x.ks j) (x.ts j)
      · rw [hq] at HC
        have HX : Hid (V = false) := by show V = false; rw [← HV.out]; exact decide_eq_false (fun h => by have := h j hlt; rw [hq] at this; cases this)
        clear hq
        go_wp2_with (go_at_call 29; refine (HC.out _).mono ?_; rintro e w1 ⟨rfl, hw1⟩)
        go_ret
        exact ⟨ret_bool HX.out.symm, bthen HW.out (bthen hb.out hw1)⟩
      · rw [hq] at HC
        have HA2 : Hid (∀ i, i < j + 1 → prB (x.ks i) (x.ts i) = true) := fun i hi => by
          rcases Nat.lt_or_ge i j with h | h
          · exact HA.out i h
          · obtain rfl : i = j := by omega
            exact hq
        clear hq
        go_wp2_with (go_at_call 29; refine (HC.out _).mono ?_; rintro e w1 ⟨rfl, hw1⟩)
        have H2 := hideH (bthen HW.out (bthen hb.out hw1))
        clear hw1
        try simp only [← hsa]
        go_roundw
        case rel => exact ⟨j + 1, by omega, by go_num, HA2, H2⟩
        case measure => simp [intOf]; omega
    · have HX : Hid (V = true) := by show V = true; rw [← HV.out]; exact decide_eq_true (fun i hi => HA.out i (by omega))
      go_wp2_with fail
      go_ret
      exact ⟨ret_bool HX.out.symm, HW.out⟩
def namB (x : Bk) : Bool := nameB x.lc && decide (prsOK x)
theorem isNamed_c (x : Bk) (w : World) (hf : x.fits) (hP : x.row w) : Calls Try.prog 19 #[x.v] w fun e w' => e = .returned (.bool (namB x)) ∧ Below w.heap.size w w' := by
  have hb := hideH ((Below.refl _ w).alloc (Nat.le_refl _) x.cs)
  have HN := hideH (fun v => Name_c x.lc v hf.lc)
  have HA : Hid (∀ v, Below w.heap.size w v → Calls Try.prog 28 #[.slice x.a x.n x.c, .func (.func 29) #[] #[]] v fun e w' => e = .returned (.bool (decide (prsOK x))) ∧ Below v.heap.size v w') := fun v hv => allPair_c x v hf (hP.on hv)
  clear hf hP
  cases hq : nameB x.lc
  · rw [hq] at HN
    have HX : Hid (namB x = false) := by show _ = _; unfold namB; rw [hq]; rfl
    clear hq
    go_enter Try.func19, Try.ntmps19
    go_wp2_with (go_at_call 27; refine (HN.out _).mono ?_; rintro e w2 ⟨rfl, rfl⟩)
    go_ret
    exact ⟨ret_bool HX.out.symm, hb.out⟩
  · rw [hq] at HN
    have HX : Hid (namB x = decide (prsOK x)) := by show _ = _; unfold namB; rw [hq]; rfl
    clear hq
    generalize decide (prsOK x) = V at *
    go_enter Try.func19, Try.ntmps19
    go_wp2_with (first
      | (go_at_call 27; refine (HN.out _).mono ?_; rintro e w2 ⟨rfl, rfl⟩)
      | (go_at_call 28; refine (HA.out _ hb.out).mono ?_; rintro e w3 ⟨rfl, hw3⟩))
    go_ret
    exact ⟨ret_bool HX.out.symm, bthen hb.out hw3⟩
set_option maxHeartbeats 4000000 in
theorem allFew_c (a : Option Addr) (n c : Nat) (bs : Nat → Bk) (w : World) (hn : n ≤ maxLen) (hP : BAt w a n bs) (hf : ∀ j, j < n → (bs j).fits) : Calls Try.prog 17 #[.slice a n c, .func (.func 18) #[] #[]] w fun e w' => e = .returned (.bool (decide (∀ j, j < n → fewB (bs j) = true))) ∧ Below w.heap.size w w' := by
  have HP := hideH hP
  have HF := hideH hf
  unfold maxLen at hn
  clear hP hf
  generalize hV : decide (∀ j, j < n → fewB (bs j) = true) = V
  have HV := hideH hV
  clear hV
  go_enter Try.func17, Try.ntmps17
  go_wp2_with fail
  go_loopw [9] (fun x9 wr => ∃ j : Nat, j ≤ n ∧ x9 = .int .i64 j ∧ Hid (∀ i, i < j → fewB (bs i) = true) ∧ Hid (Below w.heap.size w wr)) (fun x9 _ => n - (intOf x9).toNat)
  case atStart => exact ⟨0, Nat.zero_le _, rfl, fun i hi => by omega, Below.refl _ _⟩
  case round =>
    obtain ⟨j, hj, rfl, HA, HW⟩ := hrel
    by_cases hlt : j < n
    · rcases (HP.out.on HW.out).rows with h0 | ⟨b, off, hsa, hcs⟩
      · omega
      obtain ⟨c0, c1, c2⟩ := hcs j hlt
      clear hcs
      have hb := hideH ((Below.refl _ wr).alloc (Nat.le_refl _) (bs j).cs)
      have HC : Hid (∀ v, Below wr.heap.size wr v → Calls Try.prog 18 #[(bs j).v] v fun e w' => e = .returned (.bool (fewB (bs j))) ∧ Below v.heap.size v w') := fun v hv => isFewPairs_c (bs j) v (HF.out j hlt).n
      cases hq : fewB (bs j)
      · rw [hq] at HC
        have HX : Hid (V = false) := by show V = false; rw [← HV.out]; exact decide_eq_false (fun h => by have := h j hlt; rw [hq] at this; cases this)
        clear hq
        go_wp2_with (go_at_call 18; refine (HC.out _ hb.out).mono ?_; rintro e w1 ⟨rfl, hw1⟩)
        go_ret
        exact ⟨ret_bool HX.out.symm, bthen HW.out (bthen hb.out hw1)⟩
      · rw [hq] at HC
        have HA2 : Hid (∀ i, i < j + 1 → fewB (bs i) = true) := fun i hi => by
          rcases Nat.lt_or_ge i j with h | h
          · exact HA.out i h
          · obtain rfl : i = j := by omega
            exact hq
        clear hq
        go_wp2_with (go_at_call 18; refine (HC.out _ hb.out).mono ?_; rintro e w1 ⟨rfl, hw1⟩)
        have H2 := hideH (bthen HW.out (bthen hb.out hw1))
        clear hw1
        try simp only [← hsa]
        go_roundw
        case rel => exact ⟨j + 1, by omega, by go_num, HA2, H2⟩
        case measure => simp [intOf]; omega
    · have HX : Hid (V = true) := by show V = true; rw [← HV.out]; exact decide_eq_true (fun i hi => HA.out i (by omega))
      go_wp2_with fail
      go_ret
      exact ⟨ret_bool HX.out.symm, HW.out⟩
set_option maxHeartbeats 4000000 in
theorem allNam_c (a : Option Addr) (n c : Nat) (bs : Nat → Bk) (w : World) (hn : n ≤ maxLen) (hP : BAt w a n bs) (hf : ∀ j, j < n → (bs j).fits) : Calls Try.prog 17 #[.slice a n c, .func (.func 19) #[] #[]] w fun e w' => e = .returned (.bool (decide (∀ j, j < n → namB (bs j) = true))) ∧ Below w.heap.size w w' := by
  have HP := hideH hP
  have HF := hideH hf
  unfold maxLen at hn
  clear hP hf
  generalize hV : decide (∀ j, j < n → namB (bs j) = true) = V
  have HV := hideH hV
  clear hV
  go_enter Try.func17, Try.ntmps17
  go_wp2_with fail
  go_loopw [9] (fun x9 wr => ∃ j : Nat, j ≤ n ∧ x9 = .int .i64 j ∧ Hid (∀ i, i < j → namB (bs i) = true) ∧ Hid (Below w.heap.size w wr)) (fun x9 _ => n - (intOf x9).toNat)
  case atStart => exact ⟨0, Nat.zero_le _, rfl, fun i hi => by omega, Below.refl _ _⟩
  case round =>
    obtain ⟨j, hj, rfl, HA, HW⟩ := hrel
    by_cases hlt : j < n
    · rcases (HP.out.on HW.out).rows with h0 | ⟨b, off, hsa, hcs⟩
      · omega
      obtain ⟨c0, c1, c2⟩ := hcs j hlt
      clear hcs
      have hb := hideH ((Below.refl _ wr).alloc (Nat.le_refl _) (bs j).cs)
      have HC : Hid (∀ v, Below wr.heap.size wr v → Calls Try.prog 19 #[(bs j).v] v fun e w' => e = .returned (.bool (namB (bs j))) ∧ Below v.heap.size v w') := fun v hv => isNamed_c (bs j) v (HF.out j hlt) (((HP.out.on HW.out).prs j hlt).on hv)
      cases hq : namB (bs j)
      · rw [hq] at HC
        have HX : Hid (V = false) := by show V = false; rw [← HV.out]; exact decide_eq_false (fun h => by have := h j hlt; rw [hq] at this; cases this)
        clear hq
        go_wp2_with (go_at_call 19; refine (HC.out _ hb.out).mono ?_; rintro e w1 ⟨rfl, hw1⟩)
        go_ret
        exact ⟨ret_bool HX.out.symm, bthen HW.out (bthen hb.out hw1)⟩
      · rw [hq] at HC
        have HA2 : Hid (∀ i, i < j + 1 → namB (bs i) = true) := fun i hi => by
          rcases Nat.lt_or_ge i j with h | h
          · exact HA.out i h
          · obtain rfl : i = j := by omega
            exact hq
        clear hq
        go_wp2_with (go_at_call 19; refine (HC.out _ hb.out).mono ?_; rintro e w1 ⟨rfl, hw1⟩)
        have H2 := hideH (bthen HW.out (bthen hb.out hw1))
        clear hw1
        try simp only [← hsa]
        go_roundw
        case rel => exact ⟨j + 1, by omega, by go_num, HA2, H2⟩
        case measure => simp [intOf]; omega
    · have HX : Hid (V = true) := by show V = true; rw [← HV.out]; exact decide_eq_true (fun i hi => HA.out i (by omega))
      go_wp2_with fail
      go_ret
      exact ⟨ret_bool HX.out.symm, HW.out⟩
end Go.Proofs.Ytainhpnmgligjaf
