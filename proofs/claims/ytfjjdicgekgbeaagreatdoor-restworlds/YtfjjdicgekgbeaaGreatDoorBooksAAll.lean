/- Locales: how books lie in memory; contracts of package books: isFewPairs, isPair, isNamed, all. -/
import Derived.Test.YtfjjdicgekgbeaaGreatDoorDataDAll
import Derived.Deep.QuietTactic
import Derived.BigQuiet
import Derived.Laws.Cover1
import Derived.Test.YtfjjdicgekgbeaaGreatDoorShelfM
namespace Go.Proofs.YtfjjdicgekgbeaaGreatDoor
open Go Go.RowKit
set_option linter.unusedVariables false

structure Bk where
  lc : ByteArray
  pa : Int
  a : Option Addr
  n : Nat
  c : Nat
  ks : Nat → ByteArray
  ts : Nat → ByteArray
abbrev Bk.sl (x : Bk) : Value := .slice x.a x.n x.c
abbrev Bk.v (x : Bk) : Value := .agg #[.string x.lc, .int .i64 x.pa, x.sl]
abbrev Bk.cs (x : Bk) : Obj := .cells #[.string x.lc, .int .i64 x.pa, x.sl] 87
/-- three cells each, in a row -/
def P3 (w : World) (a : Option Addr) (n : Nat) (f g h : Nat → Value) : Prop := n = 0 ∨ ∃ b off, a = some ⟨b, off, none⟩ ∧ ∀ j, j < n → w.cell? ⟨b, off + j * 3, none⟩ = some (f j) ∧ w.cell? ⟨b, off + j * 3 + 1, none⟩ = some (g j) ∧ w.cell? ⟨b, off + j * 3 + 2, none⟩ = some (h j)
theorem P3.on {w w' : World} {a : Option Addr} {n : Nat} {f g h : Nat → Value} (p : P3 w a n f g h) (hb : Below w.heap.size w w') : P3 w' a n f g h := by
  rcases p with p | ⟨b, off, h1, h2⟩
  · exact .inl p
  · exact .inr ⟨b, off, h1, fun j hj => ⟨cell_on (h2 j hj).1 hb, cell_on (h2 j hj).2.1 hb, cell_on (h2 j hj).2.2 hb⟩⟩
abbrev Bk.row (w : World) (x : Bk) : Prop := P2 w x.a x.n (fun i => .string (x.ks i)) (fun i => .string (x.ts i))
structure BAt (w : World) (a : Option Addr) (n : Nat) (bs : Nat → Bk) : Prop where
  rows : P3 w a n (fun j => .string (bs j).lc) (fun j => .int .i64 (bs j).pa) (fun j => (bs j).sl)
  prs : ∀ j, j < n → (bs j).row w
theorem BAt.on {w w' : World} {a : Option Addr} {n : Nat} {bs : Nat → Bk} (h : BAt w a n bs) (hb : Below w.heap.size w w') : BAt w' a n bs := ⟨h.rows.on hb, fun j hj => (h.prs j hj).on hb⟩
structure Bk.fits (x : Bk) : Prop where
  lc : x.lc.size ≤ maxLen
  n : x.n ≤ maxLen
  ks : ∀ i, i < x.n → (x.ks i).size ≤ maxLen
  ts : ∀ i, i < x.n → (x.ts i).size ≤ maxLen
  pa : -9223372036854775808 ≤ x.pa ∧ x.pa ≤ 9223372036854775807

def fewB (x : Bk) : Bool := decide (x.n ≤ 8)
theorem isFewPairs_c (x : Bk) (w : World) (hn : x.n ≤ maxLen) : Calls Tryz.prog 95 #[x.v] w fun e w' => e = .returned (.bool (fewB x)) ∧ Below w.heap.size w w' := by
  unfold maxLen at hn
  have hb := hideH ((Below.refl _ w).alloc (Nat.le_refl _) x.cs)
  go_enter Tryz.func95, Tryz.ntmps95
  go_wp2
  go_ret
  exact ⟨ret_bool (by unfold fewB; rw [Bool.eq_iff_iff]; simp; try omega), hb.out⟩
def prB (k t : ByteArray) : Bool := nameB k && decide (t.size ≤ 12)
theorem isPair_c (k t : ByteArray) (w : World) (hk : k.size ≤ maxLen) (ht : t.size ≤ maxLen) : Calls Tryz.prog 136 #[.agg #[.string k, .string t]] w fun e w' => e = .returned (.bool (prB k t)) ∧ Below w.heap.size w w' := by
  have hb := hideH ((Below.refl _ w).alloc (Nat.le_refl _) (.cells #[.string k, .string t] 89))
  have HN := hideH (fun v => Name_c k v hk)
  unfold maxLen at ht hk
  cases hq : nameB k
  · rw [hq] at HN
    have HX : Hid (prB k t = false) := by show _ = _; unfold prB; rw [hq]; rfl
    clear hq
    go_enter Tryz.func136, Tryz.ntmps136
    go_wp2_with (go_at_call 88; refine (HN.out _).mono ?_; rintro e w2 ⟨rfl, rfl⟩)
    go_ret
    exact ⟨ret_bool HX.out.symm, hb.out⟩
  · rw [hq] at HN
    have HX : Hid (prB k t = decide (t.size ≤ 12)) := by show _ = _; unfold prB; rw [hq]; rfl
    clear hq
    go_enter Tryz.func136, Tryz.ntmps136
    go_wp2_with (go_at_call 88; refine (HN.out _).mono ?_; rintro e w2 ⟨rfl, rfl⟩)
    go_ret
    exact ⟨ret_bool (by rw [HX.out]; rw [Bool.eq_iff_iff]; simp; try omega), hb.out⟩
abbrev prsOK (x : Bk) : Prop := ∀ i, i < x.n → prB (x.ks i) (x.ts i) = true
set_option maxHeartbeats 4000000 in
theorem allPair_c (x : Bk) (w : World) (hf : x.fits) (hP : x.row w) : Calls Tryz.prog 135 #[.slice x.a x.n x.c, .func (.func 136) #[] #[]] w fun e w' => e = .returned (.bool (decide (prsOK x))) ∧ Below w.heap.size w w' := by
  have HP := hideH hP
  have HF := hideH hf
  have hn := hf.n
  unfold maxLen at hn
  clear hP hf
  generalize hV : decide (prsOK x) = V
  have HV := hideH hV
  clear hV
  go_enter Tryz.func135, Tryz.ntmps135
  go_wp2_with fail
  go_loopw [9] (fun x9 wr => ∃ j : Nat, j ≤ x.n ∧ x9 = .int .i64 j ∧ Hid (∀ i, i < j → prB (x.ks i) (x.ts i) = true) ∧ Hid (Below w.heap.size w wr)) (fun x9 _ => x.n - (intOf x9).toNat)
  case atStart => exact ⟨0, Nat.zero_le _, rfl, fun i hi => by omega, Below.refl _ _⟩
  case round =>
    obtain ⟨j, hj, rfl, HA, HW⟩ := hrel
    by_cases hlt : j < x.n
    · rcases HP.out.on HW.out with h0 | ⟨b, off, hsa, hcs⟩
      · omega
      obtain ⟨c0, c1⟩ := hcs j hlt
      clear hcs
      have hb := hideH ((Below.refl _ wr).alloc (Nat.le_refl _) (.cells #[.string (x.ks j), .string (x.ts j)] 89))
      have HC := hideH (fun v => isPair_c (x.ks j) (x.ts j) v (HF.out.ks j hlt) (HF.out.ts j hlt))
      cases hq : prB (x.ks j) (x.ts j)
      · rw [hq] at HC
        have HX : Hid (V = false) := by show V = false; rw [← HV.out]; exact decide_eq_false (fun h => by have := h j hlt; rw [hq] at this; cases this)
        clear hq
        go_wp2_with (go_at_call 136; refine (HC.out _).mono ?_; rintro e w1 ⟨rfl, hw1⟩)
        go_ret
        exact ⟨ret_bool HX.out.symm, bthen HW.out (bthen hb.out hw1)⟩
      · rw [hq] at HC
        have HA2 : Hid (∀ i, i < j + 1 → prB (x.ks i) (x.ts i) = true) := fun i hi => by
          rcases Nat.lt_or_ge i j with h | h
          · exact HA.out i h
          · obtain rfl : i = j := by omega
            exact hq
        clear hq
        go_wp2_with (go_at_call 136; refine (HC.out _).mono ?_; rintro e w1 ⟨rfl, hw1⟩)
        have H2 := hideH (bthen HW.out (bthen hb.out hw1))
        clear hw1
        try simp only [← hsa]
        go_roundw
        case rel => exact ⟨j + 1, by omega, by go_num, HA2, H2⟩
        case measure => simp [intOf]; omega
    · have HX : Hid (V = true) := by show V = true; rw [← HV.out]; exact decide_eq_true (fun i hi => HA.out i (by omega))
      go_wp2_with fail
      go_ret
      exact ⟨ret_bool HX.out.symm, HW.out⟩
def namB (x : Bk) : Bool := nameB x.lc && decide (prsOK x)
theorem isNamed_c (x : Bk) (w : World) (hf : x.fits) (hP : x.row w) : Calls Tryz.prog 96 #[x.v] w fun e w' => e = .returned (.bool (namB x)) ∧ Below w.heap.size w w' := by
  have hb := hideH ((Below.refl _ w).alloc (Nat.le_refl _) x.cs)
  have HN := hideH (fun v => Name_c x.lc v hf.lc)
  have HA : Hid (∀ v, Below w.heap.size w v → Calls Tryz.prog 135 #[.slice x.a x.n x.c, .func (.func 136) #[] #[]] v fun e w' => e = .returned (.bool (decide (prsOK x))) ∧ Below v.heap.size v w') := fun v hv => allPair_c x v hf (hP.on hv)
  clear hf hP
  cases hq : nameB x.lc
  · rw [hq] at HN
    have HX : Hid (namB x = false) := by show _ = _; unfold namB; rw [hq]; rfl
    clear hq
    go_enter Tryz.func96, Tryz.ntmps96
    go_wp2_with (go_at_call 88; refine (HN.out _).mono ?_; rintro e w2 ⟨rfl, rfl⟩)
    go_ret
    exact ⟨ret_bool HX.out.symm, hb.out⟩
  · rw [hq] at HN
    have HX : Hid (namB x = decide (prsOK x)) := by show _ = _; unfold namB; rw [hq]; rfl
    clear hq
    generalize decide (prsOK x) = V at *
    go_enter Tryz.func96, Tryz.ntmps96
    go_wp2_with (first
      | (go_at_call 88; refine (HN.out _).mono ?_; rintro e w2 ⟨rfl, rfl⟩)
      | (go_at_call 135; refine (HA.out _ hb.out).mono ?_; rintro e w3 ⟨rfl, hw3⟩))
    go_ret
    exact ⟨ret_bool HX.out.symm, bthen hb.out hw3⟩
set_option maxHeartbeats 4000000 in
theorem allFew_c (a : Option Addr) (n c : Nat) (bs : Nat → Bk) (w : World) (hn : n ≤ maxLen) (hP : BAt w a n bs) (hf : ∀ j, j < n → (bs j).fits) : Calls Tryz.prog 94 #[.slice a n c, .func (.func 95) #[] #[]] w fun e w' => e = .returned (.bool (decide (∀ j, j < n → fewB (bs j) = true))) ∧ Below w.heap.size w w' := by
  have HP := hideH hP
  have HF := hideH hf
  unfold maxLen at hn
  clear hP hf
  generalize hV : decide (∀ j, j < n → fewB (bs j) = true) = V
  have HV := hideH hV
  clear hV
  go_enter Tryz.func94, Tryz.ntmps94
  go_wp2_with fail
  go_loopw [9] (fun x9 wr => ∃ j : Nat, j ≤ n ∧ x9 = .int .i64 j ∧ Hid (∀ i, i < j → fewB (bs i) = true) ∧ Hid (Below w.heap.size w wr)) (fun x9 _ => n - (intOf x9).toNat)
  case atStart => exact ⟨0, Nat.zero_le _, rfl, fun i hi => by omega, Below.refl _ _⟩
  case round =>
    obtain ⟨j, hj, rfl, HA, HW⟩ := hrel
    by_cases hlt : j < n
    · rcases (HP.out.on HW.out).rows with h0 | ⟨b, off, hsa, hcs⟩
      · omega
      obtain ⟨c0, c1, c2⟩ := hcs j hlt
      clear hcs
      have hb := hideH ((Below.refl _ wr).alloc (Nat.le_refl _) (bs j).cs)
      have HC : Hid (∀ v, Below wr.heap.size wr v → Calls Tryz.prog 95 #[(bs j).v] v fun e w' => e = .returned (.bool (fewB (bs j))) ∧ Below v.heap.size v w') := fun v hv => isFewPairs_c (bs j) v (HF.out j hlt).n
      cases hq : fewB (bs j)
      · rw [hq] at HC
        have HX : Hid (V = false) := by show V = false; rw [← HV.out]; exact decide_eq_false (fun h => by have := h j hlt; rw [hq] at this; cases this)
        clear hq
        go_wp2_with (go_at_call 95; refine (HC.out _ hb.out).mono ?_; rintro e w1 ⟨rfl, hw1⟩)
        go_ret
        exact ⟨ret_bool HX.out.symm, bthen HW.out (bthen hb.out hw1)⟩
      · rw [hq] at HC
        have HA2 : Hid (∀ i, i < j + 1 → fewB (bs i) = true) := fun i hi => by
          rcases Nat.lt_or_ge i j with h | h
          · exact HA.out i h
          · obtain rfl : i = j := by omega
            exact hq
        clear hq
        go_wp2_with (go_at_call 95; refine (HC.out _ hb.out).mono ?_; rintro e w1 ⟨rfl, hw1⟩)
        have H2 := hideH (bthen HW.out (bthen hb.out hw1))
        clear hw1
        try simp only [← hsa]
        go_roundw
        case rel => exact ⟨j + 1, by omega, by go_num, HA2, H2⟩
        case measure => simp [intOf]; omega
    · have HX : Hid (V = true) := by show V = true; rw [← HV.out]; exact decide_eq_true (fun i hi => HA.out i (by omega))
      go_wp2_with fail
      go_ret
      exact ⟨ret_bool HX.out.symm, HW.out⟩
set_option maxHeartbeats 4000000 in
theorem allNam_c (a : Option Addr) (n c : Nat) (bs : Nat → Bk) (w : World) (hn : n ≤ maxLen) (hP : BAt w a n bs) (hf : ∀ j, j < n → (bs j).fits) : Calls Tryz.prog 94 #[.slice a n c, .func (.func 96) #[] #[]] w fun e w' => e = .returned (.bool (decide (∀ j, j < n → namB (bs j) = true))) ∧ Below w.heap.size w w' := by
  have HP := hideH hP
  have HF := hideH hf
  unfold maxLen at hn
  clear hP hf
  generalize hV : decide (∀ j, j < n → namB (bs j) = true) = V
  have HV := hideH hV
  clear hV
  go_enter Tryz.func94, Tryz.ntmps94
  go_wp2_with fail
  go_loopw [9] (fun x9 wr => ∃ j : Nat, j ≤ n ∧ x9 = .int .i64 j ∧ Hid (∀ i, i < j → namB (bs i) = true) ∧ Hid (Below w.heap.size w wr)) (fun x9 _ => n - (intOf x9).toNat)
  case atStart => exact ⟨0, Nat.zero_le _, rfl, fun i hi => by omega, Below.refl _ _⟩
  case round =>
    obtain ⟨j, hj, rfl, HA, HW⟩ := hrel
    by_cases hlt : j < n
    · rcases (HP.out.on HW.out).rows with h0 | ⟨b, off, hsa, hcs⟩
      · omega
      obtain ⟨c0, c1, c2⟩ := hcs j hlt
      clear hcs
      have hb := hideH ((Below.refl _ wr).alloc (Nat.le_refl _) (bs j).cs)
      have HC : Hid (∀ v, Below wr.heap.size wr v → Calls Tryz.prog 96 #[(bs j).v] v fun e w' => e = .returned (.bool (namB (bs j))) ∧ Below v.heap.size v w') := fun v hv => isNamed_c (bs j) v (HF.out j hlt) (((HP.out.on HW.out).prs j hlt).on hv)
      cases hq : namB (bs j)
      · rw [hq] at HC
        have HX : Hid (V = false) := by show V = false; rw [← HV.out]; exact decide_eq_false (fun h => by have := h j hlt; rw [hq] at this; cases this)
        clear hq
        go_wp2_with (go_at_call 96; refine (HC.out _ hb.out).mono ?_; rintro e w1 ⟨rfl, hw1⟩)
        go_ret
        exact ⟨ret_bool HX.out.symm, bthen HW.out (bthen hb.out hw1)⟩
      · rw [hq] at HC
        have HA2 : Hid (∀ i, i < j + 1 → namB (bs i) = true) := fun i hi => by
          rcases Nat.lt_or_ge i j with h | h
          · exact HA.out i h
          · obtain rfl : i = j := by omega
            exact hq
        clear hq
        go_wp2_with (go_at_call 96; refine (HC.out _ hb.out).mono ?_; rintro e w1 ⟨rfl, hw1⟩)
        have H2 := hideH (bthen HW.out (bthen hb.out hw1))
        clear hw1
        try simp only [← hsa]
        go_roundw
        case rel => exact ⟨j + 1, by omega, by go_num, HA2, H2⟩
        case measure => simp [intOf]; omega
    · have HX : Hid (V = true) := by show V = true; rw [← HV.out]; exact decide_eq_true (fun i hi => HA.out i (by omega))
      go_wp2_with fail
      go_ret
      exact ⟨ret_bool HX.out.symm, HW.out⟩
end Go.Proofs.YtfjjdicgekgbeaaGreatDoor

/- Contracts of package books: rises, sameLocale, parentsAhead, Check. -/
namespace Go.Proofs.YtfjjdicgekgbeaaGreatDoor
open Go Go.RowKit
set_option linter.unusedVariables false

theorem wrap_nn' {n : Int} (h0 : 0 ≤ n) (h1 : n < 9223372036854775808) : IntKind.i64.wrap n = n := by
  have h64 : IntKind.i64.bits = 64 := rfl
  have hsg : IntKind.i64.signed = true := rfl
  unfold IntKind.wrap
  rw [h64, hsg]
  simp only [Bool.true_and]
  rw [Int.emod_eq_of_lt h0 (by omega)]
  simp
  omega
theorem less_tri : ∀ a b : List UInt8, (Op.bytesLess a b || a == b) = !Op.bytesLess b a
  | [], [] => rfl
  | [], _ :: _ => rfl
  | _ :: _, [] => rfl
  | x :: a, y :: b => by
    have ih := less_tri a b
    simp only [Op.bytesLess]
    by_cases h1 : x < y
    · have h2 : ¬ y < x := fun h => UInt8.lt_irrefl _ (UInt8.lt_trans h1 h)
      have h3 : (y == x) = false := beq_eq_false_iff_ne.2 (fun e => by subst e; exact UInt8.lt_irrefl _ h1)
      simp [h1, h2, h3]
    · by_cases h2 : x = y
      · subst h2
        simp only [UInt8.lt_irrefl, decide_false, Bool.false_or, beq_self_eq_true, Bool.true_and]
        rw [← ih]
        simp
      · have h3 : y < x := by
          rcases UInt8.lt_or_lt_of_ne h2 with h | h
          · exact absurd h h1
          · exact h
        have h4 : (x == y) = false := beq_eq_false_iff_ne.2 h2
        simp [h1, h3, h4]
abbrev ltB (a b : ByteArray) : Bool := Op.bytesLess a.toList b.toList
abbrev rsOK (x : Bk) : Prop := ∀ i, i < x.n - 1 → ltB (x.ks i) (x.ks (i + 1)) = true
def rsB (x : Bk) : Bool := decide (rsOK x)
set_option maxHeartbeats 4000000 in
theorem rises_c (x : Bk) (w : World) (hf : x.fits) (hP : x.row w) : Calls Tryz.prog 98 #[x.v] w fun e w' => e = .returned (.bool (rsB x)) ∧ Below w.heap.size w w' := by
  have HP := hideH hP
  have HF := hideH hf
  have hn := hf.n
  unfold maxLen at hn
  clear hP hf
  generalize hV : rsB x = V
  have HV := hideH hV
  clear hV
  have hb := hideH ((Below.refl _ w).alloc (Nat.le_refl _) x.cs)
  have hc : Hid ((w.alloc x.cs).cell? ⟨w.heap.size, 2, none⟩ = some (.slice x.a x.n x.c)) := by show _ = _; simp
  go_enter Tryz.func98, Tryz.ntmps98
  go_wp2_with fail
  go_loopw [3] (fun x3 wr => ∃ j : Nat, 1 ≤ j ∧ (j ≤ x.n ∨ j = 1) ∧ x3 = .int .i64 j ∧ Hid (wr.cell? ⟨w.heap.size, 2, none⟩ = some (.slice x.a x.n x.c)) ∧ Hid (Below w.heap.size w wr) ∧ Hid (∀ i, i + 1 < j → ltB (x.ks i) (x.ks (i + 1)) = true)) (fun x3 _ => x.n - (intOf x3).toNat)
  case atStart => exact ⟨1, by omega, .inr rfl, rfl, hc, hb, fun i hi => by omega⟩
  case round =>
    obtain ⟨j, hj1, hj, rfl, HC, HW, HA⟩ := hrel
    have c2 := HC.out
    by_cases hlt : j < x.n
    · rcases HP.out.on HW.out with h0 | ⟨b, off, hsa, hcs⟩
      · omega
      have d1 := (hcs j hlt).1
      obtain ⟨m, hm⟩ : ∃ m : Nat, j = m + 1 := ⟨j - 1, by omega⟩
      have d0 := (hcs m (by omega)).1
      have hwm : IntKind.i64.wrap ((j : Int) - 1) = (m : Int) := by rw [wrap_nn' (by omega) (by omega)]; omega
      have hm0 : decide ((m : Int) < 0) = false := by simp
      have hmn : decide (x.n ≤ m) = false := by simp; omega
      have hm2 : (m : Int) < (x.n : Int) := by omega
      have ht := less_tri (x.ks j).toList (x.ks m).toList
      have HM := hideH hm
      clear hm hcs
      have hk0 : decide ((j : Int) < 0) = false := by simp
      have hkn : decide (x.n ≤ j) = false := by simp; omega
      have hlt2 : (j : Int) < (x.n : Int) := by omega
      cases hq : ltB (x.ks m) (x.ks j)
      · rw [show Op.bytesLess (x.ks m).toList (x.ks j).toList = false from hq, Bool.not_false] at ht
        have HX : Hid (V = false) := by
          show V = false
          rw [← HV.out]
          exact decide_eq_false (fun h => by have := h m (by have := HM.out; omega); rw [← HM.out, hq] at this; cases this)
        clear hq
        go_wp2_with fail
        go_quiet (fail)
        go_wp2_with fail
        go_ret
        exact ⟨ret_bool HX.out.symm, below_drewN HW.out _⟩
      · rw [show Op.bytesLess (x.ks m).toList (x.ks j).toList = true from hq, Bool.not_true] at ht
        have HA2 : Hid (∀ i, i + 1 < j + 1 → ltB (x.ks i) (x.ks (i + 1)) = true) := fun i hi => by
          rcases Nat.lt_or_ge (i + 1) j with h | h
          · exact HA.out i h
          · have : i = m := by have := HM.out; omega
            rw [this, ← HM.out]; exact hq
        clear hq
        go_wp2_with fail
        go_quiet (fail)
        go_wp2_with fail
        try simp only [← hsa]
        go_roundw
        case rel => exact ⟨j + 1, by omega, .inl (by omega), by go_num, HC, below_drewN HW.out _, HA2⟩
        case measure => simp [intOf]; omega
    · have HX : Hid (V = true) := by
        show V = true
        rw [← HV.out]
        exact decide_eq_true (show rsOK x from fun i hi => HA.out i (by omega))
      go_wp2_with fail
      go_ret
      exact ⟨ret_bool HX.out.symm, HW.out⟩
end Go.Proofs.YtfjjdicgekgbeaaGreatDoor

/- Contracts of package books: all of rises, sameLocale, parentsAhead, Check. -/
namespace Go.Proofs.YtfjjdicgekgbeaaGreatDoor
open Go Go.RowKit
set_option linter.unusedVariables false

set_option maxHeartbeats 4000000 in
theorem allRis_c (a : Option Addr) (n c : Nat) (bs : Nat → Bk) (w : World) (hn : n ≤ maxLen) (hP : BAt w a n bs) (hf : ∀ j, j < n → (bs j).fits) : Calls Tryz.prog 94 #[.slice a n c, .func (.func 98) #[] #[]] w fun e w' => e = .returned (.bool (decide (∀ j, j < n → rsB (bs j) = true))) ∧ Below w.heap.size w w' := by
  have HP := hideH hP
  have HF := hideH hf
  unfold maxLen at hn
  clear hP hf
  generalize hV : decide (∀ j, j < n → rsB (bs j) = true) = V
  have HV := hideH hV
  clear hV
  go_enter Tryz.func94, Tryz.ntmps94
  go_wp2_with fail
  go_loopw [9] (fun x9 wr => ∃ j : Nat, j ≤ n ∧ x9 = .int .i64 j ∧ Hid (∀ i, i < j → rsB (bs i) = true) ∧ Hid (Below w.heap.size w wr)) (fun x9 _ => n - (intOf x9).toNat)
  case atStart => exact ⟨0, Nat.zero_le _, rfl, fun i hi => by omega, Below.refl _ _⟩
  case round =>
    obtain ⟨j, hj, rfl, HA, HW⟩ := hrel
    by_cases hlt : j < n
    · rcases (HP.out.on HW.out).rows with h0 | ⟨b, off, hsa, hcs⟩
      · omega
      obtain ⟨c0, c1, c2⟩ := hcs j hlt
      clear hcs
      have hb := hideH ((Below.refl _ wr).alloc (Nat.le_refl _) (bs j).cs)
      have HC : Hid (∀ v, Below wr.heap.size wr v → Calls Tryz.prog 98 #[(bs j).v] v fun e w' => e = .returned (.bool (rsB (bs j))) ∧ Below v.heap.size v w') := fun v hv => rises_c (bs j) v (HF.out j hlt) (((HP.out.on HW.out).prs j hlt).on hv)
      cases hq : rsB (bs j)
      · rw [hq] at HC
        have HX : Hid (V = false) := by show V = false; rw [← HV.out]; exact decide_eq_false (fun h => by have := h j hlt; rw [hq] at this; cases this)
        clear hq
        go_wp2_with (go_at_call 98; refine (HC.out _ hb.out).mono ?_; rintro e w1 ⟨rfl, hw1⟩)
        go_ret
        exact ⟨ret_bool HX.out.symm, bthen HW.out (bthen hb.out hw1)⟩
      · rw [hq] at HC
        have HA2 : Hid (∀ i, i < j + 1 → rsB (bs i) = true) := fun i hi => by
          rcases Nat.lt_or_ge i j with h | h
          · exact HA.out i h
          · obtain rfl : i = j := by omega
            exact hq
        clear hq
        go_wp2_with (go_at_call 98; refine (HC.out _ hb.out).mono ?_; rintro e w1 ⟨rfl, hw1⟩)
        have H2 := hideH (bthen HW.out (bthen hb.out hw1))
        clear hw1
        try simp only [← hsa]
        go_roundw
        case rel => exact ⟨j + 1, by omega, by go_num, HA2, H2⟩
        case measure => simp [intOf]; omega
    · have HX : Hid (V = true) := by show V = true; rw [← HV.out]; exact decide_eq_true (fun i hi => HA.out i (by omega))
      go_wp2_with fail
      go_ret
      exact ⟨ret_bool HX.out.symm, HW.out⟩
theorem beq_l {a b : ByteArray} {v : Bool} (h : (a.toList == b.toList) = v) : (a.data.toList = b.data.toList) ↔ v = true := by
  rw [ByteArray.toList_eq, ByteArray.toList_eq] at h
  rw [← h]
  simp
set_option maxHeartbeats 8000000 in
theorem sameLocale_c (a : Option Addr) (n c : Nat) (bs : Nat → Bk) (w : World) (hn : n ≤ maxLen) (hc : n ≤ c) (hP : BAt w a n bs) : Calls Tryz.prog 97 #[.slice a n c] w fun e w' => e = .returned (.bool (!decide (dist (fun j => (bs j).lc) n))) ∧ Below w.heap.size w w' := by
  have HP := hideH hP
  unfold maxLen at hn
  clear hP
  generalize hV : (!decide (dist (fun j => (bs j).lc) n)) = V
  have HV := hideH hV
  clear hV
  go_enter Tryz.func97, Tryz.ntmps97
  go_wp2_with fail
  go_loopw [9] (fun x9 wr => ∃ j : Nat, j ≤ n ∧ x9 = .int .i64 j ∧ Hid (∀ i, i < j → ∀ k, k < i → (bs i).lc.data.toList ≠ (bs k).lc.data.toList) ∧ Hid (Below w.heap.size w wr)) (fun x9 _ => n - (intOf x9).toNat)
  case atStart => exact ⟨0, Nat.zero_le _, rfl, fun i hi => by omega, Below.refl _ _⟩
  case round =>
    obtain ⟨j, hj, rfl, HA, HW⟩ := hrel
    by_cases hlt : j < n
    · rcases (HP.out.on HW.out).rows with h0 | ⟨b, off, hsa, hcs⟩
      · omega
      obtain ⟨c0, c1, c2⟩ := hcs j hlt
      have HCS := hideH hcs
      clear hcs
      have hjn : (j : Int) ≤ (c : Int) := by omega
      have hb := hideH ((Below.refl _ wr).alloc (Nat.le_refl _) (bs j).cs)
      have e0 : Hid ((wr.alloc (bs j).cs).cell? ⟨wr.heap.size, 0, none⟩ = some (.string (bs j).lc)) := by show _ = _; simp
      go_wp2_with fail
      clear c0 c1 c2
      obtain ⟨wo, hwo⟩ : ∃ wo, wo = wr := ⟨_, rfl⟩
      subst hwo
      go_loopw [18] (fun x18 v => ∃ k : Nat, k ≤ j ∧ x18 = .int .i64 k ∧ Hid (∀ i, i < k → (bs j).lc.data.toList ≠ (bs i).lc.data.toList) ∧ Hid (Below (wo.alloc (bs j).cs).heap.size (wo.alloc (bs j).cs) v)) (fun x18 _ => j - (intOf x18).toNat)
      case atStart => exact ⟨0, Nat.zero_le _, rfl, fun i hi => by omega, Below.refl _ _⟩
      case round =>
        obtain ⟨k, hk, rfl, HB, HV2⟩ := hrel
        have H2 := hideH (bthen HW.out (bthen hb.out HV2.out))
        by_cases hkj : k < j
        · have d0 := cell_on (HCS.out k (by omega)).1 (bthen hb.out HV2.out)
          have d1 := cell_on (HCS.out k (by omega)).2.1 (bthen hb.out HV2.out)
          have d2 := cell_on (HCS.out k (by omega)).2.2 (bthen hb.out HV2.out)
          have f0 := cell_on e0.out HV2.out
          have hbk := hideH ((Below.refl _ wr).alloc (Nat.le_refl _) (bs k).cs)
          have f1 := cell_on f0 hbk.out
          have hlen : (k : Int) < (j : Int) := by omega
          cases hq : ((bs j).lc.toList == (bs k).lc.toList)
          · have hne : (bs j).lc.data.toList ≠ (bs k).lc.data.toList := fun e => by have := (beq_l hq).1 e; cases this
            have HB2 : Hid (∀ i, i < k + 1 → (bs j).lc.data.toList ≠ (bs i).lc.data.toList) := fun i hi => by
              rcases Nat.lt_or_ge i k with h | h
              · exact HB.out i h
              · obtain rfl : i = k := by omega
                exact hne
            have HV3 := hideH (HV2.out.trans (hbk.out.mono HV2.out.size))
            clear hne
            go_wp2_with fail
            go_roundw
            case rel => exact ⟨k + 1, by omega, by go_num, HB2, HV3⟩
            case measure => simp [intOf]; omega
          · have heq : (bs j).lc.data.toList = (bs k).lc.data.toList := (beq_l hq).2 rfl
            have HX : Hid (V = true) := by
              show V = true
              rw [← HV.out, Bool.not_eq_true']
              exact decide_eq_false (fun h => h j hlt k hkj heq)
            clear heq
            go_wp2_with fail
            go_ret
            exact ⟨ret_bool HX.out.symm, bthen H2.out hbk.out⟩
        · obtain rfl : k = j := by omega
          have HA2 : Hid (∀ i, i < k + 1 → ∀ m, m < i → (bs i).lc.data.toList ≠ (bs m).lc.data.toList) := fun i hi m hm => by
            rcases Nat.lt_or_ge i k with h | h
            · exact HA.out i h m hm
            · obtain rfl : i = k := by omega
              exact HB.out m hm
          go_wp2_with fail
          try simp only [← hsa]
          go_roundw
          case rel => exact ⟨k + 1, by omega, by go_num, HA2, H2⟩
          case measure => simp [intOf]; omega
    · have HX : Hid (V = false) := by
        show V = false
        rw [← HV.out, Bool.not_eq_false']
        exact decide_eq_true (fun i hi m hm => HA.out i (by omega) m hm)
      go_wp2_with fail
      go_ret
      exact ⟨ret_bool HX.out.symm, HW.out⟩
def paOK (bs : Nat → Bk) (n : Nat) : Prop := ∀ j, j < n → -1 ≤ (bs j).pa ∧ (bs j).pa < j
abbrev paB (bs : Nat → Bk) (n : Nat) : Bool := (List.range n).all fun j => decide (-1 ≤ (bs j).pa ∧ (bs j).pa < j)
theorem paB_iff (bs : Nat → Bk) (n : Nat) : paB bs n = true ↔ paOK bs n := by
  unfold paB paOK
  rw [List.all_eq_true]
  constructor
  · intro h j hj
    simpa using h j (List.mem_range.2 hj)
  · intro h j hj
    simpa using h j (List.mem_range.1 hj)
set_option maxHeartbeats 8000000 in
theorem parentsAhead_c (a : Option Addr) (n c : Nat) (bs : Nat → Bk) (w : World) (hn : n ≤ maxLen) (hP : BAt w a n bs) : Calls Tryz.prog 99 #[.slice a n c] w fun e w' => e = .returned (.bool (paB bs n)) ∧ Below w.heap.size w w' := by
  have HP := hideH hP
  unfold maxLen at hn
  clear hP
  generalize hV : paB bs n = V
  have HV := hideH hV
  clear hV
  go_enter Tryz.func99, Tryz.ntmps99
  go_wp2_with fail
  go_loopw [7] (fun x7 wr => ∃ j : Nat, j ≤ n ∧ x7 = .int .i64 j ∧ Hid (∀ i, i < j → -1 ≤ (bs i).pa ∧ (bs i).pa < i) ∧ Hid (Below w.heap.size w wr)) (fun x7 _ => n - (intOf x7).toNat)
  case atStart => exact ⟨0, Nat.zero_le _, rfl, fun i hi => by omega, Below.refl _ _⟩
  case round =>
    obtain ⟨j, hj, rfl, HA, HW⟩ := hrel
    by_cases hlt : j < n
    · rcases (HP.out.on HW.out).rows with h0 | ⟨b, off, hsa, hcs⟩
      · omega
      obtain ⟨c0, c1, c2⟩ := hcs j hlt
      clear hcs
      have hb := hideH ((Below.refl _ wr).alloc (Nat.le_refl _) (bs j).cs)
      by_cases hok : -1 ≤ (bs j).pa ∧ (bs j).pa < j
      · have HA2 : Hid (∀ i, i < j + 1 → -1 ≤ (bs i).pa ∧ (bs i).pa < i) := fun i hi => by
          rcases Nat.lt_or_ge i j with h | h
          · exact HA.out i h
          · obtain rfl : i = j := by omega
            exact hok
        obtain ⟨o1, o2⟩ := hok
        have H2 := hideH (bthen HW.out hb.out)
        go_wp2_with fail
        try simp only [← hsa]
        go_roundw
        case rel => exact ⟨_, _, _, _, ⟨j + 1, by omega, by go_num, HA2⟩, rfl, rfl, rfl, rfl⟩
        case measure => simp [intOf]; omega
      · have HX : Hid (V = false) := by
          show V = false
          rw [← HV.out, Bool.eq_false_iff]
          intro h
          exact hok ((paB_iff bs n).1 h j hlt)
        have hd : (bs j).pa < -1 ∨ (-1 ≤ (bs j).pa ∧ (j : Int) ≤ (bs j).pa) := by omega
        clear hok
        rcases hd with hd | ⟨hd, hd2⟩
        all_goals
          go_wp2_with fail
          go_ret
          exact ⟨ret_bool HX.out.symm, bthen HW.out hb.out⟩
    · have HX : Hid (V = true) := by
        show V = true
        rw [← HV.out, paB_iff]
        exact fun i hi => HA.out i (by omega)
      go_wp2_with fail
      go_ret
      exact ⟨ret_bool HX.out.symm, HW.out⟩
/-- what books.Check answers -/
def bchk (n : Nat) (bs : Nat → Bk) : Int :=
  if n ≤ 4 ∧ ∀ j, j < n → fewB (bs j) = true then
    if ∀ j, j < n → namB (bs j) = true then
      if dist (fun j => (bs j).lc) n ∧ ∀ j, j < n → rsB (bs j) = true then
        if paB bs n = true then 0 else 3
      else 6
    else 5
  else 2
set_option maxHeartbeats 8000000 in
theorem BCheck_c (a : Option Addr) (n c : Nat) (bs : Nat → Bk) (w : World) (hn : n ≤ maxLen) (hc : n ≤ c) (hP : BAt w a n bs) (hf : ∀ j, j < n → (bs j).fits) : Calls Tryz.prog 60 #[.slice a n c] w fun e w' => e = .returned (.int .i64 (bchk n bs)) ∧ Below w.heap.size w w' := by
  have H1 : Hid (∀ v, Below w.heap.size w v → Calls Tryz.prog 94 #[.slice a n c, .func (.func 95) #[] #[]] v fun e w' => e = .returned (.bool (decide (∀ j, j < n → fewB (bs j) = true))) ∧ Below v.heap.size v w') := fun v hv => allFew_c a n c bs v hn (hP.on hv) hf
  have H2 : Hid (∀ v, Below w.heap.size w v → Calls Tryz.prog 94 #[.slice a n c, .func (.func 96) #[] #[]] v fun e w' => e = .returned (.bool (decide (∀ j, j < n → namB (bs j) = true))) ∧ Below v.heap.size v w') := fun v hv => allNam_c a n c bs v hn (hP.on hv) hf
  have H3 : Hid (∀ v, Below w.heap.size w v → Calls Tryz.prog 97 #[.slice a n c] v fun e w' => e = .returned (.bool (!decide (dist (fun j => (bs j).lc) n))) ∧ Below v.heap.size v w') := fun v hv => sameLocale_c a n c bs v hn hc (hP.on hv)
  have H4 : Hid (∀ v, Below w.heap.size w v → Calls Tryz.prog 94 #[.slice a n c, .func (.func 98) #[] #[]] v fun e w' => e = .returned (.bool (decide (∀ j, j < n → rsB (bs j) = true))) ∧ Below v.heap.size v w') := fun v hv => allRis_c a n c bs v hn (hP.on hv) hf
  have H5 : Hid (∀ v, Below w.heap.size w v → Calls Tryz.prog 99 #[.slice a n c] v fun e w' => e = .returned (.bool (paB bs n)) ∧ Below v.heap.size v w') := fun v hv => parentsAhead_c a n c bs v hn (hP.on hv)
  have H0 := hideH (Below.refl w.heap.size w)
  unfold maxLen at hn
  clear hP hf
  by_cases a1 : n ≤ 4
  · by_cases a2 : ∀ j, j < n → fewB (bs j) = true
    · rw [decide_eq_true a2] at H1
      by_cases a3 : ∀ j, j < n → namB (bs j) = true
      · rw [decide_eq_true a3] at H2
        by_cases a4 : dist (fun j => (bs j).lc) n
        · rw [decide_eq_true a4] at H3
          by_cases a5 : ∀ j, j < n → rsB (bs j) = true
          · rw [decide_eq_true a5] at H4
            cases a6 : paB bs n
            · rw [a6] at H5
              have HX : Hid (bchk n bs = 3) := by show _ = _; unfold bchk; rw [if_pos ⟨a1, a2⟩, if_pos a3, if_pos ⟨a4, a5⟩, a6]; rfl
              clear a2 a3 a4 a5 a6
              go_enter Tryz.func60, Tryz.ntmps60
              go_wp2_with fail
              refine (H1.out _ H0.out).mono ?_
              rintro e w1 ⟨rfl, h1⟩
              have G1 := hideH h1
              clear h1
              go_wp2_with fail
              refine (H2.out _ G1.out).mono ?_
              rintro e w2 ⟨rfl, h2⟩
              have G2 := hideH (bthen G1.out h2)
              clear h2
              go_wp2_with fail
              refine (H3.out _ G2.out).mono ?_
              rintro e w3 ⟨rfl, h3⟩
              have G3 := hideH (bthen G2.out h3)
              clear h3
              go_wp2_with fail
              refine (H4.out _ G3.out).mono ?_
              rintro e w4 ⟨rfl, h4⟩
              have G4 := hideH (bthen G3.out h4)
              clear h4
              go_wp2_with fail
              refine (H5.out _ G4.out).mono ?_
              rintro e w5 ⟨rfl, h5⟩
              have G5 := hideH (bthen G4.out h5)
              clear h5
              go_wp2_with fail
              go_ret
              exact ⟨ret_int HX.out.symm, G5.out⟩
            · rw [a6] at H5
              have HX : Hid (bchk n bs = 0) := by show _ = _; unfold bchk; rw [if_pos ⟨a1, a2⟩, if_pos a3, if_pos ⟨a4, a5⟩, a6]; rfl
              clear a2 a3 a4 a5 a6
              go_enter Tryz.func60, Tryz.ntmps60
              go_wp2_with fail
              refine (H1.out _ H0.out).mono ?_
              rintro e w1 ⟨rfl, h1⟩
              have G1 := hideH h1
              clear h1
              go_wp2_with fail
              refine (H2.out _ G1.out).mono ?_
              rintro e w2 ⟨rfl, h2⟩
              have G2 := hideH (bthen G1.out h2)
              clear h2
              go_wp2_with fail
              refine (H3.out _ G2.out).mono ?_
              rintro e w3 ⟨rfl, h3⟩
              have G3 := hideH (bthen G2.out h3)
              clear h3
              go_wp2_with fail
              refine (H4.out _ G3.out).mono ?_
              rintro e w4 ⟨rfl, h4⟩
              have G4 := hideH (bthen G3.out h4)
              clear h4
              go_wp2_with fail
              refine (H5.out _ G4.out).mono ?_
              rintro e w5 ⟨rfl, h5⟩
              have G5 := hideH (bthen G4.out h5)
              clear h5
              go_wp2_with fail
              go_ret
              exact ⟨ret_int HX.out.symm, G5.out⟩
          · rw [decide_eq_false a5] at H4
            have HX : Hid (bchk n bs = 6) := by show _ = _; unfold bchk; rw [if_pos ⟨a1, a2⟩, if_pos a3, if_neg (fun h => a5 h.2)]
            clear a2 a3 a4 a5
            go_enter Tryz.func60, Tryz.ntmps60
            go_wp2_with fail
            refine (H1.out _ H0.out).mono ?_
            rintro e w1 ⟨rfl, h1⟩
            have G1 := hideH h1
            clear h1
            go_wp2_with fail
            refine (H2.out _ G1.out).mono ?_
            rintro e w2 ⟨rfl, h2⟩
            have G2 := hideH (bthen G1.out h2)
            clear h2
            go_wp2_with fail
            refine (H3.out _ G2.out).mono ?_
            rintro e w3 ⟨rfl, h3⟩
            have G3 := hideH (bthen G2.out h3)
            clear h3
            go_wp2_with fail
            refine (H4.out _ G3.out).mono ?_
            rintro e w4 ⟨rfl, h4⟩
            have G4 := hideH (bthen G3.out h4)
            clear h4
            go_wp2_with fail
            go_ret
            exact ⟨ret_int HX.out.symm, G4.out⟩
        · rw [decide_eq_false a4] at H3
          have HX : Hid (bchk n bs = 6) := by show _ = _; unfold bchk; rw [if_pos ⟨a1, a2⟩, if_pos a3, if_neg (fun h => a4 h.1)]
          clear a2 a3 a4
          go_enter Tryz.func60, Tryz.ntmps60
          go_wp2_with fail
          refine (H1.out _ H0.out).mono ?_
          rintro e w1 ⟨rfl, h1⟩
          have G1 := hideH h1
          clear h1
          go_wp2_with fail
          refine (H2.out _ G1.out).mono ?_
          rintro e w2 ⟨rfl, h2⟩
          have G2 := hideH (bthen G1.out h2)
          clear h2
          go_wp2_with fail
          refine (H3.out _ G2.out).mono ?_
          rintro e w3 ⟨rfl, h3⟩
          have G3 := hideH (bthen G2.out h3)
          clear h3
          go_wp2_with fail
          go_ret
          exact ⟨ret_int HX.out.symm, G3.out⟩
      · rw [decide_eq_false a3] at H2
        have HX : Hid (bchk n bs = 5) := by show _ = _; unfold bchk; rw [if_pos ⟨a1, a2⟩, if_neg a3]
        clear a2 a3
        go_enter Tryz.func60, Tryz.ntmps60
        go_wp2_with fail
        refine (H1.out _ H0.out).mono ?_
        rintro e w1 ⟨rfl, h1⟩
        have G1 := hideH h1
        clear h1
        go_wp2_with fail
        refine (H2.out _ G1.out).mono ?_
        rintro e w2 ⟨rfl, h2⟩
        have G2 := hideH (bthen G1.out h2)
        clear h2
        go_wp2_with fail
        go_ret
        exact ⟨ret_int HX.out.symm, G2.out⟩
    · rw [decide_eq_false a2] at H1
      have HX : Hid (bchk n bs = 2) := by show _ = _; unfold bchk; rw [if_neg (fun h => a2 h.2)]
      clear a2
      go_enter Tryz.func60, Tryz.ntmps60
      go_wp2_with fail
      refine (H1.out _ H0.out).mono ?_
      rintro e w1 ⟨rfl, h1⟩
      have G1 := hideH h1
      clear h1
      go_wp2_with fail
      go_ret
      exact ⟨ret_int HX.out.symm, G1.out⟩
  · have HX : Hid (bchk n bs = 2) := by show _ = _; unfold bchk; rw [if_neg (fun h => a1 h.1)]
    have a2 : (4 : Int) < (n : Int) := by omega
    go_enter Tryz.func60, Tryz.ntmps60
    go_wp2_with fail
    go_ret
    exact ⟨ret_int HX.out.symm, H0.out⟩
end Go.Proofs.YtfjjdicgekgbeaaGreatDoor

/- Contracts of package books: what tells a locale, where a key stands. -/
namespace Go.Proofs.YtfjjdicgekgbeaaGreatDoor
open Go Go.RowKit
set_option linter.unusedVariables false

theorem Text1_c (x : Bk) (s : ByteArray) (p : Nat) (w : World) (hp : w.cell? ⟨p, 0, none⟩ = some (.string s)) : Calls Tryz.prog 106 #[x.v, .pointer (some ⟨p, 0, none⟩)] w fun e w' => e = .returned (.bool (x.lc.toList == s.toList)) ∧ Below w.heap.size w w' := by
  have hb := hideH ((Below.refl _ w).alloc (Nat.le_refl _) x.cs)
  have hp2 := cell_on hp hb.out
  go_enter Tryz.func106, Tryz.ntmps106
  go_wp2_with fail
  go_ret
  exact ⟨rfl, hb.out⟩
/-- which of the books is a locale's -/
def bix (bs : Nat → Bk) (n : Nat) (s : ByteArray) : Option Nat := (List.range n).find? fun j => (bs j).lc.toList == s.toList
def bixI (bs : Nat → Bk) (n : Nat) (s : ByteArray) : Int := match bix bs n s with
  | some j => j
  | none => -1
theorem find_rng {p : Nat → Bool} {j : Nat} : ∀ {n : Nat}, j < n → p j = true → (∀ i, i < j → p i = false) → (List.range n).find? p = some j
  | 0, h, _, _ => absurd h (Nat.not_lt_zero _)
  | n + 1, h, hp, ha => by
    rw [List.range_succ, List.find?_append]
    rcases Nat.lt_or_ge j n with hl | hg
    · rw [find_rng hl hp ha]; rfl
    · obtain rfl : j = n := by omega
      rw [List.find?_eq_none.2 (fun x hx => by rw [ha x (List.mem_range.1 hx)]; decide)]
      simp [hp]
theorem find_rno {p : Nat → Bool} {n : Nat} (h : ∀ i, i < n → p i = false) : (List.range n).find? p = none :=
  List.find?_eq_none.2 (fun x hx => by rw [h x (List.mem_range.1 hx)]; decide)
set_option maxHeartbeats 4000000 in
theorem IndexFunc_c (a : Option Addr) (n c : Nat) (bs : Nat → Bk) (s : ByteArray) (p : Nat) (w : World) (hn : n ≤ maxLen) (hP : BAt w a n bs) (hp : w.cell? ⟨p, 0, none⟩ = some (.string s)) :
    Calls Tryz.prog 105 #[.slice a n c, .func (.func 106) #[] #[.pointer (some ⟨p, 0, none⟩)]] w fun e w' => e = .returned (.int .i64 (bixI bs n s)) ∧ Below w.heap.size w w' := by
  have HP := hideH hP
  have HQ := hideH hp
  unfold maxLen at hn
  clear hP hp
  generalize hV : bixI bs n s = V
  have HV := hideH hV
  clear hV
  go_enter Tryz.func105, Tryz.ntmps105
  go_wp2_with fail
  go_loopw [8] (fun x8 wr => ∃ j : Nat, j ≤ n ∧ x8 = .int .i64 j ∧ Hid (∀ i, i < j → ((bs i).lc.toList == s.toList) = false) ∧ Hid (Below w.heap.size w wr)) (fun x8 _ => n - (intOf x8).toNat)
  case atStart => exact ⟨0, Nat.zero_le _, rfl, fun i hi => by omega, Below.refl _ _⟩
  case round =>
    obtain ⟨j, hj, rfl, HA, HW⟩ := hrel
    by_cases hlt : j < n
    · rcases (HP.out.on HW.out).rows with h0 | ⟨b, off, hsa, hcs⟩
      · omega
      obtain ⟨c0, c1, c2⟩ := hcs j hlt
      clear hcs
      have hk0 : decide ((j : Int) < 0) = false := by simp
      have hkn : decide (n ≤ j) = false := by simp; omega
      have HC := hideH (Text1_c (bs j) s p wr (cell_on HQ.out HW.out))
      cases hq : ((bs j).lc.toList == s.toList)
      · rw [hq] at HC
        have HA2 : Hid (∀ i, i < j + 1 → ((bs i).lc.toList == s.toList) = false) := fun i hi => by
          rcases Nat.lt_or_ge i j with h | h
          · exact HA.out i h
          · obtain rfl : i = j := by omega
            exact hq
        clear hq
        go_wp2_with (go_at_call 106; refine HC.out.mono ?_; rintro e w1 ⟨rfl, hw1⟩)
        have H2 := hideH (bthen HW.out hw1)
        clear hw1
        try simp only [← hsa]
        go_roundw
        case rel => exact ⟨j + 1, by omega, by go_num, HA2, H2⟩
        case measure => simp [intOf]; omega
      · rw [hq] at HC
        have HX : Hid (V = j) := by
          show V = j
          rw [← HV.out]
          unfold bixI bix
          rw [find_rng hlt hq HA.out]
        clear hq
        go_wp2_with (go_at_call 106; refine HC.out.mono ?_; rintro e w1 ⟨rfl, hw1⟩)
        go_ret
        exact ⟨ret_int HX.out.symm, bthen HW.out hw1⟩
    · have HX : Hid (V = -1) := by
        show V = -1
        rw [← HV.out]
        unfold bixI bix
        rw [find_rno (fun i hi => HA.out i (by omega))]
      go_wp2_with fail
      go_ret
      exact ⟨ret_int HX.out.symm, HW.out⟩
theorem place1_c (k t key : ByteArray) (w : World) : Calls Tryz.prog 179 #[.agg #[.string k, .string t], .string key] w fun e w' => e = .returned (.int .i64 (Lib.compareBytes k.data.toList key.data.toList)) ∧ Below w.heap.size w w' := by
  have hb := hideH ((Below.refl _ w).alloc (Nat.le_refl _) (.cells #[.string k, .string t] 89))
  have HC := hideH (fun v => Tryz.strings_Compare k key v)
  go_enter Tryz.func179, Tryz.ntmps179
  go_wp2_with (go_at_call 180; refine (HC.out _).mono ?_; rintro e w2 ⟨rfl, rfl⟩)
  go_ret
  exact ⟨rfl, hb.out⟩
theorem less_trans : ∀ {a b c : List UInt8}, Op.bytesLess a b = true → Op.bytesLess b c = true → Op.bytesLess a c = true
  | _, _, [], _, h2 => by simp [Op.bytesLess] at h2
  | _, [], _ :: _, h1, _ => by simp [Op.bytesLess] at h1
  | [], _ :: _, _ :: _, _, _ => rfl
  | x :: a, y :: b, z :: c, h1, h2 => by
    simp only [Op.bytesLess, Bool.or_eq_true, decide_eq_true_eq, Bool.and_eq_true, beq_iff_eq] at h1 h2 ⊢
    rcases h1 with h1 | ⟨h1, h1'⟩
    · rcases h2 with h2 | ⟨h2, _⟩
      · exact .inl (UInt8.lt_trans h1 h2)
      · subst h2; exact .inl h1
    · subst h1
      rcases h2 with h2 | ⟨h2, h2'⟩
      · exact .inl h2
      · exact .inr ⟨h2, less_trans h1' h2'⟩
theorem less_irr : ∀ a : List UInt8, Op.bytesLess a a = false
  | [] => rfl
  | x :: a => by simp [Op.bytesLess, less_irr a]
theorem cmp_less : ∀ a b : List UInt8, (Lib.compareBytes a b < 0 ↔ Op.bytesLess a b = true) ∧ (Lib.compareBytes a b = 0 ↔ a = b)
  | [], [] => by simp [Lib.compareBytes, Op.bytesLess]
  | [], _ :: _ => by simp [Lib.compareBytes, Op.bytesLess]
  | _ :: _, [] => by simp [Lib.compareBytes, Op.bytesLess]
  | x :: a, y :: b => by
    have ih := cmp_less a b
    unfold Lib.compareBytes Op.bytesLess
    by_cases h1 : x < y
    · have h2 : x ≠ y := fun e => by subst e; exact UInt8.lt_irrefl _ h1
      simp [h1, h2]
    · by_cases h2 : y < x
      · have h3 : x ≠ y := fun e => by subst e; exact UInt8.lt_irrefl _ h2
        simp [h1, h2, h3]
      · have h3 : x = y := by
          rcases Classical.em (x = y) with h | h
          · exact h
          · rcases UInt8.lt_or_lt_of_ne h with h | h
            · exact absurd h h1
            · exact absurd h h2
        subst h3
        simp [UInt8.lt_irrefl, ih]
theorem rs_mono {x : Bk} (h : rsOK x) : ∀ (d i : Nat), i + d + 1 < x.n + 0 → ltB (x.ks i) (x.ks (i + d + 1)) = true
  | 0, i, hi => h i (by omega)
  | d + 1, i, hi => less_trans (rs_mono h d i (by omega)) (h (i + d + 1) (by omega))
theorem rs_lt {x : Bk} (h : rsOK x) {i j : Nat} (hij : i < j) (hj : j < x.n) : ltB (x.ks i) (x.ks j) = true := by
  have := rs_mono h (j - i - 1) i (by omega)
  rwa [show i + (j - i - 1) + 1 = j by omega] at this
end Go.Proofs.YtfjjdicgekgbeaaGreatDoor
