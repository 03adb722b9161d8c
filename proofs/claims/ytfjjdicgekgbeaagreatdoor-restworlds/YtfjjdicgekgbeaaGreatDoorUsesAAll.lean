/- Uses: how they lie in memory; contracts of package uses: isNamed, inBounds, isZone, isThere. -/
import Derived.Test.YtfjjdicgekgbeaaGreatDoorDataDAll
import Derived.Deep.QuietTactic
import Derived.BigQuiet
namespace Go.Proofs.YtfjjdicgekgbeaaGreatDoor
open Go Go.RowKit
set_option linter.unusedVariables false

structure Us where
  zn : ByteArray
  fr : Int
  to : Int
  mt : ByteArray
abbrev Us.v (x : Us) : Value := .agg #[.string x.zn, .int .i64 x.fr, .int .i64 x.to, .string x.mt]
abbrev Us.cs (x : Us) : Obj := .cells #[.string x.zn, .int .i64 x.fr, .int .i64 x.to, .string x.mt] 83
/-- four cells each, in a row -/
def UAt (w : World) (a : Option Addr) (n : Nat) (us : Nat → Us) : Prop := n = 0 ∨ ∃ b off, a = some ⟨b, off, none⟩ ∧ ∀ j, j < n → w.cell? ⟨b, off + j * 4, none⟩ = some (.string (us j).zn) ∧ w.cell? ⟨b, off + j * 4 + 1, none⟩ = some (.int .i64 (us j).fr) ∧ w.cell? ⟨b, off + j * 4 + 2, none⟩ = some (.int .i64 (us j).to) ∧ w.cell? ⟨b, off + j * 4 + 3, none⟩ = some (.string (us j).mt)
theorem UAt.on {w w' : World} {a : Option Addr} {n : Nat} {us : Nat → Us} (p : UAt w a n us) (hb : Below w.heap.size w w') : UAt w' a n us := by
  rcases p with p | ⟨b, off, h1, h2⟩
  · exact .inl p
  · exact .inr ⟨b, off, h1, fun j hj => ⟨cell_on (h2 j hj).1 hb, cell_on (h2 j hj).2.1 hb, cell_on (h2 j hj).2.2.1 hb, cell_on (h2 j hj).2.2.2 hb⟩⟩
structure Us.fits (x : Us) : Prop where
  zn : x.zn.size ≤ maxLen
  mt : x.mt.size ≤ maxLen
  fr : -9223372036854775808 ≤ x.fr ∧ x.fr ≤ 9223372036854775807
  to : -9223372036854775808 ≤ x.to ∧ x.to ≤ 9223372036854775807
theorem isNamedU_c (x : Us) (w : World) (hf : x.fits) : Calls Tryz.prog 87 #[x.v] w fun e w' => e = .returned (.bool (nameB x.mt)) ∧ Below w.heap.size w w' := by
  have hb := hideH ((Below.refl _ w).alloc (Nat.le_refl _) x.cs)
  have HN := hideH (fun v => Name_c x.mt v hf.mt)
  clear hf
  generalize nameB x.mt = V at *
  go_enter Tryz.func87, Tryz.ntmps87
  go_wp2_with (go_at_call 88; refine (HN.out _).mono ?_; rintro e w2 ⟨rfl, rfl⟩)
  go_ret
  exact ⟨rfl, hb.out⟩
def ubB (x : Us) : Bool := decide (0 ≤ x.fr ∧ x.fr < x.to ∧ x.to ≤ 1893456000)
theorem inBoundsU_c (x : Us) (w : World) (hf : x.fits) : Calls Tryz.prog 92 #[x.v] w fun e w' => e = .returned (.bool (ubB x)) ∧ Below w.heap.size w w' := by
  have hb := hideH ((Below.refl _ w).alloc (Nat.le_refl _) x.cs)
  have h1 := hf.fr
  have h2 := hf.to
  clear hf
  generalize hV : ubB x = V
  have HV := hideH hV
  clear hV
  by_cases q1 : 0 ≤ x.fr
  · by_cases q2 : x.fr < x.to
    · go_enter Tryz.func92, Tryz.ntmps92
      go_wp2_with fail
      go_ret
      exact ⟨ret_bool (by rw [← HV.out]; unfold ubB; rw [Bool.eq_iff_iff]; simp; omega), hb.out⟩
    · have HX : Hid (V = false) := by show V = false; rw [← HV.out]; exact decide_eq_false (fun h => q2 h.2.1)
      go_enter Tryz.func92, Tryz.ntmps92
      go_wp2_with fail
      go_ret
      exact ⟨ret_bool HX.out.symm, hb.out⟩
  · have HX : Hid (V = false) := by show V = false; rw [← HV.out]; exact decide_eq_false (fun h => q1 h.1)
    go_enter Tryz.func92, Tryz.ntmps92
    go_wp2_with fail
    go_ret
    exact ⟨ret_bool HX.out.symm, hb.out⟩
end Go.Proofs.YtfjjdicgekgbeaaGreatDoor

/- Contracts of package uses: all, isZone, overlap, metaOf. -/
namespace Go.Proofs.YtfjjdicgekgbeaaGreatDoor
open Go Go.RowKit
set_option linter.unusedVariables false

set_option maxHeartbeats 4000000 in
theorem uallNamed_c (a : Option Addr) (n c : Nat) (us : Nat → Us) (w : World) (hn : n ≤ maxLen) (hP : UAt w a n us) (hf : ∀ j, j < n → (us j).fits) : Calls Tryz.prog 91 #[.slice a n c, .func (.func 87) #[] #[]] w fun e w' => e = .returned (.bool (decide (∀ j, j < n → nameB (us j).mt = true))) ∧ Below w.heap.size w w' := by
  have HP := hideH hP
  have HF := hideH hf
  unfold maxLen at hn
  clear hP hf
  generalize hV : decide (∀ j, j < n → nameB (us j).mt = true) = V
  have HV := hideH hV
  clear hV
  go_enter Tryz.func91, Tryz.ntmps91
  go_wp2_with fail
  go_loopw [9] (fun x9 wr => ∃ j : Nat, j ≤ n ∧ x9 = .int .i64 j ∧ Hid (∀ j', j' < j → nameB (us j').mt = true) ∧ Hid (Below w.heap.size w wr)) (fun x9 _ => n - (intOf x9).toNat)
  case atStart => exact ⟨0, Nat.zero_le _, rfl, fun i hi => by omega, Below.refl _ _⟩
  case round =>
    obtain ⟨j, hj, rfl, HA, HW⟩ := hrel
    by_cases hlt : j < n
    · rcases HP.out.on HW.out with h0 | ⟨b, off, hsa, hcs⟩
      · omega
      obtain ⟨c0, c1, c2, c3⟩ := hcs j hlt
      clear hcs
      have hb := hideH ((Below.refl _ wr).alloc (Nat.le_refl _) (us j).cs)
      have HC : Hid (∀ v, Below wr.heap.size wr v → Calls Tryz.prog 87 #[(us j).v] v fun e w' => e = .returned (.bool (nameB (us j).mt)) ∧ Below v.heap.size v w') := fun v hv => isNamedU_c (us j) v (HF.out j hlt)
      cases hq : nameB (us j).mt
      · rw [hq] at HC
        have HX : Hid (V = false) := by show V = false; rw [← HV.out]; exact decide_eq_false (fun h => by have := h j hlt; rw [hq] at this; cases this)
        clear hq
        go_wp2_with (go_at_call 87; refine (HC.out _ hb.out).mono ?_; rintro e w1 ⟨rfl, hw1⟩)
        go_ret
        exact ⟨ret_bool HX.out.symm, bthen HW.out (bthen hb.out hw1)⟩
      · rw [hq] at HC
        have HA2 : Hid (∀ j', j' < j + 1 → nameB (us j').mt = true) := fun i hi => by
          rcases Nat.lt_or_ge i j with h | h
          · exact HA.out i h
          · obtain rfl : i = j := by omega
            exact hq
        clear hq
        go_wp2_with (go_at_call 87; refine (HC.out _ hb.out).mono ?_; rintro e w1 ⟨rfl, hw1⟩)
        have H2 := hideH (bthen HW.out (bthen hb.out hw1))
        clear hw1
        try simp only [← hsa]
        go_roundw
        case rel => exact ⟨j + 1, by omega, by go_num, HA2, H2⟩
        case measure => simp [intOf]; omega
    · have HX : Hid (V = true) := by show V = true; rw [← HV.out]; exact decide_eq_true (fun i hi => HA.out i (by omega))
      go_wp2_with fail
      go_ret
      exact ⟨ret_bool HX.out.symm, HW.out⟩
set_option maxHeartbeats 4000000 in
theorem uallBnd_c (a : Option Addr) (n c : Nat) (us : Nat → Us) (w : World) (hn : n ≤ maxLen) (hP : UAt w a n us) (hf : ∀ j, j < n → (us j).fits) : Calls Tryz.prog 91 #[.slice a n c, .func (.func 92) #[] #[]] w fun e w' => e = .returned (.bool (decide (∀ j, j < n → ubB (us j) = true))) ∧ Below w.heap.size w w' := by
  have HP := hideH hP
  have HF := hideH hf
  unfold maxLen at hn
  clear hP hf
  generalize hV : decide (∀ j, j < n → ubB (us j) = true) = V
  have HV := hideH hV
  clear hV
  go_enter Tryz.func91, Tryz.ntmps91
  go_wp2_with fail
  go_loopw [9] (fun x9 wr => ∃ j : Nat, j ≤ n ∧ x9 = .int .i64 j ∧ Hid (∀ j', j' < j → ubB (us j') = true) ∧ Hid (Below w.heap.size w wr)) (fun x9 _ => n - (intOf x9).toNat)
  case atStart => exact ⟨0, Nat.zero_le _, rfl, fun i hi => by omega, Below.refl _ _⟩
  case round =>
    obtain ⟨j, hj, rfl, HA, HW⟩ := hrel
    by_cases hlt : j < n
    · rcases HP.out.on HW.out with h0 | ⟨b, off, hsa, hcs⟩
      · omega
      obtain ⟨c0, c1, c2, c3⟩ := hcs j hlt
      clear hcs
      have hb := hideH ((Below.refl _ wr).alloc (Nat.le_refl _) (us j).cs)
      have HC : Hid (∀ v, Below wr.heap.size wr v → Calls Tryz.prog 92 #[(us j).v] v fun e w' => e = .returned (.bool (ubB (us j))) ∧ Below v.heap.size v w') := fun v hv => inBoundsU_c (us j) v (HF.out j hlt)
      cases hq : ubB (us j)
      · rw [hq] at HC
        have HX : Hid (V = false) := by show V = false; rw [← HV.out]; exact decide_eq_false (fun h => by have := h j hlt; rw [hq] at this; cases this)
        clear hq
        go_wp2_with (go_at_call 92; refine (HC.out _ hb.out).mono ?_; rintro e w1 ⟨rfl, hw1⟩)
        go_ret
        exact ⟨ret_bool HX.out.symm, bthen HW.out (bthen hb.out hw1)⟩
      · rw [hq] at HC
        have HA2 : Hid (∀ j', j' < j + 1 → ubB (us j') = true) := fun i hi => by
          rcases Nat.lt_or_ge i j with h | h
          · exact HA.out i h
          · obtain rfl : i = j := by omega
            exact hq
        clear hq
        go_wp2_with (go_at_call 92; refine (HC.out _ hb.out).mono ?_; rintro e w1 ⟨rfl, hw1⟩)
        have H2 := hideH (bthen HW.out (bthen hb.out hw1))
        clear hw1
        try simp only [← hsa]
        go_roundw
        case rel => exact ⟨j + 1, by omega, by go_num, HA2, H2⟩
        case measure => simp [intOf]; omega
    · have HX : Hid (V = true) := by show V = true; rw [← HV.out]; exact decide_eq_true (fun i hi => HA.out i (by omega))
      go_wp2_with fail
      go_ret
      exact ⟨ret_bool HX.out.symm, HW.out⟩
/-- is there a zone of that name? -/
def zoB (D : Dt) (s : ByteArray) : Bool := (List.range D.nz).any fun j => (D.zs j).nm.toList == s.toList
theorem isZone1_c (z : Zn) (s : ByteArray) (p : Nat) (w : World) (hp : w.cell? ⟨p, 0, none⟩ = some (.string s)) : Calls Tryz.prog 134 #[.agg #[.string z.nm, z.sl], .pointer (some ⟨p, 0, none⟩)] w fun e w' => e = .returned (.bool (z.nm.toList == s.toList)) ∧ Below w.heap.size w w' := by
  have hb := hideH ((Below.refl _ w).alloc (Nat.le_refl _) (.cells #[.string z.nm, .slice z.a z.n z.c] 62))
  have hp2 := cell_on hp hb.out
  go_enter Tryz.func134, Tryz.ntmps134
  go_wp2_with fail
  go_ret
  exact ⟨rfl, hb.out⟩
end Go.Proofs.YtfjjdicgekgbeaaGreatDoor

/- Contracts of package uses: isZone, isThere, overlap, metaOf. -/
namespace Go.Proofs.YtfjjdicgekgbeaaGreatDoor
open Go Go.RowKit
set_option linter.unusedVariables false

theorem any_yes {p : Nat → Bool} {n k : Nat} (h : k < n) (hp : p k = true) : (List.range n).any p = true := List.any_eq_true.2 ⟨k, List.mem_range.2 h, hp⟩
theorem any_no {p : Nat → Bool} {n : Nat} (h : ∀ i, i < n → p i = false) : (List.range n).any p = false := by
  rw [List.any_eq_false]
  intro x hx
  rw [h x (List.mem_range.1 hx)]; decide
set_option maxHeartbeats 4000000 in
theorem ZIndexFunc_c (D : Dt) (s : ByteArray) (p : Nat) (w : World) (hn : D.nz ≤ 5) (hD : DAt w D) (hp : w.cell? ⟨p, 0, none⟩ = some (.string s)) :
    Calls Tryz.prog 171 #[.slice D.za D.nz D.zc, .func (.func 134) #[] #[.pointer (some ⟨p, 0, none⟩)]] w fun e w' => (∃ r : Int, e = .returned (.int .i64 r) ∧ decide (0 ≤ r) = zoB D s) ∧ Below w.heap.size w w' := by
  have HD := hideH hD
  have HQ := hideH hp
  clear hD hp
  generalize hV : zoB D s = V
  have HV := hideH hV
  clear hV
  go_enter Tryz.func171, Tryz.ntmps171
  go_wp2_with fail
  go_loopw [8] (fun x8 wr => ∃ j : Nat, j ≤ D.nz ∧ x8 = .int .i64 j ∧ Hid (∀ i, i < j → ((D.zs i).nm.toList == s.toList) = false) ∧ Hid (Below w.heap.size w wr)) (fun x8 _ => D.nz - (intOf x8).toNat)
  case atStart => exact ⟨0, Nat.zero_le _, rfl, fun i hi => by omega, Below.refl _ _⟩
  case round =>
    obtain ⟨j, hj, rfl, HA, HW⟩ := hrel
    by_cases hlt : j < D.nz
    · rcases (HD.out.on HW.out).zones with h0 | ⟨b, off, hsa, hcs⟩
      · omega
      obtain ⟨c0, c1⟩ := hcs j hlt
      clear hcs
      have hk0 : decide ((j : Int) < 0) = false := by simp
      have hkn : decide (D.nz ≤ j) = false := by simp; omega
      have HC := hideH (isZone1_c (D.zs j) s p wr (cell_on HQ.out HW.out))
      cases hq : ((D.zs j).nm.toList == s.toList)
      · rw [hq] at HC
        have HA2 : Hid (∀ i, i < j + 1 → ((D.zs i).nm.toList == s.toList) = false) := fun i hi => by
          rcases Nat.lt_or_ge i j with h | h
          · exact HA.out i h
          · obtain rfl : i = j := by omega
            exact hq
        clear hq
        go_wp2_with (go_at_call 134; refine HC.out.mono ?_; rintro e w1 ⟨rfl, hw1⟩)
        have H2 := hideH (bthen HW.out hw1)
        clear hw1
        try simp only [← hsa]
        go_roundw
        case rel => exact ⟨j + 1, by omega, by go_num, HA2, H2⟩
        case measure => simp [intOf]; omega
      · rw [hq] at HC
        have HX : Hid (V = true) := by
          show V = true
          rw [← HV.out]
          exact any_yes hlt hq
        clear hq
        go_wp2_with (go_at_call 134; refine HC.out.mono ?_; rintro e w1 ⟨rfl, hw1⟩)
        go_ret
        exact ⟨⟨j, rfl, by rw [HX.out]; simp⟩, bthen HW.out hw1⟩
    · have HX : Hid (V = false) := by
        show V = false
        rw [← HV.out]
        exact any_no (fun i hi => HA.out i (by omega))
      go_wp2_with fail
      go_ret
      exact ⟨⟨-1, rfl, by rw [HX.out]; decide⟩, HW.out⟩
set_option maxHeartbeats 4000000 in
theorem isZone_c (D : Dt) (s : ByteArray) (w : World) (hn : D.nz ≤ 5) (hD : DAt w D) : Calls Tryz.prog 90 #[.slice D.za D.nz D.zc, .string s] w fun e w' => e = .returned (.bool (zoB D s)) ∧ Below w.heap.size w w' := by
  have hb0 := hideH ((Below.refl _ w).alloc (Nat.le_refl _) (.cells #[.string s] 9))
  have hbx : (w.alloc (.cells #[.string s] 9)).cell? ⟨w.heap.size, 0, none⟩ = some (.string s) := by simp
  have HI : Hid (Calls Tryz.prog 133 #[.slice D.za D.nz D.zc, .func (.func 134) #[] #[.pointer (some ⟨w.heap.size, 0, none⟩)]] (w.alloc (.cells #[.string s] 9)) fun e w' => e = .returned (.bool (zoB D s)) ∧ Below (w.alloc (.cells #[.string s] 9)).heap.size (w.alloc (.cells #[.string s] 9)) w') := by
    have HI2 := hideH (ZIndexFunc_c D s w.heap.size _ hn (hD.on hb0.out) hbx)
    generalize w.alloc (.cells #[.string s] 9) = v at HI2 ⊢
    show Calls _ _ _ _ _
    go_enter Tryz.func133, Tryz.ntmps133
    go_wp2_with fail
    refine HI2.out.mono ?_
    rintro e w2 ⟨⟨r, rfl, hr⟩, hw2⟩
    have HR := hideH hr
    have H2 := hideH hw2
    clear hr hw2
    go_wp2_with fail
    go_ret
    exact ⟨ret_bool HR.out, H2.out⟩
  clear hbx hD
  have hmf : ∀ (fn : Fn) (first cap : Array Value) (w : World), (Instr.makeFunc fn first cap).run Tryz.prog w = .ok (.func fn first cap) w := fun _ _ _ _ => rfl
  go_enter Tryz.func90, Tryz.ntmps90
  go_wp2_with fail
  refine HI.out.mono ?_
  rintro e w2 ⟨rfl, hw2⟩
  have H2 := hideH (bthen hb0.out hw2)
  clear hw2
  go_wp2_with fail
  go_ret
  exact ⟨rfl, H2.out⟩
end Go.Proofs.YtfjjdicgekgbeaaGreatDoor
