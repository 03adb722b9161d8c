/- Contracts of the document's own zoneAt, linkAt, eraFine. -/
import Derived.Test.YtbpdbggojgijiaaGreatDoorDataOAll
import Derived.Test.YtbpdbggojgijiaaGreatDoorRefE
namespace Go.Proofs.YtbpdbggojgijiaaGreatDoor
open Go Go.RowKit
set_option linter.unusedVariables false

/-- the first of n names that is s; -1: none -/
def fstN (nm : Nat → ByteArray) (s : ByteArray) (n : Nat) : Int := match (List.range n).find? fun j => (nm j).toList == s.toList with | some j => j | none => -1
theorem fstN_at {nm : Nat → ByteArray} {s : ByteArray} {n k : Nat} (h : k < n) (h0 : ∀ i, i < k → ((nm i).toList == s.toList) = false) (h1 : ((nm k).toList == s.toList) = true) : fstN nm s n = k := by
  have : (List.range n).find? (fun j => (nm j).toList == s.toList) = some k := by
    rw [List.find?_range_eq_some]
    exact ⟨h1, List.mem_range.2 h, fun j hj => by simp [h0 j hj]⟩
  unfold fstN; rw [this]
theorem fstN_none {nm : Nat → ByteArray} {s : ByteArray} {n : Nat} (h0 : ∀ i, i < n → ((nm i).toList == s.toList) = false) : fstN nm s n = -1 := by
  have : (List.range n).find? (fun j => (nm j).toList == s.toList) = none := by
    rw [List.find?_eq_none]
    intro x hx
    simp [h0 x (List.mem_range.1 hx)]
  unfold fstN; rw [this]

set_option maxHeartbeats 1000000 in
theorem zoneAt_c (D : Dt) (s : ByteArray) (w : World) (hD : DAt w D) (hF : D.fits) : Calls Tryz.prog 23 #[D.v, .string s] w fun e w' => e = .returned (.int .i64 (fstN (fun j => (D.zs j).nm) s D.nz)) ∧ Below w.heap.size w w' := by
  generalize hV : fstN (fun j => (D.zs j).nm) s D.nz = V
  have HV := hideH hV
  have hb := hideH ((Below.refl _ w).alloc (Nat.le_refl _) (.cells #[.slice D.sa D.ns D.sc, .slice D.za D.nz D.zc, .slice D.la D.nl D.lc] 26))
  have HZ := hideH (hD.on hb.out).zones
  have n2 := hF.nz
  unfold maxLen at n2
  clear hV hD hF
  go_enter Tryz.func23, Tryz.ntmps23
  go_wp2_with fail
  go_loop [5] (fun x5 => ∃ k : Nat, k ≤ D.nz ∧ x5 = .int .i64 k ∧ Hid (∀ i, i < k → ((D.zs i).nm.toList == s.toList) = false)) (fun x5 => D.nz - (intOf x5).toNat)
  case atStart => exact ⟨0, Nat.zero_le _, rfl, fun i hi => by omega⟩
  case round =>
    obtain ⟨k, hk, rfl, HA⟩ := hrel
    by_cases hlt : k < D.nz
    · rcases HZ.out with h0 | ⟨b, off, hsa, hcs⟩
      · omega
      have c0 := (hcs k hlt).1
      clear hcs
      rw [hsa] at c0
      have hsn : Hid (some ({ block := b, off := off } : Addr) = D.za) := hsa.symm
      cases hq : ((D.zs k).nm.toList == s.toList)
      · have HA2 : Hid (∀ i, i < k + 1 → ((D.zs i).nm.toList == s.toList) = false) := fun i hi => by
          rcases Nat.lt_or_ge i k with h | h
          · exact HA.out i h
          · obtain rfl : i = k := by omega
            exact hq
        go_wp2_with fail
        exact ⟨⟨k + 1, by omega, by omega, fun i hi => by have h9 := HA2.out i hi; simpa using h9⟩, by simp [intOf]; omega⟩
      · have HX : Hid (V = k) := by show V = _; rw [← HV.out]; exact fstN_at (nm := fun j => (D.zs j).nm) hlt HA.out hq
        go_wp2_with fail
        go_ret
        refine ⟨ret_int HX.out.symm, ?_⟩
        have h2 := hb.out
        rw [hsa] at h2
        exact h2
    · have HX : Hid (V = -1) := by show V = _; rw [← HV.out]; exact fstN_none (fun i hi => HA.out i (by omega))
      go_wp2_with fail
      go_ret
      exact ⟨ret_int HX.out.symm, hb.out⟩
set_option maxHeartbeats 1000000 in
theorem linkAt_c (D : Dt) (s : ByteArray) (w : World) (hD : DAt w D) (hF : D.fits) : Calls Tryz.prog 24 #[D.v, .string s] w fun e w' => e = .returned (.int .i64 (fstN (fun j => (D.ls j).nm) s D.nl)) ∧ Below w.heap.size w w' := by
  generalize hV : fstN (fun j => (D.ls j).nm) s D.nl = V
  have HV := hideH hV
  have hb := hideH ((Below.refl _ w).alloc (Nat.le_refl _) (.cells #[.slice D.sa D.ns D.sc, .slice D.za D.nz D.zc, .slice D.la D.nl D.lc] 26))
  have HZ := hideH (hD.on hb.out).links
  have n2 := hF.nl
  unfold maxLen at n2
  clear hV hD hF
  go_enter Tryz.func24, Tryz.ntmps24
  go_wp2_with fail
  go_loop [5] (fun x5 => ∃ k : Nat, k ≤ D.nl ∧ x5 = .int .i64 k ∧ Hid (∀ i, i < k → ((D.ls i).nm.toList == s.toList) = false)) (fun x5 => D.nl - (intOf x5).toNat)
  case atStart => exact ⟨0, Nat.zero_le _, rfl, fun i hi => by omega⟩
  case round =>
    obtain ⟨k, hk, rfl, HA⟩ := hrel
    by_cases hlt : k < D.nl
    · rcases HZ.out with h0 | ⟨b, off, hsa, hcs⟩
      · omega
      have c0 := (hcs k hlt).1
      clear hcs
      rw [hsa] at c0
      have hsn : Hid (some ({ block := b, off := off } : Addr) = D.la) := hsa.symm
      cases hq : ((D.ls k).nm.toList == s.toList)
      · have HA2 : Hid (∀ i, i < k + 1 → ((D.ls i).nm.toList == s.toList) = false) := fun i hi => by
          rcases Nat.lt_or_ge i k with h | h
          · exact HA.out i h
          · obtain rfl : i = k := by omega
            exact hq
        go_wp2_with fail
        exact ⟨⟨k + 1, by omega, by omega, fun i hi => by have h9 := HA2.out i hi; simpa using h9⟩, by simp [intOf]; omega⟩
      · have HX : Hid (V = k) := by show V = _; rw [← HV.out]; exact fstN_at (nm := fun j => (D.ls j).nm) hlt HA.out hq
        go_wp2_with fail
        go_ret
        refine ⟨ret_int HX.out.symm, ?_⟩
        have h2 := hb.out
        rw [hsa] at h2
        exact h2
    · have HX : Hid (V = -1) := by show V = _; rw [← HV.out]; exact fstN_none (fun i hi => HA.out i (by omega))
      go_wp2_with fail
      go_ret
      exact ⟨ret_int HX.out.symm, hb.out⟩
end Go.Proofs.YtbpdbggojgijiaaGreatDoor

/- Contracts of the document's own answers on data: mark, isFormat. -/
namespace Go.Proofs.YtbpdbggojgijiaaGreatDoor
open Go Go.RowKit
set_option linter.unusedVariables false

theorem index_room : ∀ (l : List UInt8) (n : Nat), Lib.index l pct = n → n + 2 ≤ l.length
  | [], n, h => by
    have : Lib.index [] pct = -1 := rfl
    omega
  | b :: l, n, h => by
    unfold Lib.index at h
    split at h
    · rename_i hp
      have hl := (List.isPrefixOf_iff_prefix.1 hp).length_le
      have h2 : pct.length = 2 := rfl
      rw [h2] at hl
      omega
    · split at h
      · omega
      · rename_i h1 h2
        have h3 : Lib.index l pct ≠ -1 := by simpa using h2
        have hge := Lib.index_ge l pct
        have ih := index_room l (n - 1) (by omega)
        simp only [List.length_cons]
        omega
theorem occ_ext (s : ByteArray) (k : Nat) (h : k + 2 ≤ s.size) : Lib.occAt s.data.toList pct k = ((s.extract k (k + 2)).toList == pct) := by
  rw [Lib.occAt_iff_take _ _ _ (by simpa using h), ByteArray.toList_eq, ext_list, show k + 2 - k = 2 by omega]
  rfl
theorem occ_no {s : ByteArray} {n : Nat} (hn : s.size ≤ n + 1) (h : ∀ i, i < n → Lib.occAt s.data.toList pct i = false) : Lib.index s.data.toList pct = -1 := by
  refine Lib.index_none fun j hj => ?_
  rcases Nat.lt_or_ge j n with hl | hg
  · exact h j hl
  · cases ho : Lib.occAt s.data.toList pct j
    · rfl
    · rcases Lib.occAt_room ho with hr | hr
      · have h2 : pct.length = 2 := rfl
        have h3 : s.data.toList.length = s.size := by simp
        omega
      · cases hr
set_option maxRecDepth 100000 in
set_option maxHeartbeats 2000000 in
theorem mark_c (s : ByteArray) (w : World) (hs : s.size ≤ maxLen) : Calls Tryz.prog 43 #[.string s] w fun e w' => e = .returned (.int .i64 (Lib.index s.data.toList pct)) ∧ w' = w := by
  unfold maxLen at hs
  generalize hV : Lib.index s.data.toList pct = V
  have HV := hideH hV
  clear hV
  go_enter Tryz.func43, Tryz.ntmps43
  go_wp2_with fail
  go_loop [3] (fun x3 => ∃ k : Nat, k ≤ s.size - 1 ∧ x3 = .int .i64 k ∧ Hid (∀ i, i < k → Lib.occAt s.data.toList pct i = false)) (fun x3 => s.size - (intOf x3).toNat)
  case atStart => exact ⟨0, Nat.zero_le _, rfl, fun i hi => by omega⟩
  case round =>
    obtain ⟨k, hk, rfl, HA⟩ := hrel
    by_cases hlt : k + 1 < s.size
    · have hk2 : (k : Int) + 2 ≤ (s.size : Int) := by omega
      have hk3 : (k : Int) ≤ (k : Int) + 2 := by omega
      have ho := occ_ext s k (by omega)
      cases hq : ((s.extract k (k + 2)).toList == pct)
      · rw [hq] at ho
        have HB : Hid (∀ i, i < k + 1 → Lib.occAt s.data.toList pct i = false) := fun i hi => by
          rcases Nat.lt_or_ge i k with h | h
          · exact HA.out i h
          · obtain rfl : i = k := by omega
            exact ho
        clear ho
        go_wp2_with fail
        exact ⟨⟨k + 1, by omega, by first | omega | go_num, HB⟩, by simp [intOf]; omega⟩
      · rw [hq] at ho
        have HX := hideH (Lib.index_first (s := s.data.toList) (sub := pct) (i := k) (by simp; omega) ho HA.out)
        clear ho
        go_wp2_with fail
        go_ret
        exact ⟨ret_int (HX.out.symm.trans HV.out), rfl⟩
    · have HX := hideH (occ_no (s := s) (n := k) (by omega) HA.out)
      go_wp2_with fail
      go_ret
      exact ⟨ret_int (HX.out.symm.trans HV.out), rfl⟩

theorem let_app (a b : List UInt8) : allLet (a ++ b) = (allLet a && allLet b) := by unfold allLet; rw [List.all_append]
theorem fmt_cut {s : ByteArray} {n : Nat} (h : 1 ≤ s.size ∧ s.size ≤ 12) (hn : Lib.index s.data.toList pct = n) : fmtB s = (allLet (s.extract 0 n).data.toList && allLet (s.extract (n + 2) s.size).data.toList) := by
  have hr := index_room _ _ hn
  have hl : s.data.toList.length = s.size := by simp
  unfold fmtB
  have e2 : (s.data.toList.drop (n + 2)).take (s.size - (n + 2)) = s.data.toList.drop (n + 2) := List.take_of_length_le (by rw [List.length_drop, hl]; exact Nat.le_refl _)
  rw [rep1 _ _ rfl, if_neg (by rw [hn]; omega), hn, List.append_nil, let_app, ext_list, ext_list, e2]
  simp [h]
theorem fmt_bare {s : ByteArray} (h : 1 ≤ s.size ∧ s.size ≤ 12) (hn : Lib.index s.data.toList pct = -1) : fmtB s = allLet s.data.toList := by
  unfold fmtB
  rw [rep1 _ _ rfl, if_pos hn]
  simp [h]
theorem fmt_long {s : ByteArray} (h : ¬ (1 ≤ s.size ∧ s.size ≤ 12)) : fmtB s = false := by unfold fmtB; simp [h]
set_option maxRecDepth 100000 in
set_option maxHeartbeats 2000000 in
theorem RisFormat_c (s : ByteArray) (w : World) (hs : s.size ≤ maxLen) : Calls Tryz.prog 22 #[.string s] w fun e w' => e = .returned (.bool (fmtB s)) ∧ w' = w := by
  have HS := hideH hs
  unfold maxLen at hs
  have hc : (1 ≤ s.size ∧ s.size ≤ 12) ∨ (s.size < 1 ∨ (1 ≤ s.size ∧ 12 < s.size)) := by omega
  rcases hc with hc | hc
  · have hin := in_mk (n := (s.size : Int)) (a := 1) (b := 12) ⟨by omega, by omega⟩
    have hge := Lib.index_ge s.data.toList pct
    have hii : Lib.index s.data.toList pct = -1 ∨ ∃ n : Nat, Lib.index s.data.toList pct = n := by
      rcases Int.lt_or_le (Lib.index s.data.toList pct) 0 with h | h
      · exact .inl (by omega)
      · exact .inr ⟨(Lib.index s.data.toList pct).toNat, by omega⟩
    rcases hii with hi | ⟨n, hi⟩
    · rw [fmt_bare hc hi]
      have HM : Hid (∀ v, Calls Tryz.prog 43 #[.string s] v fun e w' => e = .returned (.int .i64 (-1)) ∧ w' = v) := fun v => by
        have := mark_c s v HS.out
        rwa [hi] at this
      clear hi hge
      go_enter Tryz.func22, Tryz.ntmps22
      go_wp2_with (first
        | (go_at_call 17; refine (within_c _ _ _ _).mono ?_; rintro e w ⟨rfl, rfl⟩; rw [hin])
        | (go_at_call 43; refine (HM.out _).mono ?_; rintro e w ⟨rfl, rfl⟩)
        | (go_at_call 37; refine (letters_c _ _ HS.out).mono ?_; rintro e w ⟨rfl, rfl⟩))
      go_ret
      exact ⟨rfl, rfl⟩
    · have hr := index_room _ _ hi
      have hl : s.data.toList.length = s.size := by simp
      rw [hl] at hr
      rw [fmt_cut hc hi]
      have HM : Hid (∀ v, Calls Tryz.prog 43 #[.string s] v fun e w' => e = .returned (.int .i64 n) ∧ w' = v) := fun v => by
        have := mark_c s v HS.out
        rwa [hi] at this
      clear hi hge hl
      have k1 : (n : Int) ≤ s.size := by omega
      have k2 : (n : Int) + 2 ≤ s.size := by omega
      obtain ⟨B, hB⟩ : ∃ B, allLet (s.extract (n + 2) s.size).data.toList = B := ⟨_, rfl⟩
      rw [hB]
      cases hA : allLet (s.extract 0 n).data.toList
      · go_enter Tryz.func22, Tryz.ntmps22
        go_wp2_with (first
          | (go_at_call 17; refine (within_c _ _ _ _).mono ?_; rintro e w ⟨rfl, rfl⟩; rw [hin])
          | (go_at_call 43; refine (HM.out _).mono ?_; rintro e w ⟨rfl, rfl⟩))
        refine (letters_v _ false _ (Nat.le_trans (ext_size _ _ _) HS.out) hA).mono ?_
        rintro e w ⟨rfl, rfl⟩
        clear hA
        go_wp2_with fail
        go_ret
        exact ⟨rfl, rfl⟩
      · go_enter Tryz.func22, Tryz.ntmps22
        go_wp2_with (first
          | (go_at_call 17; refine (within_c _ _ _ _).mono ?_; rintro e w ⟨rfl, rfl⟩; rw [hin])
          | (go_at_call 43; refine (HM.out _).mono ?_; rintro e w ⟨rfl, rfl⟩))
        refine (letters_v _ true _ (Nat.le_trans (ext_size _ _ _) HS.out) hA).mono ?_
        rintro e w ⟨rfl, rfl⟩
        clear hA
        go_wp2_with fail
        refine (letters_v _ B _ (Nat.le_trans (ext_size _ _ _) HS.out) hB).mono ?_
        rintro e w ⟨rfl, rfl⟩
        clear hB
        go_wp2_with fail
        go_ret
        exact ⟨ret_bool (by simp), rfl⟩
  · have hin := in_not (n := (s.size : Int)) (a := 1) (b := 12) (by omega)
    rw [fmt_long (s := s) (by omega)]
    go_enter Tryz.func22, Tryz.ntmps22
    go_wp2_with (go_at_call 17; refine (within_c _ _ _ _).mono ?_; rintro e w ⟨rfl, rfl⟩; rw [hin])
    go_ret
    exact ⟨rfl, rfl⟩
end Go.Proofs.YtbpdbggojgijiaaGreatDoor
