/- What a zone is called: never empty, never longer than a name; a link as its zone (plain). -/
import Derived.Test.YtfjjdicgekgbeaaGreatDoorNamesDAll
import Derived.Test.YtfjjdicgekgbeaaGreatDoorOffsC
namespace Go.Proofs.YtfjjdicgekgbeaaGreatDoor
open Go Go.RowKit Go.Maps
set_option linter.unusedVariables false

theorem bchk_nam {n : Nat} {bs : Nat → Bk} (h : bchk n bs = 0) : ∀ j, j < n → nameB (bs j).lc = true ∧ prsOK (bs j) := by
  unfold bchk at h
  split at h
  · split at h
    · rename_i h2
      intro j hj
      have := h2 j hj
      unfold namB at this
      rw [Bool.and_eq_true] at this
      exact ⟨this.1, of_decide_eq_true this.2⟩
    · cases h
  · cases h
theorem kix_in {x : Bk} {key : ByteArray} {i : Nat} (h : kix x key = some i) : i < x.n := by
  unfold kix at h
  exact List.mem_range.1 (List.mem_of_find?_eq_some h)
theorem txF_12 {bs : Nat → Bk} {key : ByteArray} {n : Nat} (h : bchk n bs = 0) : ∀ (f : Nat) (p : Int), -1 ≤ p → p < n → (txF bs key f p).size ≤ 12
  | 0, p, h0, h1 => Nat.zero_le _
  | f + 1, p, h0, h1 => by
    unfold txF
    split
    · exact Nat.zero_le _
    · rename_i hp
      split
      · rename_i i hi
        have := (bchk_nam h p.toNat (by omega)).2 i (kix_in hi)
        unfold prB at this
        rw [Bool.and_eq_true] at this
        exact of_decide_eq_true this.2
      · have := (bchk_parts h).2.2.1 p.toNat (by omega)
        exact txF_12 h f _ this.1 (by omega)
theorem btT_12 (bs : Nat → Bk) (n : Nat) (loc key : ByteArray) : (btT bs n loc key).size ≤ 12 := by
  unfold btT
  split
  · rename_i h
    split
    · exact Nat.zero_le _
    · have := bixI_in bs n loc
      exact txF_12 h _ _ (by omega) (by omega)
  · exact Nat.zero_le _
theorem lastP_len (l : List UInt8) : (lastP l).length ≤ l.length := by
  unfold lastP
  rw [List.length_reverse]
  have := (List.takeWhile_sublist (fun c : UInt8 => c != 47) (l := l.reverse)).length_le
  rw [List.length_reverse] at this
  exact this
theorem lastP_pos {l : List UInt8} (h : l ≠ []) (hl : l.getLast h ≠ 47) : 1 ≤ (lastP l).length := by
  unfold lastP
  rw [List.length_reverse]
  obtain ⟨a, ha⟩ : ∃ a, l.reverse = l.getLast h :: a := by
    refine ⟨l.dropLast.reverse, ?_⟩
    conv => lhs; rw [← List.dropLast_concat_getLast h]
    simp
  rw [ha, List.takeWhile_cons, if_pos (by simpa using hl)]
  simp
theorem nameB_lastN {s : ByteArray} (h : nameB s = true) : ∃ hne : s.data.toList ≠ [], s.data.toList.getLast hne ≠ 47 := by
  have hz := nameB_12 h
  have hlen : s.data.toList.length = s.size := by simp
  have hne : s.data.toList ≠ [] := by intro e; rw [e] at hlen; simp at hlen; omega
  refine ⟨hne, ?_⟩
  unfold nameB at h
  simp only [Bool.and_eq_true, bne_iff_ne, ne_eq] at h
  intro e
  apply h.2.2.2
  unfold bat
  rw [List.getLast_eq_getElem] at e
  have h3 : s.data.toList[s.size - 1]? = some 47 := by
    rw [List.getElem?_eq_getElem (by omega)]
    rw [← e]
    simp [hlen]
  rw [h3]
  rfl
theorem cty_in {s : ByteArray} (h : nameB s = true) : 1 ≤ (cty s.data.toList).length ∧ (cty s.data.toList).length ≤ 12 := by
  obtain ⟨hne, hl⟩ := nameB_lastN h
  have h1 := lastP_pos hne hl
  have h2 := lastP_len s.data.toList
  have h3 := (nameB_12 h).2
  have hlen : s.data.toList.length = s.size := by simp
  unfold cty
  rw [List.length_map]
  omega
theorem sh3_in (n : Int) : 1 ≤ (Ofs.sh 3 n).length ∧ (Ofs.sh 3 n).length ≤ 12 := by
  unfold Ofs.sh Ofs.shF
  have h1 := clk_len (Ofs.bb 3) (Ofs.brB 3) (n.natAbs / 3600) (n.natAbs % 3600 / 60)
  have h2 := bb_len 3
  have h3 := aa_len 3
  split
  · decide
  · simp only [List.length_append, List.length_cons, List.length_nil]
    omega
theorem bsz (l : List UInt8) : (⟨l.toArray⟩ : ByteArray).size = l.length := by simp [ByteArray.size]
theorem empty_size {s : ByteArray} : (!s.toList.isEmpty) = true → 1 ≤ s.size := by
  intro h
  rw [tl] at h
  cases hs : s.data.toList with
  | nil => rw [hs] at h; cases h
  | cons a l =>
    have : s.data.toList.length = s.size := by simp
    rw [hs] at this
    simp at this
    omega
theorem nmOff_in {X : Wd} (hn : nchk X = 0) (zn : ByteArray) (t : Int) : 1 ≤ (nmOff X.D zn t).size ∧ (nmOff X.D zn t).size ≤ 12 := by
  obtain ⟨a1, a2⟩ := tot_16 hn zn t
  show 1 ≤ (⟨(shwT 3 (q60 (atsR X.D zn t).tot)).toArray⟩ : ByteArray).size ∧ (⟨(shwT 3 (q60 (atsR X.D zn t).tot)).toArray⟩ : ByteArray).size ≤ 12
  rw [bsz, shw3 a1 a2]
  exact sh3_in _
theorem zone_name {D : Dt} (h : chkE D = 0) {j : Nat} (hj : j < D.nz) : nameB (D.zs j).nm = true := by
  unfold chkE at h
  split at h
  · split at h
    · rename_i hn
      refine hn _ ?_
      have e : allN D = (List.range D.ns).map (f4 D 0) ++ (List.range D.nz).map (f4 D 1) ++ (List.range D.nl).map (f4 D 2) ++ (List.range D.nl).map (f4 D 3) := by simp [allN, catL, n4]
      rw [e]
      simp only [List.mem_append, List.mem_map, List.mem_range]
      exact .inl (.inl (.inr ⟨j, hj, rfl⟩))
    · cases h
  · cases h
theorem nm_in {X : Wd} {loc zn : ByteArray} {t p : Int} (h : nmE X loc zn t p = 0) : 1 ≤ (nmR X loc zn t p).size ∧ (nmR X loc zn t p).size ≤ 12 := by
  obtain ⟨n0, n1, n2, n3, n4, n5⟩ := nmE_ok h
  obtain ⟨k, hk, hkz⟩ := zonE_in n3
  have hid : nmId X.D zn = (X.D.zs k).nm := by unfold nmId; rw [hk]; rfl
  have hnm := zone_name (uchk_ok (nchk_ok n0).1).1 hkz
  unfold nmR
  rw [if_pos h]
  unfold nmP
  split
  · exact nmOff_in n0 zn t
  · split
    · rw [hid]; exact nameB_12 hnm
    · split
      · unfold nmName
        split
        · rename_i h3; exact ⟨empty_size h3, btT_12 _ _ _ _⟩
        · exact nmOff_in n0 zn t
      · unfold nmCity
        split
        · rename_i h3; exact ⟨empty_size h3, btT_12 _ _ _ _⟩
        · rw [hid]
          unfold ctB
          rw [if_pos hnm, bsz]
          exact cty_in hnm
/-- a link is called as its zone -/
theorem nm_zone {X : Wd} {loc zn : ByteArray} {t p : Int} (h : nmE X loc zn t p = 0) {k : Nat} (hk : zonR X.D zn = k) (hkz : k < X.D.nz) : nmE X loc (X.D.zs k).nm t p = 0 ∧ nmR X loc (X.D.zs k).nm t p = nmR X loc zn t p := by
  obtain ⟨n0, n1, n2, n3, n4, n5⟩ := nmE_ok h
  have hc := (uchk_ok (nchk_ok n0).1).1
  obtain ⟨z1, z2⟩ := zone_told hc hkz
  have hE := nmE_to n0 n1 n2 z2 ⟨n4, n5⟩
  have ha : atsR X.D (X.D.zs k).nm t = atsR X.D zn t := by
    rw [(ats_zone hc hkz n4 n5).2]
    unfold atsR
    rw [if_pos n3, if_pos ⟨n4, n5⟩, hk]; rfl
  have hi : nmId X.D (X.D.zs k).nm = nmId X.D zn := by unfold nmId; rw [z1, hk]
  have ho : nmOff X.D (X.D.zs k).nm t = nmOff X.D zn t := by unfold nmOff; rw [ha]
  have hu : umtR X.D X.un X.us (X.D.zs k).nm t = umtR X.D X.un X.us zn t := by
    unfold umtR umtE
    rw [z2, n3, z1, hk]
  have hm : nmName X loc (X.D.zs k).nm t = nmName X loc zn t := by unfold nmName nmKey; rw [hu, ha, ho]
  refine ⟨hE, ?_⟩
  unfold nmR
  rw [if_pos hE, if_pos h]
  unfold nmP
  rw [ho, hi, hm]
  unfold nmCity
  rw [hi]
end Go.Proofs.YtfjjdicgekgbeaaGreatDoor
