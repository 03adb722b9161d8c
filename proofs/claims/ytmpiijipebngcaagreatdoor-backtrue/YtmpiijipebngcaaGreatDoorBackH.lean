/- What Parse tells of what a zone is called (plain). -/
import Derived.Test.YtmpiijipebngcaaGreatDoorBackE
import Derived.Test.YtmpiijipebngcaaGreatDoorTrieQ
namespace Go.Proofs.YtmpiijipebngcaaGreatDoor
open Go Go.RowKit Go.Maps
set_option linter.unusedVariables false

theorem bless_lt : ∀ a b : List UInt8, Op.bytesLess a b = true ↔ a < b
  | [], [] => by simp [Op.bytesLess]
  | [], _ :: _ => by simp [Op.bytesLess]
  | _ :: _, [] => by simp [Op.bytesLess]
  | x :: a, y :: b => by
    rw [List.cons_lt_cons_iff, ← bless_lt a b]
    simp [Op.bytesLess]
theorem bless_four {a b : List UInt8} (h : Op.bytesLess a b = true) : Op.bytesLess a b = true ∧ Op.bytesLess b a = false ∧ (b == a) = false ∧ (a == b) = false := by
  have h1 := (bless_lt a b).1 h
  refine ⟨h, ?_, ?_, ?_⟩
  · cases h2 : Op.bytesLess b a with
    | false => rfl
    | true => exact absurd (List.lt_trans h1 ((bless_lt b a).1 h2)) (List.lt_irrefl _)
  · exact beq_eq_false_iff_ne.2 (fun e => by rw [e] at h1; exact List.lt_irrefl _ h1)
  · exact beq_eq_false_iff_ne.2 (fun e => by rw [e] at h1; exact List.lt_irrefl _ h1)
theorem bsrt_rises {l : List (List UInt8)} (h : l.Nodup) : (srt l).Pairwise fun a b => Op.bytesLess a b = true := by
  have h1 : (srt l).Pairwise fun a b => decide (a ≤ b) = true := List.pairwise_mergeSort (fun a b c h1 h2 => by
    simp only [decide_eq_true_eq] at h1 h2 ⊢
    exact List.le_trans h1 h2) (fun a b => by
    simp only [Bool.or_eq_true, decide_eq_true_eq]
    exact List.le_total a b) l
  have h2 : (srt l).Nodup := (List.mergeSort_perm l _).nodup_iff.2 h
  have h3 := h1.and h2
  refine h3.imp ?_
  rintro a b ⟨h4, h5⟩
  rw [bless_lt]
  simp only [decide_eq_true_eq] at h4
  rcases List.le_iff_lt_or_eq.1 h4 with h | h
  · exact h
  · exact absurd h h5
theorem any_takeB {L : List (List UInt8)} {q : Nat} (h : q < L.length) (y : List UInt8) : (L.take (q + 1)).any (· == y) = ((L.take q).any (· == y) || (L[q]?.getD [] == y)) := by
  rw [List.take_add_one, List.any_append, List.getElem?_eq_getElem h]
  simp
theorem ba_inj {a b : ByteArray} (h : a.data.toList = b.data.toList) : a = b := by
  cases a with
  | mk x => cases b with
    | mk y => congr 1; exact Array.toList_inj.1 h
theorem ba_mk (s : ByteArray) : (⟨s.data.toList.toArray⟩ : ByteArray) = s := by cases s; rfl
theorem zone_inj {D : Dt} (hc : chkE D = 0) {i j : Nat} (hi : i < D.nz) (hj : j < D.nz) (h : (D.zs i).nm.data.toList = (D.zs j).nm.data.toList) : i = j := by
  have h1 := (zone_told hc hi).1
  rw [ba_inj h, (zone_told hc hj).1] at h1
  omega
theorem clL_nodup {D : Dt} (hc : chkE D = 0) (ss : Nat → ByteArray) (u : List UInt8) : (clL D ss u D.nz).Nodup := by
  unfold clL List.Nodup
  rw [List.pairwise_map]
  have hr : ((List.range D.nz).filter fun j => (ss j).data.toList == u).Pairwise (fun i j => i ≠ j ∧ i < D.nz ∧ j < D.nz) := by
    refine List.Pairwise.filter _ ?_
    have h1 : (List.range D.nz).Pairwise fun i j => i < j := List.pairwise_lt_range
    refine List.Pairwise.imp_of_mem ?_ h1
    intro i j hi hj hlt
    exact ⟨by omega, List.mem_range.1 hi, List.mem_range.1 hj⟩
  refine hr.imp ?_
  rintro i j ⟨h1, h2, h3⟩ e
  exact h1 (zone_inj hc h2 h3 e)
theorem prL_len5 {X : Wd} {loc : ByteArray} {t p : Int} (h : bwE X loc t p = 0) (s : ByteArray) : (prL X loc t p s).length ≤ 5 := by
  unfold prL
  have e : (srt (clL X.D (wsB X loc t p) (List.take (prN X loc t p s) s.data.toList) X.D.nz)).length = (clL X.D (wsB X loc t p) (List.take (prN X loc t p s) s.data.toList) X.D.nz).length := List.length_mergeSort _
  rw [e]
  have h1 := clL_len X.D (wsB X loc t p) (List.take (prN X loc t p s) s.data.toList) X.D.nz
  have h2 := ws_nz h
  omega
/-- what is found again -/
structure Fnd (X : Wd) (loc zn : ByteArray) (t p : Int) (k : Nat) (R : ByteArray) : Prop where
  bw : bwE X loc t p = 0
  kz : k < X.D.nz
  zr : zonR X.D zn = k
  ze : zonE X.D zn = 0
  n1 : prN X loc t p R = R.size
  ge : ∀ b : ByteArray, R.size ≤ prN X loc t p (R ++ b)
  any : (prL X loc t p R).any (· == (X.D.zs k).nm.data.toList) = true
  up : ∀ q, q + 1 < (prL X loc t p R).length → Op.bytesLess ((prL X loc t p R)[q]?.getD []) ((prL X loc t p R)[q + 1]?.getD []) = true
  each : ∀ q, q < (prL X loc t p R).length → ∃ j, j < X.D.nz ∧ (prL X loc t p R)[q]?.getD [] = (X.D.zs j).nm.data.toList ∧ nmR X loc (X.D.zs j).nm t p = R
theorem found {X : Wd} {loc zn : ByteArray} {t p : Int} (h : nmE X loc zn t p = 0) : ∃ k, Fnd X loc zn t p k (nmR X loc zn t p) := by
  obtain ⟨n0, n1, n2, n3, n4, n5⟩ := nmE_ok h
  obtain ⟨k, hk, hkz⟩ := zonE_in n3
  have hb : bwE X loc t p = 0 := by
    unfold bwE
    rw [if_pos n0, if_pos n1, if_pos n2, if_pos ⟨n4, n5⟩]
  have hw : wsB X loc t p k = nmR X loc zn t p := (nm_zone h hk hkz).2
  have hc := (uchk_ok (nchk_ok n0).1).1
  obtain ⟨R, hR⟩ : ∃ R, R = nmR X loc zn t p := ⟨_, rfl⟩
  rw [← hR] at hw ⊢
  have hbl := ws_bld hb
  have f := Tri.long_facts hbl R
  have hn : (Tri.longR (Tri.trI X.D.nz (wsB X loc t p)) R).2 = R.size := by
    rcases Nat.lt_or_ge (Tri.longR (Tri.trI X.D.nz (wsB X loc t p)) R).2 R.size with g | g
    · exfalso
      have h1 := f.more _ g (Nat.le_refl _)
      obtain ⟨z, hz1, hz2, hz3⟩ := Tri.fw_of (wsB X loc t p) hkz
      rw [hw] at hz2
      rw [List.take_of_length_le (by rw [Tri.sz_len]; exact Nat.le_refl _)] at h1
      rw [h1] at hz2
      omega
    · have := f.le; omega
  have hpn : prN X loc t p R = R.size := hn
  have hpl : prL X loc t p R = srt (clL X.D (wsB X loc t p) R.data.toList X.D.nz) := by
    unfold prL
    rw [hpn, List.take_of_length_le (by rw [Tri.sz_len]; exact Nat.le_refl _)]
  have hmem : ∀ y, y ∈ prL X loc t p R ↔ ∃ j, j < X.D.nz ∧ y = (X.D.zs j).nm.data.toList ∧ wsB X loc t p j = R := fun y => by
    rw [hpl, (List.mergeSort_perm _ _).mem_iff]
    unfold clL
    rw [List.mem_map]
    constructor
    · rintro ⟨j, hj, rfl⟩
      obtain ⟨h1, h2⟩ := List.mem_filter.1 hj
      exact ⟨j, List.mem_range.1 h1, rfl, ba_inj (beq_iff_eq.1 h2)⟩
    · rintro ⟨j, hj, rfl, h2⟩
      exact ⟨j, List.mem_filter.2 ⟨List.mem_range.2 hj, by rw [h2]; simp⟩, rfl⟩
  refine ⟨k, hb, hkz, hk, n3, hpn, fun b => ?_, ?_, fun q hq => ?_, fun q hq => ?_⟩
  · have := Tri.long_mono hbl R b
    rw [hn] at this
    exact this
  · rw [List.any_eq_true]
    exact ⟨_, (hmem _).2 ⟨k, hkz, rfl, hw⟩, by simp⟩
  · have hr := bsrt_rises (clL_nodup hc (wsB X loc t p) R.data.toList)
    rw [← hpl] at hr
    have := List.pairwise_iff_getElem.1 hr q (q + 1) (by omega) hq (by omega)
    rw [List.getElem?_eq_getElem (by omega), List.getElem?_eq_getElem hq]
    exact this
  · have : (prL X loc t p R)[q]?.getD [] ∈ prL X loc t p R := by
      rw [List.getElem?_eq_getElem hq]
      exact List.getElem_mem hq
    obtain ⟨j, h1, h2, h3⟩ := (hmem _).1 this
    exact ⟨j, h1, h2, h3⟩
end Go.Proofs.YtmpiijipebngcaaGreatDoor
