/- Plain facts: zones rise; in whatever order uses are told. -/
import Derived.Test.YtainhpnmgligjaeGreatDoorUsesLAll
import Derived.Test.YtainhpnmgligjaeGreatDoorLinksM
import Derived.Laws.OwnMore
namespace Go.Proofs.YtainhpnmgligjaeGreatDoor
open Go Go.RowKit
set_option linter.unusedVariables false

theorem lt_less : ∀ a b : List UInt8, Op.bytesLess a b = true ↔ a < b
  | [], [] => by simp [Op.bytesLess]
  | [], _ :: _ => by simp [Op.bytesLess]
  | _ :: _, [] => by simp [Op.bytesLess]
  | x :: a, y :: b => by
    rw [List.cons_lt_cons_iff, ← lt_less a b]
    simp [Op.bytesLess]
theorem srt_rises {l : List (List UInt8)} (h : l.Nodup) : (srt l).Pairwise fun a b => Op.bytesLess a b = true := by
  have h1 : (srt l).Pairwise fun a b => decide (a ≤ b) = true := List.pairwise_mergeSort (fun a b c h1 h2 => by
    simp only [decide_eq_true_eq] at h1 h2 ⊢
    exact List.le_trans h1 h2) (fun a b => by
    simp only [Bool.or_eq_true, decide_eq_true_eq]
    exact List.le_total a b) l
  have h2 : (srt l).Nodup := (List.mergeSort_perm l _).nodup_iff.2 h
  have h3 := h1.and h2
  refine h3.imp ?_
  rintro a b ⟨h4, h5⟩
  rw [lt_less]
  simp only [decide_eq_true_eq] at h4
  rcases List.le_iff_lt_or_eq.1 h4 with h | h
  · exact h
  · exact absurd h h5
theorem zlst_nodup {D : Dt} (hc : chkE D = 0) (us : Nat → Us) (n : Nat) (m : ByteArray) (t : Int) : (zlst D us n m t D.nz).Nodup := by
  have hd := (chk_parts hc).2.1
  unfold zlst
  unfold List.Nodup
  rw [List.pairwise_map]
  have hr : ((List.range D.nz).filter (zsel D us n m t)).Pairwise (fun i j => i < j ∧ j < D.nz) := by
    refine List.Pairwise.filter _ ?_
    rw [List.pairwise_iff_getElem]
    intro i j hi hj hij
    simp at hi hj ⊢
    omega
  refine hr.imp ?_
  rintro i j ⟨h1, h2⟩ e
  have := hd j (by omega) i h1
  have e1 : nms D j = (D.zs j).nm := by unfold nms; rw [if_pos (by omega)]
  have e2 : nms D i = (D.zs i).nm := by unfold nms; rw [if_pos (by omega)]
  rw [e1, e2] at this
  exact this e.symm
theorem uzn_rises {D : Dt} {us : Nat → Us} {n : Nat} {m : ByteArray} {t : Int} (h : uznE D n us m t = 0) (i : Nat) (hi : i + 1 < (uznL D n us m t).length) : Op.bytesLess ((uznL D n us m t)[i]?.getD []) ((uznL D n us m t)[i + 1]?.getD []) = true := by
  have hc := (uchk_ok (ucat_ok (uzn_ok h).1).1).1
  have e : uznL D n us m t = srt (zlst D us n m t D.nz) := by unfold uznL; rw [if_pos h]
  rw [e] at hi ⊢
  have hp := List.pairwise_iff_getElem.1 (srt_rises (zlst_nodup hc us n m t)) i (i + 1) (by omega) hi (by omega)
  rw [List.getElem?_eq_getElem (by omega), List.getElem?_eq_getElem hi]
  exact hp
/-- a zone is among those of a Meta just if that is its own -/
theorem uzn_mem {D : Dt} {us : Nat → Us} {n : Nat} {m : ByteArray} {t : Int} (h : uznE D n us m t = 0) {k : Nat} (hk : k < D.nz) : (D.zs k).nm.data.toList ∈ uznL D n us m t ↔ zsel D us n m t k = true := by
  have hc := (uchk_ok (ucat_ok (uzn_ok h).1).1).1
  have hd := (chk_parts hc).2.1
  have e : uznL D n us m t = srt (zlst D us n m t D.nz) := by unfold uznL; rw [if_pos h]
  rw [e, List.mem_mergeSort]
  unfold zlst
  rw [List.mem_map]
  constructor
  · rintro ⟨j, hj, he⟩
    rw [List.mem_filter] at hj
    have hjn := List.mem_range.1 hj.1
    have : j = k := by
      rcases Nat.lt_trichotomy j k with h1 | h1 | h1
      · have := hd k (by omega) j h1
        rw [show nms D k = (D.zs k).nm by unfold nms; rw [if_pos hk], show nms D j = (D.zs j).nm by unfold nms; rw [if_pos hjn]] at this
        exact absurd he.symm this
      · exact h1
      · have := hd j (by omega) k h1
        rw [show nms D k = (D.zs k).nm by unfold nms; rw [if_pos hk], show nms D j = (D.zs j).nm by unfold nms; rw [if_pos hjn]] at this
        exact absurd he this
    rw [← this]; exact hj.2
  · intro hz
    exact ⟨k, List.mem_filter.2 ⟨List.mem_range.2 hk, hz⟩, rfl⟩
def sg (a b j : Nat) : Nat := if j = a then b else if j = b then a else j
def swU (us : Nat → Us) (a b : Nat) (j : Nat) : Us := us (sg a b j)
theorem sg_lt {a b j n : Nat} (ha : a < n) (hb : b < n) (hj : j < n) : sg a b j < n := by unfold sg; split; exact hb; split; exact ha; exact hj
theorem sg_sg (a b j : Nat) : sg a b (sg a b j) = j := by
  unfold sg
  by_cases h1 : j = a
  · rw [if_pos h1]
    by_cases h2 : b = a
    · rw [if_pos h2]; omega
    · rw [if_neg h2, if_pos rfl]; omega
  · rw [if_neg h1]
    by_cases h2 : j = b
    · rw [if_pos h2, if_pos rfl]; omega
    · rw [if_neg h2, if_neg h1, if_neg h2]
theorem ov_symm (x y : Us) : ovB x y = ovB y x := by
  unfold ovB
  have h1 : (x.zn.toList == y.zn.toList) = (y.zn.toList == x.zn.toList) := by
    rw [Bool.eq_iff_iff, beq_iff_eq, beq_iff_eq]
    exact ⟨Eq.symm, Eq.symm⟩
  have h2 : decide (x.fr < y.to ∧ y.fr < x.to) = decide (y.fr < x.to ∧ x.fr < y.to) := by
    rw [Bool.eq_iff_iff, decide_eq_true_eq, decide_eq_true_eq]
    exact ⟨fun h => ⟨h.2, h.1⟩, fun h => ⟨h.2, h.1⟩⟩
  rw [h1, h2]
theorem novl_ne {us : Nat → Us} {n i j : Nat} (h : novl us n) (hi : i < n) (hj : j < n) (hne : i ≠ j) : ovB (us i) (us j) = false := by
  rcases Nat.lt_or_ge j i with h1 | h1
  · exact h i hi j h1
  · rw [ov_symm]; exact h j hj i (by omega)
theorem sw_novl {us : Nat → Us} {n a b : Nat} (h : novl us n) (ha : a < n) (hb : b < n) : novl (swU us a b) n := by
  intro i hi j hj
  show ovB (us (sg a b i)) (us (sg a b j)) = false
  refine novl_ne h (sg_lt ha hb hi) (sg_lt ha hb (show j < n by omega)) (fun e => ?_)
  have := congrArg (sg a b) e
  rw [sg_sg, sg_sg] at this
  omega
theorem sw_chk {D : Dt} {us : Nat → Us} {n a b : Nat} (h : uchk D n us = 0) (ha : a < n) (hb : b < n) : uchk D n (swU us a b) = 0 := by
  obtain ⟨h0, h1, h2, h3, h4, h5⟩ := uchk_ok h
  exact uchk_mk h0 h1 (fun j hj => h2 _ (sg_lt ha hb hj)) (fun j hj => h3 _ (sg_lt ha hb hj)) (fun j hj => h4 _ (sg_lt ha hb hj)) (sw_novl h5 ha hb)
theorem has_ov {x y : Us} {z : ByteArray} {t : Int} (hx : hasB x z t = true) (hy : hasB y z t = true) : ovB x y = true := by
  unfold hasB at hx hy
  unfold ovB
  rw [Bool.and_eq_true] at hx hy ⊢
  have h1 := of_decide_eq_true hx.2
  have h2 := of_decide_eq_true hy.2
  refine ⟨?_, decide_eq_true (by omega)⟩
  have e1 : x.zn.toList = z.toList := by simpa using hx.1
  have e2 : y.zn.toList = z.toList := by simpa using hy.1
  simp [e1, e2]
theorem met_at {us : Nat → Us} {n j : Nat} {z : ByteArray} {t : Int} (h : novl us n) (hj : j < n) (hh : hasB (us j) z t = true) : metR us n z t = (us j).mt := by
  unfold metR
  cases hf : (List.range n).find? fun j => hasB (us j) z t with
  | none =>
    have := List.find?_eq_none.1 hf j (List.mem_range.2 hj)
    rw [hh] at this
    exact absurd rfl this
  | some i =>
    have h1 := List.find?_some hf
    have h2 := List.mem_range.1 (List.mem_of_find?_eq_some hf)
    by_cases e : i = j
    · rw [e]
    · have := novl_ne h h2 hj e
      rw [has_ov h1 hh] at this
      cases this
theorem met_no {us : Nat → Us} {n : Nat} {z : ByteArray} {t : Int} (h : ∀ j, j < n → hasB (us j) z t = false) : metR us n z t = ⟨#[]⟩ := by
  unfold metR
  rw [List.find?_eq_none.2 (fun x hx => by rw [h x (List.mem_range.1 hx)]; decide)]
theorem sw_met {us : Nat → Us} {n a b : Nat} (h : novl us n) (ha : a < n) (hb : b < n) (z : ByteArray) (t : Int) : metR (swU us a b) n z t = metR us n z t := by
  by_cases hx : ∃ j, j < n ∧ hasB (us j) z t = true
  · obtain ⟨j, hj, hh⟩ := hx
    have e : swU us a b (sg a b j) = us j := by unfold swU; rw [sg_sg]
    rw [met_at h hj hh, met_at (sw_novl h ha hb) (sg_lt ha hb hj) (by rw [e]; exact hh), e]
  · have hno : ∀ j, j < n → hasB (us j) z t = false := fun j hj => by
      cases hh : hasB (us j) z t
      · rfl
      · exact absurd ⟨j, hj, hh⟩ hx
    rw [met_no hno, met_no (us := swU us a b) (fun j hj => hno _ (sg_lt ha hb hj))]
theorem sw_same {D : Dt} {us : Nat → Us} {n a b : Nat} {m : ByteArray} {t : Int} (h : uznE D n us m t = 0) (ha : a < n) (hb : b < n) : uznE D n (swU us a b) m t = 0 ∧ uznL D n (swU us a b) m t = uznL D n us m t := by
  obtain ⟨b1, b2⟩ := uzn_ok h
  obtain ⟨c1, c2, c3⟩ := ucat_ok b1
  have hn := (uchk_ok c1).2.2.2.2.2
  have e0 : ucat D n (swU us a b) t = 0 := by unfold ucat; rw [if_pos (sw_chk c1 ha hb), if_pos ⟨c2, c3⟩]
  have e2 : uznE D n (swU us a b) m t = 0 := by unfold uznE; rw [if_pos e0, if_pos b2]
  refine ⟨e2, ?_⟩
  unfold uznL
  rw [if_pos e2, if_pos h]
  have : zsel D (swU us a b) n m t = zsel D us n m t := by
    funext j
    unfold zsel
    rw [sw_met hn ha hb]
  unfold zlst
  rw [this]
end Go.Proofs.YtainhpnmgligjaeGreatDoor

/- A row of uses of the call's own, into which one is stored. -/
namespace Go.Proofs.YtainhpnmgligjaeGreatDoor
open Go Go.RowKit Go.Maps
set_option linter.unusedVariables false

def set4 (w : World) (g o : Nat) (x : Us) : World := (((w.setCell ⟨g, o, none⟩ (.string x.zn)).setCell ⟨g, o + 1, none⟩ (.int .i64 x.fr)).setCell ⟨g, o + 2, none⟩ (.int .i64 x.to)).setCell ⟨g, o + 3, none⟩ (.string x.mt)
def upd (us : Nat → Us) (a : Nat) (x : Us) (j : Nat) : Us := if j = a then x else us j
theorem usr_set (us : Nat → Us) (n a : Nat) (x : Us) (ha : a < n) : ((((usr us n).set (a * 4) (.string x.zn)).set (a * 4 + 1) (.int .i64 x.fr)).set (a * 4 + 2) (.int .i64 x.to)).set (a * 4 + 3) (.string x.mt) = usr (upd us a x) n := by
  apply List.ext_getElem?
  intro j
  have hl := usr_len us n
  by_cases hj : j < n * 4
  · have e : (usr (upd us a x) n)[j]? = some (usc (upd us a x) j) := by
      unfold usr; rw [List.getElem?_map, List.getElem?_range hj]; rfl
    have e2 : (usr us n)[j]? = some (usc us j) := by
      unfold usr; rw [List.getElem?_map, List.getElem?_range hj]; rfl
    rw [e]
    simp only [List.getElem?_set, List.length_set, hl, e2]
    by_cases h3 : a * 4 + 3 = j
    · have : j / 4 = a := by omega
      rw [if_pos h3, if_pos (by omega)]
      unfold usc upd
      rw [if_neg (by omega), if_neg (by omega), if_neg (by omega), if_pos this]
    · rw [if_neg h3]
      by_cases h2 : a * 4 + 2 = j
      · have : j / 4 = a := by omega
        rw [if_pos h2, if_pos (by omega)]
        unfold usc upd
        rw [if_neg (by omega), if_neg (by omega), if_pos (by omega), if_pos this]
      · rw [if_neg h2]
        by_cases h1 : a * 4 + 1 = j
        · have : j / 4 = a := by omega
          rw [if_pos h1, if_pos (by omega)]
          unfold usc upd
          rw [if_neg (by omega), if_pos (by omega), if_pos this]
        · rw [if_neg h1]
          by_cases h0 : a * 4 = j
          · have : j / 4 = a := by omega
            rw [if_pos h0, if_pos (by omega)]
            unfold usc upd
            rw [if_pos (by omega), if_pos this]
          · rw [if_neg h0]
            have : ¬ j / 4 = a := by omega
            unfold usc upd
            rw [if_neg this]
  · rw [List.getElem?_eq_none (by simp only [List.length_set, hl]; omega), List.getElem?_eq_none (by rw [usr_len]; omega)]
theorem set4_own {w : World} {base n g c a : Nat} {us : Nat → Us} (h : w.ownsRow base 43 4 (.slice (some ⟨g, 0, none⟩) n c) n (usr us n)) (ha : a < n) (x : Us) : (set4 w g (a * 4) x).ownsRow base 43 4 (.slice (some ⟨g, 0, none⟩) n c) n (usr (upd us a x) n) := by
  have h1 := (h.stored (a * 4) (.string x.zn)).1
  have h2 := (h1.stored (a * 4 + 1) (.int .i64 x.fr)).1
  have h3 := (h2.stored (a * 4 + 2) (.int .i64 x.to)).1
  have h4 := (h3.stored (a * 4 + 3) (.string x.mt)).1
  rw [usr_set us n a x ha] at h4
  exact h4
theorem set4_below {B : Nat} {w v : World} {g : Nat} (h : Below B w v) (hg : B ≤ g) (o : Nat) (x : Us) : Below B w (set4 v g o x) :=
  (((h.setCell (p := ⟨g, o, none⟩) hg _).setCell (p := ⟨g, o + 1, none⟩) hg _).setCell (p := ⟨g, o + 2, none⟩) hg _).setCell (p := ⟨g, o + 3, none⟩) hg _
theorem set4_other {w : World} {g k : Nat} (h : k ≠ g) (o : Nat) (x : Us) : (set4 w g o x).heap[k]? = w.heap[k]? := by
  unfold set4
  simp [World.setCell, Array.getElem?_modify, Ne.symm h]
theorem two_boxesU (w : World) (o1 o2 : Obj) : Below w.heap.size w ((w.alloc o1).alloc o2) ∧ ((w.alloc o1).alloc o2).heap[w.heap.size]? = some o1 ∧ ((w.alloc o1).alloc o2).heap[w.heap.size + 1]? = some o2 := by
  refine ⟨((Below.refl _ w).alloc (Nat.le_refl _) _).alloc (by simp) _, ?_, ?_⟩
  · rw [Below.heap_alloc _ _ _ (by simp)]; exact World.alloc_heap_new _ _
  · have := World.alloc_heap_new (w.alloc o1) o2
    rwa [World.size_alloc] at this
theorem cells4 {w : World} {b : Nat} {x y z u : Value} {t : TypeId} (h : w.heap[b]? = some (.cells #[x, y, z, u] t)) : w.cell? ⟨b, 0, none⟩ = some x ∧ w.cell? ⟨b, 1, none⟩ = some y ∧ w.cell? ⟨b, 2, none⟩ = some z ∧ w.cell? ⟨b, 3, none⟩ = some u := by
  refine ⟨?_, ?_, ?_, ?_⟩ <;> simp [World.cell?, h]
theorem sw_upd (us : Nat → Us) (a b : Nat) : upd (upd us a (us b)) b (us a) = swU us a b := by
  funext j
  unfold upd swU sg
  by_cases h1 : j = b
  · rw [if_pos h1]
    by_cases h2 : j = a
    · rw [if_pos h2]; rw [← h1, h2]
    · rw [if_neg h2, if_pos h1]
  · rw [if_neg h1]
    by_cases h2 : j = a
    · rw [if_pos h2, if_pos h2]
    · rw [if_neg h2, if_neg h2, if_neg h1]
end Go.Proofs.YtainhpnmgligjaeGreatDoor
