/- Texts in a row of the call's own, sorted. -/
import Derived.Test.YtfjjdicgekgbeaaGreatDoorUsesEAll
import Derived.Test.YtfjjdicgekgbeaaGreatDoorShelfM
import Derived.Test.YtfjjdicgekgbeaaGreatDoorRefApAll
import Derived.Deep.QuietTactic
import Derived.BigQuiet
namespace Go.Proofs.YtfjjdicgekgbeaaGreatDoor
open Go Go.RowKit Go.Maps Go.Sort
set_option linter.unusedVariables false

abbrev srt (l : List (List UInt8)) : List (List UInt8) := l.mergeSort fun x y => decide (x ≤ y)
theorem put_take (d : Array (List UInt8)) (c : Array Value) (n : Nat) (hn : n = d.size) (h : d.size ≤ c.size) : (putCells encStr 0 d c).toList.take n = d.toList.map encStr := by
  subst hn
  apply List.ext_getElem?
  intro i
  unfold putCells
  by_cases hi : i < d.size
  · rw [List.getElem?_take_of_lt hi]
    simp [hi, show i < c.size by omega]
  · rw [List.getElem?_take_eq_none (by omega), List.getElem?_map]
    simp [show d.size ≤ i by omega]
theorem SortS_c (v : Value) (ss : List (List UInt8)) (base : Nat) (w : World) (h : w.ownsRow base 9 1 v ss.length (ss.map encStr)) (hs : ss.length ≤ 1000) :
    Calls Tryz.prog 58 #[v] w fun e w' => e = .returned (.tuple #[]) ∧ w'.ownsRow base 9 1 v ss.length ((srt ss).map encStr) ∧ w.grownBy w' v.ownBlock := by
  have hl : (srt ss).length = ss.length := List.length_mergeSort _
  rcases h.2 with ⟨rfl, h0⟩ | ⟨g, cap, cur, rfl, hb, hg, hn, hm, hsz, ht⟩
  · obtain rfl : ss = [] := List.length_eq_zero_iff.1 h0
    refine (Tryz.slices_Sort_string_none none 0 w).mono ?_
    rintro e w' ⟨rfl, rfl⟩
    exact ⟨rfl, by simpa [srt] using h, rfl, rfl, rfl, Nat.le_refl _, fun _ _ _ => rfl⟩
  · have hlt : g < w.heap.size := (Array.getElem?_eq_some_iff.1 hg).1
    have hH : Holds encStr w g 0 ss.toArray := fun j hj => by
      have hj2 : j < ss.length := by simpa using hj
      refine ⟨?_, h.frozenAt _⟩
      rw [Nat.zero_add, h.cellAt j (by omega), List.getElem?_map, List.getElem?_eq_getElem hj2]
      simp [hj2]
    refine (Tryz.slices_Sort_string g 0 cap ss w hH hlt (by omega)).mono ?_
    rintro e w' ⟨rfl, k, os, rfl⟩
    have hd : (srt ss).toArray.size = ss.length := by simp
    have hsz' : ss.length ≤ cur.size := by omega
    have hput : (grow (putRow encStr (Sort.ahead w k) g 0 (srt ss).toArray) os).heap[g]? = some (.cells (putCells encStr 0 (srt ss).toArray cur) 9 (0, 0)) := by
      show ((w.heap.modify g (onCells (putCells encStr 0 (srt ss).toArray))) ++ os)[g]? = _
      rw [Array.getElem?_append_left (by simpa using hlt), Array.getElem?_modify, if_pos rfl, hg]
      rfl
    refine ⟨rfl, ⟨by simp [hl], .inr ⟨g, cap, putCells encStr 0 (srt ss).toArray cur, rfl, hb, hput, hn, hm, by unfold putCells; rw [Array.size_mapIdx]; exact hsz, ?_⟩⟩, rfl, rfl, rfl, ?_, fun j hj hne => ?_⟩
    · rw [put_take _ _ _ (by rw [hd]; omega) (by rw [hd]; exact hsz')]
    · show w.heap.size ≤ ((w.heap.modify g _) ++ os).size
      simp
    · show ((w.heap.modify g (onCells (putCells encStr 0 (srt ss).toArray))) ++ os)[j]? = _
      have : g ≠ j := fun e => hne (by rw [e]; rfl)
      rw [Array.getElem?_append_left (by simpa using hj), Array.getElem?_modify, if_neg this]
/-- texts in a row -/
def TX (w : World) (a : Option Addr) (l : List (List UInt8)) : Prop := P1 w a l.length (fun j => encStr (l[j]?.getD []))
theorem TX.on {w w' : World} {a : Option Addr} {l : List (List UInt8)} (h : TX w a l) (hb : Below w.heap.size w w') : TX w' a l := P1.on h hb
theorem range_map {α β : Type} (l : List α) (d : α) (f : α → β) : (List.range l.length).map (fun j => f (l[j]?.getD d)) = l.map f := by
  apply List.ext_getElem?
  intro i
  by_cases hi : i < l.length
  · simp [hi]
  · simp [show l.length ≤ i by omega]
theorem TX_own {w : World} {base : Nat} {v : Value} {l : List (List UInt8)} {n : Nat} (hn : n = l.length) (h : w.ownsRow base 9 1 v n (l.map encStr)) : ∃ a c, v = .slice a l.length c ∧ l.length ≤ c ∧ TX w a l := by
  subst hn
  rw [← range_map l [] encStr] at h
  exact own_p1 h
theorem enc_nm (s : ByteArray) : encStr s.data.toList = .string s := by cases s; rfl
end Go.Proofs.YtfjjdicgekgbeaaGreatDoor

/- The contract of uses.Zones. -/
namespace Go.Proofs.YtfjjdicgekgbeaaGreatDoor
open Go Go.RowKit Go.Maps
set_option linter.unusedVariables false

/-- is that what a zone is called by? -/
def zsel (D : Dt) (us : Nat → Us) (n : Nat) (m : ByteArray) (t : Int) (j : Nat) : Bool := (metR us n (D.zs j).nm t).toList == m.toList
def zlst (D : Dt) (us : Nat → Us) (n : Nat) (m : ByteArray) (t : Int) (k : Nat) : List (List UInt8) := ((List.range k).filter (zsel D us n m t)).map fun j => (D.zs j).nm.data.toList
theorem zlst_succ (D : Dt) (us : Nat → Us) (n : Nat) (m : ByteArray) (t : Int) (k : Nat) : zlst D us n m t (k + 1) = zlst D us n m t k ++ (if zsel D us n m t k then [(D.zs k).nm.data.toList] else []) := by
  unfold zlst
  rw [List.range_succ, List.filter_append, List.map_append]
  congr 1
  by_cases h : zsel D us n m t k = true
  · rw [if_pos h]; simp [h]
  · rw [if_neg h]; simp [h]
theorem zlst_len (D : Dt) (us : Nat → Us) (n : Nat) (m : ByteArray) (t : Int) (k : Nat) : (zlst D us n m t k).length ≤ k := by
  unfold zlst
  rw [List.length_map]
  have := List.length_filter_le (zsel D us n m t) (List.range k)
  simpa using this
/-- what uses.Zones answers -/
def uznE (D : Dt) (n : Nat) (us : Nat → Us) (m : ByteArray) (t : Int) : Int := if ucat D n us t = 0 then (if nameB m = true then 0 else 5) else ucat D n us t
def uznL (D : Dt) (n : Nat) (us : Nat → Us) (m : ByteArray) (t : Int) : List (List UInt8) := if uznE D n us m t = 0 then srt (zlst D us n m t D.nz) else []
def uznP (l : List (List UInt8)) (E : Int) (w : World) (e : Ending) (w' : World) : Prop := ∃ a c, e = .returned (.tuple #[.slice a l.length c, .int .i64 E]) ∧ l.length ≤ c ∧ TX w' a l ∧ Below w.heap.size w w'
end Go.Proofs.YtfjjdicgekgbeaaGreatDoor

/- The document's own SameTexts; uses that the statements call. -/
namespace Go.Proofs.YtfjjdicgekgbeaaGreatDoor
open Go Go.RowKit Go.Maps
set_option linter.unusedVariables false

theorem sT_ne {l1 l2 : List (List UInt8)} {k : Nat} (h1 : k < l1.length) (h2 : k < l2.length) (h : l1[k]?.getD [] ≠ l2[k]?.getD []) : l1 ≠ l2 := fun e => h (by rw [e])
theorem sT_eq {l1 l2 : List (List UInt8)} (hl : l1.length = l2.length) (h : ∀ k, k < l1.length → l1[k]?.getD [] = l2[k]?.getD []) : l1 = l2 := by
  apply List.ext_getElem?
  intro i
  by_cases hi : i < l1.length
  · have := h i hi
    simpa [hi, show i < l2.length by omega] using this
  · rw [List.getElem?_eq_none (by omega), List.getElem?_eq_none (by omega)]
theorem enc_l (l : List UInt8) : (⟨l.toArray⟩ : ByteArray).toList = l := by rw [ByteArray.toList_eq]
set_option maxHeartbeats 4000000 in
theorem SameTexts_c (a1 a2 : Option Addr) (c1 c2 : Nat) (l1 l2 : List (List UInt8)) (w : World) (h1 : TX w a1 l1) (h2 : TX w a2 l2) (n1 : l1.length ≤ 1000) (n2 : l2.length ≤ 1000) : Calls Tryz.prog 11 #[.slice a1 l1.length c1, .slice a2 l2.length c2] w fun e w' => e = .returned (.bool (decide (l1 = l2))) ∧ Below w.heap.size w w' := by
  have HA := hideH h1
  have HB := hideH h2
  clear h1 h2
  generalize hV : decide (l1 = l2) = V
  have HV := hideH hV
  clear hV
  by_cases hl : l1.length = l2.length
  · obtain ⟨N, hN⟩ : ∃ N, N = l1.length := ⟨_, rfl⟩
    have hN2 : N = l2.length := by omega
    have hA : Hid (P1 w a1 N (fun j => encStr (l1[j]?.getD []))) := by rw [hN]; exact HA
    have hB : Hid (P1 w a2 N (fun j => encStr (l2[j]?.getD []))) := by rw [hN2]; exact HB
    rw [← hN, ← hN2]
    have hN3 : N ≤ 1000 := by omega
    have HN := hideH hN
    have HL := hideH hl
    clear HA HB hN hN2 n1 n2 hl
    go_enter Tryz.func11, Tryz.ntmps11
    go_wp2_with fail
    go_loopw [5] (fun x5 v => ∃ k : Nat, k ≤ N ∧ x5 = .int .i64 k ∧ Hid (∀ i, i < k → l1[i]?.getD [] = l2[i]?.getD []) ∧ Hid (Below w.heap.size w v)) (fun x5 _ => N - (intOf x5).toNat)
    case atStart => exact ⟨0, Nat.zero_le _, rfl, fun i hi => by omega, Below.refl _ _⟩
    case round =>
      obtain ⟨k, hk, rfl, HE, HW⟩ := hrel
      by_cases hlt : k < N
      · rcases hA.out.on HW.out with h0 | ⟨b, off, hsa, hcs⟩
        · omega
        rcases hB.out.on HW.out with h0 | ⟨b2, off2, hsb, hcs2⟩
        · omega
        have d1 : wr.cell? ⟨b, off + k, none⟩ = some (.string ⟨(l1[k]?.getD []).toArray⟩) := hcs k hlt
        have d2 : wr.cell? ⟨b2, off2 + k, none⟩ = some (.string ⟨(l2[k]?.getD []).toArray⟩) := hcs2 k (by omega)
        have hk0 : decide ((k : Int) < 0) = false := by simp
        have hkn : decide (N ≤ k) = false := by simp; omega
        have hki : (k : Int) < (N : Int) := by omega
        clear hcs hcs2
        by_cases hq : l1[k]?.getD [] = l2[k]?.getD []
        · have HE2 : Hid (∀ i, i < k + 1 → l1[i]?.getD [] = l2[i]?.getD []) := fun i hi => by
            rcases Nat.lt_or_ge i k with h | h
            · exact HE.out i h
            · obtain rfl : i = k := by omega
              exact hq
          rw [← hq] at d2
          generalize l1[k]?.getD [] = y at d1 d2
          clear hq
          go_wp2_with fail
          go_quiet (fail)
          go_wp2_with fail
          try simp only [← hsa, ← hsb]
          go_roundw
          case rel => exact ⟨k + 1, by omega, by go_num, HE2, below_drewN HW.out _⟩
          case measure => simp [intOf]; omega
        · have HX : Hid (V = false) := by
            show V = false
            rw [← HV.out]
            exact decide_eq_false (sT_ne (by have := HN.out; omega) (by have := HN.out; have := HL.out; omega) hq)
          have hqb : ((⟨(l1[k]?.getD []).toArray⟩ : ByteArray).toList == (⟨(l2[k]?.getD []).toArray⟩ : ByteArray).toList) = false := by
            rw [enc_l, enc_l]; exact beq_eq_false_iff_ne.2 hq
          have hqc : (l1[k]?.getD [] == l2[k]?.getD []) = false := beq_eq_false_iff_ne.2 hq
          generalize l1[k]?.getD [] = y at d1 hqb hqc
          generalize l2[k]?.getD [] = z at d2 hqb hqc
          clear hq
          go_wp2_with fail
          go_quiet (fail)
          go_wp2_with fail
          go_ret
          exact ⟨ret_bool HX.out.symm, below_drewN HW.out _⟩
      · have HX : Hid (V = true) := by
          show V = true
          rw [← HV.out]
          exact decide_eq_true (sT_eq HL.out (fun i hi => HE.out i (by have := HN.out; omega)))
        go_wp2_with fail
        go_ret
        exact ⟨ret_bool HX.out.symm, HW.out⟩
  · have HX : Hid (V = false) := by
      show V = false
      rw [← HV.out]
      exact decide_eq_false (fun e => hl (by rw [e]))
    have hli : ¬ ((l1.length : Int) = (l2.length : Int)) := by omega
    have hlb : ((l1.length : Int) == (l2.length : Int)) = false := beq_eq_false_iff_ne.2 hli
    go_enter Tryz.func11, Tryz.ntmps11
    go_wp2_with fail
    go_ret
    exact ⟨ret_bool HX.out.symm, Below.refl _ _⟩
end Go.Proofs.YtfjjdicgekgbeaaGreatDoor
