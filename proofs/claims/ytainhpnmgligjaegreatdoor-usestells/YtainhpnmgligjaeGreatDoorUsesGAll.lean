/- Texts in a row of the call's own, sorted. -/
import Derived.Test.YtainhpnmgligjaeGreatDoorUsesEAll
import Derived.Test.YtainhpnmgligjaeGreatDoorShelfS
import Derived.Test.YtainhpnmgligjaeGreatDoorRefApAll
import Derived.Deep.QuietTactic
import Derived.BigQuiet
namespace Go.Proofs.YtainhpnmgligjaeGreatDoor
open Go Go.RowKit Go.Maps Go.Sort
set_option linter.unusedVariables false

abbrev srt (l : List (List UInt8)) : List (List UInt8) := l.mergeSort fun x y => decide (x ≤ y)
theorem put_take (d : Array (List UInt8)) (c : Array Value) (n : Nat) (hn : n = d.size) (h : d.size ≤ c.size) : (putCells encStr 0 d c).toList.take n = d.toList.map encStr := by
  subst hn
  apply List.ext_getElem?
  intro i
  unfold putCells
  by_cases hi : i < d.size
  · rw [List.getElem?_take_of_lt hi]
    simp [hi, show i < c.size by omega]
  · rw [List.getElem?_take_eq_none (by omega), List.getElem?_map]
    simp [show d.size ≤ i by omega]
theorem SortS_c (v : Value) (ss : List (List UInt8)) (base : Nat) (w : World) (h : w.ownsRow base 9 1 v ss.length (ss.map encStr)) (hs : ss.length ≤ 1000) :
    Calls Tryz.prog 19 #[v] w fun e w' => e = .returned (.tuple #[]) ∧ w'.ownsRow base 9 1 v ss.length ((srt ss).map encStr) ∧ w.grownBy w' v.ownBlock := by
  have hl : (srt ss).length = ss.length := List.length_mergeSort _
  rcases h.2 with ⟨rfl, h0⟩ | ⟨g, cap, cur, rfl, hb, hg, hn, hm, hsz, ht⟩
  · obtain rfl : ss = [] := List.length_eq_zero_iff.1 h0
    refine (Tryz.slices_Sort_string_none none 0 w).mono ?_
    rintro e w' ⟨rfl, rfl⟩
    exact ⟨rfl, by simpa [srt] using h, rfl, rfl, rfl, Nat.le_refl _, fun _ _ _ => rfl⟩
  · have hlt : g < w.heap.size := (Array.getElem?_eq_some_iff.1 hg).1
    have hH : Holds encStr w g 0 ss.toArray := fun j hj => by
      have hj2 : j < ss.length := by simpa using hj
      refine ⟨?_, h.frozenAt _⟩
      rw [Nat.zero_add, h.cellAt j (by omega), List.getElem?_map, List.getElem?_eq_getElem hj2]
      simp [hj2]
    refine (Tryz.slices_Sort_string g 0 cap ss w hH hlt (by omega)).mono ?_
    rintro e w' ⟨rfl, k, os, rfl⟩
    have hd : (srt ss).toArray.size = ss.length := by simp
    have hsz' : ss.length ≤ cur.size := by omega
    have hput : (grow (putRow encStr (Sort.ahead w k) g 0 (srt ss).toArray) os).heap[g]? = some (.cells (putCells encStr 0 (srt ss).toArray cur) 9 (0, 0)) := by
      show ((w.heap.modify g (onCells (putCells encStr 0 (srt ss).toArray))) ++ os)[g]? = _
      rw [Array.getElem?_append_left (by simpa using hlt), Array.getElem?_modify, if_pos rfl, hg]
      rfl
    refine ⟨rfl, ⟨by simp [hl], .inr ⟨g, cap, putCells encStr 0 (srt ss).toArray cur, rfl, hb, hput, hn, hm, by unfold putCells; rw [Array.size_mapIdx]; exact hsz, ?_⟩⟩, rfl, rfl, rfl, ?_, fun j hj hne => ?_⟩
    · rw [put_take _ _ _ (by rw [hd]; omega) (by rw [hd]; exact hsz')]
    · show w.heap.size ≤ ((w.heap.modify g _) ++ os).size
      simp
    · show ((w.heap.modify g (onCells (putCells encStr 0 (srt ss).toArray))) ++ os)[j]? = _
      have : g ≠ j := fun e => hne (by rw [e]; rfl)
      rw [Array.getElem?_append_left (by simpa using hj), Array.getElem?_modify, if_neg this]
/-- texts in a row -/
def TX (w : World) (a : Option Addr) (l : List (List UInt8)) : Prop := P1 w a l.length (fun j => encStr (l[j]?.getD []))
theorem TX.on {w w' : World} {a : Option Addr} {l : List (List UInt8)} (h : TX w a l) (hb : Below w.heap.size w w') : TX w' a l := P1.on h hb
theorem range_map {α β : Type} (l : List α) (d : α) (f : α → β) : (List.range l.length).map (fun j => f (l[j]?.getD d)) = l.map f := by
  apply List.ext_getElem?
  intro i
  by_cases hi : i < l.length
  · simp [hi]
  · simp [show l.length ≤ i by omega]
theorem TX_own {w : World} {base : Nat} {v : Value} {l : List (List UInt8)} {n : Nat} (hn : n = l.length) (h : w.ownsRow base 9 1 v n (l.map encStr)) : ∃ a c, v = .slice a l.length c ∧ l.length ≤ c ∧ TX w a l := by
  subst hn
  rw [← range_map l [] encStr] at h
  exact own_p1 h
theorem enc_nm (s : ByteArray) : encStr s.data.toList = .string s := by cases s; rfl
end Go.Proofs.YtainhpnmgligjaeGreatDoor

/- The contract of uses.Zones. -/
namespace Go.Proofs.YtainhpnmgligjaeGreatDoor
open Go Go.RowKit Go.Maps
set_option linter.unusedVariables false

/-- is that what a zone is called by? -/
def zsel (D : Dt) (us : Nat → Us) (n : Nat) (m : ByteArray) (t : Int) (j : Nat) : Bool := (metR us n (D.zs j).nm t).toList == m.toList
def zlst (D : Dt) (us : Nat → Us) (n : Nat) (m : ByteArray) (t : Int) (k : Nat) : List (List UInt8) := ((List.range k).filter (zsel D us n m t)).map fun j => (D.zs j).nm.data.toList
theorem zlst_succ (D : Dt) (us : Nat → Us) (n : Nat) (m : ByteArray) (t : Int) (k : Nat) : zlst D us n m t (k + 1) = zlst D us n m t k ++ (if zsel D us n m t k then [(D.zs k).nm.data.toList] else []) := by
  unfold zlst
  rw [List.range_succ, List.filter_append, List.map_append]
  congr 1
  by_cases h : zsel D us n m t k = true
  · rw [if_pos h]; simp [h]
  · rw [if_neg h]; simp [h]
theorem zlst_len (D : Dt) (us : Nat → Us) (n : Nat) (m : ByteArray) (t : Int) (k : Nat) : (zlst D us n m t k).length ≤ k := by
  unfold zlst
  rw [List.length_map]
  have := List.length_filter_le (zsel D us n m t) (List.range k)
  simpa using this
/-- what uses.Zones answers -/
def uznE (D : Dt) (n : Nat) (us : Nat → Us) (m : ByteArray) (t : Int) : Int := if ucat D n us t = 0 then (if nameB m = true then 0 else 5) else ucat D n us t
def uznL (D : Dt) (n : Nat) (us : Nat → Us) (m : ByteArray) (t : Int) : List (List UInt8) := if uznE D n us m t = 0 then srt (zlst D us n m t D.nz) else []
def uznP (l : List (List UInt8)) (E : Int) (w : World) (e : Ending) (w' : World) : Prop := ∃ a c, e = .returned (.tuple #[.slice a l.length c, .int .i64 E]) ∧ l.length ≤ c ∧ TX w' a l ∧ Below w.heap.size w w'
set_option maxRecDepth 100000 in
set_option maxHeartbeats 8000000 in
theorem Zones_c (D : Dt) (a : Option Addr) (n c : Nat) (us : Nat → Us) (m : ByteArray) (t : Int) (w : World) (hE : UEnv w D a n c us) (hs : m.size ≤ maxLen) : Calls Tryz.prog 7 #[D.v, .slice a n c, .string m, .int .i64 t] w fun e w' => uznP (uznL D n us m t) (uznE D n us m t) w e w' := by
  obtain ⟨i0, hi, hz0, hz1, hz2⟩ := info_parts info_str
  have HE := hideH hE
  have hb := hideH ((Below.refl _ w).alloc (Nat.le_refl _) (.cells #[.slice D.sa D.ns D.sc, .slice D.za D.nz D.zc, .slice D.la D.nl D.lc] 26))
  have hbx := hideH (show (w.alloc (.cells #[.slice D.sa D.ns D.sc, .slice D.za D.nz D.zc, .slice D.la D.nl D.lc] 26)).heap[w.heap.size]? = some (.cells #[.slice D.sa D.ns D.sc, .slice D.za D.nz D.zc, .slice D.la D.nl D.lc] 26) from World.alloc_heap_new _ _)
  have HC : Hid (∀ v, Below w.heap.size w v → Calls Tryz.prog 15 #[D.v, .slice a n c, .int .i64 t] v fun e w' => e = .returned (.int .i64 (ucat D n us t)) ∧ Below v.heap.size v w') := fun v hv => checkAt_c D a n c us t v (HE.out.on hv)
  have HN : Hid (∀ v, Calls Tryz.prog 18 #[.string m] v fun e w' => e = .returned (.bool (nameB m)) ∧ w' = v) := fun v => Name_c m v hs
  obtain ⟨R, hR⟩ : ∃ R, R = uznL D n us m t := ⟨_, rfl⟩
  obtain ⟨E, hEE⟩ : ∃ E, E = uznE D n us m t := ⟨_, rfl⟩
  rw [← hR, ← hEE]
  have HR := hideH hR
  have HEE := hideH hEE
  clear hR hEE hE
  go_enter Tryz.func7, Tryz.ntmps7
  go_wp2_with fail
  refine (HC.out _ hb.out).mono ?_
  rintro e w1 ⟨rfl, hw1⟩
  have H1 := hideH (bthen hb.out hw1)
  have B1 := hideH (heap_on hbx.out hw1)
  clear hw1 HC hb hbx
  rcases beq_cases (ucat D n us t) 0 with ⟨q1, q2⟩ | ⟨q1, q2⟩
  · have hok := uchk_ok (ucat_ok q2).1
    have hn10 := hok.2.1
    have hz5 : D.nz ≤ 5 := (chk_parts hok.1).1.2.1
    have HQ := hideH q2
    rw [q2]
    clear q1 q2 hok
    go_wp2_with fail
    cases hm : nameB m
    · rw [hm] at HN
      have e1 : E = 5 := by rw [HEE.out]; unfold uznE; rw [if_pos HQ.out, if_neg (by rw [hm]; decide)]
      have e2 : R = [] := by rw [HR.out]; unfold uznL; rw [← HEE.out, e1, if_neg (by decide)]
      have HX1 := hideH e1
      have HX2 := hideH e2
      clear e1 e2 hm
      refine (HN.out _).mono ?_
      rintro e w1 ⟨rfl, rfl⟩
      go_wp2_with fail
      go_ret2
      unfold uznP
      exact ⟨none, 0, by rw [HX1.out, HX2.out] <;> rfl, by rw [HX2.out]; exact Nat.le_refl _, .inl (by rw [HX2.out]; rfl), H1.out⟩
    · rw [hm] at HN
      have e1 : E = 0 := by rw [HEE.out]; unfold uznE; rw [if_pos HQ.out, if_pos hm]
      have e2 : R = srt (zlst D us n m t D.nz) := by rw [HR.out]; unfold uznL; rw [← HEE.out, e1, if_pos rfl]
      have HX1 := hideH e1
      have HX2 := hideH e2
      have HM : Hid (∀ j v, Below w.heap.size w v → Calls Tryz.prog 17 #[.slice a n c, .string (D.zs j).nm, .int .i64 t] v fun e w' => e = .returned (.string (metR us n (D.zs j).nm t)) ∧ Below v.heap.size v w') := fun j v hv => metaOf_c a n c us (D.zs j).nm t v hn10 (HE.out.on hv).at_
      clear e1 e2 hm
      refine (HN.out _).mono ?_
      rintro e w1 ⟨rfl, rfl⟩
      obtain ⟨c0, c1, c2⟩ := cells3 B1.out
      go_wp2_with fail
      clear c0 c1 c2
      go_loopw [11, 27] (fun x11 x27 v => ∃ k : Nat, k ≤ D.nz ∧ x27 = .int .i64 k ∧ Hid (v.ownsRow (w.heap.size + 1) 9 1 x11 (zlst D us n m t k).length ((zlst D us n m t k).map encStr)) ∧ Hid (Below w.heap.size w v) ∧ Hid (w.heap.size < v.heap.size)) (fun _ x27 _ => D.nz - (intOf x27).toNat)
      case atStart => exact ⟨0, Nat.zero_le _, rfl, World.ownsRow_nil _ _ _ _, H1, (Array.getElem?_eq_some_iff.1 B1.out).1⟩
      case round =>
        obtain ⟨k, hk, rfl, Q, HW, HS⟩ := hrel
        by_cases hlt : k < D.nz
        · rcases (HE.out.on HW.out).env.dat.zones with h0 | ⟨b, off, hsa, hcs⟩
          · omega
          obtain ⟨d0, d1⟩ := hcs k hlt
          clear hcs
          have hbz := hideH ((Below.refl _ wr).alloc (Nat.le_refl _) (.cells #[.string (D.zs k).nm, .slice (D.zs k).a (D.zs k).n (D.zs k).c] 41))
          have hzx := hideH (World.alloc_heap_new wr (.cells #[.string (D.zs k).nm, .slice (D.zs k).a (D.zs k).n (D.zs k).c] 41))
          have HM1 := hideH (HM.out k)
          have hl5 := zlst_len D us n m t k
          cases hq : zsel D us n m t k
          · have hqs : ((metR us n (D.zs k).nm t).toList == m.toList) = false := hq
            have HZ : Hid (zlst D us n m t (k + 1) = zlst D us n m t k) := by show _ = _; rw [zlst_succ, if_neg (by rw [hq]; decide), List.append_nil]
            generalize metR us n (D.zs k).nm t = mm at HM1 hqs
            clear hq
            go_wp2_with fail
            refine (HM1.out _ (bthen HW.out hbz.out)).mono ?_
            rintro e w2 ⟨rfl, hw2⟩
            have H2 := hideH (bthen (bthen HW.out hbz.out) hw2)
            have Q2 := hideH (own_on (own_on Q.out hbz.out) hw2)
            have S2 : Hid (w.heap.size < w2.heap.size) := by
              have h1 := hw2.size
              have h2 := hbz.out.size
              have h3 := HS.out
              show _ < _
              omega
            clear hw2
            go_wp2_with fail
            try simp only [← hsa]
            go_roundw
            case rel => exact ⟨k + 1, by omega, by go_num, by rw [HZ.out]; exact Q2, H2, S2⟩
            case measure => simp [intOf]; omega
          · have hqs : ((metR us n (D.zs k).nm t).toList == m.toList) = true := hq
            have HZ : Hid (zlst D us n m t (k + 1) = zlst D us n m t k ++ [(D.zs k).nm.data.toList]) := by show _ = _; rw [zlst_succ, if_pos hq]
            generalize metR us n (D.zs k).nm t = mm at HM1 hqs
            clear hq
            go_wp2_with fail
            refine (HM1.out _ (bthen HW.out hbz.out)).mono ?_
            rintro e w2 ⟨rfl, hw2⟩
            have H2 := hideH (bthen (bthen HW.out hbz.out) hw2)
            have Q2 := hideH (own_on (own_on Q.out hbz.out) hw2)
            have z0 : w2.cell? ⟨wr.heap.size, 0, none⟩ = some (.string (D.zs k).nm) := by
              have := heap_on hzx.out hw2
              simp [World.cell?, this]
            have S2 : w.heap.size < w2.heap.size := by
              have h1 := hw2.size
              have h2 := hbz.out.size
              have h3 := HS.out
              omega
            clear hw2
            go_wp2_with (at_builtin; refine wpList_append_lies _ rfl _ _ 31 rfl (w.heap.size + 1) 9 i0 (.string ⟨#[]⟩) 1 16 Tryz.underlying31 hi hz0 hz1 hz2 rfl (by decide) _ _ _ rfl (Q2.out.alloc _) ⟨w2.heap.size, 0, none⟩ 1 1 [.string (D.zs k).nm] rfl rfl (cell_one_new _ _ _) (by simp [Value.oneCell']) (by decide) (by unfold maxLen; omega) (by omega) (by simp; omega) _ rfl ?_; intro g4 q4 w3 hown hgrow hat hl1)
            have H3 := hideH (below_grown (H2.out.alloc (by omega) _) (Q2.out.alloc _) hgrow)
            have S3 : Hid (w.heap.size < w3.heap.size) := by
              have h1 := hgrow.size
              have h2 : w2.heap.size ≤ (w2.alloc (.cells #[.string (D.zs k).nm] 9)).heap.size := by simp
              show _ < _
              omega
            have Q3 : Hid (w3.ownsRow (w.heap.size + 1) 9 1 (.slice (some ⟨g4, 0, none⟩) ((zlst D us n m t k).length + 1) q4) (zlst D us n m t (k + 1)).length ((zlst D us n m t (k + 1)).map encStr)) := by
              show World.ownsRow _ _ _ _ _ _ _
              rw [HZ.out, List.map_append, List.length_append]
              have e := enc_nm (D.zs k).nm
              simp only [List.map_cons, List.map_nil, e, List.length_singleton]
              exact hown
            clear hown hgrow hat
            try simp only [← hsa]
            go_roundw
            case rel => exact ⟨k + 1, by omega, by go_num, Q3, H3, S3⟩
            case measure => simp [intOf]; omega
        · obtain rfl : k = D.nz := by omega
          have hl5 := zlst_len D us n m t D.nz
          have hSo := SortS_c _ (zlst D us n m t D.nz) (w.heap.size + 1) wr Q.out (by omega)
          have HSo := hideH hSo
          clear hSo
          go_wp2_with fail
          refine HSo.out.mono ?_
          rintro e w2 ⟨rfl, hown, hgrow⟩
          have H2 := hideH (below_grown HW.out Q.out hgrow)
          obtain ⟨a2, c2, hv, hc2, htx⟩ := TX_own (l := srt (zlst D us n m t D.nz)) (List.length_mergeSort _).symm hown
          subst hv
          have HTX := hideH htx
          have HC2 := hideH hc2
          clear hown hgrow htx hc2 HSo Q
          go_wp2_with fail
          go_ret2
          unfold uznP
          exact ⟨a2, c2, by rw [HX1.out, HX2.out, show (srt (zlst D us n m t D.nz)).length = (zlst D us n m t D.nz).length from List.length_mergeSort _] <;> rfl, by rw [HX2.out]; exact HC2.out, by rw [HX2.out]; exact HTX.out, H2.out⟩
  · have e1 : E = ucat D n us t := by rw [HEE.out]; unfold uznE; rw [if_neg q2]
    have e2 : R = [] := by rw [HR.out]; unfold uznL; rw [← HEE.out, e1, if_neg q2]
    have HX1 := hideH e1
    have HX2 := hideH e2
    have hne : (ucat D n us t != 0) = true := by rw [bne_iff_ne]; exact q2
    clear q1 q2 e1 e2
    go_wp2_with fail
    go_ret2
    unfold uznP
    exact ⟨none, 0, by rw [HX1.out, HX2.out] <;> rfl, by rw [HX2.out]; exact Nat.le_refl _, .inl (by rw [HX2.out]; rfl), H1.out⟩
end Go.Proofs.YtainhpnmgligjaeGreatDoor

/- The document's own SameTexts; uses that the statements call. -/
namespace Go.Proofs.YtainhpnmgligjaeGreatDoor
open Go Go.RowKit Go.Maps
set_option linter.unusedVariables false

theorem sT_ne {l1 l2 : List (List UInt8)} {k : Nat} (h1 : k < l1.length) (h2 : k < l2.length) (h : l1[k]?.getD [] ≠ l2[k]?.getD []) : l1 ≠ l2 := fun e => h (by rw [e])
theorem sT_eq {l1 l2 : List (List UInt8)} (hl : l1.length = l2.length) (h : ∀ k, k < l1.length → l1[k]?.getD [] = l2[k]?.getD []) : l1 = l2 := by
  apply List.ext_getElem?
  intro i
  by_cases hi : i < l1.length
  · have := h i hi
    simpa [hi, show i < l2.length by omega] using this
  · rw [List.getElem?_eq_none (by omega), List.getElem?_eq_none (by omega)]
theorem enc_l (l : List UInt8) : (⟨l.toArray⟩ : ByteArray).toList = l := by rw [ByteArray.toList_eq]
set_option maxHeartbeats 4000000 in
theorem SameTexts_c (a1 a2 : Option Addr) (c1 c2 : Nat) (l1 l2 : List (List UInt8)) (w : World) (h1 : TX w a1 l1) (h2 : TX w a2 l2) (n1 : l1.length ≤ 1000) (n2 : l2.length ≤ 1000) : Calls Tryz.prog 13 #[.slice a1 l1.length c1, .slice a2 l2.length c2] w fun e w' => e = .returned (.bool (decide (l1 = l2))) ∧ Below w.heap.size w w' := by
  have HA := hideH h1
  have HB := hideH h2
  clear h1 h2
  generalize hV : decide (l1 = l2) = V
  have HV := hideH hV
  clear hV
  by_cases hl : l1.length = l2.length
  · obtain ⟨N, hN⟩ : ∃ N, N = l1.length := ⟨_, rfl⟩
    have hN2 : N = l2.length := by omega
    have hA : Hid (P1 w a1 N (fun j => encStr (l1[j]?.getD []))) := by rw [hN]; exact HA
    have hB : Hid (P1 w a2 N (fun j => encStr (l2[j]?.getD []))) := by rw [hN2]; exact HB
    rw [← hN, ← hN2]
    have hN3 : N ≤ 1000 := by omega
    have HN := hideH hN
    have HL := hideH hl
    clear HA HB hN hN2 n1 n2 hl
    go_enter Tryz.func13, Tryz.ntmps13
    go_wp2_with fail
    go_loopw [5] (fun x5 v => ∃ k : Nat, k ≤ N ∧ x5 = .int .i64 k ∧ Hid (∀ i, i < k → l1[i]?.getD [] = l2[i]?.getD []) ∧ Hid (Below w.heap.size w v)) (fun x5 _ => N - (intOf x5).toNat)
    case atStart => exact ⟨0, Nat.zero_le _, rfl, fun i hi => by omega, Below.refl _ _⟩
    case round =>
      obtain ⟨k, hk, rfl, HE, HW⟩ := hrel
      by_cases hlt : k < N
      · rcases hA.out.on HW.out with h0 | ⟨b, off, hsa, hcs⟩
        · omega
        rcases hB.out.on HW.out with h0 | ⟨b2, off2, hsb, hcs2⟩
        · omega
        have d1 : wr.cell? ⟨b, off + k, none⟩ = some (.string ⟨(l1[k]?.getD []).toArray⟩) := hcs k hlt
        have d2 : wr.cell? ⟨b2, off2 + k, none⟩ = some (.string ⟨(l2[k]?.getD []).toArray⟩) := hcs2 k (by omega)
        have hk0 : decide ((k : Int) < 0) = false := by simp
        have hkn : decide (N ≤ k) = false := by simp; omega
        have hki : (k : Int) < (N : Int) := by omega
        clear hcs hcs2
        by_cases hq : l1[k]?.getD [] = l2[k]?.getD []
        · have HE2 : Hid (∀ i, i < k + 1 → l1[i]?.getD [] = l2[i]?.getD []) := fun i hi => by
            rcases Nat.lt_or_ge i k with h | h
            · exact HE.out i h
            · obtain rfl : i = k := by omega
              exact hq
          rw [← hq] at d2
          generalize l1[k]?.getD [] = y at d1 d2
          clear hq
          go_wp2_with fail
          go_quiet (fail)
          go_wp2_with fail
          try simp only [← hsa, ← hsb]
          go_roundw
          case rel => exact ⟨k + 1, by omega, by go_num, HE2, below_drewN HW.out _⟩
          case measure => simp [intOf]; omega
        · have HX : Hid (V = false) := by
            show V = false
            rw [← HV.out]
            exact decide_eq_false (sT_ne (by have := HN.out; omega) (by have := HN.out; have := HL.out; omega) hq)
          have hqb : ((⟨(l1[k]?.getD []).toArray⟩ : ByteArray).toList == (⟨(l2[k]?.getD []).toArray⟩ : ByteArray).toList) = false := by
            rw [enc_l, enc_l]; exact beq_eq_false_iff_ne.2 hq
          have hqc : (l1[k]?.getD [] == l2[k]?.getD []) = false := beq_eq_false_iff_ne.2 hq
          generalize l1[k]?.getD [] = y at d1 hqb hqc
          generalize l2[k]?.getD [] = z at d2 hqb hqc
          clear hq
          go_wp2_with fail
          go_quiet (fail)
          go_wp2_with fail
          go_ret
          exact ⟨ret_bool HX.out.symm, below_drewN HW.out _⟩
      · have HX : Hid (V = true) := by
          show V = true
          rw [← HV.out]
          exact decide_eq_true (sT_eq HL.out (fun i hi => HE.out i (by have := HN.out; omega)))
        go_wp2_with fail
        go_ret
        exact ⟨ret_bool HX.out.symm, HW.out⟩
  · have HX : Hid (V = false) := by
      show V = false
      rw [← HV.out]
      exact decide_eq_false (fun e => hl (by rw [e]))
    have hli : ¬ ((l1.length : Int) = (l2.length : Int)) := by omega
    have hlb : ((l1.length : Int) == (l2.length : Int)) = false := beq_eq_false_iff_ne.2 hli
    go_enter Tryz.func13, Tryz.ntmps13
    go_wp2_with fail
    go_ret
    exact ⟨ret_bool HX.out.symm, Below.refl _ _⟩
end Go.Proofs.YtainhpnmgligjaeGreatDoor
