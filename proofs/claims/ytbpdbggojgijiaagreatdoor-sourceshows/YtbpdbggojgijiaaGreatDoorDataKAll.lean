/- The contract of data.check. -/
import Derived.Test.YtbpdbggojgijiaaGreatDoorDataDAll
import Derived.Defers
import Derived.Recover
import Derived.Laws.Pointers
import Derived.Deep.RegionWith
namespace Go.Proofs.YtbpdbggojgijiaaGreatDoor
open Go Go.RowKit Go.Maps
set_option linter.unusedVariables false

structure Env (w : World) (D : Dt) : Prop where
  laid : Laid w
  mx : Mx w
  dat : DAt w D
theorem Env.on {w w' : World} {D : Dt} (h : Env w D) (hb : Below w.heap.size w w') : Env w' D := ⟨h.laid.on hb, h.mx.on hb, h.dat.on hb⟩
/-- three cells of a block -/
theorem cells3 {w : World} {b : Nat} {x y z : Value} {t : TypeId} (h : w.heap[b]? = some (.cells #[x, y, z] t)) : w.cell? ⟨b, 0, none⟩ = some x ∧ w.cell? ⟨b, 1, none⟩ = some y ∧ w.cell? ⟨b, 2, none⟩ = some z := by
  refine ⟨?_, ?_, ?_⟩ <;> simp [World.cell?, h]
theorem heap_on {w w' : World} {b : Nat} {o : Obj} (h : w.heap[b]? = some o) (hb : Below w.heap.size w w') : w'.heap[b]? = some o := (hb.block b (Array.getElem?_eq_some_iff.1 h).1).trans h
theorem own_p1' {w : World} {base n : Nat} {e : TypeId} {v : Value} {f : Nat → Value} (h : w.ownsRow base e 1 v n ((List.range n).map f)) : ∃ a c, v = .slice a n c ∧ P1 w a n f ∧ (a = none → n = 0 ∧ c = 0) := by
  rcases h.2 with ⟨rfl, rfl⟩ | ⟨g, cap, cur, rfl, hb, hg, hn, hm, hs, ht⟩
  · exact ⟨none, 0, rfl, .inl rfl, fun _ => ⟨rfl, rfl⟩⟩
  · refine ⟨some ⟨g, 0, none⟩, cap, rfl, .inr ⟨g, 0, rfl, fun j hj => ?_⟩, fun h => by cases h⟩
    have h2 := h.cellAt j (by omega)
    rw [Nat.zero_add, h2]
    simp [hj]
theorem list_range {α β : Type} (l : List α) (g : α → β) (d : α) : l.map g = (List.range l.length).map fun j => g (l[j]?.getD d) := by
  apply List.ext_getElem
  · simp
  · intro i h1 h2
    simp at h1
    simp [h1]

def n4 (D : Dt) (i : Nat) : Nat := if i = 0 then D.ns else if i = 1 then D.nz else D.nl
def f4 (D : Dt) (i j : Nat) : ByteArray := if i = 0 then (D.ss j).nm else if i = 1 then (D.zs j).nm else if i = 2 then (D.ls j).nm else (D.ls j).tgt
def n2 (D : Dt) (i : Nat) : Nat := if i = 0 then D.nz else D.nl
def f2 (D : Dt) (i j : Nat) : ByteArray := if i = 0 then (D.zs j).nm else (D.ls j).nm
/-- all names -/
def allN (D : Dt) : List ByteArray := catL (n4 D) (f4 D) 4
abbrev namesOK (D : Dt) : Prop := ∀ s ∈ allN D, nameB s = true
theorem two_eq (D : Dt) : catL (n2 D) (f2 D) 2 = (List.range (D.nz + D.nl)).map (nms D) := by
  have h : catL (n2 D) (f2 D) 2 = (List.range D.nz).map (f2 D 0) ++ (List.range D.nl).map (f2 D 1) := by simp [catL, n2]
  rw [h, List.range_add, List.map_append, List.map_map]
  congr 1
  · apply List.map_congr_left
    intro j hj
    have := List.mem_range.1 hj
    simp [f2, nms, this]
  · apply List.map_congr_left
    intro j hj
    simp [f2, nms]
    intro h
    omega
/-- what data.Check answers -/
def chkE (D : Dt) : Int :=
  if few D = true then
    if namesOK D then
      if dist (fun j => (D.ss j).nm) D.ns then
        if dist (nms D) (D.nz + D.nl) then
          if rulE D = 0 then
            if ersOK D then
              if fmts D then
                if lnk1 D then lnk2 D else 4
              else 1
            else 3
          else rulE D
        else 6
      else 6
    else 5
  else 2
theorem catL_mem {pn : Nat → Nat} {pf : Nat → Nat → ByteArray} {s : ByteArray} : ∀ {k : Nat}, s ∈ catL pn pf k → ∃ i, i < k ∧ ∃ j, j < pn i ∧ pf i j = s
  | 0, h => by simp [catL] at h
  | k + 1, h => by
    unfold catL at h
    rcases List.mem_append.1 h with h | h
    · obtain ⟨i, hi, r⟩ := catL_mem h
      exact ⟨i, by omega, r⟩
    · obtain ⟨j, hj, e⟩ := List.mem_map.1 h
      exact ⟨k, by omega, j, List.mem_range.1 hj, e⟩
theorem allN_size {D : Dt} (hF : D.fits) {s : ByteArray} (h : s ∈ allN D) : s.size ≤ maxLen := by
  obtain ⟨i, hi, j, hj, e⟩ := catL_mem h
  subst e
  have h : i = 0 ∨ i = 1 ∨ i = 2 ∨ i = 3 := by omega
  rcases h with rfl | rfl | rfl | rfl
  · exact hF.snm j hj
  · exact hF.znm j hj
  · exact hF.lnm j hj
  · exact hF.lto j hj
abbrev pan (e : Int) : Ending := .panicked [{ v := errV e, recovered := false }]

set_option maxRecDepth 100000 in
set_option maxHeartbeats 4000000 in
theorem check_c (D : Dt) (w : World) (hE : Env w D) (hF : D.fits) :
    Calls Tryz.prog 33 #[D.v] w fun e w' => Below w.heap.size w w' ∧ ((chkE D = 0 ∧ few1 D ∧ dist (nms D) (D.nz + D.nl) ∧ ∃ B, e = .returned (.map (some B)) ∧ MAt w' B (nms D) (D.nz + D.nl)) ∨ (chkE D ≠ 0 ∧ e = pan (chkE D))) := by
  generalize hV : chkE D = V
  have HV := hideH hV
  have HF := hideH hF
  clear hV
  have hb0 := hideH ((Below.refl _ w).alloc (Nat.le_refl _) (.cells #[.slice D.sa D.ns D.sc, .slice D.za D.nz D.zc, .slice D.la D.nl D.lc] 26))
  have E0 := hideH (hE.on hb0.out)
  have C0 : Hid ((w.alloc (.cells #[.slice D.sa D.ns D.sc, .slice D.za D.nz D.zc, .slice D.la D.nl D.lc] 26)).heap[w.heap.size]? = some (.cells #[.slice D.sa D.ns D.sc, .slice D.za D.nz D.zc, .slice D.la D.nl D.lc] 26)) := World.alloc_heap_new _ _
  clear hE hF
  go_enter Tryz.func33, Tryz.ntmps33
  go_wp2_with fail
  refine (refuseMany_c D _ E0.out.dat HF.out).mono ?_
  rintro e w1 ⟨he, hw⟩
  have B1 := hideH (bthen hb0.out hw)
  have E1 := hideH (E0.out.on hw)
  have C1 := hideH (heap_on C0.out hw)
  clear hw hb0 E0 C0
  cases hfew : few D
  · rw [hfew, if_neg (by simp), left_no (by decide)] at he
    subst he
    have HX : Hid (V = 2) := by show V = _; rw [← HV.out]; unfold chkE; rw [if_neg (by simp [hfew])]
    clear hfew
    go_wp2_with fail
    exact ⟨rfl, B1.out, .inr ⟨by rw [HX.out]; decide, by rw [HX.out]⟩⟩
  rw [hfew, if_pos rfl, left_ok] at he
  subst he
  have FW := hideH (few_all hfew)
  obtain ⟨b1, b2, b3⟩ := FW.out.1
  obtain ⟨c0, c1, c2⟩ := cells3 C1.out
  go_wp2_with fail
  clear c0 c1 c2
  refine (namesS_c D.sa D.ns D.sc D.ss _ (by omega) E1.out.dat.sets).mono ?_
  rintro e w2 ⟨vs, rfl, ho, hw⟩
  obtain ⟨a3, c3', rfl, hps, hzs⟩ := own_p1' ho
  have P3 := hideH hps
  have Z3 := hideH hzs
  have B2 := hideH (bthen B1.out hw)
  have E2 := hideH (E1.out.on hw)
  have C2 := hideH (heap_on C1.out hw)
  clear hw B1 E1 C1
  clear ho hps hzs
  obtain ⟨d0, d1, d2⟩ := cells3 C2.out
  go_wp2_with fail
  clear d0 d1 d2
  refine (namesZ_c D.za D.nz D.zc D.zs _ (by omega) E2.out.dat.zones).mono ?_
  rintro e w3 ⟨v, rfl, ho, hw⟩
  obtain ⟨a4, c4', rfl, hps, hzs⟩ := own_p1' ho
  have P4 := hideH hps
  have Z4 := hideH hzs
  have B3 := hideH (bthen B2.out hw)
  have E3 := hideH (E2.out.on hw)
  have C3 := hideH (heap_on C2.out hw)
  replace P3 := hideH (P3.out.on hw)
  clear hw B2 E2 C2
  clear ho hps hzs
  obtain ⟨d0, d1, d2⟩ := cells3 C3.out
  go_wp2_with fail
  clear d0 d1 d2
  refine (namesL_c D.la D.nl D.lc D.ls _ (by omega) E3.out.dat.links).mono ?_
  rintro e w4 ⟨v, rfl, ho, hw⟩
  obtain ⟨a5, c5', rfl, hps, hzs⟩ := own_p1' ho
  have P5 := hideH hps
  have Z5 := hideH hzs
  have B4 := hideH (bthen B3.out hw)
  have E4 := hideH (E3.out.on hw)
  have C4 := hideH (heap_on C3.out hw)
  replace P3 := hideH (P3.out.on hw)
  replace P4 := hideH (P4.out.on hw)
  clear hw B3 E3 C3
  clear ho hps hzs
  obtain ⟨d0, d1, d2⟩ := cells3 C4.out
  go_wp2_with fail
  clear d0 d1 d2
  refine (namesT_c D.la D.nl D.lc D.ls _ (by omega) E4.out.dat.links).mono ?_
  rintro e w5 ⟨v, rfl, ho, hw⟩
  obtain ⟨a6, c6', rfl, hps, hzs⟩ := own_p1' ho
  have P6 := hideH hps
  have Z6 := hideH hzs
  have B5 := hideH (bthen B4.out hw)
  have E5 := hideH (E4.out.on hw)
  have C5 := hideH (heap_on C4.out hw)
  replace P3 := hideH (P3.out.on hw)
  replace P4 := hideH (P4.out.on hw)
  replace P5 := hideH (P5.out.on hw)
  clear hw B4 E4 C4
  clear ho hps hzs
  have hb4 := hideH ((Below.refl _ w5).alloc (Nat.le_refl _) (.cells #[.slice a3 D.ns c3', .slice a4 D.nz c4', .slice a5 D.nl c5', .slice a6 D.nl c6'] 57))
  have hcc := hideH (Concat_c w5.heap.size 4 (fun i => if i = 0 then a3 else if i = 1 then a4 else if i = 2 then a5 else a6) (n4 D) (fun i => if i = 0 then c3' else if i = 1 then c4' else if i = 2 then c5' else c6') (f4 D) (w5.alloc (.cells #[.slice a3 D.ns c3', .slice a4 D.nz c4', .slice a5 D.nl c5', .slice a6 D.nl c6'] 57)) (by omega)
    (fun i hi => by
      have h : i = 0 ∨ i = 1 ∨ i = 2 ∨ i = 3 := by omega
      rcases h with rfl | rfl | rfl | rfl <;> simp [n4])
    (fun i hi => by
      have h : i = 0 ∨ i = 1 ∨ i = 2 ∨ i = 3 := by omega
      rcases h with rfl | rfl | rfl | rfl
      · exact P3.out.on hb4.out
      · exact P4.out.on hb4.out
      · exact P5.out.on hb4.out
      · exact P6.out.on hb4.out)
    (fun i hi => by unfold n4; split <;> (try split) <;> omega)
    (fun i hi => by
      have h : i = 0 ∨ i = 1 ∨ i = 2 ∨ i = 3 := by omega
      rcases h with rfl | rfl | rfl | rfl
      · exact Z3.out
      · exact Z4.out
      · exact Z5.out
      · exact Z6.out))
  go_wp2_with fail
  refine hcc.out.mono ?_
  rintro e w6 ⟨v, rfl, ho, hw0⟩
  have hw := bthen hb4.out hw0
  have hlen : (allN D).length ≤ 4 * 100 := catL_le (n4 D) (f4 D) 4 (fun i hi => by unfold n4; split <;> (try split) <;> omega) 4 (by omega)
  have ho2 : w6.ownsRow (w5.alloc (.cells #[.slice a3 D.ns c3', .slice a4 D.nz c4', .slice a5 D.nl c5', .slice a6 D.nl c6'] 57)).heap.size 9 1 v (allN D).length ((List.range (allN D).length).map fun j => .string ((allN D)[j]?.getD ⟨#[]⟩)) := by
    rw [← list_range (allN D) Value.string ⟨#[]⟩]; exact ho
  clear ho hcc hw0 hb4
  obtain ⟨a7, c7', rfl, hps, _⟩ := own_p1' ho2
  have P7 := hideH hps
  clear ho2 hps
  have B6 := hideH (bthen B5.out hw)
  have E6 := hideH (E5.out.on hw)
  have C6 := hideH (heap_on C5.out hw)
  replace P3 := hideH (P3.out.on hw)
  replace P4 := hideH (P4.out.on hw)
  replace P5 := hideH (P5.out.on hw)
  clear hw B5 E5 C5
  clear P6 Z6 Z3
  obtain ⟨L, hL⟩ : ∃ L, L = allN D := ⟨_, rfl⟩
  rw [← hL] at P7 hlen
  simp only [← hL]
  have HL := hideH hL
  have HSZ : Hid (∀ s, s ∈ L → s.size ≤ maxLen) := fun s hs => allN_size HF.out (hL ▸ hs)
  clear hL
  have HNN : Hid (namesOK D ↔ ∀ s ∈ L, nameB s = true) := by rw [HL.out]; exact Iff.rfl
  go_wp2_with fail
  go_loop [31] (fun x31 => ∃ k : Nat, k ≤ L.length ∧ x31 = .int .i64 k ∧ Hid (∀ i, i < k → nameB (L[i]?.getD ⟨#[]⟩) = true)) (fun x31 => L.length - (intOf x31).toNat)
  case atStart => exact ⟨0, Nat.zero_le _, rfl, fun i hi => by omega⟩
  case round =>
    obtain ⟨k, hk, rfl, HA⟩ := hrel
    by_cases hlt : k < L.length
    · rcases P7.out with h0 | ⟨b, off, hsa, hcs⟩
      · omega
      obtain ⟨s, hs⟩ : ∃ s, s = L[k]?.getD ⟨#[]⟩ := ⟨_, rfl⟩
      have c0 : w6.cell? ⟨b, off + k, none⟩ = some (.string s) := by rw [hs]; exact hcs k hlt
      clear hcs
      have HSK := hideH hs.symm
      have HME : Hid (s ∈ L) := by show s ∈ L; rw [hs, List.getElem?_eq_getElem hlt]; exact List.getElem_mem hlt
      have hsz := HSZ.out _ HME.out
      clear hs
      cases hq : nameB s
      · have HX : Hid (V = 5) := by
          show V = _
          rw [← HV.out]; unfold chkE
          rw [if_pos hfew, if_neg (fun h => by have := HNN.out.1 h s HME.out; rw [hq] at this; cases this)]
        go_wp2_with (first
          | (go_at_call 59; refine (Name_c _ _ hsz).mono ?_; rintro e w6 ⟨rfl, rfl⟩)
          | (go_at_call 58; refine (refuse_t (by first | rfl | simp [hq]) _ _).mono ?_; rintro e w6 ⟨rfl, rfl⟩))
        exact ⟨rfl, B6.out, .inr ⟨by rw [HX.out]; decide, by rw [HX.out]⟩⟩
      · have HA2 : Hid (∀ i, i < k + 1 → nameB (L[i]?.getD ⟨#[]⟩) = true) := fun i hi => by
          rcases Nat.lt_or_ge i k with h | h
          · exact HA.out i h
          · obtain rfl : i = k := by omega
            rw [HSK.out]; exact hq
        go_wp2_with (first
          | (go_at_call 59; refine (Name_c _ _ hsz).mono ?_; rintro e w6 ⟨rfl, rfl⟩)
          | (go_at_call 58; refine (refuse_f (by first | rfl | simp [hq]) _ _).mono ?_; rintro e w6 ⟨rfl, rfl⟩))
        simp only [← hsa]
        go_round
        case rel => exact ⟨k + 1, by omega, by go_num, HA2⟩
        case measure => simp [intOf]; omega
    · have HN : Hid (namesOK D) := HNN.out.2 fun s hs => by
        obtain ⟨i, hi, e⟩ := List.getElem_of_mem hs
        have := HA.out i (by omega)
        rw [List.getElem?_eq_getElem hi, e] at this
        exact this
      clear HA HNN HSZ HL
      go_wp2_with fail
      have zs3 : Hid (∀ j, j < D.ns → (D.ss j).nm.size ≤ maxLen) := HF.out.snm
      refine (places_c a3 D.ns c3' (fun j => (D.ss j).nm) _ (by omega) zs3.out P3.out).mono ?_
      rintro e w7 ⟨hw, hor⟩
      have B7 := hideH (bthen B6.out hw)
      have E7 := hideH (E6.out.on hw)
      have C7 := hideH (heap_on C6.out hw)
      replace P4 := hideH (P4.out.on hw)
      replace P5 := hideH (P5.out.on hw)
      clear hw B6 E6 C6 P3 P7
      rcases hor with ⟨hd, rfl, _⟩ | ⟨hd, rfl⟩
      case inr =>
        have HX : Hid (V = 6) := by
          show V = _
          rw [← HV.out]; unfold chkE
          rw [if_pos hfew, if_pos HN.out, if_neg hd]
        have hl6 : left 6 = pan 6 := left_no (by decide)
        rw [hl6]
        go_wp2_with fail
        exact ⟨rfl, B7.out, .inr ⟨by rw [HX.out]; decide, by rw [HX.out]⟩⟩
      have HD1 := hideH hd
      clear hd
      have hb4 := hideH ((Below.refl _ w7).alloc (Nat.le_refl _) (.cells #[.slice a4 D.nz c4', .slice a5 D.nl c5'] 57))
      have hcc := hideH (Concat_c w7.heap.size 2 (fun i => if i = 0 then a4 else a5) (n2 D) (fun i => if i = 0 then c4' else c5') (f2 D) (w7.alloc (.cells #[.slice a4 D.nz c4', .slice a5 D.nl c5'] 57)) (by omega)
        (fun i hi => by
          have h : i = 0 ∨ i = 1 := by omega
          rcases h with rfl | rfl <;> simp [n2])
        (fun i hi => by
          have h : i = 0 ∨ i = 1 := by omega
          rcases h with rfl | rfl
          · exact P4.out.on hb4.out
          · exact P5.out.on hb4.out)
        (fun i hi => by unfold n2; split <;> omega)
        (fun i hi => by
          have h : i = 0 ∨ i = 1 := by omega
          rcases h with rfl | rfl
          · exact Z4.out
          · exact Z5.out))
      go_wp2_with fail
      refine hcc.out.mono ?_
      rintro e w8 ⟨v, rfl, ho, hw0⟩
      have hw := bthen hb4.out hw0
      have ho2 : w8.ownsRow (w7.alloc (.cells #[.slice a4 D.nz c4', .slice a5 D.nl c5'] 57)).heap.size 9 1 v (D.nz + D.nl) ((List.range (D.nz + D.nl)).map fun j => .string (nms D j)) := by
        have h2 := two_eq D
        rw [h2] at ho
        simpa [List.map_map, Function.comp_def] using ho
      clear ho hcc hw0 hb4 Z4 Z5 P4 P5
      obtain ⟨a8, c8', rfl, hps, _⟩ := own_p1' ho2
      have P8 := hideH hps
      clear ho2 hps
      have B8 := hideH (bthen B7.out hw)
      have E8 := hideH (E7.out.on hw)
      have C8 := hideH (heap_on C7.out hw)
      clear hw B7 E7 C7
      have zs8 : Hid (∀ j, j < D.nz + D.nl → (nms D j).size ≤ maxLen) := fun j hj => by
        unfold nms
        split
        · rename_i h; exact HF.out.znm j h
        · rename_i h; exact HF.out.lnm _ (by omega)
      go_wp2_with fail
      refine (places_c a8 (D.nz + D.nl) c8' (nms D) _ (by omega) zs8.out P8.out).mono ?_
      rintro e w9 ⟨hw, hor⟩
      have B9 := hideH (bthen B8.out hw)
      have E9 := hideH (E8.out.on hw)
      have C9 := hideH (heap_on C8.out hw)
      clear hw B8 E8 C8 P8
      rcases hor with ⟨hd, rfl, hmt⟩ | ⟨hd, rfl⟩
      case inr =>
        have HX : Hid (V = 6) := by
          show V = _
          rw [← HV.out]; unfold chkE
          rw [if_pos hfew, if_pos HN.out, if_pos HD1.out, if_neg hd]
        have hl6 : left 6 = pan 6 := left_no (by decide)
        rw [hl6]
        go_wp2_with fail
        exact ⟨rfl, B9.out, .inr ⟨by rw [HX.out]; decide, by rw [HX.out]⟩⟩
      have HD2 := hideH hd
      have M9 := hideH hmt
      clear hd hmt
      generalize w8.heap.size = B at *
      have HCH : Hid (V = if rulE D = 0 then if ersOK D then if fmts D then if lnk1 D then lnk2 D else 4 else 1 else 3 else rulE D) := by
        show V = _
        rw [← HV.out]; unfold chkE
        rw [if_pos hfew, if_pos HN.out, if_pos HD1.out, if_pos HD2.out]
      clear HV HN HD1
      obtain ⟨d0, d1, d2⟩ := cells3 C9.out
      go_wp2_with fail
      clear d0 d1 d2
      refine (refuseRules_c D _ E9.out.laid E9.out.dat HF.out).mono ?_
      rintro e w10 ⟨he, hw⟩
      have B10 := hideH (bthen B9.out hw)
      have E10 := hideH (E9.out.on hw)
      have C10 := hideH (heap_on C9.out hw)
      have M10 := hideH (M9.out.on hw)
      clear hw B9 E9 C9 M9
      by_cases hr : rulE D = 0
      case neg =>
        rw [left_no hr] at he
        subst he
        have HX : Hid (V = rulE D) := by have := HCH.out; rw [if_neg hr] at this; exact this
        have HR := hideH hr
        clear hr HCH
        go_wp2_with fail
        exact ⟨rfl, B10.out, .inr ⟨by rw [HX.out]; exact HR.out, by rw [HX.out]⟩⟩
      rw [hr, left_ok] at he
      subst he
      replace HCH := hideH (HCH.out.trans (if_pos hr))
      clear hr
      obtain ⟨d0, d1, d2⟩ := cells3 C10.out
      go_wp2_with fail
      clear d0 d1 d2
      refine (refuseEras_c D _ E10.out.dat HF.out).mono ?_
      rintro e w11 ⟨he, hw⟩
      have B11 := hideH (bthen B10.out hw)
      have E11 := hideH (E10.out.on hw)
      have C11 := hideH (heap_on C10.out hw)
      have M11 := hideH (M10.out.on hw)
      clear hw B10 E10 C10 M10
      by_cases hr : ersOK D
      case neg =>
        rw [left_p hr (by decide)] at he
        subst he
        have HX : Hid (V = 3) := by have := HCH.out; rw [if_neg hr] at this; exact this
        clear hr HCH
        go_wp2_with fail
        exact ⟨rfl, B11.out, .inr ⟨by rw [HX.out]; decide, by rw [HX.out]⟩⟩
      rw [left_q hr] at he
      subst he
      replace HCH := hideH (HCH.out.trans (if_pos hr))
      clear hr
      obtain ⟨d0, d1, d2⟩ := cells3 C11.out
      go_wp2_with fail
      clear d0 d1 d2
      refine (refuseFormats_c D _ E11.out.dat HF.out E11.out.mx).mono ?_
      rintro e w12 ⟨he, hw⟩
      have B12 := hideH (bthen B11.out hw)
      have E12 := hideH (E11.out.on hw)
      have C12 := hideH (heap_on C11.out hw)
      have M12 := hideH (M11.out.on hw)
      clear hw B11 E11 C11 M11
      by_cases hr : fmts D
      case neg =>
        rw [left_p hr (by decide)] at he
        subst he
        have HX : Hid (V = 1) := by have := HCH.out; rw [if_neg hr] at this; exact this
        clear hr HCH
        go_wp2_with fail
        exact ⟨rfl, B12.out, .inr ⟨by rw [HX.out]; decide, by rw [HX.out]⟩⟩
      rw [left_q hr] at he
      subst he
      replace HCH := hideH (HCH.out.trans (if_pos hr))
      clear hr
      obtain ⟨d0, d1, d2⟩ := cells3 C12.out
      go_wp2_with fail
      clear d0 d1 d2
      refine (refuseLinks_c D B _ E12.out.dat HF.out FW.out.1 HD2.out M12.out).mono ?_
      rintro e w13 ⟨he, hw⟩
      have B13 := hideH (bthen B12.out hw)
      have M13 := hideH (M12.out.on hw)
      clear hw B12 E12 C12 M12
      rw [← HCH.out] at he
      by_cases hr : V = 0
      · rw [hr, left_ok] at he
        subst he
        have HR := hideH hr
        clear hr HCH
        go_wp2_with fail
        go_ret
        exact ⟨B13.out, .inl ⟨HR.out, FW.out.1, HD2.out, B, rfl, M13.out⟩⟩
      · rw [left_no hr] at he
        subst he
        have HR := hideH hr
        clear hr HCH
        go_wp2_with fail
        exact ⟨rfl, B13.out, .inr ⟨HR.out, rfl⟩⟩
end Go.Proofs.YtbpdbggojgijiaaGreatDoor

/- Contracts of package data: caught, which recovers. -/
namespace Go.Proofs.YtbpdbggojgijiaaGreatDoor
open Go Go.RowKit
set_option linter.unusedVariables false

theorem assert_err (e : Int) : ∀ w : World, (Instr.typeAssert (errV e) 20 27 false).run Tryz.prog w = .ok (.int .i64 e) w := by
  intro w
  kernel_rfl
set_option maxRecDepth 100000 in
theorem catch_p (b : Nat) (x e : Int) (older : List PanicEntry) (w : World) (hc : w.cell? ⟨b, 0, none⟩ = some (.int .i64 x)) (hz : w.frozen? ⟨b, 0, none⟩ = false) :
    CallsD Tryz.prog 48 #[.pointer (some ⟨b, 0, none⟩)] (.panicking ({ v := errV e, recovered := false } :: older)) w fun r u' w' =>
      r = .returned (.tuple #[]) ∧ u' = .panicking ({ v := errV e, recovered := true } :: older) ∧ w' = w.setCell ⟨b, 0, none⟩ (.int .i64 e) := by
  refine callsD_of_wpS Tryz.func48 rfl fun c₀ cs hu => ?_
  apply wpS_seq
  apply wpS_region
  simp [wpOpsS, go_sem, recoverD, hu, Tryz.ntmps48, Exit.thenS]
  refine wpS_of_wp ?_
  show Code.wp _ _ _ { tmps := #[.pointer (some ⟨b, 0, none⟩), errV e, errV e, undef, undef, undef, undef], defers := [] } w
  clear hu
  have hta := assert_err e
  go_wp2
  simp [bodyPostS, results, Tryz.results48]
theorem catch_i (b : Nat) (w : World) :
    CallsD Tryz.prog 48 #[.pointer (some ⟨b, 0, none⟩)] .returning w fun r u' w' => r = .returned (.tuple #[]) ∧ u' = .returning ∧ w' = w := by
  refine callsD_of_wpS Tryz.func48 rfl fun c₀ cs hu => ?_
  apply wpS_seq
  apply wpS_region
  simp [wpOpsS, go_sem, recoverD, hu, Tryz.ntmps48, Exit.thenS]
  refine wpS_of_wp ?_
  show Code.wp _ _ _ { tmps := #[.pointer (some ⟨b, 0, none⟩), .nilIface, .nilIface, undef, undef, undef, undef], defers := [] } w
  go_wp2
  cases c₀
  simp_all [bodyPostS, results, Tryz.results48]

/-- whatever is run: what it was left with is told; the variable for it lies behind all that was there -/
theorem caught_c (K : FuncId) (cap : Array Value) (E : Int) (R : World → Prop) (w : World) (he : ∀ w, (callFunc K cap).run Tryz.prog w = .ok (.enter K cap) w)
    (hR : ∀ w1, R w1 → Boxed w1 w.heap.size 27 (.int .i64 0))
    (hrun : Calls Tryz.prog K cap (w.alloc (.cells #[.int .i64 0] 27)) fun e w1 => e = left E ∧ R w1) :
    Calls Tryz.prog 31 #[.func (.func K) #[] cap] w fun e w' => e = .returned (.int .i64 E) ∧ ∃ w1, R w1 ∧ w' = w1.setCell ⟨w.heap.size, 0, none⟩ (.int .i64 E) := by
  have hmf : ∀ (fn : Fn) (first cap : Array Value) (w : World), (Instr.makeFunc fn first cap).run Tryz.prog w = .ok (.func fn first cap) w := fun _ _ _ _ => rfl
  have HR := hideH hR
  have HC := hideH hrun
  clear hR hrun
  go_enter_defers Tryz.func31, Tryz.ntmps31
  go_wp2
  refine HC.out.mono ?_
  rintro e w1 ⟨h1, hr⟩
  have hbx := HR.out w1 hr
  have hc := hideH hbx.cell
  have hz := hideH hbx.frozen
  have HRR := hideH hr
  clear hr he HC
  by_cases hE : E = 0
  · subst hE
    rw [left_ok] at h1
    subst h1
    have hc1 := hc.out
    have hz1 := hz.out
    go_wp2
    clear hc1 hz1
    refine leaves_cons (f := 48) (args := #[.pointer (some ⟨w.heap.size, 0, none⟩)]) (by simp) (by simp [go_sem]) ?_
    refine (catch_i w.heap.size _).mono ?_
    rintro e u' w'' ⟨rfl, rfl, rfl⟩
    have hc2 := hc.out
    simp [Leaves, settle, results, Tryz.results31, go_sem, hc2]
    exact ⟨_, HRR.out, rfl⟩
  · rw [left_no hE] at h1
    subst h1
    go_wp2
    refine leaves_cons (f := 48) (args := #[.pointer (some ⟨w.heap.size, 0, none⟩)]) (by simp) (by simp [go_sem]) ?_
    refine (catch_p w.heap.size 0 E [] _ hc.out hz.out).mono ?_
    rintro e u' w'' ⟨rfl, rfl, rfl⟩
    have hc2 := hc.out
    simp [Leaves, settle, results, Tryz.results31, go_sem, hc2]
    exact ⟨_, HRR.out, rfl⟩
end Go.Proofs.YtbpdbggojgijiaaGreatDoor

/- Contracts of package data: Check. -/
namespace Go.Proofs.YtbpdbggojgijiaaGreatDoor
open Go Go.RowKit
set_option linter.unusedVariables false

theorem Check1_c (D : Dt) (b : Nat) (w : World) (hc : w.heap[b]? = some (.cells #[.slice D.sa D.ns D.sc, .slice D.za D.nz D.zc, .slice D.la D.nl D.lc] 26)) (hE : Env w D) (hF : D.fits) :
    Calls Tryz.prog 32 #[.pointer (some ⟨b, 0, none⟩)] w fun e w' => e = left (chkE D) ∧ Below w.heap.size w w' := by
  obtain ⟨c0, c1, c2⟩ := cells3 hc
  have HE := hideH hE
  have HF := hideH hF
  clear hc hE hF
  go_enter Tryz.func32, Tryz.ntmps32
  go_wp2_with fail
  refine (check_c D _ HE.out HF.out).mono ?_
  rintro e w1 ⟨hw, hor⟩
  have HW := hideH hw
  clear hw c0 c1 c2
  rcases hor with ⟨h0, _, _, B, rfl, _⟩ | ⟨h0, rfl⟩
  · have HX : Hid (left (chkE D) = .returned (.tuple #[])) := by show left _ = _; rw [h0]; rfl
    clear h0
    go_wp2_with fail
    go_end0
    exact ⟨HX.out.symm, HW.out⟩
  · have HX : Hid (left (chkE D) = pan (chkE D)) := left_no h0
    clear h0
    go_wp2_with fail
    exact ⟨rfl, HX.out.symm, HW.out⟩
theorem enters_Check1 (args : Array Value) : ∀ w, (callFunc 32 args).run Tryz.prog w = .ok (.enter 32 args) w := fun w => enters_of Tryz.func32 (by kernel_rfl) rfl args w

theorem DCheck_c (D : Dt) (w : World) (hE : Env w D) (hF : D.fits) : Calls Tryz.prog 12 #[D.v] w fun e w' => e = .returned (.int .i64 (chkE D)) ∧ Below w.heap.size w w' := by
  have hmf : ∀ (fn : Fn) (first cap : Array Value) (w : World), (Instr.makeFunc fn first cap).run Tryz.prog w = .ok (.func fn first cap) w := fun _ _ _ _ => rfl
  have hb0 := hideH ((Below.refl _ w).alloc (Nat.le_refl _) (.cells #[.slice D.sa D.ns D.sc, .slice D.za D.nz D.zc, .slice D.la D.nl D.lc] 26))
  have E0 := hideH (hE.on hb0.out)
  have C0 : Hid ((w.alloc (.cells #[.slice D.sa D.ns D.sc, .slice D.za D.nz D.zc, .slice D.la D.nl D.lc] 26)).heap[w.heap.size]? = some (.cells #[.slice D.sa D.ns D.sc, .slice D.za D.nz D.zc, .slice D.la D.nl D.lc] 26)) := World.alloc_heap_new _ _
  have HF := hideH hF
  clear hE hF
  go_enter Tryz.func12, Tryz.ntmps12
  go_wp2_with fail
  generalize w.alloc (.cells #[.slice D.sa D.ns D.sc, .slice D.za D.nz D.zc, .slice D.la D.nl D.lc] 26) = w0 at *
  have hb1 := hideH ((Below.refl _ w0).alloc (Nat.le_refl _) (.cells #[.int .i64 0] 27))
  refine (caught_c 32 _ (chkE D) (fun w1 => Below (w0.alloc (.cells #[.int .i64 0] 27)).heap.size (w0.alloc (.cells #[.int .i64 0] 27)) w1) w0 (enters_Check1 _)
    (fun w1 h => (h.block _ (by simp)).trans (Boxed.new w0 27 (.int .i64 0)))
    (Check1_c D w.heap.size _ (heap_on C0.out hb1.out) (E0.out.on hb1.out) HF.out)).mono ?_
  rintro e w2 ⟨rfl, w1, h1, rfl⟩
  have HB := hideH (hb0.out.trans ((((hb1.out.trans (h1.mono (by simp))).setCell (p := ⟨w0.heap.size, 0, none⟩) (Nat.le_refl _) (.int .i64 (chkE D)))).mono hb0.out.size))
  clear h1
  go_wp2_with fail
  go_ret
  exact ⟨rfl, HB.out⟩
end Go.Proofs.YtbpdbggojgijiaaGreatDoor

/- Contracts of package data: Zone. -/
namespace Go.Proofs.YtbpdbggojgijiaaGreatDoor
open Go Go.RowKit
set_option linter.unusedVariables false

/-- what data.Zone answers -/
def zonR (D : Dt) (s : ByteArray) : Int := if chkE D = 0 then (if (leadK D (D.nl + 1) s).2 = 0 then (leadK D (D.nl + 1) s).1 else 0) else 0
def zonE (D : Dt) (s : ByteArray) : Int := if chkE D = 0 then (leadK D (D.nl + 1) s).2 else chkE D
theorem check_ok (D : Dt) (w : World) (hE : Env w D) (hF : D.fits) (h0 : chkE D = 0) : Calls Tryz.prog 33 #[D.v] w fun e w' => ∃ B, e = .returned (.map (some B)) ∧ Below w.heap.size w w' ∧ few1 D ∧ dist (nms D) (D.nz + D.nl) ∧ MAt w' B (nms D) (D.nz + D.nl) := by
  refine (check_c D w hE hF).mono ?_
  rintro e w' ⟨hw, ⟨_, h1, h2, B, rfl, h3⟩ | ⟨h, _⟩⟩
  · exact ⟨B, rfl, hw, h1, h2, h3⟩
  · exact absurd h0 h
theorem check_no (D : Dt) (w : World) (hE : Env w D) (hF : D.fits) (h0 : chkE D ≠ 0) : Calls Tryz.prog 33 #[D.v] w fun e w' => e = pan (chkE D) ∧ Below w.heap.size w w' := by
  refine (check_c D w hE hF).mono ?_
  rintro e w' ⟨hw, ⟨h, _⟩ | ⟨_, rfl⟩⟩
  · exact absurd h h0
  · exact ⟨rfl, hw⟩
/-- all but one block lies as it lay -/
structure But (b : Nat) (w w' : World) : Prop where
  os : w'.os = w.os
  tape : w'.tape = w.tape
  output : w'.output = w.output
  size : w.heap.size ≤ w'.heap.size
  block : ∀ k, k < w.heap.size → k ≠ b → w'.heap[k]? = w.heap[k]?
theorem But.of {b : Nat} {w w' : World} (h : Below w.heap.size w w') : But b w w' := ⟨h.os, h.tape, h.output, h.size, fun k hk _ => h.block k hk⟩
theorem But.set {b : Nat} {w w' : World} (h : Below w.heap.size w w') (v : Value) : But b w (w'.setCell ⟨b, 0, none⟩ v) :=
  ⟨h.os, h.tape, h.output, by have := h.size; simpa [World.setCell] using this, fun k hk hne => (Below.heap_setCell _ _ _ _ hne).trans (h.block k hk)⟩

theorem lead_ok (D : Dt) (s : ByteArray) (B : Nat) (w : World) (hD : DAt w D) (hF : D.fits) (h1 : few1 D) (hd : dist (nms D) (D.nz + D.nl)) (hM : MAt w B (nms D) (D.nz + D.nl)) (hs : s.size ≤ maxLen) (h0 : (leadK D (D.nl + 1) s).2 = 0) :
    Calls Tryz.prog 82 #[D.v, .map (some B), .string s] w fun e w' => e = .returned (.int .i64 (leadK D (D.nl + 1) s).1) ∧ Below w.heap.size w w' := by
  refine (lead_c D s B w hD hF h1 hd hM hs).mono ?_
  rintro e w' ⟨rfl, hw⟩
  exact ⟨leadX_ok h0, hw⟩
theorem lead_no (D : Dt) (s : ByteArray) (B : Nat) (w : World) (hD : DAt w D) (hF : D.fits) (h1 : few1 D) (hd : dist (nms D) (D.nz + D.nl)) (hM : MAt w B (nms D) (D.nz + D.nl)) (hs : s.size ≤ maxLen) (h0 : (leadK D (D.nl + 1) s).2 ≠ 0) :
    Calls Tryz.prog 82 #[D.v, .map (some B), .string s] w fun e w' => e = pan (leadK D (D.nl + 1) s).2 ∧ Below w.heap.size w w' := by
  refine (lead_c D s B w hD hF h1 hd hM hs).mono ?_
  rintro e w' ⟨rfl, hw⟩
  exact ⟨leadX_no h0, hw⟩

end Go.Proofs.YtbpdbggojgijiaaGreatDoor
