/- Contracts of package data: refuseLinks. -/
import Derived.Test.YtdffopkljomipaaGreatDoorDataI
namespace Go.Proofs.YtdffopkljomipaaGreatDoor
open Go Go.RowKit Go.Maps
set_option linter.unusedVariables false

/-- each link leads to something -/
abbrev lnk1 (D : Dt) : Prop := ∀ j, j < D.nl → (idx D (D.ls j).to).isSome = true
/-- the first error of all links' ways -/
def lnk2 (D : Dt) : Int := fstE (fun j => (leadK D (D.nl + 1) (D.ls j).nm).2) D.nl
theorem idx_has {D : Dt} {s : ByteArray} : Maps.has (pm (nms D) (D.nz + D.nl)) (.string s.data.toList) = (idx D s).isSome := by
  cases h : idx D s with
  | none =>
    cases h2 : Maps.has (pm (nms D) (D.nz + D.nl)) (.string s.data.toList)
    · rfl
    · obtain ⟨j, hj, e⟩ := (pm_has _ _ _).1 h2
      exact absurd e (idx_none h j hj)
  | some j => exact (pm_has _ _ _).2 ⟨j, idx_some h⟩

theorem leadX_ok {r : Int × Int} (h : r.2 = 0) : leadX r = .returned (.int .i64 r.1) := by unfold leadX; rw [if_pos h]
theorem leadX_no {r : Int × Int} (h : r.2 ≠ 0) : leadX r = .panicked [{ v := errV r.2, recovered := false }] := by unfold leadX; rw [if_neg h]
set_option maxRecDepth 100000 in
set_option maxHeartbeats 4000000 in
theorem refuseLinks_c (D : Dt) (B : Nat) (w : World) (hD : DAt w D) (hF : D.fits) (h1 : few1 D) (hd : dist (nms D) (D.nz + D.nl)) (hM : MAt w B (nms D) (D.nz + D.nl)) :
    Calls Tryz.prog 66 #[D.v, .map (some B)] w fun e w' => e = left (if lnk1 D then lnk2 D else 4) ∧ Below w.heap.size w w' := by
  generalize hV : left (if lnk1 D then lnk2 D else 4) = V
  have HV := hideH hV
  have HD := hideH hD
  have HF := hideH hF
  have HI := hideH hd
  have HM := hideH hM
  have H1 := hideH h1
  obtain ⟨n1, n2, n3⟩ := h1
  clear hV hD hF hd hM
  go_enter Tryz.func66, Tryz.ntmps66
  go_wp2_with fail
  have HB0 : Hid (Below w.heap.size w (w.alloc (.cells #[.slice D.sa D.ns D.sc, .slice D.za D.nz D.zc, .slice D.la D.nl D.lc] 26))) := (Below.refl _ _).alloc (Nat.le_refl _) _
  have HC0 : Hid ((w.alloc (.cells #[.slice D.sa D.ns D.sc, .slice D.za D.nz D.zc, .slice D.la D.nl D.lc] 26)).heap[w.heap.size]? = some (.cells #[.slice D.sa D.ns D.sc, .slice D.za D.nz D.zc, .slice D.la D.nl D.lc] 26)) := World.alloc_heap_new _ _
  go_loopw [13] (fun x13 wr => ∃ j : Nat, j ≤ D.nl ∧ x13 = .int .i64 j ∧ Hid (Below w.heap.size w wr) ∧ Hid (wr.heap[w.heap.size]? = some (.cells #[.slice D.sa D.ns D.sc, .slice D.za D.nz D.zc, .slice D.la D.nl D.lc] 26)) ∧ Hid (∀ i, i < j → (idx D (D.ls i).to).isSome = true)) (fun x13 _ => D.nl - (intOf x13).toNat)
  case atStart => exact ⟨0, Nat.zero_le _, rfl, HB0, HC0, fun i hi => by omega⟩
  case round =>
    obtain ⟨j, hj, rfl, HW, HC, HA⟩ := hrel
    have hwl := hideH (Array.getElem?_eq_some_iff.1 HC.out).1
    by_cases hlt : j < D.nl
    · rcases (HD.out.on HW.out).links with h0 | ⟨b, off, hsa, hcs⟩
      · omega
      obtain ⟨c0, c1⟩ := hcs j hlt
      clear hcs
      have hkey := hideH (WideMaps.keyOf_string_mk (P := Tryz.prog) Tryz.underlying9 (HF.out.lto j hlt))
      have hb := hideH ((Below.refl _ wr).alloc (Nat.le_refl _) (.cells #[.string (D.ls j).nm, .string (D.ls j).to] 90))
      have HM2 := hideH (HM.out.on (bthen HW.out hb.out))
      have hh := idx_has (D := D) (s := (D.ls j).to)
      cases hix : (idx D (D.ls j).to).isSome
      · rw [hix] at hh
        have HX : Hid (V = .panicked [{ v := errV 4, recovered := false }]) := by
          show V = _
          rw [← HV.out, if_neg (fun h => by have := h j hlt; rw [hix] at this; cases this), left_no (by decide)]
        clear hix
        go_wp2_with (first
          | (at_lookup; refine wpList_lookup_own_ok_int _ rfl _ _ 75 rfl 9 3 .i64 law Tryz.underlying75 Tryz.underlying3 (zero_int _) B (D.nz + D.nl) (pm (nms D) (D.nz + D.nl)) rfl HM2.out _ _ rfl hkey.out ?_; intro c1 hat hwc; clear hat hwc)
          | (go_at_call 51; refine (refuse_t (by first | rfl | simp [hh]) _ _).mono ?_; rintro x w1 ⟨rfl, rfl⟩))
        exact ⟨rfl, HX.out.symm, bthen HW.out hb.out⟩
      · rw [hix] at hh
        have HA2 : Hid (∀ i, i < j + 1 → (idx D (D.ls i).to).isSome = true) := fun k hk => by
          rcases Nat.lt_or_ge k j with h | h
          · exact HA.out k h
          · obtain rfl : k = j := by omega
            exact hix
        clear hix
        go_wp2_with (first
          | (at_lookup; refine wpList_lookup_own_ok_int _ rfl _ _ 75 rfl 9 3 .i64 law Tryz.underlying75 Tryz.underlying3 (zero_int _) B (D.nz + D.nl) (pm (nms D) (D.nz + D.nl)) rfl HM2.out _ _ rfl hkey.out ?_; intro c1 hat hwc; clear hat hwc)
          | (go_at_call 51; refine (refuse_f (by first | rfl | simp [hh]) _ _).mono ?_; rintro x w1 ⟨rfl, rfl⟩))
        simp only [← hsa]
        go_roundw
        case rel => exact ⟨j + 1, by omega, by go_num, bthen HW.out hb.out, (hb.out.block _ hwl.out).trans HC.out, HA2⟩
        case measure => simp [intOf]; omega
    · have hcd : wr.cell? ⟨w.heap.size, 2, none⟩ = some (.slice D.la D.nl D.lc) := by simp [World.cell?, HC.out]
      go_wp2_with fail
      clear hcd
      go_loopw [31] (fun x31 v => ∃ k : Nat, k ≤ D.nl ∧ x31 = .int .i64 k ∧ Hid (Below w.heap.size w v) ∧ Hid (v.heap[w.heap.size]? = some (.cells #[.slice D.sa D.ns D.sc, .slice D.za D.nz D.zc, .slice D.la D.nl D.lc] 26)) ∧ Hid (∀ i, i < k → (leadK D (D.nl + 1) (D.ls i).nm).2 = 0)) (fun x31 _ => D.nl - (intOf x31).toNat)
      case atStart => exact ⟨0, Nat.zero_le _, rfl, HW, HC, fun i hi => by omega⟩
      case round =>
        obtain ⟨k, hk, rfl, HW2, HC2, HB⟩ := hrel
        have hwl2 := hideH (Array.getElem?_eq_some_iff.1 HC2.out).1
        by_cases hlk : k < D.nl
        · rcases (HD.out.on HW2.out).links with h0 | ⟨b, off, hsa, hcs⟩
          · omega
          obtain ⟨c0, c1⟩ := hcs k hlk
          clear hcs
          have hb := hideH ((Below.refl _ wr).alloc (Nat.le_refl _) (.cells #[.string (D.ls k).nm, .string (D.ls k).to] 90))
          have HW3 := hideH (bthen HW2.out hb.out)
          have HC3 := hideH ((hb.out.block _ hwl2.out).trans HC2.out)
          have hd0 : (wr.alloc (.cells #[.string (D.ls k).nm, .string (D.ls k).to] 90)).cell? ⟨w.heap.size, 0, none⟩ = some (.slice D.sa D.ns D.sc) := by simp only [World.cell?, HC3.out]; rfl
          have hd1 : (wr.alloc (.cells #[.string (D.ls k).nm, .string (D.ls k).to] 90)).cell? ⟨w.heap.size, 1, none⟩ = some (.slice D.za D.nz D.zc) := by simp only [World.cell?, HC3.out]; rfl
          have hd2 : (wr.alloc (.cells #[.string (D.ls k).nm, .string (D.ls k).to] 90)).cell? ⟨w.heap.size, 2, none⟩ = some (.slice D.la D.nl D.lc) := by simp only [World.cell?, HC3.out]; rfl
          have HDD := hideH (HD.out.on HW3.out)
          have HMM := hideH (HM.out.on HW3.out)
          have hsz := HF.out.lnm k hlk
          go_wp2_with fail
          simp only [← hsa]
          clear hsa c0 c1 hd0 hd1 hd2
          refine (lead_c D _ B _ HDD.out HF.out H1.out HI.out HMM.out hsz).mono ?_
          rintro e w4 ⟨he, hw4⟩
          have HW4 := hideH (bthen HW3.out hw4)
          have HC4 := hideH ((hw4.block _ (Array.getElem?_eq_some_iff.1 HC3.out).1).trans HC3.out)
          clear hw4
          rcases beq_cases (leadK D (D.nl + 1) (D.ls k).nm).2 0 with ⟨q1, q2⟩ | ⟨q1, q2⟩
          · rw [leadX_ok q2] at he
            subst he
            have HB2 : Hid (∀ i, i < k + 1 → (leadK D (D.nl + 1) (D.ls i).nm).2 = 0) := fun i hi => by
              rcases Nat.lt_or_ge i k with h | h
              · exact HB.out i h
              · obtain rfl : i = k := by omega
                exact q2
            clear q1 q2
            go_wp2_with fail
            go_roundw
            case rel => exact ⟨k + 1, by omega, by go_num, HW4, HC4, HB2⟩
            case measure => simp [intOf]; omega
          · rw [leadX_no q2] at he
            subst he
            have HX : Hid (V = .panicked [{ v := errV (leadK D (D.nl + 1) (D.ls k).nm).2, recovered := false }]) := by
              show V = _
              rw [← HV.out, if_pos (show lnk1 D from fun i hi => HA.out i (by omega)), show lnk2 D = _ from fstE_at (f := fun j => (leadK D (D.nl + 1) (D.ls j).nm).2) HB.out q2 hlk, left_no q2]
            clear q1 q2
            go_wp2_with fail
            exact ⟨rfl, HX.out.symm, HW4.out⟩
        · have HX : Hid (V = .returned (.tuple #[])) := by
            show V = _
            rw [← HV.out, if_pos (show lnk1 D from fun i hi => HA.out i (by omega)), show lnk2 D = 0 from fstE_zero (f := fun j => (leadK D (D.nl + 1) (D.ls j).nm).2) (fun i hi => HB.out i (by omega))]
            rfl
          go_wp2_with fail
          go_end0
          exact ⟨HX.out.symm, HW2.out⟩
end Go.Proofs.YtdffopkljomipaaGreatDoor
