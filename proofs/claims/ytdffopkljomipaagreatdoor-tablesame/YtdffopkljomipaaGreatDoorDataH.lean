/- Contracts of package data: lead. -/
import Derived.Test.YtdffopkljomipaaGreatDoorDataG
namespace Go.Proofs.YtdffopkljomipaaGreatDoor
open Go Go.RowKit Go.Maps
set_option linter.unusedVariables false

/-- the names of all zones, and of all links behind them -/
def nms (D : Dt) (j : Nat) : ByteArray := if j < D.nz then (D.zs j).nm else (D.ls (j - D.nz)).nm
/-- where a name stands first -/
def idx (D : Dt) (s : ByteArray) : Option Nat := (List.range (D.nz + D.nl)).find? fun j => (nms D j).data.toList == s.data.toList
/-- whereto a name leads in so many steps, and the error -/
def leadK (D : Dt) : Nat → ByteArray → Int × Int
  | 0, _ => (0, 7)
  | k + 1, s => match idx D s with
    | none => (0, 4)
    | some j => if j < D.nz then (j, 0) else leadK D k (D.ls (j - D.nz)).to
/-- how it is left -/
def leadX (r : Int × Int) : Ending := if r.2 = 0 then .returned (.int .i64 r.1) else .panicked [{ v := errV r.2, recovered := false }]
theorem idx_none {D : Dt} {s : ByteArray} (h : idx D s = none) : ∀ j, j < D.nz + D.nl → (nms D j).data.toList ≠ s.data.toList := by
  intro j hj e
  unfold idx at h
  rw [List.find?_eq_none] at h
  exact h j (List.mem_range.2 hj) (by simpa using e)
theorem idx_some {D : Dt} {s : ByteArray} {j : Nat} (h : idx D s = some j) : j < D.nz + D.nl ∧ (nms D j).data.toList = s.data.toList := by
  unfold idx at h
  exact ⟨List.mem_range.1 (List.mem_of_find?_eq_some h), by simpa using List.find?_some h⟩

set_option maxRecDepth 100000 in
set_option maxHeartbeats 4000000 in
theorem lead_c (D : Dt) (s : ByteArray) (B : Nat) (w : World) (hD : DAt w D) (hF : D.fits) (h1 : few1 D) (hd : dist (nms D) (D.nz + D.nl)) (hM : MAt w B (nms D) (D.nz + D.nl)) (hs : s.size ≤ maxLen) :
    Calls Tryz.prog 29 #[D.v, .map (some B), .string s] w fun e w' => e = leadX (leadK D (D.nl + 1) s) ∧ Below w.heap.size w w' := by
  generalize hV : leadX (leadK D (D.nl + 1) s) = V
  have HV := hideH hV
  have HD := hideH hD
  have HF := hideH hF
  have HI := hideH hd
  have HM := hideH hM
  obtain ⟨n1, n2, n3⟩ := h1
  clear hV hD hF hd hM
  have hbl := hideH ((Below.refl _ w).alloc (Nat.le_refl _) (.cells #[.slice D.sa D.ns D.sc, .slice D.za D.nz D.zc, .slice D.la D.nl D.lc] 26))
  have HM2 := hideH (HM.out.on hbl.out)
  have HL2 := hideH (HD.out.on hbl.out).links
  go_enter Tryz.func29, Tryz.ntmps29
  go_wp2_with fail
  go_loop [2, 13] (fun x2 x13 => ∃ (k : Nat) (t : ByteArray), k ≤ D.nl + 1 ∧ x13 = .int .i64 k ∧ x2 = .string t ∧ Hid (t.size ≤ maxLen) ∧ Hid (leadK D (D.nl + 1 - k) t = leadK D (D.nl + 1) s)) (fun _ x13 => D.nl + 1 - (intOf x13).toNat)
  case atStart => exact ⟨0, s, Nat.zero_le _, rfl, rfl, hs, rfl⟩
  case round =>
    obtain ⟨k, t, hk, rfl, rfl, HT, HL⟩ := hrel
    by_cases hlt : k < D.nl + 1
    · have hkey := hideH (WideMaps.keyOf_string_mk (P := Tryz.prog) Tryz.underlying9 HT.out)
      obtain ⟨m, hm⟩ : ∃ m, D.nl + 1 - k = m + 1 := ⟨D.nl - k, by omega⟩
      cases hix : idx D t with
      | none =>
        have hh : Maps.has (pm (nms D) (D.nz + D.nl)) (.string t.data.toList) = false := by
          cases h : Maps.has (pm (nms D) (D.nz + D.nl)) (.string t.data.toList)
          · rfl
          · obtain ⟨j, hj, e⟩ := (pm_has _ _ _).1 h
            exact absurd e (idx_none hix j hj)
        have HX : Hid (V = .panicked [{ v := errV 4, recovered := false }]) := by
          show V = _
          rw [← HV.out, ← HL.out, hm]
          unfold leadK; rw [hix]; rfl
        clear hix
        go_wp2_with (first
          | (at_lookup; refine wpList_lookup_own_ok_int _ rfl _ _ 75 rfl 9 3 .i64 law Tryz.underlying75 Tryz.underlying3 (zero_int _) B (D.nz + D.nl) (pm (nms D) (D.nz + D.nl)) rfl HM2.out _ _ rfl hkey.out ?_; intro c1 hat hwc; clear hat hwc)
          | (go_at_call 51; refine (refuse_t (by first | rfl | simp [hh]) _ _).mono ?_; rintro x wr ⟨rfl, rfl⟩))
        exact ⟨rfl, HX.out.symm, hbl.out⟩
      | some j =>
        obtain ⟨hj, hjt⟩ := idx_some hix
        have hh : Maps.has (pm (nms D) (D.nz + D.nl)) (.string t.data.toList) = true := (pm_has _ _ _).2 ⟨j, hj, hjt⟩
        have hat0 := hideH (pm_at (nms D) (.lit (.int .i64 0)) _ HI.out j hj)
        by_cases hz : j < D.nz
        · have HX : Hid (V = .returned (.int .i64 j)) := by
            show V = _
            rw [← HV.out, ← HL.out, hm]
            unfold leadK; rw [hix]; simp only [hz, if_true]; rfl
          clear hix
          have HJT := hideH hjt
          clear hjt
          go_wp2_with (first
            | (at_lookup; refine wpList_lookup_own_ok_int _ rfl _ _ 75 rfl 9 3 .i64 law Tryz.underlying75 Tryz.underlying3 (zero_int _) B (D.nz + D.nl) (pm (nms D) (D.nz + D.nl)) rfl HM2.out _ _ rfl hkey.out ?_; intro c1 hat hwc; obtain rfl : c1 = (j : Int) := (by have h2 := hat0.out; rw [HJT.out, hat] at h2; injection h2 with h2; injection h2); clear hat hwc)
            | (go_at_call 51; refine (refuse_f (by first | rfl | simp [hh]) _ _).mono ?_; rintro x wr ⟨rfl, rfl⟩))
          go_ret
          exact ⟨HX.out.symm, hbl.out⟩
        · obtain ⟨q, rfl⟩ : ∃ q, j = D.nz + q := ⟨j - D.nz, by omega⟩
          have hq : q < D.nl := by omega
          have HX : Hid (leadK D (D.nl + 1 - (k + 1)) (D.ls q).to = leadK D (D.nl + 1) s) := by
            show leadK _ _ _ = _
            rw [← HL.out, hm, show D.nl + 1 - (k + 1) = m from by omega]
            conv => rhs; unfold leadK
            rw [hix]; simp only [hz, if_false, Nat.add_sub_cancel_left]
          clear hix
          have HJT := hideH hjt
          clear hjt
          rcases HL2.out with h0 | ⟨b, off, hsa, hcs⟩
          · omega
          have c1 := (hcs q hq).2
          clear hcs
          rw [hsa] at c1
          have HM3 : Hid (MAt (w.alloc (.cells #[.slice D.sa D.ns D.sc, .slice D.za D.nz D.zc, .slice (some ⟨b, off, none⟩) D.nl D.lc] 26)) B (nms D) (D.nz + D.nl)) := by
            have h3 := HM2.out
            rw [hsa] at h3
            exact h3
          have hz' : ¬ ((D.nz + q : Nat) : Int) < D.nz := by omega
          have hsub : ((D.nz + q : Nat) : Int) - D.nz = q := by omega
          go_wp2_with (first
            | (at_lookup; refine wpList_lookup_own_ok_int _ rfl _ _ 75 rfl 9 3 .i64 law Tryz.underlying75 Tryz.underlying3 (zero_int _) B (D.nz + D.nl) (pm (nms D) (D.nz + D.nl)) rfl HM3.out _ _ rfl hkey.out ?_; intro c1 hat hwc; obtain rfl : c1 = ((D.nz + q : Nat) : Int) := (by have h2 := hat0.out; rw [HJT.out, hat] at h2; injection h2 with h2; injection h2); clear hat hwc)
            | (go_at_call 51; refine (refuse_f (by first | rfl | simp [hh]) _ _).mono ?_; rintro x wr ⟨rfl, rfl⟩))
          simp only [← hsa]
          go_round
          case rel => exact ⟨k + 1, (D.ls q).to, by omega, by go_num, rfl, HF.out.lto q hq, HX⟩
          case measure => simp [intOf]; omega
    · have HX : Hid (V = .panicked [{ v := errV 7, recovered := false }]) := by
        show V = _
        rw [← HV.out, ← HL.out, show D.nl + 1 - k = 0 from by omega]
        rfl
      go_wp2_with fail
      exact ⟨rfl, HX.out.symm, hbl.out⟩
end Go.Proofs.YtdffopkljomipaaGreatDoor
