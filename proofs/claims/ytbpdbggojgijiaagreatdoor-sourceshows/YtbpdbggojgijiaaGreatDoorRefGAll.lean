/- Contracts of the document's own answers on data: twice, follow, eraFine. -/
import Derived.Test.YtbpdbggojgijiaaGreatDoorRefDAll
import Derived.Test.YtbpdbggojgijiaaGreatDoorDataOAll
import Derived.Test.YtbpdbggojgijiaaGreatDoorRefApAll
import Derived.Deep.QuietTactic
import Derived.BigQuiet
namespace Go.Proofs.YtbpdbggojgijiaaGreatDoor
open Go Go.RowKit Go.Maps
set_option linter.unusedVariables false

end Go.Proofs.YtbpdbggojgijiaaGreatDoor

/- Contracts of the document's own answers on data: follow. -/
namespace Go.Proofs.YtbpdbggojgijiaaGreatDoor
open Go Go.RowKit Go.Maps
set_option linter.unusedVariables false

theorem find_congr {p q : Nat → Bool} : ∀ {l : List Nat}, (∀ x, x ∈ l → p x = q x) → l.find? p = l.find? q
  | [], _ => rfl
  | a :: l, h => by
    rw [List.find?_cons, List.find?_cons, h a (List.mem_cons_self ..), find_congr fun x hx => h x (List.mem_cons_of_mem _ hx)]
theorem fstN_eq (nm : Nat → ByteArray) (s : ByteArray) (n : Nat) : fstN nm s n = match (List.range n).find? fun j => (nm j).data.toList == s.data.toList with | some j => (j : Int) | none => -1 := by
  unfold fstN
  simp only [ByteArray.toList_eq]
  rfl
theorem idx_parts (D : Dt) (s : ByteArray) : idx D s = match (List.range D.nz).find? fun j => (D.zs j).nm.data.toList == s.data.toList with
    | some j => some j | none => ((List.range D.nl).find? fun j => (D.ls j).nm.data.toList == s.data.toList).map (D.nz + ·) := by
  unfold idx
  rw [List.range_add, List.find?_append, List.find?_map]
  have e1 : (List.range D.nz).find? (fun j => (nms D j).data.toList == s.data.toList) = (List.range D.nz).find? fun j => (D.zs j).nm.data.toList == s.data.toList := by
    apply find_congr
    intro j hj
    unfold nms
    rw [if_pos (List.mem_range.1 hj)]
  have e2 : (List.range D.nl).find? ((fun j => (nms D j).data.toList == s.data.toList) ∘ fun x => D.nz + x) = (List.range D.nl).find? fun j => (D.ls j).nm.data.toList == s.data.toList := by
    apply find_congr
    intro j hj
    show ((nms D (D.nz + j)).data.toList == s.data.toList) = _
    unfold nms
    rw [if_neg (by omega), Nat.add_sub_cancel_left]
  rw [e1, e2]
  cases (List.range D.nz).find? fun j => (D.zs j).nm.data.toList == s.data.toList <;> rfl
theorem idx_cases (D : Dt) (s : ByteArray) : (idx D s = none ∧ fstN (fun j => (D.zs j).nm) s D.nz = -1 ∧ fstN (fun j => (D.ls j).nm) s D.nl = -1) ∨
    (∃ j : Nat, j < D.nz ∧ idx D s = some j ∧ fstN (fun j => (D.zs j).nm) s D.nz = j) ∨ (∃ j : Nat, j < D.nl ∧ idx D s = some (D.nz + j) ∧ fstN (fun j => (D.zs j).nm) s D.nz = -1 ∧ fstN (fun j => (D.ls j).nm) s D.nl = j) := by
  rw [idx_parts, fstN_eq, fstN_eq]
  cases hz : (List.range D.nz).find? fun j => (D.zs j).nm.data.toList == s.data.toList with
  | some j => exact .inr (.inl ⟨j, List.mem_range.1 (List.mem_of_find?_eq_some hz), rfl, rfl⟩)
  | none =>
    cases hl : (List.range D.nl).find? fun j => (D.ls j).nm.data.toList == s.data.toList with
    | some j => exact .inr (.inr ⟨j, List.mem_range.1 (List.mem_of_find?_eq_some hl), rfl, rfl, rfl⟩)
    | none => exact .inl ⟨rfl, rfl, rfl⟩
/-- what follow tells -/
def folR (r : Int × Int) : Int := if r.2 = 0 then r.1 else -1

set_option maxRecDepth 100000 in
set_option maxHeartbeats 2000000 in
theorem follow_c (D : Dt) (s : ByteArray) (w : World) (hD : DAt w D) (hF : D.fits) (h4 : D.nl ≤ 4) (hs : s.size ≤ maxLen) : Calls Tryz.prog 25 #[D.v, .string s] w fun e w' => e = .returned (.int .i64 (folR (leadK D (D.nl + 1) s))) ∧ Below w.heap.size w w' := by
  generalize hV : folR (leadK D (D.nl + 1) s) = V
  have HV := hideH hV
  have HD := hideH hD
  have HF := hideH hF
  have hb0 := hideH ((Below.refl _ w).alloc (Nat.le_refl _) (.cells #[.slice D.sa D.ns D.sc, .slice D.za D.nz D.zc, .slice D.la D.nl D.lc] 26))
  have hc0 := hideH (World.alloc_heap_new w (.cells #[.slice D.sa D.ns D.sc, .slice D.za D.nz D.zc, .slice D.la D.nl D.lc] 26))
  clear hV hD hF
  go_enter Tryz.func25, Tryz.ntmps25
  go_wp2_with fail
  go_loopw [1, 5] (fun x1 x5 v => ∃ (k : Nat) (t : ByteArray), k ≤ D.nl + 1 ∧ x5 = .int .i64 k ∧ x1 = .string t ∧ Hid (t.size ≤ maxLen) ∧ Hid (leadK D (D.nl + 1 - k) t = leadK D (D.nl + 1) s) ∧ Hid (Below w.heap.size w v) ∧ Hid (v.heap[w.heap.size]? = some (.cells #[.slice D.sa D.ns D.sc, .slice D.za D.nz D.zc, .slice D.la D.nl D.lc] 26))) (fun _ x5 _ => D.nl + 1 - (intOf x5).toNat)
  case atStart => exact ⟨0, s, Nat.zero_le _, rfl, rfl, hs, rfl, hb0, hc0⟩
  case round =>
    obtain ⟨k, t, hk, rfl, rfl, HT, HK, HW, HC⟩ := hrel
    clear hb0 hc0
    obtain ⟨c0, c1, c2⟩ := cells3 HC.out
    by_cases hlt : k ≤ D.nl
    · obtain ⟨m, hm⟩ : ∃ m, D.nl + 1 - k = m + 1 := ⟨D.nl - k, by omega⟩
      rcases idx_cases D t with ⟨g1, g2, g3⟩ | ⟨j, hj, g1, g2⟩ | ⟨j, hj, g1, g2, g3⟩
      · have HX : Hid (V = -1) := by
          show V = -1
          rw [← HV.out, ← HK.out, hm, leadK.eq_2]; simp only [g1]; rfl
        have HZ : Hid (∀ v, DAt v D → Calls Tryz.prog 23 #[D.v, .string t] v fun e w' => e = .returned (.int .i64 (-1)) ∧ Below v.heap.size v w') := fun v hv => by have := zoneAt_c D t v hv HF.out; rwa [g2] at this
        have HL : Hid (∀ v, DAt v D → Calls Tryz.prog 24 #[D.v, .string t] v fun e w' => e = .returned (.int .i64 (-1)) ∧ Below v.heap.size v w') := fun v hv => by have := linkAt_c D t v hv HF.out; rwa [g3] at this
        clear g1 g2 g3
        go_wp2_with fail
        clear c0 c1 c2
        refine (HZ.out _ (HD.out.on HW.out)).mono ?_
        rintro e w1 ⟨rfl, hw1⟩
        have H1 := hideH (bthen HW.out hw1)
        obtain ⟨c0, c1, c2⟩ := cells3 (heap_on HC.out hw1)
        clear hw1
        go_wp2_with fail
        clear c0 c1 c2
        refine (HL.out _ (HD.out.on H1.out)).mono ?_
        rintro e w2 ⟨rfl, hw2⟩
        go_wp2_with fail
        go_ret
        exact ⟨ret_int HX.out.symm, bthen H1.out hw2⟩
      · have HX : Hid (V = j) := by
          show V = _
          rw [← HV.out, ← HK.out, hm, leadK.eq_2]; simp only [g1, if_pos hj]; rfl
        have HZ : Hid (∀ v, DAt v D → Calls Tryz.prog 23 #[D.v, .string t] v fun e w' => e = .returned (.int .i64 j) ∧ Below v.heap.size v w') := fun v hv => by have := zoneAt_c D t v hv HF.out; rwa [g2] at this
        clear g1 g2
        have hj0 : (0 : Int) ≤ (j : Int) := by omega
        go_wp2_with fail
        clear c0 c1 c2
        refine (HZ.out _ (HD.out.on HW.out)).mono ?_
        rintro e w1 ⟨rfl, hw1⟩
        have H1 := hideH (bthen HW.out hw1)
        clear hw1
        go_wp2_with fail
        go_ret
        exact ⟨ret_int HX.out.symm, H1.out⟩
      · have HX : Hid (leadK D m (D.ls j).tgt = leadK D (D.nl + 1) s) := by
          show _ = _
          rw [← HK.out, hm, leadK.eq_2]; simp only [g1, if_neg (show ¬ D.nz + j < D.nz by omega)]
          congr 1; congr 1; congr 1; omega
        have HZ : Hid (∀ v, DAt v D → Calls Tryz.prog 23 #[D.v, .string t] v fun e w' => e = .returned (.int .i64 (-1)) ∧ Below v.heap.size v w') := fun v hv => by have := zoneAt_c D t v hv HF.out; rwa [g2] at this
        have HL : Hid (∀ v, DAt v D → Calls Tryz.prog 24 #[D.v, .string t] v fun e w' => e = .returned (.int .i64 j) ∧ Below v.heap.size v w') := fun v hv => by have := linkAt_c D t v hv HF.out; rwa [g3] at this
        have hto := hideH (HF.out.lto j hj)
        clear g1 g2 g3
        have hj0 : (0 : Int) ≤ (j : Int) := by omega
        go_wp2_with fail
        clear c0 c1 c2
        refine (HZ.out _ (HD.out.on HW.out)).mono ?_
        rintro e w1 ⟨rfl, hw1⟩
        have H1 := hideH (bthen HW.out hw1)
        have C1 := hideH (heap_on HC.out hw1)
        obtain ⟨c0, c1, c2⟩ := cells3 C1.out
        clear hw1
        go_wp2_with fail
        clear c0 c1 c2
        refine (HL.out _ (HD.out.on H1.out)).mono ?_
        rintro e w2 ⟨rfl, hw2⟩
        have H2 := hideH (bthen H1.out hw2)
        have C2 := hideH (heap_on C1.out hw2)
        obtain ⟨c0, c1, c2⟩ := cells3 C2.out
        rcases (HD.out.on H2.out).links with h0 | ⟨b, off, hsa, hcs⟩
        · omega
        obtain ⟨d0, d1⟩ := hcs j hj
        have j1 : decide (D.nl ≤ j) = false := by simp; omega
        clear hw2 hcs d0 H1 C1
        go_wp2_with fail
        try simp only [← hsa]
        go_roundw
        case rel => exact ⟨k + 1, (D.ls j).tgt, by omega, by go_num, rfl, hto, by show _ = _; rw [show D.nl + 1 - (k + 1) = m by omega]; exact HX.out, H2, C2⟩
        case measure => simp [intOf]; omega
    · have HX : Hid (V = -1) := by
        show V = -1
        have h0 : D.nl + 1 - k = 0 := by omega
        rw [← HV.out, ← HK.out, h0]; rfl
      go_wp2_with fail
      go_ret
      exact ⟨ret_int HX.out.symm, HW.out⟩
end Go.Proofs.YtbpdbggojgijiaaGreatDoor

/- Contracts of the document's own answers on data: eraFine. -/
namespace Go.Proofs.YtbpdbggojgijiaaGreatDoor
open Go Go.RowKit Go.Maps
set_option linter.unusedVariables false

theorem in_f {n a b : Int} (h : n < a ∨ b < n) : inB n a b = false := in_not (by omega)
theorem ebnd_no {x : Er} {n : Int} (h : ¬ (-50400 ≤ x.std ∧ x.std ≤ 50400 ∧ -1 ≤ x.set ∧ x.set < n ∧ 0 ≤ x.sv ∧ (0 ≤ x.set ∧ x.sv ≤ 0 ∨ x.set < 0 ∧ x.sv ≤ 7200))) : ebnd x n = false := by unfold ebnd; simpa using h
theorem ebnd_yes {x : Er} {n : Int} (h : -50400 ≤ x.std ∧ x.std ≤ 50400 ∧ -1 ≤ x.set ∧ x.set < n ∧ 0 ≤ x.sv ∧ (0 ≤ x.set ∧ x.sv ≤ 0 ∨ x.set < 0 ∧ x.sv ≤ 7200)) : ebnd x n = true := by unfold ebnd; simpa using h
set_option maxRecDepth 100000 in
set_option maxHeartbeats 2000000 in
theorem eraFine_c (D : Dt) (x : Er) (ah : Int) (w : World) (hn : D.ns ≤ 3) : Calls Tryz.prog 21 #[D.v, x.v, .int .i64 ah] w fun e w' => e = .returned (.bool (ebnd x D.ns && decide (ah < x.un))) ∧ Below w.heap.size w w' := by
  have hb := hideH (((Below.refl _ w).alloc (Nat.le_refl _) (.cells #[.slice D.sa D.ns D.sc, .slice D.za D.nz D.zc, .slice D.la D.nl D.lc] 26)).alloc (by simp) (.cells #[.int .i64 x.std, .int .i64 x.set, .int .i64 x.sv, .string x.fm, .int .i64 x.un] 67))
  have hcs : (x.std < -50400 ∨ 50400 < x.std) ∨ (-50400 ≤ x.std ∧ x.std ≤ 50400) := by omega
  have hss : (x.set < -1 ∨ (D.ns : Int) - 1 < x.set) ∨ (-1 ≤ x.set ∧ x.set ≤ (D.ns : Int) - 1) := by omega
  have hvs : (x.sv < 0 ∨ 7200 < x.sv) ∨ (0 ≤ x.sv ∧ x.sv ≤ 7200) := by omega
  rcases hcs with hcs | hcs
  · rw [ebnd_no (x := x) (n := D.ns) (by omega)]
    have i1 := in_f hcs
    clear hss hvs
    go_enter Tryz.func21, Tryz.ntmps21
    go_wp2_with (go_at_call 42; refine (RisStd_c _ _).mono ?_; rintro e w1 ⟨rfl, rfl⟩; rw [i1])
    go_ret
    exact ⟨rfl, hb.out⟩
  · have i1 := in_mk hcs
    rcases hss with hss | hss
    · rw [ebnd_no (x := x) (n := D.ns) (by omega)]
      have i2 := in_f hss
      clear hvs
      go_enter Tryz.func21, Tryz.ntmps21
      go_wp2_with (first
        | (go_at_call 42; refine (RisStd_c _ _).mono ?_; rintro e w1 ⟨rfl, rfl⟩; rw [i1])
        | (go_at_call 17; refine (within_c _ _ _ _).mono ?_; rintro e w1 ⟨rfl, rfl⟩; rw [i2]))
      go_ret
      exact ⟨rfl, hb.out⟩
    · have i2 := in_mk hss
      rcases hvs with hvs | hvs
      · rw [ebnd_no (x := x) (n := D.ns) (by omega)]
        have i3 := in_f hvs
        go_enter Tryz.func21, Tryz.ntmps21
        go_wp2_with (first
          | (go_at_call 42; refine (RisStd_c _ _).mono ?_; rintro e w1 ⟨rfl, rfl⟩; rw [i1])
          | (go_at_call 17; refine (within_c _ _ _ _).mono ?_; rintro e w1 ⟨rfl, rfl⟩; first | rw [i2] | rw [i3]))
        go_ret
        exact ⟨rfl, hb.out⟩
      · have i3 := in_mk hvs
        have hun : (ah < x.un ∧ decide (ah < x.un) = true) ∨ (x.un ≤ ah ∧ decide (ah < x.un) = false) := by
          rcases Int.lt_or_le ah x.un with h | h
          · exact .inl ⟨h, by simpa using h⟩
          · exact .inr ⟨h, by simp; omega⟩
        rcases beq_cases x.set (-1) with ⟨q1, q2⟩ | ⟨q1, q2⟩
        · rw [ebnd_yes (x := x) (n := D.ns) (by omega)]
          clear q2
          rcases hun with ⟨u1, u2⟩ | ⟨u1, u2⟩
          all_goals
            rw [u2]
            go_enter Tryz.func21, Tryz.ntmps21
            go_wp2_with (first
              | (go_at_call 42; refine (RisStd_c _ _).mono ?_; rintro e w1 ⟨rfl, rfl⟩; rw [i1])
              | (go_at_call 17; refine (within_c _ _ _ _).mono ?_; rintro e w1 ⟨rfl, rfl⟩; first | rw [i2] | rw [i3]))
            go_ret
            exact ⟨rfl, hb.out⟩
        · rcases beq_cases x.sv 0 with ⟨r1, r2⟩ | ⟨r1, r2⟩
          · rw [ebnd_yes (x := x) (n := D.ns) (by omega)]
            clear q2 r2
            rcases hun with ⟨u1, u2⟩ | ⟨u1, u2⟩
            all_goals
              rw [u2]
              go_enter Tryz.func21, Tryz.ntmps21
              go_wp2_with (first
                | (go_at_call 42; refine (RisStd_c _ _).mono ?_; rintro e w1 ⟨rfl, rfl⟩; rw [i1])
                | (go_at_call 17; refine (within_c _ _ _ _).mono ?_; rintro e w1 ⟨rfl, rfl⟩; first | rw [i2] | rw [i3]))
              go_ret
              exact ⟨rfl, hb.out⟩
          · rw [ebnd_no (x := x) (n := D.ns) (by omega)]
            clear q2 r2 hun
            go_enter Tryz.func21, Tryz.ntmps21
            go_wp2_with (first
              | (go_at_call 42; refine (RisStd_c _ _).mono ?_; rintro e w1 ⟨rfl, rfl⟩; rw [i1])
              | (go_at_call 17; refine (within_c _ _ _ _).mono ?_; rintro e w1 ⟨rfl, rfl⟩; first | rw [i2] | rw [i3]))
            go_ret
            exact ⟨rfl, hb.out⟩
end Go.Proofs.YtbpdbggojgijiaaGreatDoor
