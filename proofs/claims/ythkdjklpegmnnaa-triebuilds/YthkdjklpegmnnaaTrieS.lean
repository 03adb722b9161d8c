/- The document's own: CheckTrie, TrieFind, TrieLongest. -/
import Derived.Test.YthkdjklpegmnnaaTrieR
import Derived.Deep.RegionHeld3
namespace Go.Proofs.Ythkdjklpegmnnaa.Tri
open Go Go.RowKit Go.Maps
set_option linter.unusedVariables false

theorem cell2 {w : World} {b : Nat} {x y : Value} {t : TypeId} (h : w.heap[b]? = some (.cells #[x, y] t)) : w.cell? ⟨b, 0, none⟩ = some x ∧ w.cell? ⟨b, 1, none⟩ = some y := by
  refine ⟨?_, ?_⟩ <;> simp [World.cell?, h]
set_option maxRecDepth 100000 in
set_option maxHeartbeats 8000000 in
theorem CheckTrie_c (a : Option Addr) (cap : Nat) (t : List Nd) (w : World) (hf : fitT t) (hP : TrL w a t) :
    Calls Try.prog 13 #[.slice a t.length cap] w fun e w' => ckP (tchk t) w e w' := by
  have HP := hideH hP
  have HF := hideH hf
  have hl := hf.len
  unfold maxLen at hl
  obtain ⟨N, hN⟩ : ∃ N, N = t.length := ⟨_, rfl⟩
  have HN := hideH hN
  rw [← hN] at hl ⊢
  clear hN hP hf
  rcases Nat.eq_zero_or_pos N with h0 | h0
  · subst h0
    have HE : Hid (tchk t = 1) := tchk_no fun h => by have := h.1; have := HN.out; omega
    go_enter Try.func13, Try.ntmps13
    go_wp2_with fail
    go_ret
    unfold ckP
    exact ⟨ret_int HE.out.symm, Below.refl _ _⟩
  · have hz : ((N : Int) == 0) = false := by simp; omega
    go_enter Try.func13, Try.ntmps13
    go_wp2_with fail
    go_loopw [3] (fun x v => ∃ n : Nat, n ≤ N ∧ x = .int .i64 n ∧ Hid (∀ j, j < n → okN t j = true) ∧ Hid (Below w.heap.size w v)) (fun x _ => N - (intOf x).toNat)
    case atStart => exact ⟨0, Nat.zero_le _, rfl, fun i h1 => by omega, Below.refl _ _⟩
    case round =>
      obtain ⟨n, hn, rfl, HR, HW⟩ := hrel
      by_cases hlt : n < N
      · rcases HP.out.on HW.out with h0 | ⟨b, off, rfl, hcs⟩
        · have := HN.out; omega
        obtain ⟨ea, ec, d0, d1, d2⟩ := hcs n (by have := HN.out; omega)
        clear hcs
        have hni : (n : Int) < (N : Int) := by omega
        have HOk := hideH (okN_iff t n)
        have HEd := hideH d2
        have hle := HF.out.es n (by have := HN.out; omega)
        unfold maxLen at hle
        clear d2
        have HNN := hideH HN.out
        obtain ⟨m, hm⟩ : ∃ m, m = (nod t n).es.length := ⟨_, rfl⟩
        have HM := hideH hm
        rw [← hm] at d0 hle
        clear hm
        by_cases q1 : (nod t n).wd < -1
        · have HBad : Hid (tchk t = 1) := tchk_no fun h => by
            have := (HOk.out.1 (h.2 n (by have := HN.out; omega))).1
            omega
          generalize (nod t n).wd = wd at d1 q1
          go_wp2_with fail
          go_ret
          unfold ckP
          exact ⟨ret_int HBad.out.symm, HW.out⟩
        · have HQ1 : Hid (-1 ≤ (nod t n).wd) := by show _ ≤ _; omega
          obtain ⟨wd, hwd⟩ : ∃ wd, wd = (nod t n).wd := ⟨_, rfl⟩
          rw [← hwd] at d1 q1
          clear hwd
          obtain ⟨wo, hwo⟩ : ∃ wo, wo = wr := ⟨_, rfl⟩
          rw [← hwo] at d0 d1 HW HEd
          simp only [← hwo]
          clear hwo
          go_wp2_with fail
          go_loopw [4] (fun x v => ∃ k : Nat, k ≤ m ∧ x = .int .i64 k ∧ Hid (eOk (nod t n).es n N k) ∧ Hid (Below wo.heap.size wo v)) (fun x _ => m - (intOf x).toNat)
          case atStart => exact ⟨0, Nat.zero_le _, rfl, fun i h1 => by omega, Below.refl _ _⟩
          case round =>
            obtain ⟨k, hk, rfl, HO, HV⟩ := hrel
            have e0 := cell_on d0 HV.out
            by_cases hkm : k < m
            · rcases HEd.out.on HV.out with h0 | ⟨eb, eo, rfl, hes⟩
              · have := HM.out; omega
              obtain ⟨g0, g1⟩ := hes k (by have := HM.out; omega)
              have hki : (k : Int) < (m : Int) := by omega
              have HBx := hideH ((Below.refl wr.heap.size wr).alloc (Nat.le_refl _) (.cells #[.int .u8 ((eC (nod t n).es k).toNat : Int), .int .i64 (eT (nod t n).es k)] 52))
              obtain ⟨x0, x1⟩ := cell2 (heap_alloc_new wr (.cells #[.int .u8 ((eC (nod t n).es k).toNat : Int), .int .i64 (eT (nod t n).es k)] 52))
              have y0 := cell_on e0 HBx.out
              have hw1 : IntKind.i64.wrap ((n : Int) + 1) = (n : Int) + 1 := wrap_nn (by omega) (by omega)
              have hw2 : IntKind.i64.wrap ((N : Int) - 1) = (N : Int) - 1 := wrap_nn (by omega) (by omega)
              have hC := (eC (nod t n).es k).toNat_lt
              have HNx : Hid (∀ (hh : ((n : Int) < eT (nod t n).es k ∧ eT (nod t n).es k < N) ∧ (1 ≤ k → eC (nod t n).es (k - 1) < eC (nod t n).es k)), eOk (nod t n).es n N (k + 1)) := fun hh j hj => by
                by_cases h : j = k
                · subst h; exact hh
                · exact HO.out j (by omega)
              have HBd : Hid (¬ (((n : Int) < eT (nod t n).es k ∧ eT (nod t n).es k < N) ∧ (1 ≤ k → eC (nod t n).es (k - 1) < eC (nod t n).es k)) → tchk t = 1) := fun hh => tchk_no fun h => by
                have := (HOk.out.1 (h.2 n (by have := HN.out; omega))).2 k (by have := HM.out; omega)
                rw [← HN.out] at this
                exact hh this
              by_cases q2 : (n : Int) < eT (nod t n).es k ∧ eT (nod t n).es k < N
              · have HWi := hideH (fun v => within_b (eT (nod t n).es k) ((n : Int) + 1) ((N : Int) - 1) true (by simp; omega) v)
                rcases Nat.eq_zero_or_pos k with hk0 | hk0
                · subst hk0
                  have HG := hideH (HNx.out ⟨q2, fun h => by omega⟩)
                  clear q2 HBd HNx hes
                  simp only [Nat.zero_mul, Nat.add_zero] at g0 g1
                  go_wp2_with fail
                  go_quiet ((go_at_call 21; exact Calls.quiet_of_same (HWi.out _)))
                  go_wp2_with fail
                  go_roundw
                  case rel => exact ⟨1, by omega, by go_num, HG, below_drewN (bthen HV.out HBx.out) _⟩
                  case measure => simp [intOf]; omega
                · have hkp : (0 : Int) < (k : Int) := by omega
                  have hwk : IntKind.i64.wrap ((k : Int) - 1) = ((k - 1 : Nat) : Int) := by rw [wrap_nn (by omega) (by omega)]; omega
                  have hkl : ((k - 1 : Nat) : Int) < (m : Int) := by omega
                  have p0 := cell_on (hes (k - 1) (by have := HM.out; omega)).1 HBx.out
                  have hCp := (eC (nod t n).es (k - 1)).toNat_lt
                  clear hes
                  by_cases q3 : eC (nod t n).es (k - 1) < eC (nod t n).es k
                  · have HG := hideH (HNx.out ⟨q2, fun _ => q3⟩)
                    have q3i : ¬ (((eC (nod t n).es k).toNat : Int) ≤ ((eC (nod t n).es (k - 1)).toNat : Int)) := by rw [UInt8.lt_iff_toNat_lt] at q3; omega
                    clear q2 q3 HBd HNx
                    go_wp2_with fail
                    go_quiet ((go_at_call 21; exact Calls.quiet_of_same (HWi.out _)))
                    go_wp2_with fail
                    go_roundw
                    case rel => exact ⟨k + 1, by omega, by go_num, HG, below_drewN (bthen HV.out HBx.out) _⟩
                    case measure => simp [intOf]; omega
                  · have HB1 := hideH (HBd.out (fun hh => q3 (hh.2 hk0)))
                    have q3i : ((eC (nod t n).es k).toNat : Int) ≤ ((eC (nod t n).es (k - 1)).toNat : Int) := by rw [UInt8.lt_iff_toNat_lt] at q3; omega
                    clear q2 q3 HBd HNx
                    go_wp2_with fail
                    go_quiet ((go_at_call 21; exact Calls.quiet_of_same (HWi.out _)))
                    go_wp2_with fail
                    go_ret
                    unfold ckP
                    exact ⟨ret_int HB1.out.symm, below_drewN (bthen (bthen HW.out HV.out) HBx.out) _⟩
              · have HWi := hideH (fun v => within_b (eT (nod t n).es k) ((n : Int) + 1) ((N : Int) - 1) false (by simp; omega) v)
                have HB1 := hideH (HBd.out (fun hh => q2 hh.1))
                clear q2 HBd HNx hes
                go_wp2_with fail
                go_quiet ((go_at_call 21; exact Calls.quiet_of_same (HWi.out _)))
                go_wp2_with fail
                go_ret
                unfold ckP
                exact ⟨ret_int HB1.out.symm, below_drewN (bthen (bthen HW.out HV.out) HBx.out) _⟩
            · obtain rfl : k = m := by omega
              have HG : Hid (okN t n = true) := HOk.out.2 ⟨HQ1.out, by rw [← HM.out, ← HN.out]; exact HO.out⟩
              go_wp2_with fail
              go_roundw
              case rel => exact ⟨n + 1, by omega, by go_num, fun j h1 => by
                by_cases hi : j = n
                · subst hi; exact HG.out
                · exact HR.out j (by omega), bthen HW.out HV.out⟩
              case measure => simp [intOf]; omega
      · have HG : Hid (tchk t = 0) := tchk_yes ⟨by have := HN.out; omega, fun i hi => HR.out i (by have := HN.out; omega)⟩
        have hni : ¬ ((n : Int) < (N : Int)) := by omega
        go_wp2_with fail
        go_ret
        unfold ckP
        exact ⟨ret_int HG.out.symm, HW.out⟩
end Go.Proofs.Ythkdjklpegmnnaa.Tri
