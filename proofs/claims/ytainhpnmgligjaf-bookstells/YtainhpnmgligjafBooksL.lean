/- The document's own CheckBooks, its last part: parents. -/
import Derived.Test.YtainhpnmgligjafBooksG
import Derived.Test.YtainhpnmgligjafRefApAll
namespace Go.Proofs.Ytainhpnmgligjaf
open Go Go.RowKit Go.Maps
set_option linter.unusedVariables false

set_option maxRecDepth 1000000 in
set_option maxHeartbeats 4000000 in
theorem cb6 {a : Option Addr} {n c : Nat} {bs : Nat → Bk} {w W : World} {V : Int} {u1 u2 u3 u4 u5 u6 u7 u8 u9 u10 u11 u12 u13 u14 u15 u16 u17 u18 u19 u20 u21 u22 u23 u24 u25 u26 u27 u28 u29 u30 u31 u32 u33 u34 u35 u36 u37 u38 u39 u40 u41 u42 u43 u44 u45 u46 u47 u48 u49 u50 u51 u52 u53 u54 u55 u56 u57 u58 u59 u60 u61 u62 u63 u64 u65 u66 u67 u68 u69 u70 u71 u72 u73 u74 u75 u76 u77 u78 u79 u80 u81 u82 u83 u84 u85 u86 u87 u88 u89 u90 u91 u92 u93 u94 u95 u96 u97 u98 u99 u100 u101 u102 u103 u104 u105 u106 u107 u108 u109 u110 u111 u112 u113 u114 u115 u116 u117 u118 u119 u120 u121 u122 u123 u124 u125 u126 u127 u128 u129 u130 u131 u132 u133 : Value} (h4 : n ≤ 4) (HP : Hid (BAt w a n bs)) (HW : Hid (Below w.heap.size w W)) (HV0 : Hid (paB bs n = true → V = 0)) (HV3 : Hid (paB bs n = false → V = 3)) :
    Code.wp Try.prog (ctl 7 (Try.f9.body.getD .skip)) (bodyPost Try.prog Try.f9 fun e w' => e = .returned (.int .i64 V) ∧ Below w.heap.size w w') ⟨#[.slice a n c, u1, u2, u3, u4, u5, u6, u7, u8, u9, u10, u11, u12, u13, u14, u15, u16, u17, u18, u19, u20, u21, u22, u23, u24, u25, u26, u27, u28, u29, u30, u31, u32, u33, u34, u35, u36, u37, u38, u39, u40, u41, u42, u43, u44, u45, u46, u47, u48, u49, u50, u51, u52, u53, u54, u55, u56, u57, u58, u59, u60, u61, u62, u63, u64, u65, u66, u67, u68, u69, u70, u71, u72, u73, u74, u75, u76, u77, u78, u79, u80, u81, u82, u83, u84, u85, u86, u87, u88, u89, u90, u91, u92, u93, u94, u95, u96, u97, u98, u99, u100, u101, u102, u103, u104, u105, u106, u107, u108, u109, u110, u111, u112, u113, u114, u115, u116, u117, u118, u119, u120, u121, u122, u123, u124, u125, u126, u127, u128, u129, u130, u131, u132, u133], []⟩ W := by
  conv => arg 2; whnf
  go_wp2_with fail
  go_loopw [9] (fun x9 v => ∃ k : Nat, k ≤ n ∧ x9 = .int .i64 k ∧ Hid (Below w.heap.size w v) ∧ Hid (∀ j, j < k → -1 ≤ (bs j).pa ∧ (bs j).pa < j)) (fun x9 _ => n - (intOf x9).toNat)
  case atStart => exact ⟨0, Nat.zero_le _, rfl, HW, fun j hj => by omega⟩
  case round =>
    obtain ⟨k, hk, rfl, HW2, HA⟩ := hrel
    by_cases hlt : k < n
    · rcases (HP.out.on HW2.out).rows with h0 | ⟨b, off, hsa, hcs⟩
      · omega
      obtain ⟨c0, c1, c2⟩ := hcs k hlt
      have hk0 : decide ((k : Int) < 0) = false := by simp
      have hkn : decide (n ≤ k) = false := by simp; omega
      have hki : (k : Int) < (n : Int) := by omega
      clear hcs c0 c2
      by_cases hq : -1 ≤ (bs k).pa ∧ (bs k).pa < k
      · have hin : inB (bs k).pa (-1) ((k : Int) - 1) = true := in_mk (by omega)
        have HA2 : Hid (∀ j, j < k + 1 → -1 ≤ (bs j).pa ∧ (bs j).pa < j) := fun j hj => by
          rcases Nat.lt_or_ge j k with h | h
          · exact HA.out j h
          · obtain rfl : j = k := by omega
            exact hq
        clear hq
        go_wp2_with (go_at_call 25; refine (within_c _ _ _ _).mono ?_; rintro e w2 ⟨rfl, rfl⟩)
        try simp only [← hsa]
        go_roundw
        case rel => exact ⟨k + 1, by omega, by go_num, HW2, HA2⟩
        case measure => simp [intOf]; omega
      · have hin : inB (bs k).pa (-1) ((k : Int) - 1) = false := in_not (by omega)
        have HX : Hid (V = 3) := HV3.out (by
          cases hb : paB bs n
          · rfl
          · exact absurd ((paB_iff bs n).1 hb k hlt) hq)
        clear hq
        go_wp2_with (go_at_call 25; refine (within_c _ _ _ _).mono ?_; rintro e w2 ⟨rfl, rfl⟩)
        go_ret
        exact ⟨ret_int HX.out.symm, HW2.out⟩
    · have HX : Hid (V = 0) := HV0.out ((paB_iff bs n).2 (fun j hj => HA.out j (by omega)))
      go_wp2_with fail
      go_ret
      exact ⟨ret_int HX.out.symm, HW2.out⟩
end Go.Proofs.Ytainhpnmgligjaf
