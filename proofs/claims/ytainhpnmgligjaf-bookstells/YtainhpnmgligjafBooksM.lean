/- The document's own CheckBooks: keys rise. -/
import Derived.Test.YtainhpnmgligjafBooksL
namespace Go.Proofs.Ytainhpnmgligjaf
open Go Go.RowKit Go.Maps
set_option linter.unusedVariables false

set_option maxRecDepth 1000000 in
def CB6 (a : Option Addr) (n c : Nat) (w : World) (V : Int) : Prop := ∀ (W : World) (u1 u2 u3 u4 u5 u6 u7 u8 u9 u10 u11 u12 u13 u14 u15 u16 u17 u18 u19 u20 u21 u22 u23 u24 u25 u26 u27 u28 u29 u30 u31 u32 u33 u34 u35 u36 u37 u38 u39 u40 u41 u42 u43 u44 u45 u46 u47 u48 u49 u50 u51 u52 u53 u54 u55 u56 u57 u58 u59 u60 u61 u62 u63 u64 u65 u66 u67 u68 u69 u70 u71 u72 u73 u74 u75 u76 u77 u78 u79 u80 u81 u82 u83 u84 u85 u86 u87 u88 u89 u90 u91 u92 u93 u94 u95 u96 u97 u98 u99 u100 u101 u102 u103 u104 u105 u106 u107 u108 u109 u110 u111 u112 u113 u114 u115 u116 u117 u118 u119 u120 u121 u122 u123 u124 u125 u126 u127 u128 u129 u130 u131 u132 u133 : Value), Hid (Below w.heap.size w W) → Code.wp Try.prog (ctl 7 (Try.f9.body.getD .skip)) (bodyPost Try.prog Try.f9 fun e w' => e = .returned (.int .i64 V) ∧ Below w.heap.size w w') ⟨#[.slice a n c, u1, u2, u3, u4, u5, u6, u7, u8, u9, u10, u11, u12, u13, u14, u15, u16, u17, u18, u19, u20, u21, u22, u23, u24, u25, u26, u27, u28, u29, u30, u31, u32, u33, u34, u35, u36, u37, u38, u39, u40, u41, u42, u43, u44, u45, u46, u47, u48, u49, u50, u51, u52, u53, u54, u55, u56, u57, u58, u59, u60, u61, u62, u63, u64, u65, u66, u67, u68, u69, u70, u71, u72, u73, u74, u75, u76, u77, u78, u79, u80, u81, u82, u83, u84, u85, u86, u87, u88, u89, u90, u91, u92, u93, u94, u95, u96, u97, u98, u99, u100, u101, u102, u103, u104, u105, u106, u107, u108, u109, u110, u111, u112, u113, u114, u115, u116, u117, u118, u119, u120, u121, u122, u123, u124, u125, u126, u127, u128, u129, u130, u131, u132, u133], []⟩ W
set_option maxRecDepth 1000000 in
set_option maxHeartbeats 4000000 in
theorem cb5 {a : Option Addr} {n c : Nat} {bs : Nat → Bk} {w W : World} {V : Int} {u1 u2 u3 u4 u5 u6 u7 u8 u9 u10 u11 u12 u13 u14 u15 u16 u17 u18 u19 u20 u21 u22 u23 u24 u25 u26 u27 u28 u29 u30 u31 u32 u33 u34 u35 u36 u37 u38 u39 u40 u41 u42 u43 u44 u45 u46 u47 u48 u49 u50 u51 u52 u53 u54 u55 u56 u57 u58 u59 u60 u61 u62 u63 u64 u65 u66 u67 u68 u69 u70 u71 u72 u73 u74 u75 u76 u77 u78 u79 u80 u81 u82 u83 u84 u85 u86 u87 u88 u89 u90 u91 u92 u93 u94 u95 u96 u97 u98 u99 u100 u101 u102 u103 u104 u105 u106 u107 u108 u109 u110 u111 u112 u113 u114 u115 u116 u117 u118 u119 u120 u121 u122 u123 u124 u125 u126 u127 u128 u129 u130 u131 u132 u133 : Value} (h4 : n ≤ 4) (HP : Hid (BAt w a n bs)) (HE : Hid (∀ j, j < n → (bs j).n ≤ 8)) (HW : Hid (Below w.heap.size w W)) (H6 : Hid ((∀ j, j < n → rsOK (bs j)) → CB6 a n c w V)) (HV6 : Hid (¬ (∀ j, j < n → rsOK (bs j)) → V = 6)) :
    Code.wp Try.prog (ctl 6 (Try.f9.body.getD .skip)) (bodyPost Try.prog Try.f9 fun e w' => e = .returned (.int .i64 V) ∧ Below w.heap.size w w') ⟨#[.slice a n c, u1, u2, u3, u4, u5, u6, u7, u8, u9, u10, u11, u12, u13, u14, u15, u16, u17, u18, u19, u20, u21, u22, u23, u24, u25, u26, u27, u28, u29, u30, u31, u32, u33, u34, u35, u36, u37, u38, u39, u40, u41, u42, u43, u44, u45, u46, u47, u48, u49, u50, u51, u52, u53, u54, u55, u56, u57, u58, u59, u60, u61, u62, u63, u64, u65, u66, u67, u68, u69, u70, u71, u72, u73, u74, u75, u76, u77, u78, u79, u80, u81, u82, u83, u84, u85, u86, u87, u88, u89, u90, u91, u92, u93, u94, u95, u96, u97, u98, u99, u100, u101, u102, u103, u104, u105, u106, u107, u108, u109, u110, u111, u112, u113, u114, u115, u116, u117, u118, u119, u120, u121, u122, u123, u124, u125, u126, u127, u128, u129, u130, u131, u132, u133], []⟩ W := by
  conv => arg 2; whnf
  go_wp2_with fail
  go_loopw [7] (fun x7 v => ∃ k : Nat, k ≤ n ∧ x7 = .int .i64 k ∧ Hid (Below w.heap.size w v) ∧ Hid (∀ j, j < k → rsOK (bs j))) (fun x7 _ => n - (intOf x7).toNat)
  case atStart => exact ⟨0, Nat.zero_le _, rfl, HW, fun j hj => by omega⟩
  case round =>
    obtain ⟨k, hk, rfl, HW2, HA⟩ := hrel
    by_cases hlt : k < n
    · rcases (HP.out.on HW2.out).rows with h0 | ⟨b, off, hsa, hcs⟩
      · omega
      obtain ⟨c0, c1, c2⟩ := hcs k hlt
      have hk0 : decide ((k : Int) < 0) = false := by simp
      have hkn : decide (n ≤ k) = false := by simp; omega
      have hki : (k : Int) < (n : Int) := by omega
      have hn8 := HE.out k hlt
      subst hsa
      clear hcs c0 c1 c2
      rename ∀ (a : Act) (w : World), _ → _ => hcont
      have HCONT := hideH hcont
      clear hcont
      go_wp2_with fail
      go_loopw [8] (fun x8 v => ∃ i : Nat, 1 ≤ i ∧ (i ≤ (bs k).n ∨ i = 1) ∧ x8 = .int .i64 i ∧ Hid (Below w.heap.size w v) ∧ Hid (∀ t, t + 1 < i → ltB ((bs k).ks t) ((bs k).ks (t + 1)) = true)) (fun x8 _ => (bs k).n - (intOf x8).toNat)
      case atStart => exact ⟨1, by omega, .inr rfl, rfl, HW2, fun t ht => by omega⟩
      case round =>
        obtain ⟨j, hj1, hj, rfl, HW3, HB⟩ := hrel
        rcases (HP.out.on HW3.out).rows with h0 | ⟨b', off', hsa, hcs⟩
        · omega
        obtain ⟨rfl, rfl⟩ : b = b' ∧ off = off' := by simpa using hsa
        clear hsa
        obtain ⟨c0, c1, c2⟩ := hcs k hlt
        clear hcs c0 c1
        by_cases hlj : j < (bs k).n
        · rcases (HP.out.on HW3.out).prs k hlt with h0 | ⟨b2, off2, hsb, hcs2⟩
          · omega
          have d1 := (hcs2 j hlj).1
          obtain ⟨m, hm⟩ : ∃ m : Nat, j = m + 1 := ⟨j - 1, by omega⟩
          have d0 := (hcs2 m (by omega)).1
          have c3 : wr.cell? ⟨b, off + k * 3 + 2, none⟩ = some (.slice (some ⟨b2, off2, none⟩) (bs k).n (bs k).c) := by rw [← hsb]; exact c2
          have hwm : IntKind.i64.wrap ((j : Int) - 1) = (m : Int) := by rw [wrap_nn' (by omega) (by omega)]; omega
          have hm0 : decide ((m : Int) < 0) = false := by simp
          have hmn : decide ((bs k).n ≤ m) = false := by simp; omega
          have hm2 : (m : Int) < ((bs k).n : Int) := by omega
          have ht := less_tri ((bs k).ks j).toList ((bs k).ks m).toList
          have HM := hideH hm
          clear hm hcs2 c2 hsb
          have hj0 : decide ((j : Int) < 0) = false := by simp
          have hjn : decide ((bs k).n ≤ j) = false := by simp; omega
          have hlt2 : (j : Int) < ((bs k).n : Int) := by omega
          cases hq : ltB ((bs k).ks m) ((bs k).ks j)
          · have hq1 : Op.bytesLess ((bs k).ks m).toList ((bs k).ks j).toList = false := hq
            rw [hq1, Bool.not_false] at ht
            have HX : Hid (V = 6) := HV6.out (fun h => by have := h k hlt m (by have := HM.out; omega); rw [← HM.out, hq] at this; cases this)
            clear hq
            go_wp2_with fail
            go_quiet (fail)
            go_wp2_with fail
            go_ret
            exact ⟨ret_int HX.out.symm, below_drewN HW3.out _⟩
          · have hq1 : Op.bytesLess ((bs k).ks m).toList ((bs k).ks j).toList = true := hq
            rw [hq1, Bool.not_true] at ht
            have HB2 : Hid (∀ t, t + 1 < j + 1 → ltB ((bs k).ks t) ((bs k).ks (t + 1)) = true) := fun i hi => by
              rcases Nat.lt_or_ge (i + 1) j with h | h
              · exact HB.out i h
              · have : i = m := by have := HM.out; omega
                rw [this, ← HM.out]; exact hq
            clear hq
            go_wp2_with fail
            go_quiet (fail)
            go_wp2_with fail
            go_roundw
            case rel => exact ⟨j + 1, by omega, .inl (by omega), by go_num, below_drewN HW3.out _, HB2⟩
            case measure => simp [intOf]; omega
        · have HA2 : Hid (∀ t, t < k + 1 → rsOK (bs t)) := fun t ht => by
            rcases Nat.lt_or_ge t k with h | h
            · exact HA.out t h
            · obtain rfl : t = k := by omega
              exact fun i hi => HB.out i (by omega)
          go_wp2_with fail
          go_roundw
          case rel => exact ⟨k + 1, by omega, by go_num, HW3, HA2⟩
          case measure => simp [intOf]; omega
    · have H := hideH (H6.out (fun j hj => HA.out j (by omega)))
      rename ∀ (a : Act) (w : World), _ → _ => hcont
      have HCONT := hideH hcont
      clear hcont
      go_wp2_with fail
      refine HCONT.out _ _ ?_
      exact H.out wr _ _ _ _ _ _ _ _ _ _ _ _ _ _ _ _ _ _ _ _ _ _ _ _ _ _ _ _ _ _ _ _ _ _ _ _ _ _ _ _ _ _ _ _ _ _ _ _ _ _ _ _ _ _ _ _ _ _ _ _ _ _ _ _ _ _ _ _ _ _ _ _ _ _ _ _ _ _ _ _ _ _ _ _ _ _ _ _ _ _ _ _ _ _ _ _ _ _ _ _ _ _ _ _ _ _ _ _ _ _ _ _ _ _ _ _ _ _ _ _ _ _ _ _ _ _ _ _ _ _ _ _ _ HW2
end Go.Proofs.Ytainhpnmgligjaf
