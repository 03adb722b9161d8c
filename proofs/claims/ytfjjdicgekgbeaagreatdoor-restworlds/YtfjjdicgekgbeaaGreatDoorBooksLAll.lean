/- The document's own CheckBooks, its last part: parents. -/
import Derived.Test.YtfjjdicgekgbeaaGreatDoorBooksEAll
import Derived.Test.YtfjjdicgekgbeaaGreatDoorRefApAll
import Derived.Test.YtfjjdicgekgbeaaGreatDoorRefE
import Derived.Test.YtfjjdicgekgbeaaGreatDoorBooksJAll
namespace Go.Proofs.YtfjjdicgekgbeaaGreatDoor
open Go Go.RowKit Go.Maps
set_option linter.unusedVariables false

set_option maxRecDepth 1000000 in
set_option maxHeartbeats 4000000 in
theorem cb6 {a : Option Addr} {n c : Nat} {bs : Nat → Bk} {w W : World} {V : Int} {u1 u2 u3 u4 u5 u6 u7 u8 u9 u10 u11 u12 u13 u14 u15 u16 u17 u18 u19 u20 u21 u22 u23 u24 u25 u26 u27 u28 u29 u30 u31 u32 u33 u34 u35 u36 u37 u38 u39 u40 u41 u42 u43 u44 u45 u46 u47 u48 u49 u50 u51 u52 u53 u54 u55 u56 u57 u58 u59 u60 u61 u62 u63 u64 u65 u66 u67 u68 u69 u70 u71 u72 u73 u74 u75 u76 u77 u78 u79 u80 u81 u82 u83 u84 u85 u86 u87 u88 u89 u90 u91 u92 u93 u94 u95 u96 u97 u98 u99 u100 u101 u102 u103 u104 u105 u106 u107 u108 u109 u110 u111 u112 u113 u114 u115 u116 u117 u118 u119 u120 u121 u122 u123 u124 u125 u126 u127 u128 u129 u130 u131 u132 u133 : Value} (h4 : n ≤ 4) (HP : Hid (BAt w a n bs)) (HW : Hid (Below w.heap.size w W)) (HV0 : Hid (paB bs n = true → V = 0)) (HV3 : Hid (paB bs n = false → V = 3)) :
    Code.wp Tryz.prog (ctl 7 (Tryz.f16.body.getD .skip)) (bodyPost Tryz.prog Tryz.f16 fun e w' => e = .returned (.int .i64 V) ∧ Below w.heap.size w w') ⟨#[.slice a n c, u1, u2, u3, u4, u5, u6, u7, u8, u9, u10, u11, u12, u13, u14, u15, u16, u17, u18, u19, u20, u21, u22, u23, u24, u25, u26, u27, u28, u29, u30, u31, u32, u33, u34, u35, u36, u37, u38, u39, u40, u41, u42, u43, u44, u45, u46, u47, u48, u49, u50, u51, u52, u53, u54, u55, u56, u57, u58, u59, u60, u61, u62, u63, u64, u65, u66, u67, u68, u69, u70, u71, u72, u73, u74, u75, u76, u77, u78, u79, u80, u81, u82, u83, u84, u85, u86, u87, u88, u89, u90, u91, u92, u93, u94, u95, u96, u97, u98, u99, u100, u101, u102, u103, u104, u105, u106, u107, u108, u109, u110, u111, u112, u113, u114, u115, u116, u117, u118, u119, u120, u121, u122, u123, u124, u125, u126, u127, u128, u129, u130, u131, u132, u133], []⟩ W := by
  conv => arg 2; whnf
  go_wp2_with fail
  go_loopw [9] (fun x9 v => ∃ k : Nat, k ≤ n ∧ x9 = .int .i64 k ∧ Hid (Below w.heap.size w v) ∧ Hid (∀ j, j < k → -1 ≤ (bs j).pa ∧ (bs j).pa < j)) (fun x9 _ => n - (intOf x9).toNat)
  case atStart => exact ⟨0, Nat.zero_le _, rfl, HW, fun j hj => by omega⟩
  case round =>
    obtain ⟨k, hk, rfl, HW2, HA⟩ := hrel
    by_cases hlt : k < n
    · rcases (HP.out.on HW2.out).rows with h0 | ⟨b, off, hsa, hcs⟩
      · omega
      obtain ⟨c0, c1, c2⟩ := hcs k hlt
      have hk0 : decide ((k : Int) < 0) = false := by simp
      have hkn : decide (n ≤ k) = false := by simp; omega
      have hki : (k : Int) < (n : Int) := by omega
      clear hcs c0 c2
      by_cases hq : -1 ≤ (bs k).pa ∧ (bs k).pa < k
      · have hin : inB (bs k).pa (-1) ((k : Int) - 1) = true := in_mk (by omega)
        have HA2 : Hid (∀ j, j < k + 1 → -1 ≤ (bs j).pa ∧ (bs j).pa < j) := fun j hj => by
          rcases Nat.lt_or_ge j k with h | h
          · exact HA.out j h
          · obtain rfl : j = k := by omega
            exact hq
        clear hq
        go_wp2_with (go_at_call 26; refine (within_c _ _ _ _).mono ?_; rintro e w2 ⟨rfl, rfl⟩)
        try simp only [← hsa]
        go_roundw
        case rel => exact ⟨k + 1, by omega, by go_num, HW2, HA2⟩
        case measure => simp [intOf]; omega
      · have hin : inB (bs k).pa (-1) ((k : Int) - 1) = false := in_not (by omega)
        have HX : Hid (V = 3) := HV3.out (by
          cases hb : paB bs n
          · rfl
          · exact absurd ((paB_iff bs n).1 hb k hlt) hq)
        clear hq
        go_wp2_with (go_at_call 26; refine (within_c _ _ _ _).mono ?_; rintro e w2 ⟨rfl, rfl⟩)
        go_ret
        exact ⟨ret_int HX.out.symm, HW2.out⟩
    · have HX : Hid (V = 0) := HV0.out ((paB_iff bs n).2 (fun j hj => HA.out j (by omega)))
      go_wp2_with fail
      go_ret
      exact ⟨ret_int HX.out.symm, HW2.out⟩
end Go.Proofs.YtfjjdicgekgbeaaGreatDoor

/- The document's own CheckBooks: keys rise. -/
namespace Go.Proofs.YtfjjdicgekgbeaaGreatDoor
open Go Go.RowKit Go.Maps
set_option linter.unusedVariables false

set_option maxRecDepth 1000000 in
def CB6 (a : Option Addr) (n c : Nat) (w : World) (V : Int) : Prop := ∀ (W : World) (u1 u2 u3 u4 u5 u6 u7 u8 u9 u10 u11 u12 u13 u14 u15 u16 u17 u18 u19 u20 u21 u22 u23 u24 u25 u26 u27 u28 u29 u30 u31 u32 u33 u34 u35 u36 u37 u38 u39 u40 u41 u42 u43 u44 u45 u46 u47 u48 u49 u50 u51 u52 u53 u54 u55 u56 u57 u58 u59 u60 u61 u62 u63 u64 u65 u66 u67 u68 u69 u70 u71 u72 u73 u74 u75 u76 u77 u78 u79 u80 u81 u82 u83 u84 u85 u86 u87 u88 u89 u90 u91 u92 u93 u94 u95 u96 u97 u98 u99 u100 u101 u102 u103 u104 u105 u106 u107 u108 u109 u110 u111 u112 u113 u114 u115 u116 u117 u118 u119 u120 u121 u122 u123 u124 u125 u126 u127 u128 u129 u130 u131 u132 u133 : Value), Hid (Below w.heap.size w W) → Code.wp Tryz.prog (ctl 7 (Tryz.f16.body.getD .skip)) (bodyPost Tryz.prog Tryz.f16 fun e w' => e = .returned (.int .i64 V) ∧ Below w.heap.size w w') ⟨#[.slice a n c, u1, u2, u3, u4, u5, u6, u7, u8, u9, u10, u11, u12, u13, u14, u15, u16, u17, u18, u19, u20, u21, u22, u23, u24, u25, u26, u27, u28, u29, u30, u31, u32, u33, u34, u35, u36, u37, u38, u39, u40, u41, u42, u43, u44, u45, u46, u47, u48, u49, u50, u51, u52, u53, u54, u55, u56, u57, u58, u59, u60, u61, u62, u63, u64, u65, u66, u67, u68, u69, u70, u71, u72, u73, u74, u75, u76, u77, u78, u79, u80, u81, u82, u83, u84, u85, u86, u87, u88, u89, u90, u91, u92, u93, u94, u95, u96, u97, u98, u99, u100, u101, u102, u103, u104, u105, u106, u107, u108, u109, u110, u111, u112, u113, u114, u115, u116, u117, u118, u119, u120, u121, u122, u123, u124, u125, u126, u127, u128, u129, u130, u131, u132, u133], []⟩ W
set_option maxRecDepth 1000000 in
set_option maxHeartbeats 4000000 in
theorem cb5 {a : Option Addr} {n c : Nat} {bs : Nat → Bk} {w W : World} {V : Int} {u1 u2 u3 u4 u5 u6 u7 u8 u9 u10 u11 u12 u13 u14 u15 u16 u17 u18 u19 u20 u21 u22 u23 u24 u25 u26 u27 u28 u29 u30 u31 u32 u33 u34 u35 u36 u37 u38 u39 u40 u41 u42 u43 u44 u45 u46 u47 u48 u49 u50 u51 u52 u53 u54 u55 u56 u57 u58 u59 u60 u61 u62 u63 u64 u65 u66 u67 u68 u69 u70 u71 u72 u73 u74 u75 u76 u77 u78 u79 u80 u81 u82 u83 u84 u85 u86 u87 u88 u89 u90 u91 u92 u93 u94 u95 u96 u97 u98 u99 u100 u101 u102 u103 u104 u105 u106 u107 u108 u109 u110 u111 u112 u113 u114 u115 u116 u117 u118 u119 u120 u121 u122 u123 u124 u125 u126 u127 u128 u129 u130 u131 u132 u133 : Value} (h4 : n ≤ 4) (HP : Hid (BAt w a n bs)) (HE : Hid (∀ j, j < n → (bs j).n ≤ 8)) (HW : Hid (Below w.heap.size w W)) (H6 : Hid ((∀ j, j < n → rsOK (bs j)) → CB6 a n c w V)) (HV6 : Hid (¬ (∀ j, j < n → rsOK (bs j)) → V = 6)) :
    Code.wp Tryz.prog (ctl 6 (Tryz.f16.body.getD .skip)) (bodyPost Tryz.prog Tryz.f16 fun e w' => e = .returned (.int .i64 V) ∧ Below w.heap.size w w') ⟨#[.slice a n c, u1, u2, u3, u4, u5, u6, u7, u8, u9, u10, u11, u12, u13, u14, u15, u16, u17, u18, u19, u20, u21, u22, u23, u24, u25, u26, u27, u28, u29, u30, u31, u32, u33, u34, u35, u36, u37, u38, u39, u40, u41, u42, u43, u44, u45, u46, u47, u48, u49, u50, u51, u52, u53, u54, u55, u56, u57, u58, u59, u60, u61, u62, u63, u64, u65, u66, u67, u68, u69, u70, u71, u72, u73, u74, u75, u76, u77, u78, u79, u80, u81, u82, u83, u84, u85, u86, u87, u88, u89, u90, u91, u92, u93, u94, u95, u96, u97, u98, u99, u100, u101, u102, u103, u104, u105, u106, u107, u108, u109, u110, u111, u112, u113, u114, u115, u116, u117, u118, u119, u120, u121, u122, u123, u124, u125, u126, u127, u128, u129, u130, u131, u132, u133], []⟩ W := by
  conv => arg 2; whnf
  go_wp2_with fail
  go_loopw [7] (fun x7 v => ∃ k : Nat, k ≤ n ∧ x7 = .int .i64 k ∧ Hid (Below w.heap.size w v) ∧ Hid (∀ j, j < k → rsOK (bs j))) (fun x7 _ => n - (intOf x7).toNat)
  case atStart => exact ⟨0, Nat.zero_le _, rfl, HW, fun j hj => by omega⟩
  case round =>
    obtain ⟨k, hk, rfl, HW2, HA⟩ := hrel
    by_cases hlt : k < n
    · rcases (HP.out.on HW2.out).rows with h0 | ⟨b, off, hsa, hcs⟩
      · omega
      obtain ⟨c0, c1, c2⟩ := hcs k hlt
      have hk0 : decide ((k : Int) < 0) = false := by simp
      have hkn : decide (n ≤ k) = false := by simp; omega
      have hki : (k : Int) < (n : Int) := by omega
      have hn8 := HE.out k hlt
      subst hsa
      clear hcs c0 c1 c2
      rename ∀ (a : Act) (w : World), _ → _ => hcont
      have HCONT := hideH hcont
      clear hcont
      go_wp2_with fail
      go_loopw [8] (fun x8 v => ∃ i : Nat, 1 ≤ i ∧ (i ≤ (bs k).n ∨ i = 1) ∧ x8 = .int .i64 i ∧ Hid (Below w.heap.size w v) ∧ Hid (∀ t, t + 1 < i → ltB ((bs k).ks t) ((bs k).ks (t + 1)) = true)) (fun x8 _ => (bs k).n - (intOf x8).toNat)
      case atStart => exact ⟨1, by omega, .inr rfl, rfl, HW2, fun t ht => by omega⟩
      case round =>
        obtain ⟨j, hj1, hj, rfl, HW3, HB⟩ := hrel
        rcases (HP.out.on HW3.out).rows with h0 | ⟨b', off', hsa, hcs⟩
        · omega
        obtain ⟨rfl, rfl⟩ : b = b' ∧ off = off' := by simpa using hsa
        clear hsa
        obtain ⟨c0, c1, c2⟩ := hcs k hlt
        clear hcs c0 c1
        by_cases hlj : j < (bs k).n
        · rcases (HP.out.on HW3.out).prs k hlt with h0 | ⟨b2, off2, hsb, hcs2⟩
          · omega
          have d1 := (hcs2 j hlj).1
          obtain ⟨m, hm⟩ : ∃ m : Nat, j = m + 1 := ⟨j - 1, by omega⟩
          have d0 := (hcs2 m (by omega)).1
          have c3 : wr.cell? ⟨b, off + k * 3 + 2, none⟩ = some (.slice (some ⟨b2, off2, none⟩) (bs k).n (bs k).c) := by rw [← hsb]; exact c2
          have hwm : IntKind.i64.wrap ((j : Int) - 1) = (m : Int) := by rw [wrap_nn' (by omega) (by omega)]; omega
          have hm0 : decide ((m : Int) < 0) = false := by simp
          have hmn : decide ((bs k).n ≤ m) = false := by simp; omega
          have hm2 : (m : Int) < ((bs k).n : Int) := by omega
          have ht := less_tri ((bs k).ks j).toList ((bs k).ks m).toList
          have HM := hideH hm
          clear hm hcs2 c2 hsb
          have hj0 : decide ((j : Int) < 0) = false := by simp
          have hjn : decide ((bs k).n ≤ j) = false := by simp; omega
          have hlt2 : (j : Int) < ((bs k).n : Int) := by omega
          cases hq : ltB ((bs k).ks m) ((bs k).ks j)
          · have hq1 : Op.bytesLess ((bs k).ks m).toList ((bs k).ks j).toList = false := hq
            rw [hq1, Bool.not_false] at ht
            have HX : Hid (V = 6) := HV6.out (fun h => by have := h k hlt m (by have := HM.out; omega); rw [← HM.out, hq] at this; cases this)
            clear hq
            go_wp2_with fail
            go_quiet (fail)
            go_wp2_with fail
            go_ret
            exact ⟨ret_int HX.out.symm, below_drewN HW3.out _⟩
          · have hq1 : Op.bytesLess ((bs k).ks m).toList ((bs k).ks j).toList = true := hq
            rw [hq1, Bool.not_true] at ht
            have HB2 : Hid (∀ t, t + 1 < j + 1 → ltB ((bs k).ks t) ((bs k).ks (t + 1)) = true) := fun i hi => by
              rcases Nat.lt_or_ge (i + 1) j with h | h
              · exact HB.out i h
              · have : i = m := by have := HM.out; omega
                rw [this, ← HM.out]; exact hq
            clear hq
            go_wp2_with fail
            go_quiet (fail)
            go_wp2_with fail
            go_roundw
            case rel => exact ⟨j + 1, by omega, .inl (by omega), by go_num, below_drewN HW3.out _, HB2⟩
            case measure => simp [intOf]; omega
        · have HA2 : Hid (∀ t, t < k + 1 → rsOK (bs t)) := fun t ht => by
            rcases Nat.lt_or_ge t k with h | h
            · exact HA.out t h
            · obtain rfl : t = k := by omega
              exact fun i hi => HB.out i (by omega)
          go_wp2_with fail
          go_roundw
          case rel => exact ⟨k + 1, by omega, by go_num, HW3, HA2⟩
          case measure => simp [intOf]; omega
    · have H := hideH (H6.out (fun j hj => HA.out j (by omega)))
      rename ∀ (a : Act) (w : World), _ → _ => hcont
      have HCONT := hideH hcont
      clear hcont
      go_wp2_with fail
      refine HCONT.out _ _ ?_
      exact H.out wr _ _ _ _ _ _ _ _ _ _ _ _ _ _ _ _ _ _ _ _ _ _ _ _ _ _ _ _ _ _ _ _ _ _ _ _ _ _ _ _ _ _ _ _ _ _ _ _ _ _ _ _ _ _ _ _ _ _ _ _ _ _ _ _ _ _ _ _ _ _ _ _ _ _ _ _ _ _ _ _ _ _ _ _ _ _ _ _ _ _ _ _ _ _ _ _ _ _ _ _ _ _ _ _ _ _ _ _ _ _ _ _ _ _ _ _ _ _ _ _ _ _ _ _ _ _ _ _ _ _ _ _ _ HW2
end Go.Proofs.YtfjjdicgekgbeaaGreatDoor

/- The document's own CheckBooks: locales that are told twice. -/
namespace Go.Proofs.YtfjjdicgekgbeaaGreatDoor
open Go Go.RowKit Go.Maps
set_option linter.unusedVariables false

set_option maxRecDepth 1000000 in
def CB5 (a : Option Addr) (n c : Nat) (w : World) (V : Int) : Prop := ∀ (W : World) (u1 u2 u3 u4 u5 u6 u7 u8 u9 u10 u11 u12 u13 u14 u15 u16 u17 u18 u19 u20 u21 u22 u23 u24 u25 u26 u27 u28 u29 u30 u31 u32 u33 u34 u35 u36 u37 u38 u39 u40 u41 u42 u43 u44 u45 u46 u47 u48 u49 u50 u51 u52 u53 u54 u55 u56 u57 u58 u59 u60 u61 u62 u63 u64 u65 u66 u67 u68 u69 u70 u71 u72 u73 u74 u75 u76 u77 u78 u79 u80 u81 u82 u83 u84 u85 u86 u87 u88 u89 u90 u91 u92 u93 u94 u95 u96 u97 u98 u99 u100 u101 u102 u103 u104 u105 u106 u107 u108 u109 u110 u111 u112 u113 u114 u115 u116 u117 u118 u119 u120 u121 u122 u123 u124 u125 u126 u127 u128 u129 u130 u131 u132 u133 : Value), Hid (Below w.heap.size w W) → Code.wp Tryz.prog (ctl 6 (Tryz.f16.body.getD .skip)) (bodyPost Tryz.prog Tryz.f16 fun e w' => e = .returned (.int .i64 V) ∧ Below w.heap.size w w') ⟨#[.slice a n c, u1, u2, u3, u4, u5, u6, u7, u8, u9, u10, u11, u12, u13, u14, u15, u16, u17, u18, u19, u20, u21, u22, u23, u24, u25, u26, u27, u28, u29, u30, u31, u32, u33, u34, u35, u36, u37, u38, u39, u40, u41, u42, u43, u44, u45, u46, u47, u48, u49, u50, u51, u52, u53, u54, u55, u56, u57, u58, u59, u60, u61, u62, u63, u64, u65, u66, u67, u68, u69, u70, u71, u72, u73, u74, u75, u76, u77, u78, u79, u80, u81, u82, u83, u84, u85, u86, u87, u88, u89, u90, u91, u92, u93, u94, u95, u96, u97, u98, u99, u100, u101, u102, u103, u104, u105, u106, u107, u108, u109, u110, u111, u112, u113, u114, u115, u116, u117, u118, u119, u120, u121, u122, u123, u124, u125, u126, u127, u128, u129, u130, u131, u132, u133], []⟩ W
set_option maxRecDepth 1000000 in
set_option maxHeartbeats 4000000 in
theorem cb4 {a : Option Addr} {n c : Nat} {bs : Nat → Bk} {w W : World} {V : Int} {a3 : Option Addr} {q3 : Nat} {u1 u2 u4 u5 u6 u7 u8 u9 u10 u11 u12 u13 u14 u15 u16 u17 u18 u19 u20 u21 u22 u23 u24 u25 u26 u27 u28 u29 u30 u31 u32 u33 u34 u35 u36 u37 u38 u39 u40 u41 u42 u43 u44 u45 u46 u47 u48 u49 u50 u51 u52 u53 u54 u55 u56 u57 u58 u59 u60 u61 u62 u63 u64 u65 u66 u67 u68 u69 u70 u71 u72 u73 u74 u75 u76 u77 u78 u79 u80 u81 u82 u83 u84 u85 u86 u87 u88 u89 u90 u91 u92 u93 u94 u95 u96 u97 u98 u99 u100 u101 u102 u103 u104 u105 u106 u107 u108 u109 u110 u111 u112 u113 u114 u115 u116 u117 u118 u119 u120 u121 u122 u123 u124 u125 u126 u127 u128 u129 u130 u131 u132 u133 : Value} (h4 : n ≤ 4) (HW : Hid (Below w.heap.size w W)) (R3 : Hid (P1 W a3 n (fun j => .string (bs j).lc))) (H5 : Hid (dist (fun j => (bs j).lc) n → CB5 a n c w V)) (HV6 : Hid (¬ dist (fun j => (bs j).lc) n → V = 6)) :
    Code.wp Tryz.prog (ctl 5 (Tryz.f16.body.getD .skip)) (bodyPost Tryz.prog Tryz.f16 fun e w' => e = .returned (.int .i64 V) ∧ Below w.heap.size w w') ⟨#[.slice a n c, u1, u2, .slice a3 n q3, u4, u5, u6, u7, u8, u9, u10, u11, u12, u13, u14, u15, u16, u17, u18, u19, u20, u21, u22, u23, u24, u25, u26, u27, u28, u29, u30, u31, u32, u33, u34, u35, u36, u37, u38, u39, u40, u41, u42, u43, u44, u45, u46, u47, u48, u49, u50, u51, u52, u53, u54, u55, u56, u57, u58, u59, u60, u61, u62, u63, u64, u65, u66, u67, u68, u69, u70, u71, u72, u73, u74, u75, u76, u77, u78, u79, u80, u81, u82, u83, u84, u85, u86, u87, u88, u89, u90, u91, u92, u93, u94, u95, u96, u97, u98, u99, u100, u101, u102, u103, u104, u105, u106, u107, u108, u109, u110, u111, u112, u113, u114, u115, u116, u117, u118, u119, u120, u121, u122, u123, u124, u125, u126, u127, u128, u129, u130, u131, u132, u133], []⟩ W := by
  have HT := hideH (fun v (hv : Below W.heap.size W v) => twice_c a3 n q3 (fun j => (bs j).lc) v (R3.out.on hv) (by unfold maxLen; omega))
  conv => arg 2; whnf
  by_cases hd : dist (fun j => (bs j).lc) n
  · rw [decide_eq_true hd] at HT
    have H := hideH (H5.out hd)
    clear hd
    go_wp2_with fail
    refine (HT.out _ (Below.refl _ _)).mono ?_
    rintro e w2 ⟨rfl, hw2⟩
    have H2 := hideH (bthen HW.out hw2)
    clear hw2
    rename ∀ (a : Act) (w : World), _ → _ => hc1
    revert hc1
    rename ∀ (a : Act) (w : World), _ → _ => hc2
    revert hc2
    rename ∀ (a : Act) (w : World), _ → _ => hcont
    have HCONT := hideH hcont
    clear hcont
    intro hc2 hc1
    go_wp2_with fail
    refine HCONT.out _ _ ?_
    exact H.out _ _ _ _ _ _ _ _ _ _ _ _ _ _ _ _ _ _ _ _ _ _ _ _ _ _ _ _ _ _ _ _ _ _ _ _ _ _ _ _ _ _ _ _ _ _ _ _ _ _ _ _ _ _ _ _ _ _ _ _ _ _ _ _ _ _ _ _ _ _ _ _ _ _ _ _ _ _ _ _ _ _ _ _ _ _ _ _ _ _ _ _ _ _ _ _ _ _ _ _ _ _ _ _ _ _ _ _ _ _ _ _ _ _ _ _ _ _ _ _ _ _ _ _ _ _ _ _ _ _ _ _ _ _ H2
  · rw [decide_eq_false hd] at HT
    have HX : Hid (V = 6) := HV6.out hd
    clear hd
    go_wp2_with fail
    refine (HT.out _ (Below.refl _ _)).mono ?_
    rintro e w2 ⟨rfl, hw2⟩
    have H2 := hideH (bthen HW.out hw2)
    clear hw2
    go_wp2_with fail
    go_ret
    exact ⟨ret_int HX.out.symm, H2.out⟩
end Go.Proofs.YtfjjdicgekgbeaaGreatDoor

/- The document's own CheckBooks: names, and how long texts are. -/
namespace Go.Proofs.YtfjjdicgekgbeaaGreatDoor
open Go Go.RowKit Go.Maps
set_option linter.unusedVariables false

theorem prB_no {k t : ByteArray} (h : nameB k = false ∨ 12 < t.size) : prB k t = false := by
  unfold prB
  rcases h with h | h
  · rw [h]; rfl
  · rw [decide_eq_false (by omega)]; simp
theorem prB_yes {k t : ByteArray} (h : nameB k = true) (h2 : ¬ 12 < t.size) : prB k t = true := by
  unfold prB
  rw [h, decide_eq_true (by omega)]; rfl
set_option maxRecDepth 1000000 in
def CB4 (bs : Nat → Bk) (a : Option Addr) (n c : Nat) (w : World) (V : Int) : Prop := ∀ (W : World) (a3 : Option Addr) (q3 : Nat) (u1 u2 u4 u5 u6 u7 u8 u9 u10 u11 u12 u13 u14 u15 u16 u17 u18 u19 u20 u21 u22 u23 u24 u25 u26 u27 u28 u29 u30 u31 u32 u33 u34 u35 u36 u37 u38 u39 u40 u41 u42 u43 u44 u45 u46 u47 u48 u49 u50 u51 u52 u53 u54 u55 u56 u57 u58 u59 u60 u61 u62 u63 u64 u65 u66 u67 u68 u69 u70 u71 u72 u73 u74 u75 u76 u77 u78 u79 u80 u81 u82 u83 u84 u85 u86 u87 u88 u89 u90 u91 u92 u93 u94 u95 u96 u97 u98 u99 u100 u101 u102 u103 u104 u105 u106 u107 u108 u109 u110 u111 u112 u113 u114 u115 u116 u117 u118 u119 u120 u121 u122 u123 u124 u125 u126 u127 u128 u129 u130 u131 u132 u133 : Value), Hid (Below w.heap.size w W) → Hid (P1 W a3 n (fun j => .string (bs j).lc)) → Code.wp Tryz.prog (ctl 5 (Tryz.f16.body.getD .skip)) (bodyPost Tryz.prog Tryz.f16 fun e w' => e = .returned (.int .i64 V) ∧ Below w.heap.size w w') ⟨#[.slice a n c, u1, u2, .slice a3 n q3, u4, u5, u6, u7, u8, u9, u10, u11, u12, u13, u14, u15, u16, u17, u18, u19, u20, u21, u22, u23, u24, u25, u26, u27, u28, u29, u30, u31, u32, u33, u34, u35, u36, u37, u38, u39, u40, u41, u42, u43, u44, u45, u46, u47, u48, u49, u50, u51, u52, u53, u54, u55, u56, u57, u58, u59, u60, u61, u62, u63, u64, u65, u66, u67, u68, u69, u70, u71, u72, u73, u74, u75, u76, u77, u78, u79, u80, u81, u82, u83, u84, u85, u86, u87, u88, u89, u90, u91, u92, u93, u94, u95, u96, u97, u98, u99, u100, u101, u102, u103, u104, u105, u106, u107, u108, u109, u110, u111, u112, u113, u114, u115, u116, u117, u118, u119, u120, u121, u122, u123, u124, u125, u126, u127, u128, u129, u130, u131, u132, u133], []⟩ W
set_option maxRecDepth 1000000 in
set_option maxHeartbeats 4000000 in
theorem cb3 {a : Option Addr} {n c : Nat} {bs : Nat → Bk} {w W : World} {V : Int} {a3 : Option Addr} {q3 : Nat} {u1 u2 u4 u5 u6 u7 u8 u9 u10 u11 u12 u13 u14 u15 u16 u17 u18 u19 u20 u21 u22 u23 u24 u25 u26 u27 u28 u29 u30 u31 u32 u33 u34 u35 u36 u37 u38 u39 u40 u41 u42 u43 u44 u45 u46 u47 u48 u49 u50 u51 u52 u53 u54 u55 u56 u57 u58 u59 u60 u61 u62 u63 u64 u65 u66 u67 u68 u69 u70 u71 u72 u73 u74 u75 u76 u77 u78 u79 u80 u81 u82 u83 u84 u85 u86 u87 u88 u89 u90 u91 u92 u93 u94 u95 u96 u97 u98 u99 u100 u101 u102 u103 u104 u105 u106 u107 u108 u109 u110 u111 u112 u113 u114 u115 u116 u117 u118 u119 u120 u121 u122 u123 u124 u125 u126 u127 u128 u129 u130 u131 u132 u133 : Value} (h4 : n ≤ 4) (HP : Hid (BAt w a n bs)) (HF : Hid (∀ j, j < n → (bs j).fits)) (HE : Hid (∀ j, j < n → (bs j).n ≤ 8)) (HW : Hid (Below w.heap.size w W)) (R3 : Hid (P1 W a3 n (fun j => .string (bs j).lc))) (H4 : Hid ((∀ j, j < n → namB (bs j) = true) → CB4 bs a n c w V)) (HV5 : Hid (¬ (∀ j, j < n → namB (bs j) = true) → V = 5)) :
    Code.wp Tryz.prog (ctl 4 (Tryz.f16.body.getD .skip)) (bodyPost Tryz.prog Tryz.f16 fun e w' => e = .returned (.int .i64 V) ∧ Below w.heap.size w w') ⟨#[.slice a n c, u1, u2, .slice a3 n q3, u4, u5, u6, u7, u8, u9, u10, u11, u12, u13, u14, u15, u16, u17, u18, u19, u20, u21, u22, u23, u24, u25, u26, u27, u28, u29, u30, u31, u32, u33, u34, u35, u36, u37, u38, u39, u40, u41, u42, u43, u44, u45, u46, u47, u48, u49, u50, u51, u52, u53, u54, u55, u56, u57, u58, u59, u60, u61, u62, u63, u64, u65, u66, u67, u68, u69, u70, u71, u72, u73, u74, u75, u76, u77, u78, u79, u80, u81, u82, u83, u84, u85, u86, u87, u88, u89, u90, u91, u92, u93, u94, u95, u96, u97, u98, u99, u100, u101, u102, u103, u104, u105, u106, u107, u108, u109, u110, u111, u112, u113, u114, u115, u116, u117, u118, u119, u120, u121, u122, u123, u124, u125, u126, u127, u128, u129, u130, u131, u132, u133], []⟩ W := by
  conv => arg 2; whnf
  go_wp2_with fail
  go_loop [5] (fun x5 => ∃ k : Nat, k ≤ n ∧ x5 = .int .i64 k ∧ Hid (∀ j, j < k → namB (bs j) = true)) (fun x5 => n - (intOf x5).toNat)
  case atStart => exact ⟨0, Nat.zero_le _, rfl, fun j hj => by omega⟩
  case round =>
    obtain ⟨k, hk, rfl, HA⟩ := hrel
    by_cases hlt : k < n
    · rcases (HP.out.on HW.out).rows with h0 | ⟨b, off, hsa, hcs⟩
      · omega
      obtain ⟨c0, c1, c2⟩ := hcs k hlt
      have hk0 : decide ((k : Int) < 0) = false := by simp
      have hkn : decide (n ≤ k) = false := by simp; omega
      have hki : (k : Int) < (n : Int) := by omega
      have hn8 := HE.out k hlt
      have HN := hideH (RIsName_c (bs k).lc W (HF.out k hlt).lc)
      have C2 := hideH c2
      subst hsa
      clear hcs c1 c2
      cases hq : nameB (bs k).lc
      · rw [hq] at HN
        have HX : Hid (V = 5) := HV5.out (fun h => by have := h k hlt; unfold namB at this; rw [hq] at this; cases this)
        clear hq
        go_wp2_with fail
        refine HN.out.mono ?_
        rintro e W ⟨rfl, rfl⟩
        go_wp2_with fail
        go_ret
        exact ⟨ret_int HX.out.symm, HW.out⟩
      · rw [hq] at HN
        have HQ := hideH hq
        clear hq
        go_wp2_with fail
        refine HN.out.mono ?_
        rintro e W ⟨rfl, rfl⟩
        go_wp2_with fail
        clear c0
        go_loop [6] (fun x6 => ∃ i : Nat, i ≤ (bs k).n ∧ x6 = .int .i64 i ∧ Hid (∀ t, t < i → prB ((bs k).ks t) ((bs k).ts t) = true)) (fun x6 => (bs k).n - (intOf x6).toNat)
        case atStart => exact ⟨0, Nat.zero_le _, rfl, fun t ht => by omega⟩
        case round =>
          obtain ⟨i, hi, rfl, HB⟩ := hrel
          have c2 := C2.out
          by_cases hil : i < (bs k).n
          · rcases (HP.out.on HW.out).prs k hlt with h0 | ⟨b2, off2, hsb, hcs2⟩
            · omega
            obtain ⟨d0, d1⟩ := hcs2 i hil
            have c3 : W.cell? ⟨b, off + k * 3 + 2, none⟩ = some (.slice (some ⟨b2, off2, none⟩) (bs k).n (bs k).c) := by rw [← hsb]; exact c2
            have hi0 : decide ((i : Int) < 0) = false := by simp
            have hin : decide ((bs k).n ≤ i) = false := by simp; omega
            have hii : (i : Int) < ((bs k).n : Int) := by omega
            have HM := hideH (RIsName_c ((bs k).ks i) W ((HF.out k hlt).ks i hil))
            have htm := (HF.out k hlt).ts i hil
            unfold maxLen at htm
            clear hcs2 c2 hsb
            cases hq : nameB ((bs k).ks i)
            · rw [hq] at HM
              have HX : Hid (V = 5) := HV5.out (fun h => by
                have := h k hlt
                unfold namB at this
                rw [Bool.and_eq_true] at this
                have := of_decide_eq_true this.2 i hil
                rw [prB_no (.inl hq)] at this; cases this)
              clear hq
              go_wp2_with fail
              refine HM.out.mono ?_
              rintro e W ⟨rfl, rfl⟩
              go_wp2_with fail
              go_ret
              exact ⟨ret_int HX.out.symm, HW.out⟩
            · rw [hq] at HM
              by_cases htl : 12 < ((bs k).ts i).size
              · have HX : Hid (V = 5) := HV5.out (fun h => by
                  have := h k hlt
                  unfold namB at this
                  rw [Bool.and_eq_true] at this
                  have := of_decide_eq_true this.2 i hil
                  rw [prB_no (.inr htl)] at this; cases this)
                clear hq
                go_wp2_with fail
                refine HM.out.mono ?_
                rintro e W ⟨rfl, rfl⟩
                go_wp2_with fail
                go_ret
                exact ⟨ret_int HX.out.symm, HW.out⟩
              · have HB2 : Hid (∀ t, t < i + 1 → prB ((bs k).ks t) ((bs k).ts t) = true) := fun t ht => by
                  rcases Nat.lt_or_ge t i with h | h
                  · exact HB.out t h
                  · obtain rfl : t = i := by omega
                    exact prB_yes hq htl
                clear hq
                go_wp2_with fail
                refine HM.out.mono ?_
                rintro e W ⟨rfl, rfl⟩
                go_wp2_with fail
                go_round
                case rel => exact ⟨i + 1, by omega, by go_num, HB2⟩
                case measure => simp [intOf]; omega
          · have HA2 : Hid (∀ j, j < k + 1 → namB (bs j) = true) := fun j hj => by
              rcases Nat.lt_or_ge j k with h | h
              · exact HA.out j h
              · obtain rfl : j = k := by omega
                unfold namB
                rw [HQ.out, decide_eq_true (show prsOK (bs j) from fun p hp => HB.out p (by omega))]; rfl
            go_wp2_with fail
            exact ⟨⟨k + 1, by omega, by first | omega | go_num, HA2⟩, by simp [intOf]; omega⟩
    · have H := hideH (H4.out (fun j hj => HA.out j (by omega)))
      rename ∀ (a : Act) (w : World), _ → _ => hcont
      have HCONT := hideH hcont
      clear hcont
      go_wp2_with fail
      refine HCONT.out _ _ ?_
      exact H.out W a3 q3 _ _ _ _ _ _ _ _ _ _ _ _ _ _ _ _ _ _ _ _ _ _ _ _ _ _ _ _ _ _ _ _ _ _ _ _ _ _ _ _ _ _ _ _ _ _ _ _ _ _ _ _ _ _ _ _ _ _ _ _ _ _ _ _ _ _ _ _ _ _ _ _ _ _ _ _ _ _ _ _ _ _ _ _ _ _ _ _ _ _ _ _ _ _ _ _ _ _ _ _ _ _ _ _ _ _ _ _ _ _ _ _ _ _ _ _ _ _ _ _ _ _ _ _ _ _ _ _ _ _ _ _ HW R3
end Go.Proofs.YtfjjdicgekgbeaaGreatDoor

/- The document's own CheckBooks: locales, and how many pairs each has. -/
namespace Go.Proofs.YtfjjdicgekgbeaaGreatDoor
open Go Go.RowKit Go.Maps
set_option linter.unusedVariables false

set_option maxRecDepth 1000000 in
def CB3 (bs : Nat → Bk) (a : Option Addr) (n c : Nat) (w : World) (V : Int) : Prop := ∀ (W : World) (a3 : Option Addr) (q3 : Nat) (u1 u2 u4 u5 u6 u7 u8 u9 u10 u11 u12 u13 u14 u15 u16 u17 u18 u19 u20 u21 u22 u23 u24 u25 u26 u27 u28 u29 u30 u31 u32 u33 u34 u35 u36 u37 u38 u39 u40 u41 u42 u43 u44 u45 u46 u47 u48 u49 u50 u51 u52 u53 u54 u55 u56 u57 u58 u59 u60 u61 u62 u63 u64 u65 u66 u67 u68 u69 u70 u71 u72 u73 u74 u75 u76 u77 u78 u79 u80 u81 u82 u83 u84 u85 u86 u87 u88 u89 u90 u91 u92 u93 u94 u95 u96 u97 u98 u99 u100 u101 u102 u103 u104 u105 u106 u107 u108 u109 u110 u111 u112 u113 u114 u115 u116 u117 u118 u119 u120 u121 u122 u123 u124 u125 u126 u127 u128 u129 u130 u131 u132 u133 : Value), Hid (Below w.heap.size w W) → Hid (P1 W a3 n (fun j => .string (bs j).lc)) → Code.wp Tryz.prog (ctl 4 (Tryz.f16.body.getD .skip)) (bodyPost Tryz.prog Tryz.f16 fun e w' => e = .returned (.int .i64 V) ∧ Below w.heap.size w w') ⟨#[.slice a n c, u1, u2, .slice a3 n q3, u4, u5, u6, u7, u8, u9, u10, u11, u12, u13, u14, u15, u16, u17, u18, u19, u20, u21, u22, u23, u24, u25, u26, u27, u28, u29, u30, u31, u32, u33, u34, u35, u36, u37, u38, u39, u40, u41, u42, u43, u44, u45, u46, u47, u48, u49, u50, u51, u52, u53, u54, u55, u56, u57, u58, u59, u60, u61, u62, u63, u64, u65, u66, u67, u68, u69, u70, u71, u72, u73, u74, u75, u76, u77, u78, u79, u80, u81, u82, u83, u84, u85, u86, u87, u88, u89, u90, u91, u92, u93, u94, u95, u96, u97, u98, u99, u100, u101, u102, u103, u104, u105, u106, u107, u108, u109, u110, u111, u112, u113, u114, u115, u116, u117, u118, u119, u120, u121, u122, u123, u124, u125, u126, u127, u128, u129, u130, u131, u132, u133], []⟩ W
set_option maxRecDepth 1000000 in
set_option maxHeartbeats 4000000 in
theorem cb2 {a : Option Addr} {n c : Nat} {bs : Nat → Bk} {w W : World} {V : Int} {u1 u2 u4 u5 u6 u7 u8 u9 u10 u11 u12 u13 u14 u15 u16 u17 u18 u19 u20 u21 u22 u23 u24 u25 u26 u27 u28 u29 u30 u31 u32 u33 u34 u35 u36 u37 u38 u39 u40 u41 u42 u43 u44 u45 u46 u47 u48 u49 u50 u51 u52 u53 u54 u55 u56 u57 u58 u59 u60 u61 u62 u63 u64 u65 u66 u67 u68 u69 u70 u71 u72 u73 u74 u75 u76 u77 u78 u79 u80 u81 u82 u83 u84 u85 u86 u87 u88 u89 u90 u91 u92 u93 u94 u95 u96 u97 u98 u99 u100 u101 u102 u103 u104 u105 u106 u107 u108 u109 u110 u111 u112 u113 u114 u115 u116 u117 u118 u119 u120 u121 u122 u123 u124 u125 u126 u127 u128 u129 u130 u131 u132 u133 : Value} (h4 : n ≤ 4) (HP : Hid (BAt w a n bs)) (HF : Hid (∀ j, j < n → (bs j).fits)) (HW : Hid (Below w.heap.size w W)) (H3 : Hid ((∀ j, j < n → fewB (bs j) = true) → CB3 bs a n c w V)) (HV2 : Hid (¬ (∀ j, j < n → fewB (bs j) = true) → V = 2)) :
    Code.wp Tryz.prog (ctl 3 (Tryz.f16.body.getD .skip)) (bodyPost Tryz.prog Tryz.f16 fun e w' => e = .returned (.int .i64 V) ∧ Below w.heap.size w w') ⟨#[.slice a n c, u1, u2, .slice none 0 0, u4, u5, u6, u7, u8, u9, u10, u11, u12, u13, u14, u15, u16, u17, u18, u19, u20, u21, u22, u23, u24, u25, u26, u27, u28, u29, u30, u31, u32, u33, u34, u35, u36, u37, u38, u39, u40, u41, u42, u43, u44, u45, u46, u47, u48, u49, u50, u51, u52, u53, u54, u55, u56, u57, u58, u59, u60, u61, u62, u63, u64, u65, u66, u67, u68, u69, u70, u71, u72, u73, u74, u75, u76, u77, u78, u79, u80, u81, u82, u83, u84, u85, u86, u87, u88, u89, u90, u91, u92, u93, u94, u95, u96, u97, u98, u99, u100, u101, u102, u103, u104, u105, u106, u107, u108, u109, u110, u111, u112, u113, u114, u115, u116, u117, u118, u119, u120, u121, u122, u123, u124, u125, u126, u127, u128, u129, u130, u131, u132, u133], []⟩ W := by
  obtain ⟨i0, hi, hz0, hz1, hz2⟩ := info_parts info_str
  conv => arg 2; whnf
  go_wp2_with fail
  go_loopw [3, 4] (fun x3 x4 v => ∃ k : Nat, k ≤ n ∧ x4 = .int .i64 k ∧ Hid (v.ownsRow w.heap.size 9 1 (x3) k ((List.range (k)).map fun j => .string ((bs j).lc))) ∧ Hid (Below w.heap.size w v) ∧ Hid (∀ j, j < k → fewB (bs j) = true)) (fun _ x4 _ => n - (intOf x4).toNat)
  case atStart => exact ⟨0, Nat.zero_le _, rfl, World.ownsRow_nil _ _ _ _, HW, fun j hj => by omega⟩
  case round =>
    obtain ⟨k, hk, rfl, Q3, HW2, HA⟩ := hrel
    by_cases hlt : k < n
    · rcases (HP.out.on HW2.out).rows with h0 | ⟨b, off, hsa, hcs⟩
      · omega
      obtain ⟨c0, c1, c2⟩ := hcs k hlt
      have hk0 : decide ((k : Int) < 0) = false := by simp
      have hkn : decide (n ≤ k) = false := by simp; omega
      have hki : (k : Int) < (n : Int) := by omega
      have hsz : w.heap.size ≤ wr.heap.size := HW2.out.size
      have hnm := (HF.out k hlt).n
      unfold maxLen at hnm
      have D2 := hideH (fun v (hv : Below w.heap.size w v) => (((HP.out.on hv).rows).resolve_left (by omega)))
      clear hcs c1 c2
      subst hsa
      go_wp2_with (at_builtin; refine wpList_append_lies _ rfl _ _ 31 rfl w.heap.size 9 i0 (.string ⟨#[]⟩) 1 16 Tryz.underlying31 hi hz0 hz1 hz2 rfl (by decide) _ _ _ rfl (Q3.out.alloc _) ⟨wr.heap.size, 0, none⟩ 1 1 [.string (bs k).lc] rfl rfl (cell_one_new _ _ _) (by simp [Value.oneCell']) (by decide) (by unfold maxLen; omega) (by omega) (by simp; omega) _ rfl ?_; intro g4 q4 w1 hown hgrow hat hl1; refine Hid.out ?_)
      refine hideH ?_
      have H1 := hideH (below_grown0 (HW2.out.alloc (by omega) _) (Q3.out.alloc _) hgrow)
      have S3 : Hid (w1.ownsRow w.heap.size 9 1 (.slice (some ⟨g4, 0, none⟩) (k + 1) q4) (k + 1) ((List.range (k + 1)).map fun j => .string ((bs j).lc))) := by
        have h := hown
        rw [row_one k (fun j => Value.string ((bs j).lc)) (show Value.string (bs k).lc = _ by rfl)] at h
        exact h
      clear hown hgrow hat c0 Q3 HW2
      obtain ⟨b', off', hsa, hcs⟩ := D2.out w1 H1.out
      obtain ⟨rfl, rfl⟩ : b = b' ∧ off = off' := by simpa using hsa
      obtain ⟨-, -, c2⟩ := hcs k hlt
      clear hcs hsa D2
      by_cases hq : (bs k).n ≤ 8
      · have HA2 : Hid (∀ j, j < k + 1 → fewB (bs j) = true) := fun j hj => by
          rcases Nat.lt_or_ge j k with h | h
          · exact HA.out j h
          · obtain rfl : j = k := by omega
            exact decide_eq_true hq
        go_wp2_with fail
        go_roundw
        case rel => exact ⟨k + 1, by omega, by go_num, S3, H1, HA2⟩
        case measure => simp [intOf]; omega
      · have HX : Hid (V = 2) := HV2.out (fun h => hq (of_decide_eq_true (h k hlt)))
        go_wp2_with fail
        go_ret
        exact ⟨ret_int HX.out.symm, H1.out⟩
    · obtain rfl : k = n := by omega
      have H := hideH (H3.out HA.out)
      obtain ⟨a3, q3, rfl, _, hp3⟩ := own_p1 Q3.out
      have HP3 := hideH hp3
      clear hp3
      rename ∀ (a : Act) (w : World), _ → _ => hcont
      have HCONT := hideH hcont
      clear hcont
      go_wp2_with fail
      refine HCONT.out _ _ ?_
      exact H.out wr a3 q3 _ _ _ _ _ _ _ _ _ _ _ _ _ _ _ _ _ _ _ _ _ _ _ _ _ _ _ _ _ _ _ _ _ _ _ _ _ _ _ _ _ _ _ _ _ _ _ _ _ _ _ _ _ _ _ _ _ _ _ _ _ _ _ _ _ _ _ _ _ _ _ _ _ _ _ _ _ _ _ _ _ _ _ _ _ _ _ _ _ _ _ _ _ _ _ _ _ _ _ _ _ _ _ _ _ _ _ _ _ _ _ _ _ _ _ _ _ _ _ _ _ _ _ _ _ _ _ _ _ _ _ _ HW2 HP3
end Go.Proofs.YtfjjdicgekgbeaaGreatDoor

/- The document's own CheckBooks: its contract. The statement BooksTells: its walk. -/
namespace Go.Proofs.YtfjjdicgekgbeaaGreatDoor
open Go Go.RowKit Go.Maps
set_option linter.unusedVariables false

theorem bchk_2 {n : Nat} {bs : Nat → Bk} (h : ¬ (n ≤ 4 ∧ ∀ j, j < n → fewB (bs j) = true)) : bchk n bs = 2 := by unfold bchk; rw [if_neg h]
theorem bchk_5 {n : Nat} {bs : Nat → Bk} (h : n ≤ 4 ∧ ∀ j, j < n → fewB (bs j) = true) (h2 : ¬ ∀ j, j < n → namB (bs j) = true) : bchk n bs = 5 := by unfold bchk; rw [if_pos h, if_neg h2]
theorem bchk_6 {n : Nat} {bs : Nat → Bk} (h : n ≤ 4 ∧ ∀ j, j < n → fewB (bs j) = true) (h2 : ∀ j, j < n → namB (bs j) = true) (h3 : ¬ (dist (fun j => (bs j).lc) n ∧ ∀ j, j < n → rsB (bs j) = true)) : bchk n bs = 6 := by unfold bchk; rw [if_pos h, if_pos h2, if_neg h3]
theorem bchk_l {n : Nat} {bs : Nat → Bk} (h : n ≤ 4 ∧ ∀ j, j < n → fewB (bs j) = true) (h2 : ∀ j, j < n → namB (bs j) = true) (h3 : dist (fun j => (bs j).lc) n ∧ ∀ j, j < n → rsB (bs j) = true) : bchk n bs = if paB bs n = true then 0 else 3 := by unfold bchk; rw [if_pos h, if_pos h2, if_pos h3]
set_option maxRecDepth 1000000 in
set_option maxHeartbeats 4000000 in
theorem cb_all {a : Option Addr} {n c : Nat} {bs : Nat → Bk} {w : World} (h4 : n ≤ 4) (hP : BAt w a n bs) (hf : ∀ j, j < n → (bs j).fits) : ((∀ j, j < n → fewB (bs j) = true) → CB3 bs a n c w (bchk n bs)) ∧ (¬ (∀ j, j < n → fewB (bs j) = true) → bchk n bs = 2) := by
  have HP := hideH hP
  have HF := hideH hf
  refine ⟨fun f2 => ?_, fun h => bchk_2 (fun x => h x.2)⟩
  have HE : Hid (∀ j, j < n → (bs j).n ≤ 8) := fun j hj => of_decide_eq_true (f2 j hj)
  have K6 : (∀ j, j < n → namB (bs j) = true) → dist (fun j => (bs j).lc) n → (∀ j, j < n → rsOK (bs j)) → CB6 a n c w (bchk n bs) := by
    intro a1 a2 a3 W
    intros
    rename_i HW
    have e := bchk_l ⟨h4, f2⟩ a1 ⟨a2, fun j hj => decide_eq_true (a3 j hj)⟩
    exact cb6 h4 HP HW (fun h => by rw [e, if_pos h]) (fun h => by rw [e, if_neg (by rw [h]; decide)])
  have K5 : (∀ j, j < n → namB (bs j) = true) → dist (fun j => (bs j).lc) n → CB5 a n c w (bchk n bs) := by
    intro a1 a2 W
    intros
    rename_i HW
    exact cb5 h4 HP HE HW (K6 a1 a2) (fun h => bchk_6 ⟨h4, f2⟩ a1 (fun x => h (fun j hj => of_decide_eq_true (x.2 j hj))))
  have K4 : (∀ j, j < n → namB (bs j) = true) → CB4 bs a n c w (bchk n bs) := by
    intro a1 W a3 q3
    intros
    rename_i HW R3
    exact cb4 h4 HW R3 (K5 a1) (fun h => bchk_6 ⟨h4, f2⟩ a1 (fun x => h x.1))
  intro W a3 q3
  intros
  rename_i HW R3
  exact cb3 h4 HP HF HE HW R3 K4 (fun h => bchk_5 ⟨h4, f2⟩ h)
set_option maxRecDepth 1000000 in
set_option maxHeartbeats 4000000 in
theorem CheckBooks_c (a : Option Addr) (n c : Nat) (bs : Nat → Bk) (w : World) (hn : n ≤ maxLen) (hP : BAt w a n bs) (hf : ∀ j, j < n → (bs j).fits) : Calls Tryz.prog 16 #[.slice a n c] w fun e w' => e = .returned (.int .i64 (bchk n bs)) ∧ Below w.heap.size w w' := by
  unfold maxLen at hn
  by_cases h : 4 < n
  · have HX := hideH (bchk_2 (n := n) (bs := bs) (fun x => by have := x.1; omega))
    have t1 : (4 : Int) < (n : Int) := by omega
    clear hP hf
    go_enter Tryz.func16, Tryz.ntmps16
    go_wp2_with fail
    go_ret
    exact ⟨ret_int HX.out.symm, Below.refl _ _⟩
  · have h4 : n ≤ 4 := by omega
    have HA := hideH (cb_all (c := c) h4 hP hf)
    have HP := hideH hP
    have HF := hideH hf
    have t1 : (n : Int) ≤ 4 := by omega
    clear hP hf
    go_enter Tryz.func16, Tryz.ntmps16
    refine wp_seq_k (fun K0 hK0 => ?_)
    have HK0 := hideH hK0
    clear hK0
    go_wp2_with fail
    refine HK0.out _ _ ?_
    clear HK0 K0
    refine wp_seq_k (fun K0 hK0 => ?_)
    have HK0 := hideH hK0
    clear hK0
    go_wp2_with fail
    refine HK0.out _ _ ?_
    clear HK0 K0
    refine wp_seq_k (fun K0 hK0 => ?_)
    have HK0 := hideH hK0
    clear hK0
    go_wp2_with fail
    refine HK0.out _ _ ?_
    clear HK0 K0
    exact cb2 h4 HP HF (Below.refl _ _) HA.out.1 HA.out.2
end Go.Proofs.YtfjjdicgekgbeaaGreatDoor
