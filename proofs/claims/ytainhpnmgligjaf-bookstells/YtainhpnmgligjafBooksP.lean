/- The document's own CheckBooks: locales, and how many pairs each has. -/
import Derived.Test.YtainhpnmgligjafBooksO
namespace Go.Proofs.Ytainhpnmgligjaf
open Go Go.RowKit Go.Maps
set_option linter.unusedVariables false

set_option maxRecDepth 1000000 in
def CB3 (bs : Nat → Bk) (a : Option Addr) (n c : Nat) (w : World) (V : Int) : Prop := ∀ (W : World) (a3 : Option Addr) (q3 : Nat) (u1 u2 u4 u5 u6 u7 u8 u9 u10 u11 u12 u13 u14 u15 u16 u17 u18 u19 u20 u21 u22 u23 u24 u25 u26 u27 u28 u29 u30 u31 u32 u33 u34 u35 u36 u37 u38 u39 u40 u41 u42 u43 u44 u45 u46 u47 u48 u49 u50 u51 u52 u53 u54 u55 u56 u57 u58 u59 u60 u61 u62 u63 u64 u65 u66 u67 u68 u69 u70 u71 u72 u73 u74 u75 u76 u77 u78 u79 u80 u81 u82 u83 u84 u85 u86 u87 u88 u89 u90 u91 u92 u93 u94 u95 u96 u97 u98 u99 u100 u101 u102 u103 u104 u105 u106 u107 u108 u109 u110 u111 u112 u113 u114 u115 u116 u117 u118 u119 u120 u121 u122 u123 u124 u125 u126 u127 u128 u129 u130 u131 u132 u133 : Value), Hid (Below w.heap.size w W) → Hid (P1 W a3 n (fun j => .string (bs j).lc)) → Code.wp Try.prog (ctl 4 (Try.f9.body.getD .skip)) (bodyPost Try.prog Try.f9 fun e w' => e = .returned (.int .i64 V) ∧ Below w.heap.size w w') ⟨#[.slice a n c, u1, u2, .slice a3 n q3, u4, u5, u6, u7, u8, u9, u10, u11, u12, u13, u14, u15, u16, u17, u18, u19, u20, u21, u22, u23, u24, u25, u26, u27, u28, u29, u30, u31, u32, u33, u34, u35, u36, u37, u38, u39, u40, u41, u42, u43, u44, u45, u46, u47, u48, u49, u50, u51, u52, u53, u54, u55, u56, u57, u58, u59, u60, u61, u62, u63, u64, u65, u66, u67, u68, u69, u70, u71, u72, u73, u74, u75, u76, u77, u78, u79, u80, u81, u82, u83, u84, u85, u86, u87, u88, u89, u90, u91, u92, u93, u94, u95, u96, u97, u98, u99, u100, u101, u102, u103, u104, u105, u106, u107, u108, u109, u110, u111, u112, u113, u114, u115, u116, u117, u118, u119, u120, u121, u122, u123, u124, u125, u126, u127, u128, u129, u130, u131, u132, u133], []⟩ W
set_option maxRecDepth 1000000 in
set_option maxHeartbeats 4000000 in
theorem cb2 {a : Option Addr} {n c : Nat} {bs : Nat → Bk} {w W : World} {V : Int} {u1 u2 u4 u5 u6 u7 u8 u9 u10 u11 u12 u13 u14 u15 u16 u17 u18 u19 u20 u21 u22 u23 u24 u25 u26 u27 u28 u29 u30 u31 u32 u33 u34 u35 u36 u37 u38 u39 u40 u41 u42 u43 u44 u45 u46 u47 u48 u49 u50 u51 u52 u53 u54 u55 u56 u57 u58 u59 u60 u61 u62 u63 u64 u65 u66 u67 u68 u69 u70 u71 u72 u73 u74 u75 u76 u77 u78 u79 u80 u81 u82 u83 u84 u85 u86 u87 u88 u89 u90 u91 u92 u93 u94 u95 u96 u97 u98 u99 u100 u101 u102 u103 u104 u105 u106 u107 u108 u109 u110 u111 u112 u113 u114 u115 u116 u117 u118 u119 u120 u121 u122 u123 u124 u125 u126 u127 u128 u129 u130 u131 u132 u133 : Value} (h4 : n ≤ 4) (HP : Hid (BAt w a n bs)) (HF : Hid (∀ j, j < n → (bs j).fits)) (HW : Hid (Below w.heap.size w W)) (H3 : Hid ((∀ j, j < n → fewB (bs j) = true) → CB3 bs a n c w V)) (HV2 : Hid (¬ (∀ j, j < n → fewB (bs j) = true) → V = 2)) :
    Code.wp Try.prog (ctl 3 (Try.f9.body.getD .skip)) (bodyPost Try.prog Try.f9 fun e w' => e = .returned (.int .i64 V) ∧ Below w.heap.size w w') ⟨#[.slice a n c, u1, u2, .slice none 0 0, u4, u5, u6, u7, u8, u9, u10, u11, u12, u13, u14, u15, u16, u17, u18, u19, u20, u21, u22, u23, u24, u25, u26, u27, u28, u29, u30, u31, u32, u33, u34, u35, u36, u37, u38, u39, u40, u41, u42, u43, u44, u45, u46, u47, u48, u49, u50, u51, u52, u53, u54, u55, u56, u57, u58, u59, u60, u61, u62, u63, u64, u65, u66, u67, u68, u69, u70, u71, u72, u73, u74, u75, u76, u77, u78, u79, u80, u81, u82, u83, u84, u85, u86, u87, u88, u89, u90, u91, u92, u93, u94, u95, u96, u97, u98, u99, u100, u101, u102, u103, u104, u105, u106, u107, u108, u109, u110, u111, u112, u113, u114, u115, u116, u117, u118, u119, u120, u121, u122, u123, u124, u125, u126, u127, u128, u129, u130, u131, u132, u133], []⟩ W := by
  obtain ⟨i0, hi, hz0, hz1, hz2⟩ := info_parts info_str
  conv => arg 2; whnf
  go_wp2_with fail
  go_loopw [3, 4] (fun x3 x4 v => ∃ k : Nat, k ≤ n ∧ x4 = .int .i64 k ∧ Hid (v.ownsRow w.heap.size 9 1 (x3) k ((List.range (k)).map fun j => .string ((bs j).lc))) ∧ Hid (Below w.heap.size w v) ∧ Hid (∀ j, j < k → fewB (bs j) = true)) (fun _ x4 _ => n - (intOf x4).toNat)
  case atStart => exact ⟨0, Nat.zero_le _, rfl, World.ownsRow_nil _ _ _ _, HW, fun j hj => by omega⟩
  case round =>
    obtain ⟨k, hk, rfl, Q3, HW2, HA⟩ := hrel
    by_cases hlt : k < n
    · rcases (HP.out.on HW2.out).rows with h0 | ⟨b, off, hsa, hcs⟩
      · omega
      obtain ⟨c0, c1, c2⟩ := hcs k hlt
      have hk0 : decide ((k : Int) < 0) = false := by simp
      have hkn : decide (n ≤ k) = false := by simp; omega
      have hki : (k : Int) < (n : Int) := by omega
      have hsz : w.heap.size ≤ wr.heap.size := HW2.out.size
      have hnm := (HF.out k hlt).n
      unfold maxLen at hnm
      have D2 := hideH (fun v (hv : Below w.heap.size w v) => (((HP.out.on hv).rows).resolve_left (by omega)))
      clear hcs c1 c2
      subst hsa
      go_wp2_with (at_builtin; refine wpList_append_lies _ rfl _ _ 45 rfl w.heap.size 9 i0 (.string ⟨#[]⟩) 1 16 Try.underlying45 hi hz0 hz1 hz2 rfl (by decide) _ _ _ rfl (Q3.out.alloc _) ⟨wr.heap.size, 0, none⟩ 1 1 [.string (bs k).lc] rfl rfl (cell_one_new _ _ _) (by simp [Value.oneCell']) (by decide) (by unfold maxLen; omega) (by omega) (by simp; omega) _ rfl ?_; intro g4 q4 w1 hown hgrow hat hl1; refine Hid.out ?_)
      refine hideH ?_
      have H1 := hideH (below_grown0 (HW2.out.alloc (by omega) _) (Q3.out.alloc _) hgrow)
      have S3 : Hid (w1.ownsRow w.heap.size 9 1 (.slice (some ⟨g4, 0, none⟩) (k + 1) q4) (k + 1) ((List.range (k + 1)).map fun j => .string ((bs j).lc))) := by
        have h := hown
        rw [row_one k (fun j => Value.string ((bs j).lc)) (show Value.string (bs k).lc = _ by rfl)] at h
        exact h
      clear hown hgrow hat c0 Q3 HW2
      obtain ⟨b', off', hsa, hcs⟩ := D2.out w1 H1.out
      obtain ⟨rfl, rfl⟩ : b = b' ∧ off = off' := by simpa using hsa
      obtain ⟨-, -, c2⟩ := hcs k hlt
      clear hcs hsa D2
      by_cases hq : (bs k).n ≤ 8
      · have HA2 : Hid (∀ j, j < k + 1 → fewB (bs j) = true) := fun j hj => by
          rcases Nat.lt_or_ge j k with h | h
          · exact HA.out j h
          · obtain rfl : j = k := by omega
            exact decide_eq_true hq
        go_wp2_with fail
        go_roundw
        case rel => exact ⟨k + 1, by omega, by go_num, S3, H1, HA2⟩
        case measure => simp [intOf]; omega
      · have HX : Hid (V = 2) := HV2.out (fun h => hq (of_decide_eq_true (h k hlt)))
        go_wp2_with fail
        go_ret
        exact ⟨ret_int HX.out.symm, H1.out⟩
    · obtain rfl : k = n := by omega
      have H := hideH (H3.out HA.out)
      obtain ⟨a3, q3, rfl, _, hp3⟩ := own_p1 Q3.out
      have HP3 := hideH hp3
      clear hp3
      rename ∀ (a : Act) (w : World), _ → _ => hcont
      have HCONT := hideH hcont
      clear hcont
      go_wp2_with fail
      refine HCONT.out _ _ ?_
      exact H.out wr a3 q3 _ _ _ _ _ _ _ _ _ _ _ _ _ _ _ _ _ _ _ _ _ _ _ _ _ _ _ _ _ _ _ _ _ _ _ _ _ _ _ _ _ _ _ _ _ _ _ _ _ _ _ _ _ _ _ _ _ _ _ _ _ _ _ _ _ _ _ _ _ _ _ _ _ _ _ _ _ _ _ _ _ _ _ _ _ _ _ _ _ _ _ _ _ _ _ _ _ _ _ _ _ _ _ _ _ _ _ _ _ _ _ _ _ _ _ _ _ _ _ _ _ _ _ _ _ _ _ _ _ _ _ _ HW2 HP3
end Go.Proofs.Ytainhpnmgligjaf
