/- The document's own CheckData, the part ahead of the last one: what links lead to is there. -/
import Derived.Test.YtcdokhjmpkcpnabDoorRefJ
namespace Go.Proofs.YtcdokhjmpkcpnabDoor
open Go Go.RowKit Go.Maps
set_option linter.unusedVariables false

set_option maxRecDepth 1000000 in
set_option maxHeartbeats 4000000 in
theorem cd12 {D : Dt} {w W : World} {V : Int} {u0 u2 u3 u4 u5 u6 u7 u8 u9 u10 u11 u12 u13 u14 u15 u16 u17 u18 u19 u20 u21 u22 u23 u24 u25 u26 u27 u28 u29 u30 u31 u32 u33 u34 u35 u36 u37 u38 u39 u40 u41 u42 u43 u44 u45 u46 u47 u48 u49 u50 u51 u52 u53 u54 u55 u56 u57 u58 u59 u60 u61 u62 u63 u64 u65 u66 u67 u68 u69 u70 u71 u72 u73 u74 u75 u76 u77 u78 u79 u80 u81 u82 u83 u84 u85 u86 u87 u88 u89 u90 u91 u92 u93 u94 u95 u96 u97 u98 u99 u100 u101 u102 u103 u104 u105 u106 u107 u108 u109 u110 u111 u112 u113 u114 u115 u116 u117 u118 u119 u120 u121 u122 u123 u124 u125 u126 u127 u128 u129 u130 u131 u132 u133 u134 u135 u136 u137 u138 u139 u140 u141 u142 u143 u144 u145 u146 u147 u148 u149 u150 u151 u152 u153 u154 u155 u156 u157 u158 u159 u160 u161 u162 u163 u164 u165 u166 u167 u168 u169 u170 u171 u172 u173 u174 u175 u176 u177 u178 u179 u180 u181 u182 u183 u184 u185 u186 u187 u188 u189 u190 u191 u192 u193 u194 u195 u196 u197 u198 u199 u200 u201 u202 u203 u204 u205 u206 u207 u208 u209 u210 u211 u212 u213 u214 u215 u216 u217 u218 u219 u220 u221 u222 u223 u224 u225 u226 u227 u228 u229 u230 u231 u232 u233 u234 u235 u236 u237 u238 u239 u240 u241 u242 u243 u244 u245 u246 u247 u248 u249 u250 u251 u252 u253 u254 u255 u256 u257 u258 u259 u260 u261 u262 u263 u264 u265 u266 u267 u268 u269 u270 u271 u272 u273 u274 u275 u276 u277 u278 u279 u280 : Value} (HD : Hid (DAt w D)) (HF : Hid D.fits) (h4 : D.nl ≤ 4) (h5 : D.nz ≤ 5) (HW : Hid (Below w.heap.size w W)) (HC : Hid (W.heap[w.heap.size]? = some (.cells #[.slice D.sa D.ns D.sc, .slice D.za D.nz D.zc, .slice D.la D.nl D.lc] 43)))
    (HV : Hid (V = if lnk1 D then (if ∀ j, j < D.nl → (leadK D (D.nl + 1) (D.ls j).nm).2 = 0 then 0 else 7) else 4)) :
    Code.wp Tryd.prog (ctl 12 (Tryd.f21.body.getD .skip)) (bodyPost Tryd.prog Tryd.f21 fun e w' => e = .returned (.int .i64 V) ∧ Below w.heap.size w w') ⟨#[u0, .pointer (some ⟨w.heap.size, 0, none⟩), u2, u3, u4, u5, u6, u7, u8, u9, u10, u11, u12, u13, u14, u15, u16, u17, u18, u19, u20, u21, u22, u23, u24, u25, u26, u27, u28, u29, u30, u31, u32, u33, u34, u35, u36, u37, u38, u39, u40, u41, u42, u43, u44, u45, u46, u47, u48, u49, u50, u51, u52, u53, u54, u55, u56, u57, u58, u59, u60, u61, u62, u63, u64, u65, u66, u67, u68, u69, u70, u71, u72, u73, u74, u75, u76, u77, u78, u79, u80, u81, u82, u83, u84, u85, u86, u87, u88, u89, u90, u91, u92, u93, u94, u95, u96, u97, u98, u99, u100, u101, u102, u103, u104, u105, u106, u107, u108, u109, u110, u111, u112, u113, u114, u115, u116, u117, u118, u119, u120, u121, u122, u123, u124, u125, u126, u127, u128, u129, u130, u131, u132, u133, u134, u135, u136, u137, u138, u139, u140, u141, u142, u143, u144, u145, u146, u147, u148, u149, u150, u151, u152, u153, u154, u155, u156, u157, u158, u159, u160, u161, u162, u163, u164, u165, u166, u167, u168, u169, u170, u171, u172, u173, u174, u175, u176, u177, u178, u179, u180, u181, u182, u183, u184, u185, u186, u187, u188, u189, u190, u191, u192, u193, u194, u195, u196, u197, u198, u199, u200, u201, u202, u203, u204, u205, u206, u207, u208, u209, u210, u211, u212, u213, u214, u215, u216, u217, u218, u219, u220, u221, u222, u223, u224, u225, u226, u227, u228, u229, u230, u231, u232, u233, u234, u235, u236, u237, u238, u239, u240, u241, u242, u243, u244, u245, u246, u247, u248, u249, u250, u251, u252, u253, u254, u255, u256, u257, u258, u259, u260, u261, u262, u263, u264, u265, u266, u267, u268, u269, u270, u271, u272, u273, u274, u275, u276, u277, u278, u279, u280], []⟩ W := by
  conv => arg 2; whnf
  go_wp2_with fail
  go_loopw [19] (fun x19 v => ∃ k : Nat, k ≤ D.nl ∧ x19 = .int .i64 k ∧ Hid (Below w.heap.size w v) ∧ Hid (v.heap[w.heap.size]? = some (.cells #[.slice D.sa D.ns D.sc, .slice D.za D.nz D.zc, .slice D.la D.nl D.lc] 43)) ∧ Hid (∀ j, j < k → (idx D (D.ls j).to).isSome = true)) (fun x19 _ => D.nl - (intOf x19).toNat)
  case atStart => exact ⟨0, Nat.zero_le _, rfl, HW, HC, fun j hj => by omega⟩
  case round =>
    obtain ⟨k, hk, rfl, HW2, HC2, HA⟩ := hrel
    obtain ⟨c0, c1, c2⟩ := cells3 HC2.out
    by_cases hlt : k < D.nl
    · rcases (HD.out.on HW2.out).links with h0 | ⟨b, off, hsa, hcs⟩
      · omega
      obtain ⟨d0, d1⟩ := hcs k hlt
      have hk0 : decide ((k : Int) < 0) = false := by simp
      have hkn : decide (D.nl ≤ k) = false := by simp; omega
      have hki : (k : Int) < (D.nl : Int) := by omega
      have c3 : wr.cell? ⟨w.heap.size, 2, none⟩ = some (.slice (some ⟨b, off, none⟩) D.nl D.lc) := by rw [← hsa]; exact c2
      clear hcs d0 c2
      rcases idx_cases D (D.ls k).to with ⟨g1, g2, g3⟩ | ⟨j, hj, g1, g2⟩ | ⟨j, hj, g1, g2, g3⟩
      · have HX : Hid (V = 4) := by
          show V = 4
          rw [HV.out, if_neg (fun h => by have := h k hlt; rw [g1] at this; cases this)]
        have HZ : Hid (∀ v, Below w.heap.size w v → Calls Tryd.prog 52 #[.agg #[.slice D.sa D.ns D.sc, .slice D.za D.nz D.zc, .slice (some ⟨b, off, none⟩) D.nl D.lc], .string (D.ls k).to] v fun e w' => e = .returned (.int .i64 (-1)) ∧ Below v.heap.size v w') := fun v hv => by have := zoneAt_c D (D.ls k).to v (HD.out.on hv) HF.out; rw [g2] at this; simp only [Dt.v, hsa] at this; exact this
        have HL : Hid (∀ v, Below w.heap.size w v → Calls Tryd.prog 53 #[.agg #[.slice D.sa D.ns D.sc, .slice D.za D.nz D.zc, .slice (some ⟨b, off, none⟩) D.nl D.lc], .string (D.ls k).to] v fun e w' => e = .returned (.int .i64 (-1)) ∧ Below v.heap.size v w') := fun v hv => by have := linkAt_c D (D.ls k).to v (HD.out.on hv) HF.out; rw [g3] at this; simp only [Dt.v, hsa] at this; exact this
        clear g1 g2 g3
        go_wp2_with fail
        go_region_held3 (fun v => v.cell? ⟨w.heap.size, 0, none⟩ = some (.slice D.sa D.ns D.sc) ∧ v.cell? ⟨w.heap.size, 1, none⟩ = some (.slice D.za D.nz D.zc) ∧ v.cell? ⟨w.heap.size, 2, none⟩ = some (.slice (some ⟨b, off, none⟩) D.nl D.lc) ∧ v.cell? ⟨b, off + k * 2 + 1, none⟩ = some (.string (D.ls k).to))
          (first | (exact ⟨c0, c1, c3, d1⟩) | (exact ⟨cell_on (w := wr.drew) c0 hw2, cell_on (w := wr.drew) c1 hw2, cell_on (w := wr.drew) c3 hw2, cell_on (w := wr.drew) d1 hw2⟩) | (exact ⟨cell_on (cell_on (w := wr.drew) c0 hw2) hw3, cell_on (cell_on (w := wr.drew) c1 hw2) hw3, cell_on (cell_on (w := wr.drew) c3 hw2) hw3, cell_on (cell_on (w := wr.drew) d1 hw2) hw3⟩))
          (first
            | (go_at_call 52; refine (HZ.out _ (by exact HW2.out.drew)).mono ?_; rintro e w2 ⟨rfl, hw2⟩)
            | (go_at_call 53; refine (HL.out _ (by exact bthen (w := w) (a := wr.drew) HW2.out.drew hw2)).mono ?_; rintro e w3 ⟨rfl, hw3⟩))
        all_goals
          go_wp2_with fail
          go_ret
          exact ⟨ret_int HX.out.symm, bthen (bthen (w := w) (a := wr.drew) HW2.out.drew hw2) hw3⟩
      · obtain ⟨r, hr⟩ : ∃ r : Int, r = j := ⟨_, rfl⟩
        rw [← hr] at g2
        have HZ : Hid (∀ v, Below w.heap.size w v → Calls Tryd.prog 52 #[.agg #[.slice D.sa D.ns D.sc, .slice D.za D.nz D.zc, .slice (some ⟨b, off, none⟩) D.nl D.lc], .string (D.ls k).to] v fun e w' => e = .returned (.int .i64 r) ∧ Below v.heap.size v w') := fun v hv => by have := zoneAt_c D (D.ls k).to v (HD.out.on hv) HF.out; rw [g2] at this; simp only [Dt.v, hsa] at this; exact this
        have HA2 : Hid (∀ i, i < k + 1 → (idx D (D.ls i).to).isSome = true) := fun i hi => by
          rcases Nat.lt_or_ge i k with h | h
          · exact HA.out i h
          · obtain rfl : i = k := by omega
            rw [g1]; rfl
        have hjf : decide (r < 0) = false := by rw [hr]; simp
        have hjg : ¬ r < 0 := by omega
        clear g1 g2 hr
        go_wp2_with fail
        refine wp_region_held (S := (fun v => v.cell? ⟨w.heap.size, 0, none⟩ = some (.slice D.sa D.ns D.sc) ∧ v.cell? ⟨w.heap.size, 1, none⟩ = some (.slice D.za D.nz D.zc) ∧ v.cell? ⟨w.heap.size, 2, none⟩ = some (.slice (some ⟨b, off, none⟩) D.nl D.lc) ∧ v.cell? ⟨b, off + k * 2 + 1, none⟩ = some (.string (D.ls k).to))) (by kernel_rfl) ?_
        have hS0 : (fun v => v.cell? ⟨w.heap.size, 0, none⟩ = some (.slice D.sa D.ns D.sc) ∧ v.cell? ⟨w.heap.size, 1, none⟩ = some (.slice D.za D.nz D.zc) ∧ v.cell? ⟨w.heap.size, 2, none⟩ = some (.slice (some ⟨b, off, none⟩) D.nl D.lc) ∧ v.cell? ⟨b, off + k * 2 + 1, none⟩ = some (.string (D.ls k).to)) wr.drew := ⟨c0, c1, c3, d1⟩
        refine wpAnyH_take (i := 0) (v := .agg #[.slice D.sa D.ns D.sc, .slice D.za D.nz D.zc, .slice (some ⟨b, off, none⟩) D.nl D.lc]) rfl (by kernel_rfl) (by kernel_rfl) (by kernel_rfl) (fun _ _ _ h => h) (.inl ⟨by kernel_rfl, fun v ⟨y0, y1, y2, y3⟩ => by go_simp⟩) hS0 ?_
        refine wpAnyH_take (i := 1) (v := .pointer (some ⟨w.heap.size, 2, none⟩)) rfl (by kernel_rfl) (by kernel_rfl) (by kernel_rfl) (fun _ _ _ h => h) (.inl ⟨by kernel_rfl, fun v ⟨y0, y1, y2, y3⟩ => by go_simp⟩) hS0 ?_
        refine wpAnyH_take (i := 2) (v := .slice (some ⟨b, off, none⟩) D.nl D.lc) rfl (by kernel_rfl) (by kernel_rfl) (by kernel_rfl) (fun _ _ _ h => h) (.inl ⟨by kernel_rfl, fun v ⟨y0, y1, y2, y3⟩ => by go_simp⟩) hS0 ?_
        refine wpAnyH_take (i := 3) (v := .int .i64 k) rfl (by kernel_rfl) (by kernel_rfl) (by kernel_rfl) (fun _ _ _ h => h) (.inl ⟨by kernel_rfl, fun v ⟨y0, y1, y2, y3⟩ => by go_simp⟩) hS0 ?_
        refine wpAnyH_take (i := 4) (v := .pointer (some ⟨b, off + k * 2, none⟩)) rfl (by kernel_rfl) (by kernel_rfl) (by kernel_rfl) (fun _ _ _ h => h) (.inl ⟨by kernel_rfl, fun v ⟨y0, y1, y2, y3⟩ => by go_simp⟩) hS0 ?_
        refine wpAnyH_take (i := 5) (v := .pointer (some ⟨b, off + k * 2 + 1, none⟩)) rfl (by kernel_rfl) (by kernel_rfl) (by kernel_rfl) (fun _ _ _ h => h) (.inl ⟨by kernel_rfl, fun v ⟨y0, y1, y2, y3⟩ => by go_simp⟩) hS0 ?_
        refine wpAnyH_take (i := 6) (v := .string (D.ls k).to) rfl (by kernel_rfl) (by kernel_rfl) (by kernel_rfl) (fun _ _ _ h => h) (.inl ⟨by kernel_rfl, fun v ⟨y0, y1, y2, y3⟩ => by go_simp⟩) hS0 ?_
        refine wpAnyH_ready (rs := [7]) (by kernel_rfl) (by simp) ?_
        refine AllReadyH.cons rfl (fun K hK => ?_) AllReadyH.nil
        go_simp
        refine (HZ.out _ (by exact HW2.out.drew)).mono ?_
        rintro e w2 ⟨rfl, hw2⟩
        have hS1 : (fun v => v.cell? ⟨w.heap.size, 0, none⟩ = some (.slice D.sa D.ns D.sc) ∧ v.cell? ⟨w.heap.size, 1, none⟩ = some (.slice D.za D.nz D.zc) ∧ v.cell? ⟨w.heap.size, 2, none⟩ = some (.slice (some ⟨b, off, none⟩) D.nl D.lc) ∧ v.cell? ⟨b, off + k * 2 + 1, none⟩ = some (.string (D.ls k).to)) w2 := ⟨cell_on (w := wr.drew) c0 hw2, cell_on (w := wr.drew) c1 hw2, cell_on (w := wr.drew) c3 hw2, cell_on (w := wr.drew) d1 hw2⟩
        refine hK.out _ _ hS1 (fun _ => ?_)
        clear hK K
        refine wpAnyH_take (i := 8) (v := .bool false) rfl (by kernel_rfl) (by kernel_rfl) (by kernel_rfl) (fun _ _ _ h => h) (.inl ⟨by kernel_rfl, fun v ⟨y0, y1, y2, y3⟩ => by go_simp⟩) hS1 ?_
        refine wpAnyH_take (i := 9) (v := .bool false) rfl (by kernel_rfl) (by kernel_rfl) (by kernel_rfl) (fun _ _ _ h => h) (.inl ⟨by kernel_rfl, fun v ⟨y0, y1, y2, y3⟩ => by go_simp⟩) hS1 ?_
        refine wpAnyH_take (i := 10) (v := undef) rfl (by kernel_rfl) (by kernel_rfl) (by kernel_rfl) (fun _ _ _ h => h) (.inr ⟨by kernel_rfl, rfl⟩) hS1 ?_
        refine wpAnyH_take (i := 11) (v := undef) rfl (by kernel_rfl) (by kernel_rfl) (by kernel_rfl) (fun _ _ _ h => h) (.inr ⟨by kernel_rfl, rfl⟩) hS1 ?_
        refine wpAnyH_take (i := 12) (v := undef) rfl (by kernel_rfl) (by kernel_rfl) (by kernel_rfl) (fun _ _ _ h => h) (.inr ⟨by kernel_rfl, rfl⟩) hS1 ?_
        refine wpAnyH_take (i := 13) (v := undef) rfl (by kernel_rfl) (by kernel_rfl) (by kernel_rfl) (fun _ _ _ h => h) (.inr ⟨by kernel_rfl, rfl⟩) hS1 ?_
        refine wpAnyH_take (i := 14) (v := undef) rfl (by kernel_rfl) (by kernel_rfl) (by kernel_rfl) (fun _ _ _ h => h) (.inr ⟨by kernel_rfl, rfl⟩) hS1 ?_
        refine wpAnyH_take (i := 15) (v := undef) rfl (by kernel_rfl) (by kernel_rfl) (by kernel_rfl) (fun _ _ _ h => h) (.inr ⟨by kernel_rfl, rfl⟩) hS1 ?_
        refine wpAnyH_take (i := 16) (v := undef) rfl (by kernel_rfl) (by kernel_rfl) (by kernel_rfl) (fun _ _ _ h => h) (.inr ⟨by kernel_rfl, rfl⟩) hS1 ?_
        refine wpAnyH_take (i := 17) (v := undef) rfl (by kernel_rfl) (by kernel_rfl) (by kernel_rfl) (fun _ _ _ h => h) (.inr ⟨by kernel_rfl, rfl⟩) hS1 ?_
        refine wpAnyH_take (i := 18) (v := undef) rfl (by kernel_rfl) (by kernel_rfl) (by kernel_rfl) (fun _ _ _ h => h) (.inr ⟨by kernel_rfl, rfl⟩) hS1 ?_
        refine wpAnyH_take (i := 19) (v := .bool false) rfl (by kernel_rfl) (by kernel_rfl) (by kernel_rfl) (fun _ _ _ h => h) (.inl ⟨by kernel_rfl, fun v ⟨y0, y1, y2, y3⟩ => by go_simp⟩) hS1 ?_
        refine wpAnyH_done (by kernel_rfl) ?_ _
        have H2 := hideH (bthen (w := w) (a := wr.drew) HW2.out.drew hw2)
        have C2 := hideH (heap_on (w := wr.drew) HC2.out hw2)
        clear hw2 c0 c1 c3 d1 hS0 hS1
        simp (config := { maxSteps := 1000000 }) only [Act.put, List.getElem_toArray, List.getElem_cons_zero, List.getElem_cons_succ, List.setIfInBounds_toArray, List.set_cons_succ, List.set_cons_zero]
        go_wp2_with fail
        go_roundw
        case rel => exact ⟨k + 1, by omega, by go_num, H2, C2, HA2⟩
        case measure => simp [intOf]; omega
      · have HZ : Hid (∀ v, Below w.heap.size w v → Calls Tryd.prog 52 #[.agg #[.slice D.sa D.ns D.sc, .slice D.za D.nz D.zc, .slice (some ⟨b, off, none⟩) D.nl D.lc], .string (D.ls k).to] v fun e w' => e = .returned (.int .i64 (-1)) ∧ Below v.heap.size v w') := fun v hv => by have := zoneAt_c D (D.ls k).to v (HD.out.on hv) HF.out; rw [g2] at this; simp only [Dt.v, hsa] at this; exact this
        have HL : Hid (∀ v, Below w.heap.size w v → Calls Tryd.prog 53 #[.agg #[.slice D.sa D.ns D.sc, .slice D.za D.nz D.zc, .slice (some ⟨b, off, none⟩) D.nl D.lc], .string (D.ls k).to] v fun e w' => e = .returned (.int .i64 j) ∧ Below v.heap.size v w') := fun v hv => by have := linkAt_c D (D.ls k).to v (HD.out.on hv) HF.out; rw [g3] at this; simp only [Dt.v, hsa] at this; exact this
        have HA2 : Hid (∀ i, i < k + 1 → (idx D (D.ls i).to).isSome = true) := fun i hi => by
          rcases Nat.lt_or_ge i k with h | h
          · exact HA.out i h
          · obtain rfl : i = k := by omega
            rw [g1]; rfl
        have hjf : decide ((j : Int) < 0) = false := by simp
        have hjg : ¬ (j : Int) < 0 := by omega
        clear g1 g2 g3
        go_wp2_with fail
        go_region_held3 (fun v => v.cell? ⟨w.heap.size, 0, none⟩ = some (.slice D.sa D.ns D.sc) ∧ v.cell? ⟨w.heap.size, 1, none⟩ = some (.slice D.za D.nz D.zc) ∧ v.cell? ⟨w.heap.size, 2, none⟩ = some (.slice (some ⟨b, off, none⟩) D.nl D.lc) ∧ v.cell? ⟨b, off + k * 2 + 1, none⟩ = some (.string (D.ls k).to))
          (first | (exact ⟨c0, c1, c3, d1⟩) | (exact ⟨cell_on (w := wr.drew) c0 hw2, cell_on (w := wr.drew) c1 hw2, cell_on (w := wr.drew) c3 hw2, cell_on (w := wr.drew) d1 hw2⟩) | (exact ⟨cell_on (cell_on (w := wr.drew) c0 hw2) hw3, cell_on (cell_on (w := wr.drew) c1 hw2) hw3, cell_on (cell_on (w := wr.drew) c3 hw2) hw3, cell_on (cell_on (w := wr.drew) d1 hw2) hw3⟩))
          (first
            | (go_at_call 52; refine (HZ.out _ (by exact HW2.out.drew)).mono ?_; rintro e w2 ⟨rfl, hw2⟩)
            | (go_at_call 53; refine (HL.out _ (by exact bthen (w := w) (a := wr.drew) HW2.out.drew hw2)).mono ?_; rintro e w3 ⟨rfl, hw3⟩))
        all_goals
          have H2 := hideH (bthen (bthen (w := w) (a := wr.drew) HW2.out.drew hw2) hw3)
          have C2 := hideH (heap_on (heap_on (w := wr.drew) HC2.out hw2) hw3)
          clear hw3 hw2 c0 c1 c3 d1
          go_wp2_with fail
          go_roundw
          case rel => exact ⟨k + 1, by omega, by go_num, H2, C2, HA2⟩
          case measure => simp [intOf]; omega
    · have hl1 : lnk1 D := fun j hj => HA.out j (by omega)
      have HV0 : Hid ((∀ j, j < D.nl → (leadK D (D.nl + 1) (D.ls j).nm).2 = 0) → V = 0) := fun h => by rw [HV.out, if_pos hl1, if_pos h]
      have HV7 : Hid (∀ j, j < D.nl → (leadK D (D.nl + 1) (D.ls j).nm).2 ≠ 0 → V = 7) := fun j hj h => by rw [HV.out, if_pos hl1, if_neg (fun h' => h (h' j hj))]
      clear HV
      rename ∀ (a : Act) (w : World), _ → _ => hcont
      have HCONT := hideH hcont
      clear hcont
      go_wp2_with fail
      refine HCONT.out _ _ ?_
      exact cd13 HD HF h4 HW2 HC2 HV0 HV7
end Go.Proofs.YtcdokhjmpkcpnabDoor
