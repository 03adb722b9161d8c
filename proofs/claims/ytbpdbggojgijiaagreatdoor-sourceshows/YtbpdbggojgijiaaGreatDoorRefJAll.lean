/- The document's own CheckData, its last part: whither each link leads. -/
import Derived.Test.YtbpdbggojgijiaaGreatDoorRefGAll
import Derived.Test.YtbpdbggojgijiaaGreatDoorRefApAll
import Derived.Deep.RegionHeld3
import Derived.Deep.AppendLies
import Derived.Deep.RegionHeldLaw
import Derived.Laws.AppendOwnNone
import Derived.Test.YtbpdbggojgijiaaGreatDoorDataOAll
namespace Go.Proofs.YtbpdbggojgijiaaGreatDoor
open Go Go.RowKit Go.Maps
set_option linter.unusedVariables false

theorem fol_neg {D : Dt} {k : Nat} {s : ByteArray} (h : (leadK D k s).2 ≠ 0) : folR (leadK D k s) = -1 := by unfold folR; rw [if_neg h]
theorem fol_pos {D : Dt} {k : Nat} {s : ByteArray} (h : (leadK D k s).2 = 0) : ∃ j : Nat, folR (leadK D k s) = j := by
  have := lead_in k s h
  refine ⟨(leadK D k s).1.toNat, ?_⟩
  unfold folR; rw [if_pos h]; omega
set_option maxRecDepth 1000000 in
set_option maxHeartbeats 4000000 in
theorem cd13 {D : Dt} {w W : World} {V : Int} {u0 u2 u3 u4 u5 u6 u7 u8 u9 u10 u11 u12 u13 u14 u15 u16 u17 u18 u19 u20 u21 u22 u23 u24 u25 u26 u27 u28 u29 u30 u31 u32 u33 u34 u35 u36 u37 u38 u39 u40 u41 u42 u43 u44 u45 u46 u47 u48 u49 u50 u51 u52 u53 u54 u55 u56 u57 u58 u59 u60 u61 u62 u63 u64 u65 u66 u67 u68 u69 u70 u71 u72 u73 u74 u75 u76 u77 u78 u79 u80 u81 u82 u83 u84 u85 u86 u87 u88 u89 u90 u91 u92 u93 u94 u95 u96 u97 u98 u99 u100 u101 u102 u103 u104 u105 u106 u107 u108 u109 u110 u111 u112 u113 u114 u115 u116 u117 u118 u119 u120 u121 u122 u123 u124 u125 u126 u127 u128 u129 u130 u131 u132 u133 u134 u135 u136 u137 u138 u139 u140 u141 u142 u143 u144 u145 u146 u147 u148 u149 u150 u151 u152 u153 u154 u155 u156 u157 u158 u159 u160 u161 u162 u163 u164 u165 u166 u167 u168 u169 u170 u171 u172 u173 u174 u175 u176 u177 u178 u179 u180 u181 u182 u183 u184 u185 u186 u187 u188 u189 u190 u191 u192 u193 u194 u195 u196 u197 u198 u199 u200 u201 u202 u203 u204 u205 u206 u207 u208 u209 u210 u211 u212 u213 u214 u215 u216 u217 u218 u219 u220 u221 u222 u223 u224 u225 u226 u227 u228 u229 u230 u231 u232 u233 u234 u235 u236 u237 u238 u239 u240 u241 u242 u243 u244 u245 u246 u247 u248 u249 u250 u251 u252 u253 u254 u255 u256 u257 u258 u259 u260 u261 u262 u263 u264 u265 u266 u267 u268 u269 u270 u271 u272 u273 u274 u275 u276 u277 u278 u279 u280 : Value} (HD : Hid (DAt w D)) (HF : Hid D.fits) (h4 : D.nl ≤ 4) (HW : Hid (Below w.heap.size w W)) (HC : Hid (W.heap[w.heap.size]? = some (.cells #[.slice D.sa D.ns D.sc, .slice D.za D.nz D.zc, .slice D.la D.nl D.lc] 26)))
    (HV0 : Hid ((∀ j, j < D.nl → (leadK D (D.nl + 1) (D.ls j).nm).2 = 0) → V = 0)) (HV7 : Hid (∀ j, j < D.nl → (leadK D (D.nl + 1) (D.ls j).nm).2 ≠ 0 → V = 7)) :
    Code.wp Tryz.prog (ctl 13 (Tryz.f6.body.getD .skip)) (bodyPost Tryz.prog Tryz.f6 fun e w' => e = .returned (.int .i64 V) ∧ Below w.heap.size w w') ⟨#[u0, .pointer (some ⟨w.heap.size, 0, none⟩), u2, u3, u4, u5, u6, u7, u8, u9, u10, u11, u12, u13, u14, u15, u16, u17, u18, u19, u20, u21, u22, u23, u24, u25, u26, u27, u28, u29, u30, u31, u32, u33, u34, u35, u36, u37, u38, u39, u40, u41, u42, u43, u44, u45, u46, u47, u48, u49, u50, u51, u52, u53, u54, u55, u56, u57, u58, u59, u60, u61, u62, u63, u64, u65, u66, u67, u68, u69, u70, u71, u72, u73, u74, u75, u76, u77, u78, u79, u80, u81, u82, u83, u84, u85, u86, u87, u88, u89, u90, u91, u92, u93, u94, u95, u96, u97, u98, u99, u100, u101, u102, u103, u104, u105, u106, u107, u108, u109, u110, u111, u112, u113, u114, u115, u116, u117, u118, u119, u120, u121, u122, u123, u124, u125, u126, u127, u128, u129, u130, u131, u132, u133, u134, u135, u136, u137, u138, u139, u140, u141, u142, u143, u144, u145, u146, u147, u148, u149, u150, u151, u152, u153, u154, u155, u156, u157, u158, u159, u160, u161, u162, u163, u164, u165, u166, u167, u168, u169, u170, u171, u172, u173, u174, u175, u176, u177, u178, u179, u180, u181, u182, u183, u184, u185, u186, u187, u188, u189, u190, u191, u192, u193, u194, u195, u196, u197, u198, u199, u200, u201, u202, u203, u204, u205, u206, u207, u208, u209, u210, u211, u212, u213, u214, u215, u216, u217, u218, u219, u220, u221, u222, u223, u224, u225, u226, u227, u228, u229, u230, u231, u232, u233, u234, u235, u236, u237, u238, u239, u240, u241, u242, u243, u244, u245, u246, u247, u248, u249, u250, u251, u252, u253, u254, u255, u256, u257, u258, u259, u260, u261, u262, u263, u264, u265, u266, u267, u268, u269, u270, u271, u272, u273, u274, u275, u276, u277, u278, u279, u280], []⟩ W := by
  conv => arg 2; whnf
  go_wp2_with fail
  go_loopw [20] (fun x20 v => ∃ k : Nat, k ≤ D.nl ∧ x20 = .int .i64 k ∧ Hid (Below w.heap.size w v) ∧ Hid (v.heap[w.heap.size]? = some (.cells #[.slice D.sa D.ns D.sc, .slice D.za D.nz D.zc, .slice D.la D.nl D.lc] 26)) ∧ Hid (∀ j, j < k → (leadK D (D.nl + 1) (D.ls j).nm).2 = 0)) (fun x20 _ => D.nl - (intOf x20).toNat)
  case atStart => exact ⟨0, Nat.zero_le _, rfl, HW, HC, fun j hj => by omega⟩
  case round =>
    obtain ⟨k, hk, rfl, HW2, HC2, HA⟩ := hrel
    obtain ⟨c0, c1, c2⟩ := cells3 HC2.out
    by_cases hlt : k < D.nl
    · rcases (HD.out.on HW2.out).links with h0 | ⟨b, off, hsa, hcs⟩
      · omega
      obtain ⟨d0, d1⟩ := hcs k hlt
      have hk0 : decide ((k : Int) < 0) = false := by simp
      have hkn : decide (D.nl ≤ k) = false := by simp; omega
      have hki : (k : Int) < (D.nl : Int) := by omega
      have c3 : wr.cell? ⟨w.heap.size, 2, none⟩ = some (.slice (some ⟨b, off, none⟩) D.nl D.lc) := by rw [← hsa]; exact c2
      have hX : ∃ r : Int, (r = -1 ∧ Hid (V = 7) ∨ (∃ j : Nat, r = j) ∧ Hid ((leadK D (D.nl + 1) (D.ls k).nm).2 = 0)) ∧ ∀ v, Below w.heap.size w v → Calls Tryz.prog 25 #[D.v, .string (D.ls k).nm] v fun e w' => e = .returned (.int .i64 r) ∧ Below v.heap.size v w' := by
        refine ⟨folR (leadK D (D.nl + 1) (D.ls k).nm), ?_, fun v hv => follow_c D (D.ls k).nm v (HD.out.on hv) HF.out h4 (HF.out.lnm k hlt)⟩
        by_cases h2 : (leadK D (D.nl + 1) (D.ls k).nm).2 = 0
        · exact .inr ⟨fol_pos h2, h2⟩
        · exact .inl ⟨fol_neg h2, HV7.out k hlt h2⟩
      obtain ⟨r, hr, hF2⟩ := hX
      simp only [Dt.v, hsa] at hF2
      have HF2 := hideH hF2
      clear hcs d1 hF2 c2
      rcases hr with ⟨rfl, HV⟩ | ⟨⟨j, rfl⟩, HZ⟩
      · go_wp2_with fail
        go_region_held3 (fun v => v.cell? ⟨w.heap.size, 0, none⟩ = some (.slice D.sa D.ns D.sc) ∧ v.cell? ⟨w.heap.size, 1, none⟩ = some (.slice D.za D.nz D.zc) ∧ v.cell? ⟨w.heap.size, 2, none⟩ = some (.slice (some ⟨b, off, none⟩) D.nl D.lc) ∧ v.cell? ⟨b, off + k * 2, none⟩ = some (.string (D.ls k).nm))
          (first | (exact ⟨c0, c1, c3, d0⟩) | (exact ⟨cell_on (w := wr.drew) c0 hw2, cell_on (w := wr.drew) c1 hw2, cell_on (w := wr.drew) c3 hw2, cell_on (w := wr.drew) d0 hw2⟩))
          (first | (go_at_call 25; refine (HF2.out _ (by exact HW2.out.drew)).mono ?_; rintro e w2 ⟨rfl, hw2⟩))
        all_goals
          go_wp2_with fail
          go_ret
          exact ⟨ret_int HV.out.symm, bthen (w := w) HW2.out.drew hw2⟩
      · have hj0 : (0 : Int) ≤ (j : Int) := by omega
        have HA2 : Hid (∀ i, i < k + 1 → (leadK D (D.nl + 1) (D.ls i).nm).2 = 0) := fun i hi => by
          rcases Nat.lt_or_ge i k with h | h
          · exact HA.out i h
          · obtain rfl : i = k := by omega
            exact HZ.out
        go_wp2_with fail
        go_region_held3 (fun v => v.cell? ⟨w.heap.size, 0, none⟩ = some (.slice D.sa D.ns D.sc) ∧ v.cell? ⟨w.heap.size, 1, none⟩ = some (.slice D.za D.nz D.zc) ∧ v.cell? ⟨w.heap.size, 2, none⟩ = some (.slice (some ⟨b, off, none⟩) D.nl D.lc) ∧ v.cell? ⟨b, off + k * 2, none⟩ = some (.string (D.ls k).nm))
          (first | (exact ⟨c0, c1, c3, d0⟩) | (exact ⟨cell_on (w := wr.drew) c0 hw2, cell_on (w := wr.drew) c1 hw2, cell_on (w := wr.drew) c3 hw2, cell_on (w := wr.drew) d0 hw2⟩))
          (first | (go_at_call 25; refine (HF2.out _ (by exact HW2.out.drew)).mono ?_; rintro e w2 ⟨rfl, hw2⟩))
        all_goals
          have H2 := hideH (bthen (w := w) HW2.out.drew hw2)
          have C2 := hideH (heap_on (w := wr.drew) HC2.out hw2)
          clear hw2 c0 c1 c3 d0
          go_wp2_with fail
          go_roundw
          case rel => exact ⟨k + 1, by omega, by go_num, H2, C2, HA2⟩
          case measure => simp [intOf]; omega
    · have HX : Hid (V = 0) := HV0.out (fun j hj => HA.out j (by omega))
      go_wp2_with fail
      go_ret
      exact ⟨ret_int HX.out.symm, HW2.out⟩
end Go.Proofs.YtbpdbggojgijiaaGreatDoor

/- The document's own CheckData: formats. -/
namespace Go.Proofs.YtbpdbggojgijiaaGreatDoor
open Go Go.RowKit Go.Maps
set_option linter.unusedVariables false

set_option maxRecDepth 1000000 in
/-- what is left behind the formats -/
def CD12 (D : Dt) (w : World) (V : Int) : Prop := ∀ (W : World) (u0 u2 u3 u4 u5 u6 u7 u8 u9 u10 u11 u12 u13 u14 u15 u16 u17 u18 u19 u20 u21 u22 u23 u24 u25 u26 u27 u28 u29 u30 u31 u32 u33 u34 u35 u36 u37 u38 u39 u40 u41 u42 u43 u44 u45 u46 u47 u48 u49 u50 u51 u52 u53 u54 u55 u56 u57 u58 u59 u60 u61 u62 u63 u64 u65 u66 u67 u68 u69 u70 u71 u72 u73 u74 u75 u76 u77 u78 u79 u80 u81 u82 u83 u84 u85 u86 u87 u88 u89 u90 u91 u92 u93 u94 u95 u96 u97 u98 u99 u100 u101 u102 u103 u104 u105 u106 u107 u108 u109 u110 u111 u112 u113 u114 u115 u116 u117 u118 u119 u120 u121 u122 u123 u124 u125 u126 u127 u128 u129 u130 u131 u132 u133 u134 u135 u136 u137 u138 u139 u140 u141 u142 u143 u144 u145 u146 u147 u148 u149 u150 u151 u152 u153 u154 u155 u156 u157 u158 u159 u160 u161 u162 u163 u164 u165 u166 u167 u168 u169 u170 u171 u172 u173 u174 u175 u176 u177 u178 u179 u180 u181 u182 u183 u184 u185 u186 u187 u188 u189 u190 u191 u192 u193 u194 u195 u196 u197 u198 u199 u200 u201 u202 u203 u204 u205 u206 u207 u208 u209 u210 u211 u212 u213 u214 u215 u216 u217 u218 u219 u220 u221 u222 u223 u224 u225 u226 u227 u228 u229 u230 u231 u232 u233 u234 u235 u236 u237 u238 u239 u240 u241 u242 u243 u244 u245 u246 u247 u248 u249 u250 u251 u252 u253 u254 u255 u256 u257 u258 u259 u260 u261 u262 u263 u264 u265 u266 u267 u268 u269 u270 u271 u272 u273 u274 u275 u276 u277 u278 u279 u280 : Value), Hid (Below w.heap.size w W) → Hid (W.heap[w.heap.size]? = some (.cells #[.slice D.sa D.ns D.sc, .slice D.za D.nz D.zc, .slice D.la D.nl D.lc] 26)) → Code.wp Tryz.prog (ctl 12 (Tryz.f6.body.getD .skip)) (bodyPost Tryz.prog Tryz.f6 fun e w' => e = .returned (.int .i64 V) ∧ Below w.heap.size w w') ⟨#[u0, .pointer (some ⟨w.heap.size, 0, none⟩), u2, u3, u4, u5, u6, u7, u8, u9, u10, u11, u12, u13, u14, u15, u16, u17, u18, u19, u20, u21, u22, u23, u24, u25, u26, u27, u28, u29, u30, u31, u32, u33, u34, u35, u36, u37, u38, u39, u40, u41, u42, u43, u44, u45, u46, u47, u48, u49, u50, u51, u52, u53, u54, u55, u56, u57, u58, u59, u60, u61, u62, u63, u64, u65, u66, u67, u68, u69, u70, u71, u72, u73, u74, u75, u76, u77, u78, u79, u80, u81, u82, u83, u84, u85, u86, u87, u88, u89, u90, u91, u92, u93, u94, u95, u96, u97, u98, u99, u100, u101, u102, u103, u104, u105, u106, u107, u108, u109, u110, u111, u112, u113, u114, u115, u116, u117, u118, u119, u120, u121, u122, u123, u124, u125, u126, u127, u128, u129, u130, u131, u132, u133, u134, u135, u136, u137, u138, u139, u140, u141, u142, u143, u144, u145, u146, u147, u148, u149, u150, u151, u152, u153, u154, u155, u156, u157, u158, u159, u160, u161, u162, u163, u164, u165, u166, u167, u168, u169, u170, u171, u172, u173, u174, u175, u176, u177, u178, u179, u180, u181, u182, u183, u184, u185, u186, u187, u188, u189, u190, u191, u192, u193, u194, u195, u196, u197, u198, u199, u200, u201, u202, u203, u204, u205, u206, u207, u208, u209, u210, u211, u212, u213, u214, u215, u216, u217, u218, u219, u220, u221, u222, u223, u224, u225, u226, u227, u228, u229, u230, u231, u232, u233, u234, u235, u236, u237, u238, u239, u240, u241, u242, u243, u244, u245, u246, u247, u248, u249, u250, u251, u252, u253, u254, u255, u256, u257, u258, u259, u260, u261, u262, u263, u264, u265, u266, u267, u268, u269, u270, u271, u272, u273, u274, u275, u276, u277, u278, u279, u280], []⟩ W
set_option maxRecDepth 1000000 in
set_option maxHeartbeats 4000000 in
theorem cd11 {D : Dt} {w W : World} {V : Int} {u0 u2 u3 u4 u5 u6 u7 u8 u9 u10 u11 u12 u13 u14 u15 u16 u17 u18 u19 u20 u21 u22 u23 u24 u25 u26 u27 u28 u29 u30 u31 u32 u33 u34 u35 u36 u37 u38 u39 u40 u41 u42 u43 u44 u45 u46 u47 u48 u49 u50 u51 u52 u53 u54 u55 u56 u57 u58 u59 u60 u61 u62 u63 u64 u65 u66 u67 u68 u69 u70 u71 u72 u73 u74 u75 u76 u77 u78 u79 u80 u81 u82 u83 u84 u85 u86 u87 u88 u89 u90 u91 u92 u93 u94 u95 u96 u97 u98 u99 u100 u101 u102 u103 u104 u105 u106 u107 u108 u109 u110 u111 u112 u113 u114 u115 u116 u117 u118 u119 u120 u121 u122 u123 u124 u125 u126 u127 u128 u129 u130 u131 u132 u133 u134 u135 u136 u137 u138 u139 u140 u141 u142 u143 u144 u145 u146 u147 u148 u149 u150 u151 u152 u153 u154 u155 u156 u157 u158 u159 u160 u161 u162 u163 u164 u165 u166 u167 u168 u169 u170 u171 u172 u173 u174 u175 u176 u177 u178 u179 u180 u181 u182 u183 u184 u185 u186 u187 u188 u189 u190 u191 u192 u193 u194 u195 u196 u197 u198 u199 u200 u201 u202 u203 u204 u205 u206 u207 u208 u209 u210 u211 u212 u213 u214 u215 u216 u217 u218 u219 u220 u221 u222 u223 u224 u225 u226 u227 u228 u229 u230 u231 u232 u233 u234 u235 u236 u237 u238 u239 u240 u241 u242 u243 u244 u245 u246 u247 u248 u249 u250 u251 u252 u253 u254 u255 u256 u257 u258 u259 u260 u261 u262 u263 u264 u265 u266 u267 u268 u269 u270 u271 u272 u273 u274 u275 u276 u277 u278 u279 u280 : Value} (HD : Hid (DAt w D)) (HF : Hid D.fits) (h5 : D.nz ≤ 5) (h4 : ∀ j, j < D.nz → (D.zs j).n ≤ 4) (HW : Hid (Below w.heap.size w W)) (HC : Hid (W.heap[w.heap.size]? = some (.cells #[.slice D.sa D.ns D.sc, .slice D.za D.nz D.zc, .slice D.la D.nl D.lc] 26)))
    (HN : Hid (fmts D → CD12 D w V)) (HV : Hid (¬ fmts D → V = 1)) :
    Code.wp Tryz.prog (ctl 11 (Tryz.f6.body.getD .skip)) (bodyPost Tryz.prog Tryz.f6 fun e w' => e = .returned (.int .i64 V) ∧ Below w.heap.size w w') ⟨#[u0, .pointer (some ⟨w.heap.size, 0, none⟩), u2, u3, u4, u5, u6, u7, u8, u9, u10, u11, u12, u13, u14, u15, u16, u17, u18, u19, u20, u21, u22, u23, u24, u25, u26, u27, u28, u29, u30, u31, u32, u33, u34, u35, u36, u37, u38, u39, u40, u41, u42, u43, u44, u45, u46, u47, u48, u49, u50, u51, u52, u53, u54, u55, u56, u57, u58, u59, u60, u61, u62, u63, u64, u65, u66, u67, u68, u69, u70, u71, u72, u73, u74, u75, u76, u77, u78, u79, u80, u81, u82, u83, u84, u85, u86, u87, u88, u89, u90, u91, u92, u93, u94, u95, u96, u97, u98, u99, u100, u101, u102, u103, u104, u105, u106, u107, u108, u109, u110, u111, u112, u113, u114, u115, u116, u117, u118, u119, u120, u121, u122, u123, u124, u125, u126, u127, u128, u129, u130, u131, u132, u133, u134, u135, u136, u137, u138, u139, u140, u141, u142, u143, u144, u145, u146, u147, u148, u149, u150, u151, u152, u153, u154, u155, u156, u157, u158, u159, u160, u161, u162, u163, u164, u165, u166, u167, u168, u169, u170, u171, u172, u173, u174, u175, u176, u177, u178, u179, u180, u181, u182, u183, u184, u185, u186, u187, u188, u189, u190, u191, u192, u193, u194, u195, u196, u197, u198, u199, u200, u201, u202, u203, u204, u205, u206, u207, u208, u209, u210, u211, u212, u213, u214, u215, u216, u217, u218, u219, u220, u221, u222, u223, u224, u225, u226, u227, u228, u229, u230, u231, u232, u233, u234, u235, u236, u237, u238, u239, u240, u241, u242, u243, u244, u245, u246, u247, u248, u249, u250, u251, u252, u253, u254, u255, u256, u257, u258, u259, u260, u261, u262, u263, u264, u265, u266, u267, u268, u269, u270, u271, u272, u273, u274, u275, u276, u277, u278, u279, u280], []⟩ W := by
  have H4 := hideH h4
  clear h4
  conv => arg 2; whnf
  go_wp2_with fail
  go_loop [17] (fun x17 => ∃ k : Nat, k ≤ D.nz ∧ x17 = .int .i64 k ∧ Hid (∀ j, j < k → ∀ i, i < (D.zs j).n → fmtB ((D.zs j).es i).fm = true)) (fun x17 => D.nz - (intOf x17).toNat)
  case atStart => exact ⟨0, Nat.zero_le _, rfl, fun j hj => by omega⟩
  case round =>
    obtain ⟨k, hk, rfl, HA⟩ := hrel
    obtain ⟨c0, c1, c2⟩ := cells3 HC.out
    by_cases hlt : k < D.nz
    · have hn4 := H4.out k hlt
      go_wp2_with fail
      clear c0 c1 c2
      go_loop [18] (fun x18 => ∃ i : Nat, i ≤ (D.zs k).n ∧ x18 = .int .i64 i ∧ Hid (∀ p, p < i → fmtB ((D.zs k).es p).fm = true)) (fun x18 => (D.zs k).n - (intOf x18).toNat)
      case atStart => exact ⟨0, Nat.zero_le _, rfl, fun p hp => by omega⟩
      case round =>
        obtain ⟨i, hi, rfl, HB⟩ := hrel
        obtain ⟨c0, c1, c2⟩ := cells3 HC.out
        rcases (HD.out.on HW.out).zones with h0 | ⟨b, off, hsa, hcs⟩
        · omega
        obtain ⟨d0, d1⟩ := hcs k hlt
        have hk0 : decide ((k : Int) < 0) = false := by simp
        have hkn : decide (D.nz ≤ k) = false := by simp; omega
        clear hcs d0
        by_cases hil : i < (D.zs k).n
        · rcases (HD.out.on HW.out).eras k hlt with h0 | ⟨be, offe, hea, hes⟩
          · omega
          obtain ⟨-, -, -, e3, -⟩ := hes i hil
          have d2 : W.cell? ⟨b, off + k * 2 + 1, none⟩ = some (.slice (some ⟨be, offe, none⟩) (D.zs k).n (D.zs k).c) := by rw [← hea]; exact d1
          have hi0 : decide ((i : Int) < 0) = false := by simp
          have hin : decide ((D.zs k).n ≤ i) = false := by simp; omega
          have HFm := hideH (RisFormat_c ((D.zs k).es i).fm W (HF.out.fm k hlt i hil))
          clear hes d1
          cases hq : fmtB ((D.zs k).es i).fm
          · rw [hq] at HFm
            have HX : Hid (V = 1) := HV.out (fun h => by have := h k hlt i hil; rw [hq] at this; cases this)
            clear hq
            go_wp2_with fail
            refine HFm.out.mono ?_
            rintro e w2 ⟨rfl, rfl⟩
            go_wp2_with fail
            go_ret
            exact ⟨ret_int HX.out.symm, HW.out⟩
          · rw [hq] at HFm
            have HB2 : Hid (∀ p, p < i + 1 → fmtB ((D.zs k).es p).fm = true) := fun p hp => by
              rcases Nat.lt_or_ge p i with h | h
              · exact HB.out p h
              · obtain rfl : p = i := by omega
                exact hq
            clear hq
            go_wp2_with fail
            refine HFm.out.mono ?_
            rintro e w2 ⟨rfl, rfl⟩
            go_wp2_with fail
            try simp only [← hsa]
            go_round
            case rel => exact ⟨i + 1, by omega, by go_num, HB2⟩
            case measure => simp [intOf]; omega
        · have HA2 : Hid (∀ j, j < k + 1 → ∀ p, p < (D.zs j).n → fmtB ((D.zs j).es p).fm = true) := fun j hj p hp => by
            rcases Nat.lt_or_ge j k with h | h
            · exact HA.out j h p hp
            · obtain rfl : j = k := by omega
              exact HB.out p (by omega)
          go_wp2_with fail
          exact ⟨⟨k + 1, by omega, by first | omega | go_num, HA2⟩, by simp [intOf]; omega⟩
    · have h12 := HN.out (fun j hj i hi => HA.out j (by omega) i hi)
      have H12 := hideH h12
      clear h12
      rename ∀ (a : Act) (w : World), _ → _ => hcont
      have HCONT := hideH hcont
      clear hcont
      go_wp2_with fail
      refine HCONT.out _ _ ?_
      exact H12.out W _ _ _ _ _ _ _ _ _ _ _ _ _ _ _ _ _ _ _ _ _ _ _ _ _ _ _ _ _ _ _ _ _ _ _ _ _ _ _ _ _ _ _ _ _ _ _ _ _ _ _ _ _ _ _ _ _ _ _ _ _ _ _ _ _ _ _ _ _ _ _ _ _ _ _ _ _ _ _ _ _ _ _ _ _ _ _ _ _ _ _ _ _ _ _ _ _ _ _ _ _ _ _ _ _ _ _ _ _ _ _ _ _ _ _ _ _ _ _ _ _ _ _ _ _ _ _ _ _ _ _ _ _ _ _ _ _ _ _ _ _ _ _ _ _ _ _ _ _ _ _ _ _ _ _ _ _ _ _ _ _ _ _ _ _ _ _ _ _ _ _ _ _ _ _ _ _ _ _ _ _ _ _ _ _ _ _ _ _ _ _ _ _ _ _ _ _ _ _ _ _ _ _ _ _ _ _ _ _ _ _ _ _ _ _ _ _ _ _ _ _ _ _ _ _ _ _ _ _ _ _ _ _ _ _ _ _ _ _ _ _ _ _ _ _ _ _ _ _ _ _ _ _ _ _ _ _ _ _ _ _ _ _ _ _ _ _ _ _ _ _ _ _ _ _ _ _ _ _ _ HW HC
end Go.Proofs.YtbpdbggojgijiaaGreatDoor

/- The document's own CheckData: eras. -/
namespace Go.Proofs.YtbpdbggojgijiaaGreatDoor
open Go Go.RowKit Go.Maps
set_option linter.unusedVariables false

theorem cellsE5 {w : World} {b : Nat} {x y z u v : Value} {t : TypeId} (h : w.heap[b]? = some (.cells #[x, y, z, u, v] t)) : w.cell? ⟨b, 0, none⟩ = some x ∧ w.cell? ⟨b, 1, none⟩ = some y ∧ w.cell? ⟨b, 2, none⟩ = some z ∧ w.cell? ⟨b, 3, none⟩ = some u ∧ w.cell? ⟨b, 4, none⟩ = some v := by
  refine ⟨?_, ?_, ?_, ?_, ?_⟩ <;> simp [World.cell?, h]
set_option maxRecDepth 1000000 in
/-- what is left behind the eras -/
def CD11 (D : Dt) (w : World) (V : Int) : Prop := ∀ (W : World) (u0 u2 u3 u4 u5 u6 u7 u8 u9 u10 u11 u12 u13 u14 u15 u16 u17 u18 u19 u20 u21 u22 u23 u24 u25 u26 u27 u28 u29 u30 u31 u32 u33 u34 u35 u36 u37 u38 u39 u40 u41 u42 u43 u44 u45 u46 u47 u48 u49 u50 u51 u52 u53 u54 u55 u56 u57 u58 u59 u60 u61 u62 u63 u64 u65 u66 u67 u68 u69 u70 u71 u72 u73 u74 u75 u76 u77 u78 u79 u80 u81 u82 u83 u84 u85 u86 u87 u88 u89 u90 u91 u92 u93 u94 u95 u96 u97 u98 u99 u100 u101 u102 u103 u104 u105 u106 u107 u108 u109 u110 u111 u112 u113 u114 u115 u116 u117 u118 u119 u120 u121 u122 u123 u124 u125 u126 u127 u128 u129 u130 u131 u132 u133 u134 u135 u136 u137 u138 u139 u140 u141 u142 u143 u144 u145 u146 u147 u148 u149 u150 u151 u152 u153 u154 u155 u156 u157 u158 u159 u160 u161 u162 u163 u164 u165 u166 u167 u168 u169 u170 u171 u172 u173 u174 u175 u176 u177 u178 u179 u180 u181 u182 u183 u184 u185 u186 u187 u188 u189 u190 u191 u192 u193 u194 u195 u196 u197 u198 u199 u200 u201 u202 u203 u204 u205 u206 u207 u208 u209 u210 u211 u212 u213 u214 u215 u216 u217 u218 u219 u220 u221 u222 u223 u224 u225 u226 u227 u228 u229 u230 u231 u232 u233 u234 u235 u236 u237 u238 u239 u240 u241 u242 u243 u244 u245 u246 u247 u248 u249 u250 u251 u252 u253 u254 u255 u256 u257 u258 u259 u260 u261 u262 u263 u264 u265 u266 u267 u268 u269 u270 u271 u272 u273 u274 u275 u276 u277 u278 u279 u280 : Value), Hid (Below w.heap.size w W) → Hid (W.heap[w.heap.size]? = some (.cells #[.slice D.sa D.ns D.sc, .slice D.za D.nz D.zc, .slice D.la D.nl D.lc] 26)) → Code.wp Tryz.prog (ctl 11 (Tryz.f6.body.getD .skip)) (bodyPost Tryz.prog Tryz.f6 fun e w' => e = .returned (.int .i64 V) ∧ Below w.heap.size w w') ⟨#[u0, .pointer (some ⟨w.heap.size, 0, none⟩), u2, u3, u4, u5, u6, u7, u8, u9, u10, u11, u12, u13, u14, u15, u16, u17, u18, u19, u20, u21, u22, u23, u24, u25, u26, u27, u28, u29, u30, u31, u32, u33, u34, u35, u36, u37, u38, u39, u40, u41, u42, u43, u44, u45, u46, u47, u48, u49, u50, u51, u52, u53, u54, u55, u56, u57, u58, u59, u60, u61, u62, u63, u64, u65, u66, u67, u68, u69, u70, u71, u72, u73, u74, u75, u76, u77, u78, u79, u80, u81, u82, u83, u84, u85, u86, u87, u88, u89, u90, u91, u92, u93, u94, u95, u96, u97, u98, u99, u100, u101, u102, u103, u104, u105, u106, u107, u108, u109, u110, u111, u112, u113, u114, u115, u116, u117, u118, u119, u120, u121, u122, u123, u124, u125, u126, u127, u128, u129, u130, u131, u132, u133, u134, u135, u136, u137, u138, u139, u140, u141, u142, u143, u144, u145, u146, u147, u148, u149, u150, u151, u152, u153, u154, u155, u156, u157, u158, u159, u160, u161, u162, u163, u164, u165, u166, u167, u168, u169, u170, u171, u172, u173, u174, u175, u176, u177, u178, u179, u180, u181, u182, u183, u184, u185, u186, u187, u188, u189, u190, u191, u192, u193, u194, u195, u196, u197, u198, u199, u200, u201, u202, u203, u204, u205, u206, u207, u208, u209, u210, u211, u212, u213, u214, u215, u216, u217, u218, u219, u220, u221, u222, u223, u224, u225, u226, u227, u228, u229, u230, u231, u232, u233, u234, u235, u236, u237, u238, u239, u240, u241, u242, u243, u244, u245, u246, u247, u248, u249, u250, u251, u252, u253, u254, u255, u256, u257, u258, u259, u260, u261, u262, u263, u264, u265, u266, u267, u268, u269, u270, u271, u272, u273, u274, u275, u276, u277, u278, u279, u280], []⟩ W
set_option maxRecDepth 1000000 in
set_option maxHeartbeats 4000000 in
theorem cd10 {D : Dt} {w W : World} {V : Int} {u0 u2 u3 u4 u5 u6 u7 u8 u9 u10 u11 u12 u13 u14 u15 u16 u17 u18 u19 u20 u21 u22 u23 u24 u25 u26 u27 u28 u29 u30 u31 u32 u33 u34 u35 u36 u37 u38 u39 u40 u41 u42 u43 u44 u45 u46 u47 u48 u49 u50 u51 u52 u53 u54 u55 u56 u57 u58 u59 u60 u61 u62 u63 u64 u65 u66 u67 u68 u69 u70 u71 u72 u73 u74 u75 u76 u77 u78 u79 u80 u81 u82 u83 u84 u85 u86 u87 u88 u89 u90 u91 u92 u93 u94 u95 u96 u97 u98 u99 u100 u101 u102 u103 u104 u105 u106 u107 u108 u109 u110 u111 u112 u113 u114 u115 u116 u117 u118 u119 u120 u121 u122 u123 u124 u125 u126 u127 u128 u129 u130 u131 u132 u133 u134 u135 u136 u137 u138 u139 u140 u141 u142 u143 u144 u145 u146 u147 u148 u149 u150 u151 u152 u153 u154 u155 u156 u157 u158 u159 u160 u161 u162 u163 u164 u165 u166 u167 u168 u169 u170 u171 u172 u173 u174 u175 u176 u177 u178 u179 u180 u181 u182 u183 u184 u185 u186 u187 u188 u189 u190 u191 u192 u193 u194 u195 u196 u197 u198 u199 u200 u201 u202 u203 u204 u205 u206 u207 u208 u209 u210 u211 u212 u213 u214 u215 u216 u217 u218 u219 u220 u221 u222 u223 u224 u225 u226 u227 u228 u229 u230 u231 u232 u233 u234 u235 u236 u237 u238 u239 u240 u241 u242 u243 u244 u245 u246 u247 u248 u249 u250 u251 u252 u253 u254 u255 u256 u257 u258 u259 u260 u261 u262 u263 u264 u265 u266 u267 u268 u269 u270 u271 u272 u273 u274 u275 u276 u277 u278 u279 u280 : Value} (HD : Hid (DAt w D)) (HF : Hid D.fits) (h3 : D.ns ≤ 3) (h5 : D.nz ≤ 5) (h4 : ∀ j, j < D.nz → (D.zs j).n ≤ 4) (HW : Hid (Below w.heap.size w W)) (HC : Hid (W.heap[w.heap.size]? = some (.cells #[.slice D.sa D.ns D.sc, .slice D.za D.nz D.zc, .slice D.la D.nl D.lc] 26)))
    (HN : Hid (ersOK D → CD11 D w V)) (HV : Hid (¬ ersOK D → V = 3)) :
    Code.wp Tryz.prog (ctl 10 (Tryz.f6.body.getD .skip)) (bodyPost Tryz.prog Tryz.f6 fun e w' => e = .returned (.int .i64 V) ∧ Below w.heap.size w w') ⟨#[u0, .pointer (some ⟨w.heap.size, 0, none⟩), u2, u3, u4, u5, u6, u7, u8, u9, u10, u11, u12, u13, u14, u15, u16, u17, u18, u19, u20, u21, u22, u23, u24, u25, u26, u27, u28, u29, u30, u31, u32, u33, u34, u35, u36, u37, u38, u39, u40, u41, u42, u43, u44, u45, u46, u47, u48, u49, u50, u51, u52, u53, u54, u55, u56, u57, u58, u59, u60, u61, u62, u63, u64, u65, u66, u67, u68, u69, u70, u71, u72, u73, u74, u75, u76, u77, u78, u79, u80, u81, u82, u83, u84, u85, u86, u87, u88, u89, u90, u91, u92, u93, u94, u95, u96, u97, u98, u99, u100, u101, u102, u103, u104, u105, u106, u107, u108, u109, u110, u111, u112, u113, u114, u115, u116, u117, u118, u119, u120, u121, u122, u123, u124, u125, u126, u127, u128, u129, u130, u131, u132, u133, u134, u135, u136, u137, u138, u139, u140, u141, u142, u143, u144, u145, u146, u147, u148, u149, u150, u151, u152, u153, u154, u155, u156, u157, u158, u159, u160, u161, u162, u163, u164, u165, u166, u167, u168, u169, u170, u171, u172, u173, u174, u175, u176, u177, u178, u179, u180, u181, u182, u183, u184, u185, u186, u187, u188, u189, u190, u191, u192, u193, u194, u195, u196, u197, u198, u199, u200, u201, u202, u203, u204, u205, u206, u207, u208, u209, u210, u211, u212, u213, u214, u215, u216, u217, u218, u219, u220, u221, u222, u223, u224, u225, u226, u227, u228, u229, u230, u231, u232, u233, u234, u235, u236, u237, u238, u239, u240, u241, u242, u243, u244, u245, u246, u247, u248, u249, u250, u251, u252, u253, u254, u255, u256, u257, u258, u259, u260, u261, u262, u263, u264, u265, u266, u267, u268, u269, u270, u271, u272, u273, u274, u275, u276, u277, u278, u279, u280], []⟩ W := by
  have H4 := hideH h4
  clear h4
  conv => arg 2; whnf
  go_wp2_with fail
  go_loopw [13] (fun x13 v => ∃ k : Nat, k ≤ D.nz ∧ x13 = .int .i64 k ∧ Hid (Below w.heap.size w v) ∧ Hid (v.heap[w.heap.size]? = some (.cells #[.slice D.sa D.ns D.sc, .slice D.za D.nz D.zc, .slice D.la D.nl D.lc] 26)) ∧ Hid (∀ j, j < k → zoneOK D (D.zs j))) (fun x13 _ => D.nz - (intOf x13).toNat)
  case atStart => exact ⟨0, Nat.zero_le _, rfl, HW, HC, fun j hj => by omega⟩
  case round =>
    obtain ⟨k, hk, rfl, HW1, HC1, HA⟩ := hrel
    clear HW HC
    obtain ⟨c0, c1, c2⟩ := cells3 HC1.out
    by_cases hlt : k < D.nz
    · have hn4 := H4.out k hlt
      go_wp2_with fail
      clear c0 c1 c2
      go_loopw [14, 15] (fun x14 x15 v => ∃ i : Nat, i ≤ (D.zs k).n ∧ x15 = .int .i64 i ∧ x14 = .int .i64 (frm (D.zs k).es i) ∧ Hid (Below w.heap.size w v) ∧ Hid (v.heap[w.heap.size]? = some (.cells #[.slice D.sa D.ns D.sc, .slice D.za D.nz D.zc, .slice D.la D.nl D.lc] 26)) ∧ Hid (∀ p, p < i → ebnd ((D.zs k).es p) D.ns = true ∧ frm (D.zs k).es p < ((D.zs k).es p).un)) (fun _ x15 _ => (D.zs k).n - (intOf x15).toNat)
      case atStart => exact ⟨0, Nat.zero_le _, rfl, rfl, HW1, HC1, fun p hp => by omega⟩
      case round =>
        obtain ⟨i, hi, rfl, rfl, HW2, HC2, HB⟩ := hrel
        obtain ⟨c0, c1, c2⟩ := cells3 HC2.out
        rcases (HD.out.on HW2.out).zones with h0 | ⟨b, off, hsa, hcs⟩
        · omega
        obtain ⟨d0, d1⟩ := hcs k hlt
        have hk0 : decide ((k : Int) < 0) = false := by simp
        have hkn : decide (D.nz ≤ k) = false := by simp; omega
        clear hcs d0
        by_cases hil : i < (D.zs k).n
        · rcases (HD.out.on HW2.out).eras k hlt with h0 | ⟨be, offe, hea, hes⟩
          · omega
          obtain ⟨e0, e1, e2, e3, e4⟩ := hes i hil
          have d2 : wr.cell? ⟨b, off + k * 2 + 1, none⟩ = some (.slice (some ⟨be, offe, none⟩) (D.zs k).n (D.zs k).c) := by rw [← hea]; exact d1
          have hi0 : decide ((i : Int) < 0) = false := by simp
          have hin : decide ((D.zs k).n ≤ i) = false := by simp; omega
          have hEF : ∃ q : Bool, (q = false ∧ Hid (V = 3) ∨ q = true ∧ Hid (ebnd ((D.zs k).es i) D.ns = true ∧ frm (D.zs k).es i < ((D.zs k).es i).un)) ∧ ∀ v, Calls Tryz.prog 21 #[D.v, ((D.zs k).es i).v, .int .i64 (frm (D.zs k).es i)] v fun e w' => e = .returned (.bool q) ∧ Below v.heap.size v w' := by
            refine ⟨_, ?_, fun v => eraFine_c D ((D.zs k).es i) (frm (D.zs k).es i) v h3⟩
            cases hq : (ebnd ((D.zs k).es i) D.ns && decide (frm (D.zs k).es i < ((D.zs k).es i).un))
            · exact .inl ⟨rfl, HV.out (fun h => by have := (h k hlt).1 i hil; rw [this.1] at hq; simp at hq; omega)⟩
            · exact .inr ⟨rfl, hideH (by simpa using hq)⟩
          obtain ⟨q, hq, hEF⟩ := hEF
          simp only [Dt.v, hsa] at hEF
          have HEF := hideH hEF
          have hbl := cell_lt e0
          have hcl := cell_lt c0
          have hbx := hideH ((Below.refl _ wr).alloc (Nat.le_refl _) (.cells #[.int .i64 ((D.zs k).es i).std, .int .i64 ((D.zs k).es i).set, .int .i64 ((D.zs k).es i).sv, .string ((D.zs k).es i).fm, .int .i64 ((D.zs k).es i).un] 67))
          have hbn := hideH (World.alloc_heap_new wr (.cells #[.int .i64 ((D.zs k).es i).std, .int .i64 ((D.zs k).es i).set, .int .i64 ((D.zs k).es i).sv, .string ((D.zs k).es i).fm, .int .i64 ((D.zs k).es i).un] 67))
          clear hes d1 hEF
          rcases hq with ⟨rfl, HX⟩ | ⟨rfl, HQ⟩
          · go_wp2_with fail
            refine (HEF.out _).mono ?_
            rintro e w2 ⟨rfl, hw2⟩
            have H2 := hideH (bthen (bthen HW2.out hbx.out) hw2)
            clear hw2
            go_wp2_with fail
            go_ret
            exact ⟨ret_int HX.out.symm, H2.out⟩
          · have HB2 : Hid (∀ p, p < i + 1 → ebnd ((D.zs k).es p) D.ns = true ∧ frm (D.zs k).es p < ((D.zs k).es p).un) := fun p hp => by
              rcases Nat.lt_or_ge p i with h | h
              · exact HB.out p h
              · obtain rfl : p = i := by omega
                exact HQ.out
            go_wp2_with fail
            refine (HEF.out _).mono ?_
            rintro e w2 ⟨rfl, hw2⟩
            have H2 := hideH (bthen (bthen HW2.out hbx.out) hw2)
            have C2 := hideH (heap_on (heap_on HC2.out hbx.out) hw2)
            obtain ⟨y0, y1, y2, y3, y4⟩ := cellsE5 (heap_on hbn.out hw2)
            clear hw2 c0 c1 c2 e0 e1 e2 e3 e4 d2
            go_wp2_with fail
            try simp only [← hsa]
            go_roundw
            case rel => exact ⟨i + 1, by omega, by go_num, rfl, H2, C2, HB2⟩
            case measure => simp [intOf]; omega
        · obtain rfl : i = (D.zs k).n := by omega
          rcases beq_cases (frm (D.zs k).es (D.zs k).n) 1893456000 with ⟨q1, q2⟩ | ⟨q1, q2⟩
          · have HA2 : Hid (∀ j, j < k + 1 → zoneOK D (D.zs j)) := fun j hj => by
              rcases Nat.lt_or_ge j k with h | h
              · exact HA.out j h
              · obtain rfl : j = k := by omega
                exact ⟨HB.out, q2⟩
            have q3 : (frm (D.zs k).es (D.zs k).n != 1893456000) = false := by simp [q2]
            clear q2
            go_wp2_with fail
            try simp only [← hsa]
            go_roundw
            case rel => exact ⟨k + 1, by omega, by go_num, HW2, HC2, HA2⟩
            case measure => simp [intOf]; omega
          · have HX : Hid (V = 3) := HV.out (fun h => q2 (h k hlt).2)
            have q3 : (frm (D.zs k).es (D.zs k).n != 1893456000) = true := by rw [bne_iff_ne]; exact q2
            clear q2
            go_wp2_with fail
            go_ret
            exact ⟨ret_int HX.out.symm, HW2.out⟩
    · have H11 := hideH (HN.out (fun j hj => HA.out j (by omega)))
      rename ∀ (a : Act) (w : World), _ → _ => hcont
      have HCONT := hideH hcont
      clear hcont
      go_wp2_with fail
      refine HCONT.out _ _ ?_
      exact H11.out wr _ _ _ _ _ _ _ _ _ _ _ _ _ _ _ _ _ _ _ _ _ _ _ _ _ _ _ _ _ _ _ _ _ _ _ _ _ _ _ _ _ _ _ _ _ _ _ _ _ _ _ _ _ _ _ _ _ _ _ _ _ _ _ _ _ _ _ _ _ _ _ _ _ _ _ _ _ _ _ _ _ _ _ _ _ _ _ _ _ _ _ _ _ _ _ _ _ _ _ _ _ _ _ _ _ _ _ _ _ _ _ _ _ _ _ _ _ _ _ _ _ _ _ _ _ _ _ _ _ _ _ _ _ _ _ _ _ _ _ _ _ _ _ _ _ _ _ _ _ _ _ _ _ _ _ _ _ _ _ _ _ _ _ _ _ _ _ _ _ _ _ _ _ _ _ _ _ _ _ _ _ _ _ _ _ _ _ _ _ _ _ _ _ _ _ _ _ _ _ _ _ _ _ _ _ _ _ _ _ _ _ _ _ _ _ _ _ _ _ _ _ _ _ _ _ _ _ _ _ _ _ _ _ _ _ _ _ _ _ _ _ _ _ _ _ _ _ _ _ _ _ _ _ _ _ _ _ _ _ _ _ _ _ _ _ _ _ _ _ _ _ _ _ _ _ _ _ _ _ _ HW1 HC1
end Go.Proofs.YtbpdbggojgijiaaGreatDoor

/- The document's own CheckData: rules. -/
namespace Go.Proofs.YtbpdbggojgijiaaGreatDoor
open Go Go.RowKit Go.Maps
set_option linter.unusedVariables false

set_option maxRecDepth 1000000 in
/-- what is left behind the rules -/
def CD10 (D : Dt) (w : World) (V : Int) : Prop := ∀ (W : World) (u0 u2 u3 u4 u5 u6 u7 u8 u9 u10 u11 u12 u13 u14 u15 u16 u17 u18 u19 u20 u21 u22 u23 u24 u25 u26 u27 u28 u29 u30 u31 u32 u33 u34 u35 u36 u37 u38 u39 u40 u41 u42 u43 u44 u45 u46 u47 u48 u49 u50 u51 u52 u53 u54 u55 u56 u57 u58 u59 u60 u61 u62 u63 u64 u65 u66 u67 u68 u69 u70 u71 u72 u73 u74 u75 u76 u77 u78 u79 u80 u81 u82 u83 u84 u85 u86 u87 u88 u89 u90 u91 u92 u93 u94 u95 u96 u97 u98 u99 u100 u101 u102 u103 u104 u105 u106 u107 u108 u109 u110 u111 u112 u113 u114 u115 u116 u117 u118 u119 u120 u121 u122 u123 u124 u125 u126 u127 u128 u129 u130 u131 u132 u133 u134 u135 u136 u137 u138 u139 u140 u141 u142 u143 u144 u145 u146 u147 u148 u149 u150 u151 u152 u153 u154 u155 u156 u157 u158 u159 u160 u161 u162 u163 u164 u165 u166 u167 u168 u169 u170 u171 u172 u173 u174 u175 u176 u177 u178 u179 u180 u181 u182 u183 u184 u185 u186 u187 u188 u189 u190 u191 u192 u193 u194 u195 u196 u197 u198 u199 u200 u201 u202 u203 u204 u205 u206 u207 u208 u209 u210 u211 u212 u213 u214 u215 u216 u217 u218 u219 u220 u221 u222 u223 u224 u225 u226 u227 u228 u229 u230 u231 u232 u233 u234 u235 u236 u237 u238 u239 u240 u241 u242 u243 u244 u245 u246 u247 u248 u249 u250 u251 u252 u253 u254 u255 u256 u257 u258 u259 u260 u261 u262 u263 u264 u265 u266 u267 u268 u269 u270 u271 u272 u273 u274 u275 u276 u277 u278 u279 u280 : Value), Hid (Below w.heap.size w W) → Hid (W.heap[w.heap.size]? = some (.cells #[.slice D.sa D.ns D.sc, .slice D.za D.nz D.zc, .slice D.la D.nl D.lc] 26)) → Code.wp Tryz.prog (ctl 10 (Tryz.f6.body.getD .skip)) (bodyPost Tryz.prog Tryz.f6 fun e w' => e = .returned (.int .i64 V) ∧ Below w.heap.size w w') ⟨#[u0, .pointer (some ⟨w.heap.size, 0, none⟩), u2, u3, u4, u5, u6, u7, u8, u9, u10, u11, u12, u13, u14, u15, u16, u17, u18, u19, u20, u21, u22, u23, u24, u25, u26, u27, u28, u29, u30, u31, u32, u33, u34, u35, u36, u37, u38, u39, u40, u41, u42, u43, u44, u45, u46, u47, u48, u49, u50, u51, u52, u53, u54, u55, u56, u57, u58, u59, u60, u61, u62, u63, u64, u65, u66, u67, u68, u69, u70, u71, u72, u73, u74, u75, u76, u77, u78, u79, u80, u81, u82, u83, u84, u85, u86, u87, u88, u89, u90, u91, u92, u93, u94, u95, u96, u97, u98, u99, u100, u101, u102, u103, u104, u105, u106, u107, u108, u109, u110, u111, u112, u113, u114, u115, u116, u117, u118, u119, u120, u121, u122, u123, u124, u125, u126, u127, u128, u129, u130, u131, u132, u133, u134, u135, u136, u137, u138, u139, u140, u141, u142, u143, u144, u145, u146, u147, u148, u149, u150, u151, u152, u153, u154, u155, u156, u157, u158, u159, u160, u161, u162, u163, u164, u165, u166, u167, u168, u169, u170, u171, u172, u173, u174, u175, u176, u177, u178, u179, u180, u181, u182, u183, u184, u185, u186, u187, u188, u189, u190, u191, u192, u193, u194, u195, u196, u197, u198, u199, u200, u201, u202, u203, u204, u205, u206, u207, u208, u209, u210, u211, u212, u213, u214, u215, u216, u217, u218, u219, u220, u221, u222, u223, u224, u225, u226, u227, u228, u229, u230, u231, u232, u233, u234, u235, u236, u237, u238, u239, u240, u241, u242, u243, u244, u245, u246, u247, u248, u249, u250, u251, u252, u253, u254, u255, u256, u257, u258, u259, u260, u261, u262, u263, u264, u265, u266, u267, u268, u269, u270, u271, u272, u273, u274, u275, u276, u277, u278, u279, u280], []⟩ W
set_option maxRecDepth 1000000 in
set_option maxHeartbeats 4000000 in
theorem cd9 {D : Dt} {w W : World} {V : Int} {u0 u2 u3 u4 u5 u6 u7 u8 u9 u10 u11 u12 u13 u14 u15 u16 u17 u18 u19 u20 u21 u22 u23 u24 u25 u26 u27 u28 u29 u30 u31 u32 u33 u34 u35 u36 u37 u38 u39 u40 u41 u42 u43 u44 u45 u46 u47 u48 u49 u50 u51 u52 u53 u54 u55 u56 u57 u58 u59 u60 u61 u62 u63 u64 u65 u66 u67 u68 u69 u70 u71 u72 u73 u74 u75 u76 u77 u78 u79 u80 u81 u82 u83 u84 u85 u86 u87 u88 u89 u90 u91 u92 u93 u94 u95 u96 u97 u98 u99 u100 u101 u102 u103 u104 u105 u106 u107 u108 u109 u110 u111 u112 u113 u114 u115 u116 u117 u118 u119 u120 u121 u122 u123 u124 u125 u126 u127 u128 u129 u130 u131 u132 u133 u134 u135 u136 u137 u138 u139 u140 u141 u142 u143 u144 u145 u146 u147 u148 u149 u150 u151 u152 u153 u154 u155 u156 u157 u158 u159 u160 u161 u162 u163 u164 u165 u166 u167 u168 u169 u170 u171 u172 u173 u174 u175 u176 u177 u178 u179 u180 u181 u182 u183 u184 u185 u186 u187 u188 u189 u190 u191 u192 u193 u194 u195 u196 u197 u198 u199 u200 u201 u202 u203 u204 u205 u206 u207 u208 u209 u210 u211 u212 u213 u214 u215 u216 u217 u218 u219 u220 u221 u222 u223 u224 u225 u226 u227 u228 u229 u230 u231 u232 u233 u234 u235 u236 u237 u238 u239 u240 u241 u242 u243 u244 u245 u246 u247 u248 u249 u250 u251 u252 u253 u254 u255 u256 u257 u258 u259 u260 u261 u262 u263 u264 u265 u266 u267 u268 u269 u270 u271 u272 u273 u274 u275 u276 u277 u278 u279 u280 : Value} (HD : Hid (DAt w D)) (HF : Hid D.fits) (h3 : D.ns ≤ 3) (h4 : ∀ j, j < D.ns → (D.ss j).n ≤ 4) (HW : Hid (Below w.heap.size w W)) (HC : Hid (W.heap[w.heap.size]? = some (.cells #[.slice D.sa D.ns D.sc, .slice D.za D.nz D.zc, .slice D.la D.nl D.lc] 26)))
    (HN : Hid (rulE D = 0 → CD10 D w V)) (HV : Hid (rulE D ≠ 0 → V = rulE D)) :
    Code.wp Tryz.prog (ctl 9 (Tryz.f6.body.getD .skip)) (bodyPost Tryz.prog Tryz.f6 fun e w' => e = .returned (.int .i64 V) ∧ Below w.heap.size w w') ⟨#[u0, .pointer (some ⟨w.heap.size, 0, none⟩), u2, u3, u4, u5, u6, u7, u8, u9, u10, u11, u12, u13, u14, u15, u16, u17, u18, u19, u20, u21, u22, u23, u24, u25, u26, u27, u28, u29, u30, u31, u32, u33, u34, u35, u36, u37, u38, u39, u40, u41, u42, u43, u44, u45, u46, u47, u48, u49, u50, u51, u52, u53, u54, u55, u56, u57, u58, u59, u60, u61, u62, u63, u64, u65, u66, u67, u68, u69, u70, u71, u72, u73, u74, u75, u76, u77, u78, u79, u80, u81, u82, u83, u84, u85, u86, u87, u88, u89, u90, u91, u92, u93, u94, u95, u96, u97, u98, u99, u100, u101, u102, u103, u104, u105, u106, u107, u108, u109, u110, u111, u112, u113, u114, u115, u116, u117, u118, u119, u120, u121, u122, u123, u124, u125, u126, u127, u128, u129, u130, u131, u132, u133, u134, u135, u136, u137, u138, u139, u140, u141, u142, u143, u144, u145, u146, u147, u148, u149, u150, u151, u152, u153, u154, u155, u156, u157, u158, u159, u160, u161, u162, u163, u164, u165, u166, u167, u168, u169, u170, u171, u172, u173, u174, u175, u176, u177, u178, u179, u180, u181, u182, u183, u184, u185, u186, u187, u188, u189, u190, u191, u192, u193, u194, u195, u196, u197, u198, u199, u200, u201, u202, u203, u204, u205, u206, u207, u208, u209, u210, u211, u212, u213, u214, u215, u216, u217, u218, u219, u220, u221, u222, u223, u224, u225, u226, u227, u228, u229, u230, u231, u232, u233, u234, u235, u236, u237, u238, u239, u240, u241, u242, u243, u244, u245, u246, u247, u248, u249, u250, u251, u252, u253, u254, u255, u256, u257, u258, u259, u260, u261, u262, u263, u264, u265, u266, u267, u268, u269, u270, u271, u272, u273, u274, u275, u276, u277, u278, u279, u280], []⟩ W := by
  have H4 := hideH h4
  clear h4
  conv => arg 2; whnf
  go_wp2_with fail
  go_loopw [10] (fun x10 v => ∃ k : Nat, k ≤ D.ns ∧ x10 = .int .i64 k ∧ Hid (Below w.heap.size w v) ∧ Hid (v.heap[w.heap.size]? = some (.cells #[.slice D.sa D.ns D.sc, .slice D.za D.nz D.zc, .slice D.la D.nl D.lc] 26)) ∧ Hid (∀ j, j < k → setE (D.ss j) = 0)) (fun x10 _ => D.ns - (intOf x10).toNat)
  case atStart => exact ⟨0, Nat.zero_le _, rfl, HW, HC, fun j hj => by omega⟩
  case round =>
    obtain ⟨k, hk, rfl, HW1, HC1, HA⟩ := hrel
    clear HW HC
    obtain ⟨c0, c1, c2⟩ := cells3 HC1.out
    by_cases hlt : k < D.ns
    · have hn4 := H4.out k hlt
      go_wp2_with fail
      clear c0 c1 c2
      go_loopw [11] (fun x11 v => ∃ i : Nat, i ≤ (D.ss k).n ∧ x11 = .int .i64 i ∧ Hid (Below w.heap.size w v) ∧ Hid (v.heap[w.heap.size]? = some (.cells #[.slice D.sa D.ns D.sc, .slice D.za D.nz D.zc, .slice D.la D.nl D.lc] 26)) ∧ Hid (∀ p, p < i → rchk ((D.ss k).rs p) = 0)) (fun x11 _ => (D.ss k).n - (intOf x11).toNat)
      case atStart => exact ⟨0, Nat.zero_le _, rfl, HW1, HC1, fun p hp => by omega⟩
      case round =>
        obtain ⟨i, hi, rfl, HW2, HC2, HB⟩ := hrel
        obtain ⟨c0, c1, c2⟩ := cells3 HC2.out
        rcases (HD.out.on HW2.out).sets with h0 | ⟨b, off, hsa, hcs⟩
        · omega
        obtain ⟨d0, d1⟩ := hcs k hlt
        have hk0 : decide ((k : Int) < 0) = false := by simp
        have hkn : decide (D.ns ≤ k) = false := by simp; omega
        clear hcs d0
        by_cases hil : i < (D.ss k).n
        · rcases (HD.out.on HW2.out).rules k hlt with h0 | ⟨be, offe, hea, hes⟩
          · omega
          obtain ⟨e0, e1, e2, e3, e4, e5, e6, e7, e8⟩ := hes i hil
          have d2 : wr.cell? ⟨b, off + k * 2 + 1, none⟩ = some (.slice (some ⟨be, offe, none⟩) (D.ss k).n (D.ss k).c) := by rw [← hea]; exact d1
          have hi0 : decide ((i : Int) < 0) = false := by simp
          have hin : decide ((D.ss k).n ≤ i) = false := by simp; omega
          have HCR := hideH (CheckRule_c ((D.ss k).rs i) wr (HF.out.lt k hlt i hil))
          clear hes d1
          rcases beq_cases (rchk ((D.ss k).rs i)) 0 with ⟨q1, q2⟩ | ⟨q1, q2⟩
          · rw [q2] at HCR
            have HB2 : Hid (∀ p, p < i + 1 → rchk ((D.ss k).rs p) = 0) := fun p hp => by
              rcases Nat.lt_or_ge p i with h | h
              · exact HB.out p h
              · obtain rfl : p = i := by omega
                exact q2
            clear q1 q2
            go_wp2_with fail
            refine HCR.out.mono ?_
            rintro e w2 ⟨rfl, hw2⟩
            have H2 := hideH (bthen HW2.out hw2)
            have C2 := hideH (heap_on HC2.out hw2)
            clear hw2 c0 c1 c2 e0 e1 e2 e3 e4 e5 e6 e7 e8 d2
            go_wp2_with fail
            try simp only [← hsa]
            go_roundw
            case rel => exact ⟨i + 1, by omega, by go_num, H2, C2, HB2⟩
            case measure => simp [intOf]; omega
          · have hs : setE (D.ss k) = rchk ((D.ss k).rs i) := fstE_at (f := fun p => rchk ((D.ss k).rs p)) HB.out q2 hil
            have hr : rulE D = rchk ((D.ss k).rs i) := (fstE_at (f := fun j => setE (D.ss j)) HA.out (by show setE (D.ss k) ≠ 0; rw [hs]; exact q2) hlt).trans hs
            have HX : Hid (V = rchk ((D.ss k).rs i)) := (HV.out (by rw [hr]; exact q2)).trans hr
            have hne : (rchk ((D.ss k).rs i) != 0) = true := by rw [bne_iff_ne]; exact q2
            clear q1 q2 hs hr
            go_wp2_with fail
            refine HCR.out.mono ?_
            rintro e w2 ⟨rfl, hw2⟩
            have H2 := hideH (bthen HW2.out hw2)
            clear hw2
            go_wp2_with fail
            go_ret
            exact ⟨ret_int HX.out.symm, H2.out⟩
        · have HA2 : Hid (∀ j, j < k + 1 → setE (D.ss j) = 0) := fun j hj => by
            rcases Nat.lt_or_ge j k with h | h
            · exact HA.out j h
            · obtain rfl : j = k := by omega
              exact fstE_zero fun p hp => HB.out p (by omega)
          go_wp2_with fail
          try simp only [← hsa]
          go_roundw
          case rel => exact ⟨k + 1, by omega, by go_num, HW2, HC2, HA2⟩
          case measure => simp [intOf]; omega
    · have H10 := hideH (HN.out (fstE_zero fun j hj => HA.out j (by omega)))
      rename ∀ (a : Act) (w : World), _ → _ => hcont
      have HCONT := hideH hcont
      clear hcont
      go_wp2_with fail
      refine HCONT.out _ _ ?_
      exact H10.out wr _ _ _ _ _ _ _ _ _ _ _ _ _ _ _ _ _ _ _ _ _ _ _ _ _ _ _ _ _ _ _ _ _ _ _ _ _ _ _ _ _ _ _ _ _ _ _ _ _ _ _ _ _ _ _ _ _ _ _ _ _ _ _ _ _ _ _ _ _ _ _ _ _ _ _ _ _ _ _ _ _ _ _ _ _ _ _ _ _ _ _ _ _ _ _ _ _ _ _ _ _ _ _ _ _ _ _ _ _ _ _ _ _ _ _ _ _ _ _ _ _ _ _ _ _ _ _ _ _ _ _ _ _ _ _ _ _ _ _ _ _ _ _ _ _ _ _ _ _ _ _ _ _ _ _ _ _ _ _ _ _ _ _ _ _ _ _ _ _ _ _ _ _ _ _ _ _ _ _ _ _ _ _ _ _ _ _ _ _ _ _ _ _ _ _ _ _ _ _ _ _ _ _ _ _ _ _ _ _ _ _ _ _ _ _ _ _ _ _ _ _ _ _ _ _ _ _ _ _ _ _ _ _ _ _ _ _ _ _ _ _ _ _ _ _ _ _ _ _ _ _ _ _ _ _ _ _ _ _ _ _ _ _ _ _ _ _ _ _ _ _ _ _ _ _ _ _ _ _ _ HW1 HC1
end Go.Proofs.YtbpdbggojgijiaaGreatDoor

/- The document's own CheckData: names that are told twice. -/
namespace Go.Proofs.YtbpdbggojgijiaaGreatDoor
open Go Go.RowKit Go.Maps
set_option linter.unusedVariables false

set_option maxRecDepth 1000000 in
/-- what is left behind the names -/
def CD9 (D : Dt) (w : World) (V : Int) : Prop := ∀ (W : World) (u0 u2 u3 u4 u5 u6 u7 u8 u9 u10 u11 u12 u13 u14 u15 u16 u17 u18 u19 u20 u21 u22 u23 u24 u25 u26 u27 u28 u29 u30 u31 u32 u33 u34 u35 u36 u37 u38 u39 u40 u41 u42 u43 u44 u45 u46 u47 u48 u49 u50 u51 u52 u53 u54 u55 u56 u57 u58 u59 u60 u61 u62 u63 u64 u65 u66 u67 u68 u69 u70 u71 u72 u73 u74 u75 u76 u77 u78 u79 u80 u81 u82 u83 u84 u85 u86 u87 u88 u89 u90 u91 u92 u93 u94 u95 u96 u97 u98 u99 u100 u101 u102 u103 u104 u105 u106 u107 u108 u109 u110 u111 u112 u113 u114 u115 u116 u117 u118 u119 u120 u121 u122 u123 u124 u125 u126 u127 u128 u129 u130 u131 u132 u133 u134 u135 u136 u137 u138 u139 u140 u141 u142 u143 u144 u145 u146 u147 u148 u149 u150 u151 u152 u153 u154 u155 u156 u157 u158 u159 u160 u161 u162 u163 u164 u165 u166 u167 u168 u169 u170 u171 u172 u173 u174 u175 u176 u177 u178 u179 u180 u181 u182 u183 u184 u185 u186 u187 u188 u189 u190 u191 u192 u193 u194 u195 u196 u197 u198 u199 u200 u201 u202 u203 u204 u205 u206 u207 u208 u209 u210 u211 u212 u213 u214 u215 u216 u217 u218 u219 u220 u221 u222 u223 u224 u225 u226 u227 u228 u229 u230 u231 u232 u233 u234 u235 u236 u237 u238 u239 u240 u241 u242 u243 u244 u245 u246 u247 u248 u249 u250 u251 u252 u253 u254 u255 u256 u257 u258 u259 u260 u261 u262 u263 u264 u265 u266 u267 u268 u269 u270 u271 u272 u273 u274 u275 u276 u277 u278 u279 u280 : Value), Hid (Below w.heap.size w W) → Hid (W.heap[w.heap.size]? = some (.cells #[.slice D.sa D.ns D.sc, .slice D.za D.nz D.zc, .slice D.la D.nl D.lc] 26)) → Code.wp Tryz.prog (ctl 9 (Tryz.f6.body.getD .skip)) (bodyPost Tryz.prog Tryz.f6 fun e w' => e = .returned (.int .i64 V) ∧ Below w.heap.size w w') ⟨#[u0, .pointer (some ⟨w.heap.size, 0, none⟩), u2, u3, u4, u5, u6, u7, u8, u9, u10, u11, u12, u13, u14, u15, u16, u17, u18, u19, u20, u21, u22, u23, u24, u25, u26, u27, u28, u29, u30, u31, u32, u33, u34, u35, u36, u37, u38, u39, u40, u41, u42, u43, u44, u45, u46, u47, u48, u49, u50, u51, u52, u53, u54, u55, u56, u57, u58, u59, u60, u61, u62, u63, u64, u65, u66, u67, u68, u69, u70, u71, u72, u73, u74, u75, u76, u77, u78, u79, u80, u81, u82, u83, u84, u85, u86, u87, u88, u89, u90, u91, u92, u93, u94, u95, u96, u97, u98, u99, u100, u101, u102, u103, u104, u105, u106, u107, u108, u109, u110, u111, u112, u113, u114, u115, u116, u117, u118, u119, u120, u121, u122, u123, u124, u125, u126, u127, u128, u129, u130, u131, u132, u133, u134, u135, u136, u137, u138, u139, u140, u141, u142, u143, u144, u145, u146, u147, u148, u149, u150, u151, u152, u153, u154, u155, u156, u157, u158, u159, u160, u161, u162, u163, u164, u165, u166, u167, u168, u169, u170, u171, u172, u173, u174, u175, u176, u177, u178, u179, u180, u181, u182, u183, u184, u185, u186, u187, u188, u189, u190, u191, u192, u193, u194, u195, u196, u197, u198, u199, u200, u201, u202, u203, u204, u205, u206, u207, u208, u209, u210, u211, u212, u213, u214, u215, u216, u217, u218, u219, u220, u221, u222, u223, u224, u225, u226, u227, u228, u229, u230, u231, u232, u233, u234, u235, u236, u237, u238, u239, u240, u241, u242, u243, u244, u245, u246, u247, u248, u249, u250, u251, u252, u253, u254, u255, u256, u257, u258, u259, u260, u261, u262, u263, u264, u265, u266, u267, u268, u269, u270, u271, u272, u273, u274, u275, u276, u277, u278, u279, u280], []⟩ W
set_option maxRecDepth 1000000 in
set_option maxHeartbeats 4000000 in
theorem cd8 {D : Dt} {w W : World} {V : Int} {a3 a4 : Option Addr} {q3 q4 : Nat} {u0 u2 u5 u6 u7 u8 u9 u10 u11 u12 u13 u14 u15 u16 u17 u18 u19 u20 u21 u22 u23 u24 u25 u26 u27 u28 u29 u30 u31 u32 u33 u34 u35 u36 u37 u38 u39 u40 u41 u42 u43 u44 u45 u46 u47 u48 u49 u50 u51 u52 u53 u54 u55 u56 u57 u58 u59 u60 u61 u62 u63 u64 u65 u66 u67 u68 u69 u70 u71 u72 u73 u74 u75 u76 u77 u78 u79 u80 u81 u82 u83 u84 u85 u86 u87 u88 u89 u90 u91 u92 u93 u94 u95 u96 u97 u98 u99 u100 u101 u102 u103 u104 u105 u106 u107 u108 u109 u110 u111 u112 u113 u114 u115 u116 u117 u118 u119 u120 u121 u122 u123 u124 u125 u126 u127 u128 u129 u130 u131 u132 u133 u134 u135 u136 u137 u138 u139 u140 u141 u142 u143 u144 u145 u146 u147 u148 u149 u150 u151 u152 u153 u154 u155 u156 u157 u158 u159 u160 u161 u162 u163 u164 u165 u166 u167 u168 u169 u170 u171 u172 u173 u174 u175 u176 u177 u178 u179 u180 u181 u182 u183 u184 u185 u186 u187 u188 u189 u190 u191 u192 u193 u194 u195 u196 u197 u198 u199 u200 u201 u202 u203 u204 u205 u206 u207 u208 u209 u210 u211 u212 u213 u214 u215 u216 u217 u218 u219 u220 u221 u222 u223 u224 u225 u226 u227 u228 u229 u230 u231 u232 u233 u234 u235 u236 u237 u238 u239 u240 u241 u242 u243 u244 u245 u246 u247 u248 u249 u250 u251 u252 u253 u254 u255 u256 u257 u258 u259 u260 u261 u262 u263 u264 u265 u266 u267 u268 u269 u270 u271 u272 u273 u274 u275 u276 u277 u278 u279 u280 : Value} (h3 : D.ns ≤ 3) (h9 : D.nz + D.nl ≤ 9) (HW : Hid (Below w.heap.size w W)) (HC : Hid (W.heap[w.heap.size]? = some (.cells #[.slice D.sa D.ns D.sc, .slice D.za D.nz D.zc, .slice D.la D.nl D.lc] 26)))
    (R3 : Hid (P1 W a3 D.ns (fun j => .string (D.ss j).nm))) (R4 : Hid (P1 W a4 (D.nz + D.nl) (fun j => .string (nms D j))))
    (HN : Hid (dist (fun j => (D.ss j).nm) D.ns → dist (nms D) (D.nz + D.nl) → CD9 D w V)) (HV : Hid (¬ (dist (fun j => (D.ss j).nm) D.ns ∧ dist (nms D) (D.nz + D.nl)) → V = 6)) :
    Code.wp Tryz.prog (ctl 8 (Tryz.f6.body.getD .skip)) (bodyPost Tryz.prog Tryz.f6 fun e w' => e = .returned (.int .i64 V) ∧ Below w.heap.size w w') ⟨#[u0, .pointer (some ⟨w.heap.size, 0, none⟩), u2, .slice a3 D.ns q3, .slice a4 (D.nz + D.nl) q4, u5, u6, u7, u8, u9, u10, u11, u12, u13, u14, u15, u16, u17, u18, u19, u20, u21, u22, u23, u24, u25, u26, u27, u28, u29, u30, u31, u32, u33, u34, u35, u36, u37, u38, u39, u40, u41, u42, u43, u44, u45, u46, u47, u48, u49, u50, u51, u52, u53, u54, u55, u56, u57, u58, u59, u60, u61, u62, u63, u64, u65, u66, u67, u68, u69, u70, u71, u72, u73, u74, u75, u76, u77, u78, u79, u80, u81, u82, u83, u84, u85, u86, u87, u88, u89, u90, u91, u92, u93, u94, u95, u96, u97, u98, u99, u100, u101, u102, u103, u104, u105, u106, u107, u108, u109, u110, u111, u112, u113, u114, u115, u116, u117, u118, u119, u120, u121, u122, u123, u124, u125, u126, u127, u128, u129, u130, u131, u132, u133, u134, u135, u136, u137, u138, u139, u140, u141, u142, u143, u144, u145, u146, u147, u148, u149, u150, u151, u152, u153, u154, u155, u156, u157, u158, u159, u160, u161, u162, u163, u164, u165, u166, u167, u168, u169, u170, u171, u172, u173, u174, u175, u176, u177, u178, u179, u180, u181, u182, u183, u184, u185, u186, u187, u188, u189, u190, u191, u192, u193, u194, u195, u196, u197, u198, u199, u200, u201, u202, u203, u204, u205, u206, u207, u208, u209, u210, u211, u212, u213, u214, u215, u216, u217, u218, u219, u220, u221, u222, u223, u224, u225, u226, u227, u228, u229, u230, u231, u232, u233, u234, u235, u236, u237, u238, u239, u240, u241, u242, u243, u244, u245, u246, u247, u248, u249, u250, u251, u252, u253, u254, u255, u256, u257, u258, u259, u260, u261, u262, u263, u264, u265, u266, u267, u268, u269, u270, u271, u272, u273, u274, u275, u276, u277, u278, u279, u280], []⟩ W := by
  have T3 : Hid (∀ v, P1 v a3 D.ns (fun j => .string (D.ss j).nm) → Calls Tryz.prog 19 #[.slice a3 D.ns q3] v fun e w' => e = .returned (.bool (!decide (dist (fun j => (D.ss j).nm) D.ns))) ∧ Below v.heap.size v w') := fun v hv => twice_c a3 D.ns q3 (fun j => (D.ss j).nm) v hv (by unfold maxLen; omega)
  have T4 : Hid (∀ v, P1 v a4 (D.nz + D.nl) (fun j => .string (nms D j)) → Calls Tryz.prog 19 #[.slice a4 (D.nz + D.nl) q4] v fun e w' => e = .returned (.bool (!decide (dist (nms D) (D.nz + D.nl)))) ∧ Below v.heap.size v w') := fun v hv => twice_c a4 (D.nz + D.nl) q4 (nms D) v hv (by unfold maxLen; omega)
  conv => arg 2; whnf
  by_cases d3 : dist (fun j => (D.ss j).nm) D.ns
  · rw [decide_eq_true d3] at T3
    by_cases d4 : dist (nms D) (D.nz + D.nl)
    · rw [decide_eq_true d4] at T4
      have H9 := hideH (HN.out d3 d4)
      clear HN HV d3 d4
      go_wp2_with fail
      refine (T3.out _ R3.out).mono ?_
      rintro e w1 ⟨rfl, hw1⟩
      have H1 := hideH (bthen HW.out hw1)
      have C1 := hideH (heap_on HC.out hw1)
      have R1 := hideH (R4.out.on hw1)
      clear hw1 HW HC R3 R4
      go_wp2_with fail
      refine (T4.out _ R1.out).mono ?_
      rintro e w2 ⟨rfl, hw2⟩
      have H2 := hideH (bthen H1.out hw2)
      have C2 := hideH (heap_on C1.out hw2)
      clear hw2 H1 C1 R1
      rename ∀ (a : Act) (w : World), _ → _ => hc1
      revert hc1
      rename ∀ (a : Act) (w : World), _ → _ => hc2
      revert hc2
      rename ∀ (a : Act) (w : World), _ → _ => hcont
      have HCONT := hideH hcont
      clear hcont
      intro hc2 hc1
      go_wp2_with fail
      refine HCONT.out _ _ ?_
      exact H9.out w2 _ _ _ _ _ _ _ _ _ _ _ _ _ _ _ _ _ _ _ _ _ _ _ _ _ _ _ _ _ _ _ _ _ _ _ _ _ _ _ _ _ _ _ _ _ _ _ _ _ _ _ _ _ _ _ _ _ _ _ _ _ _ _ _ _ _ _ _ _ _ _ _ _ _ _ _ _ _ _ _ _ _ _ _ _ _ _ _ _ _ _ _ _ _ _ _ _ _ _ _ _ _ _ _ _ _ _ _ _ _ _ _ _ _ _ _ _ _ _ _ _ _ _ _ _ _ _ _ _ _ _ _ _ _ _ _ _ _ _ _ _ _ _ _ _ _ _ _ _ _ _ _ _ _ _ _ _ _ _ _ _ _ _ _ _ _ _ _ _ _ _ _ _ _ _ _ _ _ _ _ _ _ _ _ _ _ _ _ _ _ _ _ _ _ _ _ _ _ _ _ _ _ _ _ _ _ _ _ _ _ _ _ _ _ _ _ _ _ _ _ _ _ _ _ _ _ _ _ _ _ _ _ _ _ _ _ _ _ _ _ _ _ _ _ _ _ _ _ _ _ _ _ _ _ _ _ _ _ _ _ _ _ _ _ _ _ _ _ _ _ _ _ _ _ _ _ _ _ _ _ H2 C2
    · rw [decide_eq_false d4] at T4
      have HX : Hid (V = 6) := HV.out (fun h => d4 h.2)
      clear HN HV d3 d4
      go_wp2_with fail
      refine (T3.out _ R3.out).mono ?_
      rintro e w1 ⟨rfl, hw1⟩
      have H1 := hideH (bthen HW.out hw1)
      have R1 := hideH (R4.out.on hw1)
      clear hw1 HW HC R3 R4
      go_wp2_with fail
      refine (T4.out _ R1.out).mono ?_
      rintro e w2 ⟨rfl, hw2⟩
      have H2 := hideH (bthen H1.out hw2)
      clear hw2 H1 R1
      go_wp2_with fail
      go_ret
      exact ⟨ret_int HX.out.symm, H2.out⟩
  · rw [decide_eq_false d3] at T3
    have HX : Hid (V = 6) := HV.out (fun h => d3 h.1)
    clear HN HV d3
    go_wp2_with fail
    refine (T3.out _ R3.out).mono ?_
    rintro e w1 ⟨rfl, hw1⟩
    have H1 := hideH (bthen HW.out hw1)
    clear hw1 HW HC R3 R4
    go_wp2_with fail
    go_ret
    exact ⟨ret_int HX.out.symm, H1.out⟩
end Go.Proofs.YtbpdbggojgijiaaGreatDoor

/- The document's own CheckData: names. -/
namespace Go.Proofs.YtbpdbggojgijiaaGreatDoor
open Go Go.RowKit Go.Maps
set_option linter.unusedVariables false

set_option maxRecDepth 1000000 in
/-- what is left behind the look at all names -/
def CD8 (D : Dt) (w : World) (V : Int) : Prop := ∀ (W : World) (a3 a4 : Option Addr) (q3 q4 : Nat) (u0 u2 u5 u6 u7 u8 u9 u10 u11 u12 u13 u14 u15 u16 u17 u18 u19 u20 u21 u22 u23 u24 u25 u26 u27 u28 u29 u30 u31 u32 u33 u34 u35 u36 u37 u38 u39 u40 u41 u42 u43 u44 u45 u46 u47 u48 u49 u50 u51 u52 u53 u54 u55 u56 u57 u58 u59 u60 u61 u62 u63 u64 u65 u66 u67 u68 u69 u70 u71 u72 u73 u74 u75 u76 u77 u78 u79 u80 u81 u82 u83 u84 u85 u86 u87 u88 u89 u90 u91 u92 u93 u94 u95 u96 u97 u98 u99 u100 u101 u102 u103 u104 u105 u106 u107 u108 u109 u110 u111 u112 u113 u114 u115 u116 u117 u118 u119 u120 u121 u122 u123 u124 u125 u126 u127 u128 u129 u130 u131 u132 u133 u134 u135 u136 u137 u138 u139 u140 u141 u142 u143 u144 u145 u146 u147 u148 u149 u150 u151 u152 u153 u154 u155 u156 u157 u158 u159 u160 u161 u162 u163 u164 u165 u166 u167 u168 u169 u170 u171 u172 u173 u174 u175 u176 u177 u178 u179 u180 u181 u182 u183 u184 u185 u186 u187 u188 u189 u190 u191 u192 u193 u194 u195 u196 u197 u198 u199 u200 u201 u202 u203 u204 u205 u206 u207 u208 u209 u210 u211 u212 u213 u214 u215 u216 u217 u218 u219 u220 u221 u222 u223 u224 u225 u226 u227 u228 u229 u230 u231 u232 u233 u234 u235 u236 u237 u238 u239 u240 u241 u242 u243 u244 u245 u246 u247 u248 u249 u250 u251 u252 u253 u254 u255 u256 u257 u258 u259 u260 u261 u262 u263 u264 u265 u266 u267 u268 u269 u270 u271 u272 u273 u274 u275 u276 u277 u278 u279 u280 : Value), Hid (Below w.heap.size w W) → Hid (W.heap[w.heap.size]? = some (.cells #[.slice D.sa D.ns D.sc, .slice D.za D.nz D.zc, .slice D.la D.nl D.lc] 26)) → Hid (P1 W a3 D.ns (fun j => .string (D.ss j).nm)) → Hid (P1 W a4 (D.nz + D.nl) (fun j => .string (nms D j))) → Code.wp Tryz.prog (ctl 8 (Tryz.f6.body.getD .skip)) (bodyPost Tryz.prog Tryz.f6 fun e w' => e = .returned (.int .i64 V) ∧ Below w.heap.size w w') ⟨#[u0, .pointer (some ⟨w.heap.size, 0, none⟩), u2, .slice a3 D.ns q3, .slice a4 (D.nz + D.nl) q4, u5, u6, u7, u8, u9, u10, u11, u12, u13, u14, u15, u16, u17, u18, u19, u20, u21, u22, u23, u24, u25, u26, u27, u28, u29, u30, u31, u32, u33, u34, u35, u36, u37, u38, u39, u40, u41, u42, u43, u44, u45, u46, u47, u48, u49, u50, u51, u52, u53, u54, u55, u56, u57, u58, u59, u60, u61, u62, u63, u64, u65, u66, u67, u68, u69, u70, u71, u72, u73, u74, u75, u76, u77, u78, u79, u80, u81, u82, u83, u84, u85, u86, u87, u88, u89, u90, u91, u92, u93, u94, u95, u96, u97, u98, u99, u100, u101, u102, u103, u104, u105, u106, u107, u108, u109, u110, u111, u112, u113, u114, u115, u116, u117, u118, u119, u120, u121, u122, u123, u124, u125, u126, u127, u128, u129, u130, u131, u132, u133, u134, u135, u136, u137, u138, u139, u140, u141, u142, u143, u144, u145, u146, u147, u148, u149, u150, u151, u152, u153, u154, u155, u156, u157, u158, u159, u160, u161, u162, u163, u164, u165, u166, u167, u168, u169, u170, u171, u172, u173, u174, u175, u176, u177, u178, u179, u180, u181, u182, u183, u184, u185, u186, u187, u188, u189, u190, u191, u192, u193, u194, u195, u196, u197, u198, u199, u200, u201, u202, u203, u204, u205, u206, u207, u208, u209, u210, u211, u212, u213, u214, u215, u216, u217, u218, u219, u220, u221, u222, u223, u224, u225, u226, u227, u228, u229, u230, u231, u232, u233, u234, u235, u236, u237, u238, u239, u240, u241, u242, u243, u244, u245, u246, u247, u248, u249, u250, u251, u252, u253, u254, u255, u256, u257, u258, u259, u260, u261, u262, u263, u264, u265, u266, u267, u268, u269, u270, u271, u272, u273, u274, u275, u276, u277, u278, u279, u280], []⟩ W
set_option maxRecDepth 1000000 in
set_option maxHeartbeats 4000000 in
theorem cd7 {D : Dt} {w W : World} {V : Int} {a3 a4 : Option Addr} {q3 q4 q7 n7 b7 o7 : Nat} {al : Nat → ByteArray} {u0 u2 u5 u6 u8 u9 u10 u11 u12 u13 u14 u15 u16 u17 u18 u19 u20 u21 u22 u23 u24 u25 u26 u27 u28 u29 u30 u31 u32 u33 u34 u35 u36 u37 u38 u39 u40 u41 u42 u43 u44 u45 u46 u47 u48 u49 u50 u51 u52 u53 u54 u55 u56 u57 u58 u59 u60 u61 u62 u63 u64 u65 u66 u67 u68 u69 u70 u71 u72 u73 u74 u75 u76 u77 u78 u79 u80 u81 u82 u83 u84 u85 u86 u87 u88 u89 u90 u91 u92 u93 u94 u95 u96 u97 u98 u99 u100 u101 u102 u103 u104 u105 u106 u107 u108 u109 u110 u111 u112 u113 u114 u115 u116 u117 u118 u119 u120 u121 u122 u123 u124 u125 u126 u127 u128 u129 u130 u131 u132 u133 u134 u135 u136 u137 u138 u139 u140 u141 u142 u143 u144 u145 u146 u147 u148 u149 u150 u151 u152 u153 u154 u155 u156 u157 u158 u159 u160 u161 u162 u163 u164 u165 u166 u167 u168 u169 u170 u171 u172 u173 u174 u175 u176 u177 u178 u179 u180 u181 u182 u183 u184 u185 u186 u187 u188 u189 u190 u191 u192 u193 u194 u195 u196 u197 u198 u199 u200 u201 u202 u203 u204 u205 u206 u207 u208 u209 u210 u211 u212 u213 u214 u215 u216 u217 u218 u219 u220 u221 u222 u223 u224 u225 u226 u227 u228 u229 u230 u231 u232 u233 u234 u235 u236 u237 u238 u239 u240 u241 u242 u243 u244 u245 u246 u247 u248 u249 u250 u251 u252 u253 u254 u255 u256 u257 u258 u259 u260 u261 u262 u263 u264 u265 u266 u267 u268 u269 u270 u271 u272 u273 u274 u275 u276 u277 u278 u279 u280 : Value} (hn : n7 ≤ 30) (ha : ∀ j, j < n7 → (al j).size ≤ maxLen) (HW : Hid (Below w.heap.size w W)) (HC : Hid (W.heap[w.heap.size]? = some (.cells #[.slice D.sa D.ns D.sc, .slice D.za D.nz D.zc, .slice D.la D.nl D.lc] 26)))
    (R3 : Hid (P1 W a3 D.ns (fun j => .string (D.ss j).nm))) (R4 : Hid (P1 W a4 (D.nz + D.nl) (fun j => .string (nms D j)))) (R7 : Hid (∀ j, j < n7 → W.cell? ⟨b7, o7 + j, none⟩ = some (.string (al j))))
    (HN : Hid ((∀ j, j < n7 → nameB (al j) = true) → CD8 D w V)) (HV : Hid (¬ (∀ j, j < n7 → nameB (al j) = true) → V = 5)) :
    Code.wp Tryz.prog (ctl 7 (Tryz.f6.body.getD .skip)) (bodyPost Tryz.prog Tryz.f6 fun e w' => e = .returned (.int .i64 V) ∧ Below w.heap.size w w') ⟨#[u0, .pointer (some ⟨w.heap.size, 0, none⟩), u2, .slice a3 D.ns q3, .slice a4 (D.nz + D.nl) q4, u5, u6, .slice (some ⟨b7, o7, none⟩) n7 q7, u8, u9, u10, u11, u12, u13, u14, u15, u16, u17, u18, u19, u20, u21, u22, u23, u24, u25, u26, u27, u28, u29, u30, u31, u32, u33, u34, u35, u36, u37, u38, u39, u40, u41, u42, u43, u44, u45, u46, u47, u48, u49, u50, u51, u52, u53, u54, u55, u56, u57, u58, u59, u60, u61, u62, u63, u64, u65, u66, u67, u68, u69, u70, u71, u72, u73, u74, u75, u76, u77, u78, u79, u80, u81, u82, u83, u84, u85, u86, u87, u88, u89, u90, u91, u92, u93, u94, u95, u96, u97, u98, u99, u100, u101, u102, u103, u104, u105, u106, u107, u108, u109, u110, u111, u112, u113, u114, u115, u116, u117, u118, u119, u120, u121, u122, u123, u124, u125, u126, u127, u128, u129, u130, u131, u132, u133, u134, u135, u136, u137, u138, u139, u140, u141, u142, u143, u144, u145, u146, u147, u148, u149, u150, u151, u152, u153, u154, u155, u156, u157, u158, u159, u160, u161, u162, u163, u164, u165, u166, u167, u168, u169, u170, u171, u172, u173, u174, u175, u176, u177, u178, u179, u180, u181, u182, u183, u184, u185, u186, u187, u188, u189, u190, u191, u192, u193, u194, u195, u196, u197, u198, u199, u200, u201, u202, u203, u204, u205, u206, u207, u208, u209, u210, u211, u212, u213, u214, u215, u216, u217, u218, u219, u220, u221, u222, u223, u224, u225, u226, u227, u228, u229, u230, u231, u232, u233, u234, u235, u236, u237, u238, u239, u240, u241, u242, u243, u244, u245, u246, u247, u248, u249, u250, u251, u252, u253, u254, u255, u256, u257, u258, u259, u260, u261, u262, u263, u264, u265, u266, u267, u268, u269, u270, u271, u272, u273, u274, u275, u276, u277, u278, u279, u280], []⟩ W := by
  have HA := hideH ha
  clear ha
  conv => arg 2; whnf
  go_wp2_with fail
  go_loop [9] (fun x9 => ∃ k : Nat, k ≤ n7 ∧ x9 = .int .i64 k ∧ Hid (∀ j, j < k → nameB (al j) = true)) (fun x9 => n7 - (intOf x9).toNat)
  case atStart => exact ⟨0, Nat.zero_le _, rfl, fun j hj => by omega⟩
  case round =>
    obtain ⟨k, hk, rfl, HB⟩ := hrel
    by_cases hlt : k < n7
    · have d0 := R7.out k hlt
      have hk0 : decide ((k : Int) < 0) = false := by simp
      have hkn : decide (n7 ≤ k) = false := by simp; omega
      have HNm := hideH (RIsName_c (al k) W (HA.out k hlt))
      cases hq : nameB (al k)
      · rw [hq] at HNm
        have HX : Hid (V = 5) := HV.out (fun h => by have := h k hlt; rw [hq] at this; cases this)
        clear hq
        go_wp2_with fail
        refine HNm.out.mono ?_
        rintro e w2 ⟨rfl, rfl⟩
        go_wp2_with fail
        go_ret
        exact ⟨ret_int HX.out.symm, HW.out⟩
      · rw [hq] at HNm
        have HB2 : Hid (∀ j, j < k + 1 → nameB (al j) = true) := fun j hj => by
          rcases Nat.lt_or_ge j k with h | h
          · exact HB.out j h
          · obtain rfl : j = k := by omega
            exact hq
        clear hq
        go_wp2_with fail
        refine HNm.out.mono ?_
        rintro e w2 ⟨rfl, rfl⟩
        go_wp2_with fail
        go_round
        case rel => exact ⟨k + 1, by omega, by go_num, HB2⟩
        case measure => simp [intOf]; omega
    · have H8 := hideH (HN.out (fun j hj => HB.out j (by omega)))
      rename ∀ (a : Act) (w : World), _ → _ => hcont
      have HCONT := hideH hcont
      clear hcont
      go_wp2_with fail
      refine HCONT.out _ _ ?_
      exact H8.out W a3 a4 q3 q4 _ _ _ _ _ _ _ _ _ _ _ _ _ _ _ _ _ _ _ _ _ _ _ _ _ _ _ _ _ _ _ _ _ _ _ _ _ _ _ _ _ _ _ _ _ _ _ _ _ _ _ _ _ _ _ _ _ _ _ _ _ _ _ _ _ _ _ _ _ _ _ _ _ _ _ _ _ _ _ _ _ _ _ _ _ _ _ _ _ _ _ _ _ _ _ _ _ _ _ _ _ _ _ _ _ _ _ _ _ _ _ _ _ _ _ _ _ _ _ _ _ _ _ _ _ _ _ _ _ _ _ _ _ _ _ _ _ _ _ _ _ _ _ _ _ _ _ _ _ _ _ _ _ _ _ _ _ _ _ _ _ _ _ _ _ _ _ _ _ _ _ _ _ _ _ _ _ _ _ _ _ _ _ _ _ _ _ _ _ _ _ _ _ _ _ _ _ _ _ _ _ _ _ _ _ _ _ _ _ _ _ _ _ _ _ _ _ _ _ _ _ _ _ _ _ _ _ _ _ _ _ _ _ _ _ _ _ _ _ _ _ _ _ _ _ _ _ _ _ _ _ _ _ _ _ _ _ _ _ _ _ _ _ _ _ _ _ _ _ _ _ _ _ _ _ _ _ _ HW HC R3 R4
end Go.Proofs.YtbpdbggojgijiaaGreatDoor

/- The document's own CheckData: the names of links. -/
namespace Go.Proofs.YtbpdbggojgijiaaGreatDoor
open Go Go.RowKit Go.Maps
set_option linter.unusedVariables false

/-- all names, in the order in which the document's own answer gathers them -/
def alN (D : Dt) (j : Nat) : ByteArray := if j < D.ns then (D.ss j).nm else if j < D.ns + D.nz then (D.zs (j - D.ns)).nm else if (j - (D.ns + D.nz)) % 2 = 0 then (D.ls ((j - (D.ns + D.nz)) / 2)).nm else (D.ls ((j - (D.ns + D.nz)) / 2)).tgt
theorem alN_nm (D : Dt) (k : Nat) : alN D (D.ns + D.nz + 2 * k) = (D.ls k).nm := by
  unfold alN
  rw [if_neg (by omega), if_neg (by omega), if_pos (by omega), show (D.ns + D.nz + 2 * k - (D.ns + D.nz)) / 2 = k by omega]
theorem alN_to (D : Dt) (k : Nat) : alN D (D.ns + D.nz + 2 * k + 1) = (D.ls k).tgt := by
  unfold alN
  rw [if_neg (by omega), if_neg (by omega), if_neg (by omega), show (D.ns + D.nz + 2 * k + 1 - (D.ns + D.nz)) / 2 = k by omega]
theorem nms_link (D : Dt) (k : Nat) : nms D (D.nz + k) = (D.ls k).nm := by
  unfold nms
  rw [if_neg (by omega), show D.nz + k - D.nz = k by omega]
set_option maxRecDepth 1000000 in
/-- what is left behind the names of links -/
def CD7 (D : Dt) (w : World) (V : Int) : Prop := ∀ (W : World) (a3 a4 : Option Addr) (q3 q4 q7 b7 : Nat) (u0 u2 u5 u6 u8 u9 u10 u11 u12 u13 u14 u15 u16 u17 u18 u19 u20 u21 u22 u23 u24 u25 u26 u27 u28 u29 u30 u31 u32 u33 u34 u35 u36 u37 u38 u39 u40 u41 u42 u43 u44 u45 u46 u47 u48 u49 u50 u51 u52 u53 u54 u55 u56 u57 u58 u59 u60 u61 u62 u63 u64 u65 u66 u67 u68 u69 u70 u71 u72 u73 u74 u75 u76 u77 u78 u79 u80 u81 u82 u83 u84 u85 u86 u87 u88 u89 u90 u91 u92 u93 u94 u95 u96 u97 u98 u99 u100 u101 u102 u103 u104 u105 u106 u107 u108 u109 u110 u111 u112 u113 u114 u115 u116 u117 u118 u119 u120 u121 u122 u123 u124 u125 u126 u127 u128 u129 u130 u131 u132 u133 u134 u135 u136 u137 u138 u139 u140 u141 u142 u143 u144 u145 u146 u147 u148 u149 u150 u151 u152 u153 u154 u155 u156 u157 u158 u159 u160 u161 u162 u163 u164 u165 u166 u167 u168 u169 u170 u171 u172 u173 u174 u175 u176 u177 u178 u179 u180 u181 u182 u183 u184 u185 u186 u187 u188 u189 u190 u191 u192 u193 u194 u195 u196 u197 u198 u199 u200 u201 u202 u203 u204 u205 u206 u207 u208 u209 u210 u211 u212 u213 u214 u215 u216 u217 u218 u219 u220 u221 u222 u223 u224 u225 u226 u227 u228 u229 u230 u231 u232 u233 u234 u235 u236 u237 u238 u239 u240 u241 u242 u243 u244 u245 u246 u247 u248 u249 u250 u251 u252 u253 u254 u255 u256 u257 u258 u259 u260 u261 u262 u263 u264 u265 u266 u267 u268 u269 u270 u271 u272 u273 u274 u275 u276 u277 u278 u279 u280 : Value), Hid (Below w.heap.size w W) → Hid (W.heap[w.heap.size]? = some (.cells #[.slice D.sa D.ns D.sc, .slice D.za D.nz D.zc, .slice D.la D.nl D.lc] 26)) → Hid (P1 W a3 D.ns (fun j => .string (D.ss j).nm)) → Hid (P1 W a4 (D.nz + D.nl) (fun j => .string (nms D j))) → Hid (∀ j, j < D.ns + D.nz + 2 * D.nl → W.cell? ⟨b7, 0 + j, none⟩ = some (.string (alN D j))) → Code.wp Tryz.prog (ctl 7 (Tryz.f6.body.getD .skip)) (bodyPost Tryz.prog Tryz.f6 fun e w' => e = .returned (.int .i64 V) ∧ Below w.heap.size w w') ⟨#[u0, .pointer (some ⟨w.heap.size, 0, none⟩), u2, .slice a3 D.ns q3, .slice a4 (D.nz + D.nl) q4, u5, u6, .slice (some ⟨b7, 0, none⟩) (D.ns + D.nz + 2 * D.nl) q7, u8, u9, u10, u11, u12, u13, u14, u15, u16, u17, u18, u19, u20, u21, u22, u23, u24, u25, u26, u27, u28, u29, u30, u31, u32, u33, u34, u35, u36, u37, u38, u39, u40, u41, u42, u43, u44, u45, u46, u47, u48, u49, u50, u51, u52, u53, u54, u55, u56, u57, u58, u59, u60, u61, u62, u63, u64, u65, u66, u67, u68, u69, u70, u71, u72, u73, u74, u75, u76, u77, u78, u79, u80, u81, u82, u83, u84, u85, u86, u87, u88, u89, u90, u91, u92, u93, u94, u95, u96, u97, u98, u99, u100, u101, u102, u103, u104, u105, u106, u107, u108, u109, u110, u111, u112, u113, u114, u115, u116, u117, u118, u119, u120, u121, u122, u123, u124, u125, u126, u127, u128, u129, u130, u131, u132, u133, u134, u135, u136, u137, u138, u139, u140, u141, u142, u143, u144, u145, u146, u147, u148, u149, u150, u151, u152, u153, u154, u155, u156, u157, u158, u159, u160, u161, u162, u163, u164, u165, u166, u167, u168, u169, u170, u171, u172, u173, u174, u175, u176, u177, u178, u179, u180, u181, u182, u183, u184, u185, u186, u187, u188, u189, u190, u191, u192, u193, u194, u195, u196, u197, u198, u199, u200, u201, u202, u203, u204, u205, u206, u207, u208, u209, u210, u211, u212, u213, u214, u215, u216, u217, u218, u219, u220, u221, u222, u223, u224, u225, u226, u227, u228, u229, u230, u231, u232, u233, u234, u235, u236, u237, u238, u239, u240, u241, u242, u243, u244, u245, u246, u247, u248, u249, u250, u251, u252, u253, u254, u255, u256, u257, u258, u259, u260, u261, u262, u263, u264, u265, u266, u267, u268, u269, u270, u271, u272, u273, u274, u275, u276, u277, u278, u279, u280], []⟩ W
set_option maxRecDepth 1000000 in
set_option maxHeartbeats 4000000 in
theorem cd6 {D : Dt} {w W : World} {V : Int} {v3 v4 : Value} {g7 q7 : Nat} {u0 u2 u5 u6 u8 u9 u10 u11 u12 u13 u14 u15 u16 u17 u18 u19 u20 u21 u22 u23 u24 u25 u26 u27 u28 u29 u30 u31 u32 u33 u34 u35 u36 u37 u38 u39 u40 u41 u42 u43 u44 u45 u46 u47 u48 u49 u50 u51 u52 u53 u54 u55 u56 u57 u58 u59 u60 u61 u62 u63 u64 u65 u66 u67 u68 u69 u70 u71 u72 u73 u74 u75 u76 u77 u78 u79 u80 u81 u82 u83 u84 u85 u86 u87 u88 u89 u90 u91 u92 u93 u94 u95 u96 u97 u98 u99 u100 u101 u102 u103 u104 u105 u106 u107 u108 u109 u110 u111 u112 u113 u114 u115 u116 u117 u118 u119 u120 u121 u122 u123 u124 u125 u126 u127 u128 u129 u130 u131 u132 u133 u134 u135 u136 u137 u138 u139 u140 u141 u142 u143 u144 u145 u146 u147 u148 u149 u150 u151 u152 u153 u154 u155 u156 u157 u158 u159 u160 u161 u162 u163 u164 u165 u166 u167 u168 u169 u170 u171 u172 u173 u174 u175 u176 u177 u178 u179 u180 u181 u182 u183 u184 u185 u186 u187 u188 u189 u190 u191 u192 u193 u194 u195 u196 u197 u198 u199 u200 u201 u202 u203 u204 u205 u206 u207 u208 u209 u210 u211 u212 u213 u214 u215 u216 u217 u218 u219 u220 u221 u222 u223 u224 u225 u226 u227 u228 u229 u230 u231 u232 u233 u234 u235 u236 u237 u238 u239 u240 u241 u242 u243 u244 u245 u246 u247 u248 u249 u250 u251 u252 u253 u254 u255 u256 u257 u258 u259 u260 u261 u262 u263 u264 u265 u266 u267 u268 u269 u270 u271 u272 u273 u274 u275 u276 u277 u278 u279 u280 : Value} (h3 : D.ns ≤ 3) (h5 : D.nz ≤ 5) (h4 : D.nl ≤ 4) (HD : Hid (DAt w D)) (HW : Hid (Below w.heap.size w W)) (HC : Hid (W.heap[w.heap.size]? = some (.cells #[.slice D.sa D.ns D.sc, .slice D.za D.nz D.zc, .slice D.la D.nl D.lc] 26)))
    (O3 : Hid (W.ownsRow (w.heap.size + 1) 9 1 (v3) D.ns ((List.range (D.ns)).map fun j => .string ((D.ss j).nm)))) (O4 : Hid (W.ownsRow (w.heap.size + 1) 9 1 (v4) D.nz ((List.range (D.nz)).map fun j => .string (nms D j)))) (O7 : Hid (W.ownsRow (w.heap.size + 1) 9 1 (.slice (some ⟨g7, 0, none⟩) (D.ns + D.nz) q7) (D.ns + D.nz) ((List.range (D.ns + D.nz)).map fun j => .string (alN D j))))
    (A34 : Hid (ap v3 v4)) (A37 : Hid (ap v3 (.slice (some ⟨g7, 0, none⟩) (D.ns + D.nz) q7))) (A47 : Hid (ap v4 (.slice (some ⟨g7, 0, none⟩) (D.ns + D.nz) q7))) (H7 : Hid (CD7 D w V)) :
    Code.wp Tryz.prog (ctl 6 (Tryz.f6.body.getD .skip)) (bodyPost Tryz.prog Tryz.f6 fun e w' => e = .returned (.int .i64 V) ∧ Below w.heap.size w w') ⟨#[u0, .pointer (some ⟨w.heap.size, 0, none⟩), u2, v3, v4, u5, u6, .slice (some ⟨g7, 0, none⟩) (D.ns + D.nz) q7, u8, u9, u10, u11, u12, u13, u14, u15, u16, u17, u18, u19, u20, u21, u22, u23, u24, u25, u26, u27, u28, u29, u30, u31, u32, u33, u34, u35, u36, u37, u38, u39, u40, u41, u42, u43, u44, u45, u46, u47, u48, u49, u50, u51, u52, u53, u54, u55, u56, u57, u58, u59, u60, u61, u62, u63, u64, u65, u66, u67, u68, u69, u70, u71, u72, u73, u74, u75, u76, u77, u78, u79, u80, u81, u82, u83, u84, u85, u86, u87, u88, u89, u90, u91, u92, u93, u94, u95, u96, u97, u98, u99, u100, u101, u102, u103, u104, u105, u106, u107, u108, u109, u110, u111, u112, u113, u114, u115, u116, u117, u118, u119, u120, u121, u122, u123, u124, u125, u126, u127, u128, u129, u130, u131, u132, u133, u134, u135, u136, u137, u138, u139, u140, u141, u142, u143, u144, u145, u146, u147, u148, u149, u150, u151, u152, u153, u154, u155, u156, u157, u158, u159, u160, u161, u162, u163, u164, u165, u166, u167, u168, u169, u170, u171, u172, u173, u174, u175, u176, u177, u178, u179, u180, u181, u182, u183, u184, u185, u186, u187, u188, u189, u190, u191, u192, u193, u194, u195, u196, u197, u198, u199, u200, u201, u202, u203, u204, u205, u206, u207, u208, u209, u210, u211, u212, u213, u214, u215, u216, u217, u218, u219, u220, u221, u222, u223, u224, u225, u226, u227, u228, u229, u230, u231, u232, u233, u234, u235, u236, u237, u238, u239, u240, u241, u242, u243, u244, u245, u246, u247, u248, u249, u250, u251, u252, u253, u254, u255, u256, u257, u258, u259, u260, u261, u262, u263, u264, u265, u266, u267, u268, u269, u270, u271, u272, u273, u274, u275, u276, u277, u278, u279, u280], []⟩ W := by
  obtain ⟨i0, hi, hz0, hz1, hz2⟩ := info_parts info_str
  conv => arg 2; whnf
  go_wp2_with fail
  go_loopw [4, 7, 8] (fun x4 x7 x8 v => ∃ k : Nat, k ≤ D.nl ∧ x8 = .int .i64 k ∧ (∃ g q, x7 = .slice (some ⟨g, 0, none⟩) (D.ns + D.nz + 2 * k) q) ∧ Hid (v.ownsRow (w.heap.size + 1) 9 1 (v3) D.ns ((List.range (D.ns)).map fun j => .string ((D.ss j).nm))) ∧ Hid (v.ownsRow (w.heap.size + 1) 9 1 (x4) (D.nz + k) ((List.range (D.nz + k)).map fun j => .string (nms D j))) ∧ Hid (v.ownsRow (w.heap.size + 1) 9 1 (x7) (D.ns + D.nz + 2 * k) ((List.range (D.ns + D.nz + 2 * k)).map fun j => .string (alN D j))) ∧ Hid (ap v3 x4) ∧ Hid (ap v3 x7) ∧ Hid (ap x4 x7) ∧ Hid (Below w.heap.size w v) ∧ Hid (v.heap[w.heap.size]? = some (.cells #[.slice D.sa D.ns D.sc, .slice D.za D.nz D.zc, .slice D.la D.nl D.lc] 26))) (fun _ _ x8 _ => D.nl - (intOf x8).toNat)
  case atStart => exact ⟨0, Nat.zero_le _, rfl, ⟨g7, q7, rfl⟩, O3, O4, O7, A34, A37, A47, HW, HC⟩
  case round =>
    obtain ⟨k, hk, rfl, ⟨g, q, rfl⟩, Q3, Q4, Q7, B34, B37, B47, HW2, HC2⟩ := hrel
    obtain ⟨c0, c1, c2⟩ := cells3 HC2.out
    by_cases hlt : k < D.nl
    · rcases HD.out.links with h0 | ⟨b, off, hsa, hcs⟩
      · omega
      obtain ⟨d0, d1⟩ := hcs k hlt
      have hk0 : decide ((k : Int) < 0) = false := by simp
      have hkn : decide (D.nl ≤ k) = false := by simp; omega
      have hki : (k : Int) < (D.nl : Int) := by omega
      have c3 : wr.cell? ⟨w.heap.size, 2, none⟩ = some (.slice (some ⟨b, off, none⟩) D.nl D.lc) := by rw [← hsa]; exact c2
      have e0 := cell_on d0 HW2.out
      have hsz : w.heap.size < wr.heap.size := (Array.getElem?_eq_some_iff.1 HC2.out).1
      clear hcs c0 c1 c2
      have D0 := hideH d0
      have D1 := hideH d1
      have HSA := hideH hsa
      clear d0 d1 hsa
      go_wp2_with (at_builtin; refine wpList_append_lies _ rfl _ _ 57 rfl (w.heap.size + 1) 9 i0 (.string ⟨#[]⟩) 1 16 Tryz.underlying57 hi hz0 hz1 hz2 rfl (by decide) _ _ _ rfl (Q4.out.alloc _) ⟨wr.heap.size, 0, none⟩ 1 1 [.string (D.ls k).nm] rfl rfl (cell_one_new _ _ _) (by simp [Value.oneCell']) (by decide) (by unfold maxLen; omega) (by omega) (by simp; omega) _ rfl ?_; intro g4 q4 w1 hown hgrow hat hl1; refine Hid.out ?_)
      refine hideH ?_
      have H1 := hideH (below_grown (HW2.out.alloc (by omega) _) (Q4.out.alloc _) hgrow)
      have C1 := hideH (box_grown (base := 0) (box_alloc HC2.out _) (Q4.out.alloc _) hgrow)
      have S3 := hideH (own_far (Q3.out.alloc _) hgrow B34.out)
      have S7 := hideH (own_far (Q7.out.alloc _) hgrow (ap_symm B47.out))
      have S4 : Hid (w1.ownsRow (w.heap.size + 1) 9 1 (.slice (some ⟨g4, 0, none⟩) (D.nz + k + 1) q4) (D.nz + k + 1) ((List.range (D.nz + k + 1)).map fun j => .string (nms D j))) := by
        have h := hown
        rw [row_one (D.nz + k) (fun j => Value.string (nms D j)) (show Value.string (D.ls k).nm = _ by rw [nms_link])] at h
        exact h
      have E34 : Hid (ap v3 (.slice (some ⟨g4, 0, none⟩) (D.nz + k + 1) q4)) := ap_new (Q3.out.alloc (.cells #[.string (D.ls k).nm] 9)) B34.out hat (by simp)
      have E74 : Hid (ap (.slice (some ⟨g, 0, none⟩) (D.ns + D.nz + 2 * k) q) (.slice (some ⟨g4, 0, none⟩) (D.nz + k + 1) q4)) := ap_new (Q7.out.alloc (.cells #[.string (D.ls k).nm] 9)) (ap_symm B47.out) hat (by simp)
      clear hown hgrow hat c3 e0 Q3 Q4 Q7 B34 B47 HW2 HC2
      obtain ⟨x0, x1, x2⟩ := cells3 C1.out
      have c3 : w1.cell? ⟨w.heap.size, 2, none⟩ = some (.slice (some ⟨b, off, none⟩) D.nl D.lc) := by rw [← HSA.out]; exact x2
      have e0 := cell_on D0.out H1.out
      have e1 := cell_on D1.out H1.out
      have hb := hideH ((Below.refl _ w1).alloc (Nat.le_refl _) (.cells #[.string (D.ls k).nm, .string (D.ls k).tgt] 9))
      have hsz1 : w.heap.size < w1.heap.size := (Array.getElem?_eq_some_iff.1 C1.out).1
      clear x0 x1 x2
      go_wp2_with fail
      have hnew : Hid ((w1.alloc (.cells #[.string (D.ls k).nm, .string (D.ls k).tgt] 9)).heap[w1.heap.size]? = some (.cells #[.string (D.ls k).nm, .string (D.ls k).tgt] 9)) := heap_alloc_new w1 _
      go_region_held_law (fun v => v.cell? ⟨w.heap.size, 2, none⟩ = some (.slice (some ⟨b, off, none⟩) D.nl D.lc) ∧ v.cell? ⟨b, off + k * 2, none⟩ = some (.string (D.ls k).nm) ∧ v.cell? ⟨b, off + k * 2 + 1, none⟩ = some (.string (D.ls k).tgt))
        (first | (exact ⟨c3, e0, e1⟩) | (exact ⟨cell_on c3 hb.out.drew, cell_on e0 hb.out.drew, cell_on e1 hb.out.drew⟩) | (exact ⟨by rw [← HSA.out]; exact (cells3 C2.out).2.2, cell_on D0.out H2.out, cell_on D1.out H2.out⟩))
        (first | (refine step_append_lies _ rfl _ _ 57 rfl (w.heap.size + 1) 9 i0 (.string ⟨#[]⟩) 1 16 Tryz.underlying57 hi hz0 hz1 hz2 rfl (by decide) _ _ _ rfl (own_on S7.out hb.out.drew) ⟨w1.heap.size, 0, none⟩ 2 2 [.string (D.ls k).nm, .string (D.ls k).tgt] rfl rfl (World.news_of_block (w := (w1.alloc _).drew) hnew.out) (by simp [Value.oneCell']) (by decide) (by unfold maxLen; omega) (by omega) (by simp; omega) _ rfl ?_; intro g8 q8 w2 hown2 hgrow2 hat2 hl2; have H2 := hideH (below_grown (bthen H1.out hb.out.drew) (own_on S7.out hb.out.drew) hgrow2); have C2 := hideH (box_grown (base := 0) (heap_on C1.out hb.out.drew) (own_on S7.out hb.out.drew) hgrow2)))
      all_goals
        have U3 := hideH (own_far (own_on S3.out hb.out.drew) hgrow2 B37.out)
        have U4 := hideH (own_far (own_on S4.out hb.out.drew) hgrow2 (ap_symm E74.out))
        have U7 := hideH hown2
        have G37 : Hid (ap v3 (.slice (some ⟨g8, 0, none⟩) (D.ns + D.nz + 2 * k + 2) q8)) := ap_new (own_on S3.out hb.out.drew) B37.out hat2 (Nat.le_refl _)
        have G47 : Hid (ap (.slice (some ⟨g4, 0, none⟩) (D.nz + k + 1) q4) (.slice (some ⟨g8, 0, none⟩) (D.ns + D.nz + 2 * k + 2) q8)) := ap_new (own_on S4.out hb.out.drew) (ap_symm E74.out) hat2 (Nat.le_refl _)
        clear hown2 hgrow2 hat2
        go_wp2_with fail
        go_roundw
        case rel =>
          refine ⟨k + 1, by omega, by go_num, ⟨g8, q8, rfl⟩, U3, U4, ?_, E34, G37, G47, H2, C2⟩
          show World.ownsRow _ _ _ _ _ _ _
          have h := U7.out
          rw [row_two (D.ns + D.nz + 2 * k) (fun j => Value.string (alN D j)) (show Value.string (D.ls k).nm = _ by rw [alN_nm]) (show Value.string (D.ls k).tgt = _ by rw [alN_to])] at h
          exact h
        case measure => simp [intOf]; omega
    · obtain rfl : k = D.nl := by omega
      obtain ⟨a3, q3, rfl, _, P3⟩ := own_p1 Q3.out
      obtain ⟨a4, q4, rfl, _, P4⟩ := own_p1 Q4.out
      have HP3 := hideH P3
      have HP4 := hideH P4
      have R7 : Hid (∀ j, j < D.ns + D.nz + 2 * D.nl → wr.cell? ⟨g, 0 + j, none⟩ = some (.string (alN D j))) := by
        obtain ⟨a, c, e, _, h⟩ := own_p1 Q7.out
        obtain ⟨rfl, _, rfl⟩ := Value.slice.inj e
        rcases h with h | ⟨b, off, h1, h2⟩
        · intro j hj; omega
        · obtain ⟨rfl, rfl⟩ : g = b ∧ 0 = off := by simpa using h1
          exact h2
      clear P3 P4
      rename ∀ (a : Act) (w : World), _ → _ => hcont
      have HCONT := hideH hcont
      clear hcont
      go_wp2_with fail
      refine HCONT.out _ _ ?_
      exact H7.out wr a3 a4 q3 q4 q g _ _ _ _ _ _ _ _ _ _ _ _ _ _ _ _ _ _ _ _ _ _ _ _ _ _ _ _ _ _ _ _ _ _ _ _ _ _ _ _ _ _ _ _ _ _ _ _ _ _ _ _ _ _ _ _ _ _ _ _ _ _ _ _ _ _ _ _ _ _ _ _ _ _ _ _ _ _ _ _ _ _ _ _ _ _ _ _ _ _ _ _ _ _ _ _ _ _ _ _ _ _ _ _ _ _ _ _ _ _ _ _ _ _ _ _ _ _ _ _ _ _ _ _ _ _ _ _ _ _ _ _ _ _ _ _ _ _ _ _ _ _ _ _ _ _ _ _ _ _ _ _ _ _ _ _ _ _ _ _ _ _ _ _ _ _ _ _ _ _ _ _ _ _ _ _ _ _ _ _ _ _ _ _ _ _ _ _ _ _ _ _ _ _ _ _ _ _ _ _ _ _ _ _ _ _ _ _ _ _ _ _ _ _ _ _ _ _ _ _ _ _ _ _ _ _ _ _ _ _ _ _ _ _ _ _ _ _ _ _ _ _ _ _ _ _ _ _ _ _ _ _ _ _ _ _ _ _ _ _ _ _ _ _ _ _ _ _ _ _ _ _ _ _ _ _ _ HW2 HC2 HP3 HP4 R7
end Go.Proofs.YtbpdbggojgijiaaGreatDoor

/- The document's own CheckData: all names but those of links, in a row of its own. -/
namespace Go.Proofs.YtbpdbggojgijiaaGreatDoor
open Go Go.RowKit Go.Maps
set_option linter.unusedVariables false

theorem alN_set {D : Dt} {j : Nat} (h : j < D.ns) : alN D j = (D.ss j).nm := by unfold alN; rw [if_pos h]
theorem alN_zone {D : Dt} {j : Nat} (h : j < D.nz) : alN D (D.ns + j) = nms D j := by
  unfold alN nms
  rw [if_neg (by omega), if_pos (by omega), if_pos h, show D.ns + j - D.ns = j by omega]
theorem row_cat (D : Dt) : ((List.range D.ns).map fun j => Value.string (D.ss j).nm) ++ ((List.range D.nz).map fun j => Value.string (nms D j)) = (List.range (D.ns + D.nz)).map fun j => Value.string (alN D j) := by
  rw [List.range_add, List.map_append, List.map_map]
  congr 1
  · exact List.map_congr_left fun j hj => by rw [alN_set (List.mem_range.1 hj)]
  · exact List.map_congr_left fun j hj => by show _ = Value.string (alN D (D.ns + j)); rw [alN_zone (List.mem_range.1 hj)]
theorem own_pos {w : World} {base n : Nat} {e : TypeId} {v : Value} {f : Nat → Value} (h : w.ownsRow base e 1 v n ((List.range n).map f)) (hn : 0 < n) : ∃ g c, v = .slice (some ⟨g, 0, none⟩) n c ∧ ∀ j u, ((List.range n).map f)[j]? = some u → w.cell? ((⟨g, 0, none⟩ : Addr).add j) = some u := by
  obtain ⟨g, c, rfl, _, _⟩ := h.form hn
  exact ⟨g, c, rfl, h.cells (g := g) rfl⟩
/-- a row, maybe a nil one, is appended -/
theorem wpList_append_row {P : Program} {w : World} {ops : Array Oper} {rest : List Oper} {o : Oper} {a : Act} {Q : Exit → Act → World → Prop} (hgd : o.guard = none) (s x : Operand) (t : TypeId)
    (ho : o.op = .call { callee := .builtin .append, args := #[s, x], argTypes := #[t, t] })
    (base base' : Nat) (e : TypeId) (i : TypeInfo) (z : Value) (bytes : Nat) (ht : P.underlying t = some (.slice e)) (hi : P.info? e = some i) (hz : i.zero = some z)
    (hsize : i.size = 1) (hby : i.bytes = bytes) (hzs : z.cells.size = 1)
    (g0 cap0 n : Nat) (xs : List Value) (hs : a.eval s = .slice (some ⟨g0, 0, none⟩) n cap0) (hown : w.ownsRow base e 1 (.slice (some ⟨g0, 0, none⟩) n cap0) n xs)
    (u : Value) (m : Nat) (ys : List Value) (hx : a.eval x = u) (hu : w.ownsRow base' e 1 u m ys) (hu0 : m = 0 → u = .slice none 0 0) (h1 : ∀ u ∈ ys, u.oneCell' = true)
    (h63 : n + m ≤ maxLen) (hbytes : (n + m) * bytes ≤ 140737488355328) (hbase : base ≤ w.heap.size)
    (h : ∀ g cap w', w'.ownsRow base e 1 (.slice (some ⟨g, 0, none⟩) (n + m) cap) (n + m) (xs ++ ys) → w.grownBy w' (some g0) → (g0 = g ∨ g = w.heap.size) → wpList P ops Q rest (a.put o.dst (.slice (some ⟨g, 0, none⟩) (n + m) cap)) w') : wpList P ops Q (o :: rest) a w := by
  rcases Nat.eq_zero_or_pos m with hm | hm
  · have hy : ys = [] := List.eq_nil_of_length_eq_zero (by have := hu.1; rw [hm] at this; simpa using this)
    subst hm hy
    refine wpList_append_own_none hgd s x t ho base e i 1 ht hi _ n xs hs hown (hx.trans (hu0 rfl)) ?_
    exact h g0 cap0 w (by simpa using hown) ⟨rfl, rfl, rfl, Nat.le_refl _, fun _ _ _ => rfl⟩ (.inl rfl)
  · obtain ⟨gu, cu, rfl, _, _⟩ := hu.form hm
    refine wpList_append_lies _ hgd s x t ho base e i z 1 bytes ht hi hz hsize hby hzs (by decide) _ n xs hs hown ⟨gu, 0, none⟩ m cu ys hx (by simpa using hu.1) (hu.cells (g := gu) rfl) h1 hm h63 hbytes hbase _ rfl ?_
    intro g cap w' h2 h3 h4 _
    exact h g cap w' h2 h3 (by simpa [Value.ownBlock] using h4)
theorem one_str {α : Type} (l : List α) (f : α → ByteArray) : ∀ u ∈ l.map (fun j => Value.string (f j)), u.oneCell' = true := by
  intro u hu
  obtain ⟨j, _, rfl⟩ := List.mem_map.1 hu
  rfl
theorem ap_hi {w : World} {base n size g m cap : Nat} {e : TypeId} {u : Value} {xs : List Value} (h : w.ownsRow base e size u n xs) (hg : w.heap.size ≤ g) : ap u (.slice (some ⟨g, 0, none⟩) m cap) := by
  intro k hk hx
  obtain rfl : g = k := by simpa [Value.ownBlock] using hx
  have := own_lt h hk; omega
set_option maxRecDepth 1000000 in
def CD6 (D : Dt) (w : World) (V : Int) : Prop := ∀ (W : World) (v3 v4 : Value) (g7 q7 : Nat) (u0 u2 u5 u6 u8 u9 u10 u11 u12 u13 u14 u15 u16 u17 u18 u19 u20 u21 u22 u23 u24 u25 u26 u27 u28 u29 u30 u31 u32 u33 u34 u35 u36 u37 u38 u39 u40 u41 u42 u43 u44 u45 u46 u47 u48 u49 u50 u51 u52 u53 u54 u55 u56 u57 u58 u59 u60 u61 u62 u63 u64 u65 u66 u67 u68 u69 u70 u71 u72 u73 u74 u75 u76 u77 u78 u79 u80 u81 u82 u83 u84 u85 u86 u87 u88 u89 u90 u91 u92 u93 u94 u95 u96 u97 u98 u99 u100 u101 u102 u103 u104 u105 u106 u107 u108 u109 u110 u111 u112 u113 u114 u115 u116 u117 u118 u119 u120 u121 u122 u123 u124 u125 u126 u127 u128 u129 u130 u131 u132 u133 u134 u135 u136 u137 u138 u139 u140 u141 u142 u143 u144 u145 u146 u147 u148 u149 u150 u151 u152 u153 u154 u155 u156 u157 u158 u159 u160 u161 u162 u163 u164 u165 u166 u167 u168 u169 u170 u171 u172 u173 u174 u175 u176 u177 u178 u179 u180 u181 u182 u183 u184 u185 u186 u187 u188 u189 u190 u191 u192 u193 u194 u195 u196 u197 u198 u199 u200 u201 u202 u203 u204 u205 u206 u207 u208 u209 u210 u211 u212 u213 u214 u215 u216 u217 u218 u219 u220 u221 u222 u223 u224 u225 u226 u227 u228 u229 u230 u231 u232 u233 u234 u235 u236 u237 u238 u239 u240 u241 u242 u243 u244 u245 u246 u247 u248 u249 u250 u251 u252 u253 u254 u255 u256 u257 u258 u259 u260 u261 u262 u263 u264 u265 u266 u267 u268 u269 u270 u271 u272 u273 u274 u275 u276 u277 u278 u279 u280 : Value), Hid (Below w.heap.size w W) → Hid (W.heap[w.heap.size]? = some (.cells #[.slice D.sa D.ns D.sc, .slice D.za D.nz D.zc, .slice D.la D.nl D.lc] 26)) → Hid (W.ownsRow (w.heap.size + 1) 9 1 (v3) D.ns ((List.range (D.ns)).map fun j => .string ((D.ss j).nm))) → Hid (W.ownsRow (w.heap.size + 1) 9 1 (v4) D.nz ((List.range (D.nz)).map fun j => .string (nms D j))) → Hid (W.ownsRow (w.heap.size + 1) 9 1 (.slice (some ⟨g7, 0, none⟩) (D.ns + D.nz) q7) (D.ns + D.nz) ((List.range (D.ns + D.nz)).map fun j => .string (alN D j))) → Hid (ap v3 v4) → Hid (ap v3 (.slice (some ⟨g7, 0, none⟩) (D.ns + D.nz) q7)) → Hid (ap v4 (.slice (some ⟨g7, 0, none⟩) (D.ns + D.nz) q7)) → Code.wp Tryz.prog (ctl 6 (Tryz.f6.body.getD .skip)) (bodyPost Tryz.prog Tryz.f6 fun e w' => e = .returned (.int .i64 V) ∧ Below w.heap.size w w') ⟨#[u0, .pointer (some ⟨w.heap.size, 0, none⟩), u2, v3, v4, u5, u6, .slice (some ⟨g7, 0, none⟩) (D.ns + D.nz) q7, u8, u9, u10, u11, u12, u13, u14, u15, u16, u17, u18, u19, u20, u21, u22, u23, u24, u25, u26, u27, u28, u29, u30, u31, u32, u33, u34, u35, u36, u37, u38, u39, u40, u41, u42, u43, u44, u45, u46, u47, u48, u49, u50, u51, u52, u53, u54, u55, u56, u57, u58, u59, u60, u61, u62, u63, u64, u65, u66, u67, u68, u69, u70, u71, u72, u73, u74, u75, u76, u77, u78, u79, u80, u81, u82, u83, u84, u85, u86, u87, u88, u89, u90, u91, u92, u93, u94, u95, u96, u97, u98, u99, u100, u101, u102, u103, u104, u105, u106, u107, u108, u109, u110, u111, u112, u113, u114, u115, u116, u117, u118, u119, u120, u121, u122, u123, u124, u125, u126, u127, u128, u129, u130, u131, u132, u133, u134, u135, u136, u137, u138, u139, u140, u141, u142, u143, u144, u145, u146, u147, u148, u149, u150, u151, u152, u153, u154, u155, u156, u157, u158, u159, u160, u161, u162, u163, u164, u165, u166, u167, u168, u169, u170, u171, u172, u173, u174, u175, u176, u177, u178, u179, u180, u181, u182, u183, u184, u185, u186, u187, u188, u189, u190, u191, u192, u193, u194, u195, u196, u197, u198, u199, u200, u201, u202, u203, u204, u205, u206, u207, u208, u209, u210, u211, u212, u213, u214, u215, u216, u217, u218, u219, u220, u221, u222, u223, u224, u225, u226, u227, u228, u229, u230, u231, u232, u233, u234, u235, u236, u237, u238, u239, u240, u241, u242, u243, u244, u245, u246, u247, u248, u249, u250, u251, u252, u253, u254, u255, u256, u257, u258, u259, u260, u261, u262, u263, u264, u265, u266, u267, u268, u269, u270, u271, u272, u273, u274, u275, u276, u277, u278, u279, u280], []⟩ W
set_option maxRecDepth 1000000 in
set_option maxHeartbeats 4000000 in
theorem cd5 {D : Dt} {w W : World} {V : Int} {v3 v4 : Value} {u0 u2 u5 u6 u7 u8 u9 u10 u11 u12 u13 u14 u15 u16 u17 u18 u19 u20 u21 u22 u23 u24 u25 u26 u27 u28 u29 u30 u31 u32 u33 u34 u35 u36 u37 u38 u39 u40 u41 u42 u43 u44 u45 u46 u47 u48 u49 u50 u51 u52 u53 u54 u55 u56 u57 u58 u59 u60 u61 u62 u63 u64 u65 u66 u67 u68 u69 u70 u71 u72 u73 u74 u75 u76 u77 u78 u79 u80 u81 u82 u83 u84 u85 u86 u87 u88 u89 u90 u91 u92 u93 u94 u95 u96 u97 u98 u99 u100 u101 u102 u103 u104 u105 u106 u107 u108 u109 u110 u111 u112 u113 u114 u115 u116 u117 u118 u119 u120 u121 u122 u123 u124 u125 u126 u127 u128 u129 u130 u131 u132 u133 u134 u135 u136 u137 u138 u139 u140 u141 u142 u143 u144 u145 u146 u147 u148 u149 u150 u151 u152 u153 u154 u155 u156 u157 u158 u159 u160 u161 u162 u163 u164 u165 u166 u167 u168 u169 u170 u171 u172 u173 u174 u175 u176 u177 u178 u179 u180 u181 u182 u183 u184 u185 u186 u187 u188 u189 u190 u191 u192 u193 u194 u195 u196 u197 u198 u199 u200 u201 u202 u203 u204 u205 u206 u207 u208 u209 u210 u211 u212 u213 u214 u215 u216 u217 u218 u219 u220 u221 u222 u223 u224 u225 u226 u227 u228 u229 u230 u231 u232 u233 u234 u235 u236 u237 u238 u239 u240 u241 u242 u243 u244 u245 u246 u247 u248 u249 u250 u251 u252 u253 u254 u255 u256 u257 u258 u259 u260 u261 u262 u263 u264 u265 u266 u267 u268 u269 u270 u271 u272 u273 u274 u275 u276 u277 u278 u279 u280 : Value} (h3 : D.ns ≤ 3) (h5 : D.nz ≤ 5) (HW : Hid (Below w.heap.size w W)) (HC : Hid (W.heap[w.heap.size]? = some (.cells #[.slice D.sa D.ns D.sc, .slice D.za D.nz D.zc, .slice D.la D.nl D.lc] 26)))
    (O3 : Hid (W.ownsRow (w.heap.size + 1) 9 1 (v3) D.ns ((List.range (D.ns)).map fun j => .string ((D.ss j).nm)))) (O4 : Hid (W.ownsRow (w.heap.size + 1) 9 1 (v4) D.nz ((List.range (D.nz)).map fun j => .string (nms D j)))) (Z3 : Hid (D.ns = 0 → v3 = .slice none 0 0)) (Z4 : Hid (D.nz = 0 → v4 = .slice none 0 0)) (A34 : Hid (ap v3 v4)) (H6 : Hid (CD6 D w V)) :
    Code.wp Tryz.prog (ctl 5 (Tryz.f6.body.getD .skip)) (bodyPost Tryz.prog Tryz.f6 fun e w' => e = .returned (.int .i64 V) ∧ Below w.heap.size w w') ⟨#[u0, .pointer (some ⟨w.heap.size, 0, none⟩), u2, v3, v4, u5, u6, u7, u8, u9, u10, u11, u12, u13, u14, u15, u16, u17, u18, u19, u20, u21, u22, u23, u24, u25, u26, u27, u28, u29, u30, u31, u32, u33, u34, u35, u36, u37, u38, u39, u40, u41, u42, u43, u44, u45, u46, u47, u48, u49, u50, u51, u52, u53, u54, u55, u56, u57, u58, u59, u60, u61, u62, u63, u64, u65, u66, u67, u68, u69, u70, u71, u72, u73, u74, u75, u76, u77, u78, u79, u80, u81, u82, u83, u84, u85, u86, u87, u88, u89, u90, u91, u92, u93, u94, u95, u96, u97, u98, u99, u100, u101, u102, u103, u104, u105, u106, u107, u108, u109, u110, u111, u112, u113, u114, u115, u116, u117, u118, u119, u120, u121, u122, u123, u124, u125, u126, u127, u128, u129, u130, u131, u132, u133, u134, u135, u136, u137, u138, u139, u140, u141, u142, u143, u144, u145, u146, u147, u148, u149, u150, u151, u152, u153, u154, u155, u156, u157, u158, u159, u160, u161, u162, u163, u164, u165, u166, u167, u168, u169, u170, u171, u172, u173, u174, u175, u176, u177, u178, u179, u180, u181, u182, u183, u184, u185, u186, u187, u188, u189, u190, u191, u192, u193, u194, u195, u196, u197, u198, u199, u200, u201, u202, u203, u204, u205, u206, u207, u208, u209, u210, u211, u212, u213, u214, u215, u216, u217, u218, u219, u220, u221, u222, u223, u224, u225, u226, u227, u228, u229, u230, u231, u232, u233, u234, u235, u236, u237, u238, u239, u240, u241, u242, u243, u244, u245, u246, u247, u248, u249, u250, u251, u252, u253, u254, u255, u256, u257, u258, u259, u260, u261, u262, u263, u264, u265, u266, u267, u268, u269, u270, u271, u272, u273, u274, u275, u276, u277, u278, u279, u280], []⟩ W := by
  obtain ⟨i0, hi, hz0, hz1, hz2⟩ := info_parts info_str
  conv => arg 2; whnf
  have hsz : w.heap.size < W.heap.size := (Array.getElem?_eq_some_iff.1 HC.out).1
  have OB : Hid ((W.alloc (.cells #[] 9)).ownsRow (w.heap.size + 1) 9 1 (.slice (some ⟨W.heap.size, 0, none⟩) 0 0) 0 []) := ⟨rfl, .inr ⟨W.heap.size, 0, #[], rfl, hsz, heap_alloc_new W _, Nat.le_refl _, Nat.zero_le _, rfl, rfl⟩⟩
  have hB1 := hideH ((Below.refl _ W).alloc (Nat.le_refl _) (.cells #[] 9))
  have H1 := hideH (bthen HW.out hB1.out)
  have C1 := hideH (heap_on HC.out hB1.out)
  have S3 := hideH (own_on O3.out hB1.out)
  have S4 := hideH (own_on O4.out hB1.out)
  go_wp2_with (at_builtin; refine wpList_append_row rfl _ _ 57 rfl (w.heap.size + 1) (w.heap.size + 1) 9 i0 (.string ⟨#[]⟩) 16 Tryz.underlying57 hi hz0 hz1 hz2 rfl _ _ _ [] rfl OB.out v3 D.ns _ rfl S3.out Z3.out (one_str _ _) (by unfold maxLen; omega) (by omega) (by simp; omega) ?_; intro g5 q5 w2 hown2 hgrow2 hat2; refine Hid.out ?_)
  refine hideH ?_
  have hg5 : W.heap.size ≤ g5 := by
    rcases hat2 with h | h
    · omega
    · simp at h; omega
  have H2 := hideH (below_grown H1.out OB.out hgrow2)
  have C2 := hideH (box_grown (base := 0) C1.out OB.out hgrow2)
  have T3 := hideH (own_far (v := .slice (some ⟨W.heap.size, 0, none⟩) 0 0) S3.out hgrow2 (ap_hi O3.out (Nat.le_refl _)))
  have T4 := hideH (own_far (v := .slice (some ⟨W.heap.size, 0, none⟩) 0 0) S4.out hgrow2 (ap_hi O4.out (Nat.le_refl _)))
  have hz2' : W.heap.size < w2.heap.size := by have := hgrow2.size; simp at this; omega
  have O5 : Hid (w2.ownsRow (w.heap.size + 1) 9 1 (.slice (some ⟨g5, 0, none⟩) D.ns q5) D.ns ((List.range D.ns).map fun j => .string (D.ss j).nm)) := by
    have h := hown2
    simp only [Nat.zero_add, List.nil_append] at h
    exact h
  clear hown2 hgrow2 hat2 S3 S4 H1 C1 OB hB1
  go_wp2_with (at_builtin; refine wpList_append_row rfl _ _ 57 rfl (w.heap.size + 1) (w.heap.size + 1) 9 i0 (.string ⟨#[]⟩) 16 Tryz.underlying57 hi hz0 hz1 hz2 rfl _ _ _ _ rfl O5.out v4 D.nz _ rfl T4.out Z4.out (one_str _ _) (by unfold maxLen; omega) (by omega) (by omega) ?_; intro g7 q7 w3 hown3 hgrow3 hat3; refine Hid.out ?_)
  refine hideH ?_
  have hg7 : W.heap.size ≤ g7 := by rcases hat3 with h | h <;> omega
  have H3 := hideH (below_grown H2.out O5.out hgrow3)
  have C3 := hideH (box_grown (base := 0) C2.out O5.out hgrow3)
  have U3 := hideH (own_far (v := .slice (some ⟨g5, 0, none⟩) D.ns q5) T3.out hgrow3 (ap_hi O3.out hg5))
  have U4 := hideH (own_far (v := .slice (some ⟨g5, 0, none⟩) D.ns q5) T4.out hgrow3 (ap_hi O4.out hg5))
  have O7 : Hid (w3.ownsRow (w.heap.size + 1) 9 1 (.slice (some ⟨g7, 0, none⟩) (D.ns + D.nz) q7) (D.ns + D.nz) ((List.range (D.ns + D.nz)).map fun j => .string (alN D j))) := by
    have h := hown3
    rw [row_cat] at h
    exact h
  have A37 : Hid (ap v3 (.slice (some ⟨g7, 0, none⟩) (D.ns + D.nz) q7)) := ap_hi O3.out hg7
  have A47 : Hid (ap v4 (.slice (some ⟨g7, 0, none⟩) (D.ns + D.nz) q7)) := ap_hi O4.out hg7
  clear hown3 hgrow3 hat3
  rename ∀ (a : Act) (w : World), _ → _ => hcont
  have HCONT := hideH hcont
  clear hcont
  go_wp2_with fail
  refine HCONT.out _ _ ?_
  exact H6.out w3 v3 v4 g7 q7 _ _ _ _ _ _ _ _ _ _ _ _ _ _ _ _ _ _ _ _ _ _ _ _ _ _ _ _ _ _ _ _ _ _ _ _ _ _ _ _ _ _ _ _ _ _ _ _ _ _ _ _ _ _ _ _ _ _ _ _ _ _ _ _ _ _ _ _ _ _ _ _ _ _ _ _ _ _ _ _ _ _ _ _ _ _ _ _ _ _ _ _ _ _ _ _ _ _ _ _ _ _ _ _ _ _ _ _ _ _ _ _ _ _ _ _ _ _ _ _ _ _ _ _ _ _ _ _ _ _ _ _ _ _ _ _ _ _ _ _ _ _ _ _ _ _ _ _ _ _ _ _ _ _ _ _ _ _ _ _ _ _ _ _ _ _ _ _ _ _ _ _ _ _ _ _ _ _ _ _ _ _ _ _ _ _ _ _ _ _ _ _ _ _ _ _ _ _ _ _ _ _ _ _ _ _ _ _ _ _ _ _ _ _ _ _ _ _ _ _ _ _ _ _ _ _ _ _ _ _ _ _ _ _ _ _ _ _ _ _ _ _ _ _ _ _ _ _ _ _ _ _ _ _ _ _ _ _ _ _ _ _ _ _ _ _ _ _ _ _ _ _ _ _ _ _ _ H3 C3 U3 U4 O7 A34 A37 A47
end Go.Proofs.YtbpdbggojgijiaaGreatDoor

/- The document's own CheckData: zones, and how many eras each has. -/
namespace Go.Proofs.YtbpdbggojgijiaaGreatDoor
open Go Go.RowKit Go.Maps
set_option linter.unusedVariables false

set_option maxRecDepth 1000000 in
def CD5 (D : Dt) (w : World) (V : Int) : Prop := ∀ (W : World) (v3 v4 : Value) (u0 u2 u5 u6 u7 u8 u9 u10 u11 u12 u13 u14 u15 u16 u17 u18 u19 u20 u21 u22 u23 u24 u25 u26 u27 u28 u29 u30 u31 u32 u33 u34 u35 u36 u37 u38 u39 u40 u41 u42 u43 u44 u45 u46 u47 u48 u49 u50 u51 u52 u53 u54 u55 u56 u57 u58 u59 u60 u61 u62 u63 u64 u65 u66 u67 u68 u69 u70 u71 u72 u73 u74 u75 u76 u77 u78 u79 u80 u81 u82 u83 u84 u85 u86 u87 u88 u89 u90 u91 u92 u93 u94 u95 u96 u97 u98 u99 u100 u101 u102 u103 u104 u105 u106 u107 u108 u109 u110 u111 u112 u113 u114 u115 u116 u117 u118 u119 u120 u121 u122 u123 u124 u125 u126 u127 u128 u129 u130 u131 u132 u133 u134 u135 u136 u137 u138 u139 u140 u141 u142 u143 u144 u145 u146 u147 u148 u149 u150 u151 u152 u153 u154 u155 u156 u157 u158 u159 u160 u161 u162 u163 u164 u165 u166 u167 u168 u169 u170 u171 u172 u173 u174 u175 u176 u177 u178 u179 u180 u181 u182 u183 u184 u185 u186 u187 u188 u189 u190 u191 u192 u193 u194 u195 u196 u197 u198 u199 u200 u201 u202 u203 u204 u205 u206 u207 u208 u209 u210 u211 u212 u213 u214 u215 u216 u217 u218 u219 u220 u221 u222 u223 u224 u225 u226 u227 u228 u229 u230 u231 u232 u233 u234 u235 u236 u237 u238 u239 u240 u241 u242 u243 u244 u245 u246 u247 u248 u249 u250 u251 u252 u253 u254 u255 u256 u257 u258 u259 u260 u261 u262 u263 u264 u265 u266 u267 u268 u269 u270 u271 u272 u273 u274 u275 u276 u277 u278 u279 u280 : Value), Hid (Below w.heap.size w W) → Hid (W.heap[w.heap.size]? = some (.cells #[.slice D.sa D.ns D.sc, .slice D.za D.nz D.zc, .slice D.la D.nl D.lc] 26)) → Hid (W.ownsRow (w.heap.size + 1) 9 1 (v3) D.ns ((List.range (D.ns)).map fun j => .string ((D.ss j).nm))) → Hid (W.ownsRow (w.heap.size + 1) 9 1 (v4) D.nz ((List.range (D.nz)).map fun j => .string (nms D j))) → Hid (D.ns = 0 → v3 = .slice none 0 0) → Hid (D.nz = 0 → v4 = .slice none 0 0) → Hid (ap v3 v4) → Code.wp Tryz.prog (ctl 5 (Tryz.f6.body.getD .skip)) (bodyPost Tryz.prog Tryz.f6 fun e w' => e = .returned (.int .i64 V) ∧ Below w.heap.size w w') ⟨#[u0, .pointer (some ⟨w.heap.size, 0, none⟩), u2, v3, v4, u5, u6, u7, u8, u9, u10, u11, u12, u13, u14, u15, u16, u17, u18, u19, u20, u21, u22, u23, u24, u25, u26, u27, u28, u29, u30, u31, u32, u33, u34, u35, u36, u37, u38, u39, u40, u41, u42, u43, u44, u45, u46, u47, u48, u49, u50, u51, u52, u53, u54, u55, u56, u57, u58, u59, u60, u61, u62, u63, u64, u65, u66, u67, u68, u69, u70, u71, u72, u73, u74, u75, u76, u77, u78, u79, u80, u81, u82, u83, u84, u85, u86, u87, u88, u89, u90, u91, u92, u93, u94, u95, u96, u97, u98, u99, u100, u101, u102, u103, u104, u105, u106, u107, u108, u109, u110, u111, u112, u113, u114, u115, u116, u117, u118, u119, u120, u121, u122, u123, u124, u125, u126, u127, u128, u129, u130, u131, u132, u133, u134, u135, u136, u137, u138, u139, u140, u141, u142, u143, u144, u145, u146, u147, u148, u149, u150, u151, u152, u153, u154, u155, u156, u157, u158, u159, u160, u161, u162, u163, u164, u165, u166, u167, u168, u169, u170, u171, u172, u173, u174, u175, u176, u177, u178, u179, u180, u181, u182, u183, u184, u185, u186, u187, u188, u189, u190, u191, u192, u193, u194, u195, u196, u197, u198, u199, u200, u201, u202, u203, u204, u205, u206, u207, u208, u209, u210, u211, u212, u213, u214, u215, u216, u217, u218, u219, u220, u221, u222, u223, u224, u225, u226, u227, u228, u229, u230, u231, u232, u233, u234, u235, u236, u237, u238, u239, u240, u241, u242, u243, u244, u245, u246, u247, u248, u249, u250, u251, u252, u253, u254, u255, u256, u257, u258, u259, u260, u261, u262, u263, u264, u265, u266, u267, u268, u269, u270, u271, u272, u273, u274, u275, u276, u277, u278, u279, u280], []⟩ W
set_option maxRecDepth 1000000 in
set_option maxHeartbeats 4000000 in
theorem cd4 {D : Dt} {w W : World} {V : Int} {v3 : Value} {u0 u2 u5 u6 u7 u8 u9 u10 u11 u12 u13 u14 u15 u16 u17 u18 u19 u20 u21 u22 u23 u24 u25 u26 u27 u28 u29 u30 u31 u32 u33 u34 u35 u36 u37 u38 u39 u40 u41 u42 u43 u44 u45 u46 u47 u48 u49 u50 u51 u52 u53 u54 u55 u56 u57 u58 u59 u60 u61 u62 u63 u64 u65 u66 u67 u68 u69 u70 u71 u72 u73 u74 u75 u76 u77 u78 u79 u80 u81 u82 u83 u84 u85 u86 u87 u88 u89 u90 u91 u92 u93 u94 u95 u96 u97 u98 u99 u100 u101 u102 u103 u104 u105 u106 u107 u108 u109 u110 u111 u112 u113 u114 u115 u116 u117 u118 u119 u120 u121 u122 u123 u124 u125 u126 u127 u128 u129 u130 u131 u132 u133 u134 u135 u136 u137 u138 u139 u140 u141 u142 u143 u144 u145 u146 u147 u148 u149 u150 u151 u152 u153 u154 u155 u156 u157 u158 u159 u160 u161 u162 u163 u164 u165 u166 u167 u168 u169 u170 u171 u172 u173 u174 u175 u176 u177 u178 u179 u180 u181 u182 u183 u184 u185 u186 u187 u188 u189 u190 u191 u192 u193 u194 u195 u196 u197 u198 u199 u200 u201 u202 u203 u204 u205 u206 u207 u208 u209 u210 u211 u212 u213 u214 u215 u216 u217 u218 u219 u220 u221 u222 u223 u224 u225 u226 u227 u228 u229 u230 u231 u232 u233 u234 u235 u236 u237 u238 u239 u240 u241 u242 u243 u244 u245 u246 u247 u248 u249 u250 u251 u252 u253 u254 u255 u256 u257 u258 u259 u260 u261 u262 u263 u264 u265 u266 u267 u268 u269 u270 u271 u272 u273 u274 u275 u276 u277 u278 u279 u280 : Value} (hn : D.nz ≤ 5) (HD : Hid (DAt w D)) (HW : Hid (Below w.heap.size w W)) (HC : Hid (W.heap[w.heap.size]? = some (.cells #[.slice D.sa D.ns D.sc, .slice D.za D.nz D.zc, .slice D.la D.nl D.lc] 26))) (O3 : Hid (W.ownsRow (w.heap.size + 1) 9 1 (v3) D.ns ((List.range (D.ns)).map fun j => .string ((D.ss j).nm)))) (Z3 : Hid (D.ns = 0 → v3 = .slice none 0 0)) 
    (H5 : Hid ((∀ j, j < D.nz → 1 ≤ (D.zs j).n ∧ (D.zs j).n ≤ 4) → CD5 D w V)) (HV : Hid (¬ (∀ j, j < D.nz → 1 ≤ (D.zs j).n ∧ (D.zs j).n ≤ 4) → V = 2)) :
    Code.wp Tryz.prog (ctl 4 (Tryz.f6.body.getD .skip)) (bodyPost Tryz.prog Tryz.f6 fun e w' => e = .returned (.int .i64 V) ∧ Below w.heap.size w w') ⟨#[u0, .pointer (some ⟨w.heap.size, 0, none⟩), u2, v3, .slice none 0 0, u5, u6, u7, u8, u9, u10, u11, u12, u13, u14, u15, u16, u17, u18, u19, u20, u21, u22, u23, u24, u25, u26, u27, u28, u29, u30, u31, u32, u33, u34, u35, u36, u37, u38, u39, u40, u41, u42, u43, u44, u45, u46, u47, u48, u49, u50, u51, u52, u53, u54, u55, u56, u57, u58, u59, u60, u61, u62, u63, u64, u65, u66, u67, u68, u69, u70, u71, u72, u73, u74, u75, u76, u77, u78, u79, u80, u81, u82, u83, u84, u85, u86, u87, u88, u89, u90, u91, u92, u93, u94, u95, u96, u97, u98, u99, u100, u101, u102, u103, u104, u105, u106, u107, u108, u109, u110, u111, u112, u113, u114, u115, u116, u117, u118, u119, u120, u121, u122, u123, u124, u125, u126, u127, u128, u129, u130, u131, u132, u133, u134, u135, u136, u137, u138, u139, u140, u141, u142, u143, u144, u145, u146, u147, u148, u149, u150, u151, u152, u153, u154, u155, u156, u157, u158, u159, u160, u161, u162, u163, u164, u165, u166, u167, u168, u169, u170, u171, u172, u173, u174, u175, u176, u177, u178, u179, u180, u181, u182, u183, u184, u185, u186, u187, u188, u189, u190, u191, u192, u193, u194, u195, u196, u197, u198, u199, u200, u201, u202, u203, u204, u205, u206, u207, u208, u209, u210, u211, u212, u213, u214, u215, u216, u217, u218, u219, u220, u221, u222, u223, u224, u225, u226, u227, u228, u229, u230, u231, u232, u233, u234, u235, u236, u237, u238, u239, u240, u241, u242, u243, u244, u245, u246, u247, u248, u249, u250, u251, u252, u253, u254, u255, u256, u257, u258, u259, u260, u261, u262, u263, u264, u265, u266, u267, u268, u269, u270, u271, u272, u273, u274, u275, u276, u277, u278, u279, u280], []⟩ W := by
  obtain ⟨i0, hi, hz0, hz1, hz2⟩ := info_parts info_str
  conv => arg 2; whnf
  go_wp2_with fail
  go_loopw [4, 6] (fun x4 x6 v => ∃ k : Nat, k ≤ D.nz ∧ x6 = .int .i64 k ∧ Hid (k = 0 → x4 = .slice none 0 0) ∧ Hid (v.ownsRow (w.heap.size + 1) 9 1 (x4) k ((List.range (k)).map fun j => .string (nms D j))) ∧ Hid (v.ownsRow (w.heap.size + 1) 9 1 (v3) D.ns ((List.range (D.ns)).map fun j => .string ((D.ss j).nm))) ∧ Hid (ap v3 x4) ∧ Hid (Below w.heap.size w v) ∧ Hid (v.heap[w.heap.size]? = some (.cells #[.slice D.sa D.ns D.sc, .slice D.za D.nz D.zc, .slice D.la D.nl D.lc] 26)) ∧ Hid (∀ j, j < k → 1 ≤ (D.zs j).n ∧ (D.zs j).n ≤ 4)) (fun _ x6 _ => D.nz - (intOf x6).toNat)
  case atStart => exact ⟨0, Nat.zero_le _, rfl, fun _ => rfl, World.ownsRow_nil _ _ _ _, O3, ap_nil _, HW, HC, fun j hj => by omega⟩
  case round =>
    obtain ⟨k, hk, rfl, HZ, Q4, Q3, B3, HW2, HC2, HA⟩ := hrel
    obtain ⟨c0, c1, c2⟩ := cells3 HC2.out
    by_cases hlt : k < D.nz
    · rcases HD.out.zones with h0 | ⟨b, off, hsa, hcs⟩
      · omega
      obtain ⟨d0, d1⟩ := hcs k hlt
      have hk0 : decide ((k : Int) < 0) = false := by simp
      have hkn : decide (D.nz ≤ k) = false := by simp; omega
      have hki : (k : Int) < (D.nz : Int) := by omega
      have c3 : wr.cell? ⟨w.heap.size, 1, none⟩ = some (.slice (some ⟨b, off, none⟩) D.nz D.zc) := by rw [← hsa]; exact c1
      have e0 := cell_on d0 HW2.out
      have hsz : w.heap.size < wr.heap.size := (Array.getElem?_eq_some_iff.1 HC2.out).1
      clear hcs c0 c1 c2
      have D1 := hideH d1
      have HSA := hideH hsa
      clear d0 d1 hsa
      go_wp2_with (at_builtin; refine wpList_append_lies _ rfl _ _ 57 rfl (w.heap.size + 1) 9 i0 (.string ⟨#[]⟩) 1 16 Tryz.underlying57 hi hz0 hz1 hz2 rfl (by decide) _ _ _ rfl (Q4.out.alloc _) ⟨wr.heap.size, 0, none⟩ 1 1 [.string (D.zs k).nm] rfl rfl (cell_one_new _ _ _) (by simp [Value.oneCell']) (by decide) (by unfold maxLen; omega) (by omega) (by simp; omega) _ rfl ?_; intro g4 q4 w1 hown hgrow hat hl1; refine Hid.out ?_)
      refine hideH ?_
      have H1 := hideH (below_grown (HW2.out.alloc (by omega) _) (Q4.out.alloc _) hgrow)
      have C1 := hideH (box_grown (base := 0) (box_alloc HC2.out _) (Q4.out.alloc _) hgrow)
      have S4 : Hid (w1.ownsRow (w.heap.size + 1) 9 1 (.slice (some ⟨g4, 0, none⟩) (k + 1) q4) (k + 1) ((List.range (k + 1)).map fun j => .string (nms D j))) := by
        have h := hown
        rw [row_one k (fun j => Value.string (nms D j)) (show Value.string (D.zs k).nm = _ by unfold nms; rw [if_pos hlt])] at h
        exact h
      have S3 := hideH (own_far (Q3.out.alloc _) hgrow B3.out)
      have E3 : Hid (ap v3 (.slice (some ⟨g4, 0, none⟩) (k + 1) q4)) := ap_new (Q3.out.alloc (.cells #[.string (D.zs k).nm] 9)) B3.out hat (by simp)
      clear hown hgrow hat c3 e0 Q4 Q3 B3 HW2 HC2
      obtain ⟨x0, x1, x2⟩ := cells3 C1.out
      have c3 : w1.cell? ⟨w.heap.size, 1, none⟩ = some (.slice (some ⟨b, off, none⟩) D.nz D.zc) := by rw [← HSA.out]; exact x1
      have e1 := cell_on D1.out H1.out
      clear x0 x1 x2
      by_cases hq : 1 ≤ (D.zs k).n ∧ (D.zs k).n ≤ 4
      · have hin : inB ((D.zs k).n : Int) 1 4 = true := in_mk (by omega)
        have HA2 : Hid (∀ j, j < k + 1 → 1 ≤ (D.zs j).n ∧ (D.zs j).n ≤ 4) := fun j hj => by
          rcases Nat.lt_or_ge j k with h | h
          · exact HA.out j h
          · obtain rfl : j = k := by omega
            exact hq
        clear hq
        go_wp2_with (first | (go_at_call 17; refine (within_c _ _ _ _).mono ?_; rintro e w2 ⟨rfl, rfl⟩))
        go_roundw
        case rel => exact ⟨k + 1, by omega, by go_num, fun h => by omega, S4, S3, E3, H1, C1, HA2⟩
        case measure => simp [intOf]; omega
      · have hin : inB ((D.zs k).n : Int) 1 4 = false := in_not (by omega)
        have HX : Hid (V = 2) := HV.out (fun h => hq (h k hlt))
        clear hq
        go_wp2_with (first | (go_at_call 17; refine (within_c _ _ _ _).mono ?_; rintro e w2 ⟨rfl, rfl⟩))
        go_ret
        exact ⟨ret_int HX.out.symm, H1.out⟩
    · obtain rfl : k = D.nz := by omega
      have H5 := hideH (H5.out HA.out)
      rename ∀ (a : Act) (w : World), _ → _ => hcont
      have HCONT := hideH hcont
      clear hcont
      go_wp2_with fail
      refine HCONT.out _ _ ?_
      exact H5.out wr v3 _ _ _ _ _ _ _ _ _ _ _ _ _ _ _ _ _ _ _ _ _ _ _ _ _ _ _ _ _ _ _ _ _ _ _ _ _ _ _ _ _ _ _ _ _ _ _ _ _ _ _ _ _ _ _ _ _ _ _ _ _ _ _ _ _ _ _ _ _ _ _ _ _ _ _ _ _ _ _ _ _ _ _ _ _ _ _ _ _ _ _ _ _ _ _ _ _ _ _ _ _ _ _ _ _ _ _ _ _ _ _ _ _ _ _ _ _ _ _ _ _ _ _ _ _ _ _ _ _ _ _ _ _ _ _ _ _ _ _ _ _ _ _ _ _ _ _ _ _ _ _ _ _ _ _ _ _ _ _ _ _ _ _ _ _ _ _ _ _ _ _ _ _ _ _ _ _ _ _ _ _ _ _ _ _ _ _ _ _ _ _ _ _ _ _ _ _ _ _ _ _ _ _ _ _ _ _ _ _ _ _ _ _ _ _ _ _ _ _ _ _ _ _ _ _ _ _ _ _ _ _ _ _ _ _ _ _ _ _ _ _ _ _ _ _ _ _ _ _ _ _ _ _ _ _ _ _ _ _ _ _ _ _ _ _ _ _ _ _ _ _ _ _ _ _ _ _ _ _ HW2 HC2 Q3 Q4 Z3 HZ B3
end Go.Proofs.YtbpdbggojgijiaaGreatDoor

/- The document's own CheckData: sets, and how many rules each has. -/
namespace Go.Proofs.YtbpdbggojgijiaaGreatDoor
open Go Go.RowKit Go.Maps
set_option linter.unusedVariables false

set_option maxRecDepth 1000000 in
def CD4 (D : Dt) (w : World) (V : Int) : Prop := ∀ (W : World) (v3 : Value) (u0 u2 u5 u6 u7 u8 u9 u10 u11 u12 u13 u14 u15 u16 u17 u18 u19 u20 u21 u22 u23 u24 u25 u26 u27 u28 u29 u30 u31 u32 u33 u34 u35 u36 u37 u38 u39 u40 u41 u42 u43 u44 u45 u46 u47 u48 u49 u50 u51 u52 u53 u54 u55 u56 u57 u58 u59 u60 u61 u62 u63 u64 u65 u66 u67 u68 u69 u70 u71 u72 u73 u74 u75 u76 u77 u78 u79 u80 u81 u82 u83 u84 u85 u86 u87 u88 u89 u90 u91 u92 u93 u94 u95 u96 u97 u98 u99 u100 u101 u102 u103 u104 u105 u106 u107 u108 u109 u110 u111 u112 u113 u114 u115 u116 u117 u118 u119 u120 u121 u122 u123 u124 u125 u126 u127 u128 u129 u130 u131 u132 u133 u134 u135 u136 u137 u138 u139 u140 u141 u142 u143 u144 u145 u146 u147 u148 u149 u150 u151 u152 u153 u154 u155 u156 u157 u158 u159 u160 u161 u162 u163 u164 u165 u166 u167 u168 u169 u170 u171 u172 u173 u174 u175 u176 u177 u178 u179 u180 u181 u182 u183 u184 u185 u186 u187 u188 u189 u190 u191 u192 u193 u194 u195 u196 u197 u198 u199 u200 u201 u202 u203 u204 u205 u206 u207 u208 u209 u210 u211 u212 u213 u214 u215 u216 u217 u218 u219 u220 u221 u222 u223 u224 u225 u226 u227 u228 u229 u230 u231 u232 u233 u234 u235 u236 u237 u238 u239 u240 u241 u242 u243 u244 u245 u246 u247 u248 u249 u250 u251 u252 u253 u254 u255 u256 u257 u258 u259 u260 u261 u262 u263 u264 u265 u266 u267 u268 u269 u270 u271 u272 u273 u274 u275 u276 u277 u278 u279 u280 : Value), Hid (Below w.heap.size w W) → Hid (W.heap[w.heap.size]? = some (.cells #[.slice D.sa D.ns D.sc, .slice D.za D.nz D.zc, .slice D.la D.nl D.lc] 26)) → Hid (W.ownsRow (w.heap.size + 1) 9 1 (v3) D.ns ((List.range (D.ns)).map fun j => .string ((D.ss j).nm))) → Hid (D.ns = 0 → v3 = .slice none 0 0) → Code.wp Tryz.prog (ctl 4 (Tryz.f6.body.getD .skip)) (bodyPost Tryz.prog Tryz.f6 fun e w' => e = .returned (.int .i64 V) ∧ Below w.heap.size w w') ⟨#[u0, .pointer (some ⟨w.heap.size, 0, none⟩), u2, v3, .slice none 0 0, u5, u6, u7, u8, u9, u10, u11, u12, u13, u14, u15, u16, u17, u18, u19, u20, u21, u22, u23, u24, u25, u26, u27, u28, u29, u30, u31, u32, u33, u34, u35, u36, u37, u38, u39, u40, u41, u42, u43, u44, u45, u46, u47, u48, u49, u50, u51, u52, u53, u54, u55, u56, u57, u58, u59, u60, u61, u62, u63, u64, u65, u66, u67, u68, u69, u70, u71, u72, u73, u74, u75, u76, u77, u78, u79, u80, u81, u82, u83, u84, u85, u86, u87, u88, u89, u90, u91, u92, u93, u94, u95, u96, u97, u98, u99, u100, u101, u102, u103, u104, u105, u106, u107, u108, u109, u110, u111, u112, u113, u114, u115, u116, u117, u118, u119, u120, u121, u122, u123, u124, u125, u126, u127, u128, u129, u130, u131, u132, u133, u134, u135, u136, u137, u138, u139, u140, u141, u142, u143, u144, u145, u146, u147, u148, u149, u150, u151, u152, u153, u154, u155, u156, u157, u158, u159, u160, u161, u162, u163, u164, u165, u166, u167, u168, u169, u170, u171, u172, u173, u174, u175, u176, u177, u178, u179, u180, u181, u182, u183, u184, u185, u186, u187, u188, u189, u190, u191, u192, u193, u194, u195, u196, u197, u198, u199, u200, u201, u202, u203, u204, u205, u206, u207, u208, u209, u210, u211, u212, u213, u214, u215, u216, u217, u218, u219, u220, u221, u222, u223, u224, u225, u226, u227, u228, u229, u230, u231, u232, u233, u234, u235, u236, u237, u238, u239, u240, u241, u242, u243, u244, u245, u246, u247, u248, u249, u250, u251, u252, u253, u254, u255, u256, u257, u258, u259, u260, u261, u262, u263, u264, u265, u266, u267, u268, u269, u270, u271, u272, u273, u274, u275, u276, u277, u278, u279, u280], []⟩ W
set_option maxRecDepth 1000000 in
set_option maxHeartbeats 4000000 in
theorem cd3 {D : Dt} {w W : World} {V : Int} {u0 u2 u5 u6 u7 u8 u9 u10 u11 u12 u13 u14 u15 u16 u17 u18 u19 u20 u21 u22 u23 u24 u25 u26 u27 u28 u29 u30 u31 u32 u33 u34 u35 u36 u37 u38 u39 u40 u41 u42 u43 u44 u45 u46 u47 u48 u49 u50 u51 u52 u53 u54 u55 u56 u57 u58 u59 u60 u61 u62 u63 u64 u65 u66 u67 u68 u69 u70 u71 u72 u73 u74 u75 u76 u77 u78 u79 u80 u81 u82 u83 u84 u85 u86 u87 u88 u89 u90 u91 u92 u93 u94 u95 u96 u97 u98 u99 u100 u101 u102 u103 u104 u105 u106 u107 u108 u109 u110 u111 u112 u113 u114 u115 u116 u117 u118 u119 u120 u121 u122 u123 u124 u125 u126 u127 u128 u129 u130 u131 u132 u133 u134 u135 u136 u137 u138 u139 u140 u141 u142 u143 u144 u145 u146 u147 u148 u149 u150 u151 u152 u153 u154 u155 u156 u157 u158 u159 u160 u161 u162 u163 u164 u165 u166 u167 u168 u169 u170 u171 u172 u173 u174 u175 u176 u177 u178 u179 u180 u181 u182 u183 u184 u185 u186 u187 u188 u189 u190 u191 u192 u193 u194 u195 u196 u197 u198 u199 u200 u201 u202 u203 u204 u205 u206 u207 u208 u209 u210 u211 u212 u213 u214 u215 u216 u217 u218 u219 u220 u221 u222 u223 u224 u225 u226 u227 u228 u229 u230 u231 u232 u233 u234 u235 u236 u237 u238 u239 u240 u241 u242 u243 u244 u245 u246 u247 u248 u249 u250 u251 u252 u253 u254 u255 u256 u257 u258 u259 u260 u261 u262 u263 u264 u265 u266 u267 u268 u269 u270 u271 u272 u273 u274 u275 u276 u277 u278 u279 u280 : Value} (hn : D.ns ≤ 5) (HD : Hid (DAt w D)) (HW : Hid (Below w.heap.size w W)) (HC : Hid (W.heap[w.heap.size]? = some (.cells #[.slice D.sa D.ns D.sc, .slice D.za D.nz D.zc, .slice D.la D.nl D.lc] 26))) 
    (H4 : Hid ((∀ j, j < D.ns → 1 ≤ (D.ss j).n ∧ (D.ss j).n ≤ 4) → CD4 D w V)) (HV : Hid (¬ (∀ j, j < D.ns → 1 ≤ (D.ss j).n ∧ (D.ss j).n ≤ 4) → V = 2)) :
    Code.wp Tryz.prog (ctl 3 (Tryz.f6.body.getD .skip)) (bodyPost Tryz.prog Tryz.f6 fun e w' => e = .returned (.int .i64 V) ∧ Below w.heap.size w w') ⟨#[u0, .pointer (some ⟨w.heap.size, 0, none⟩), u2, .slice none 0 0, .slice none 0 0, u5, u6, u7, u8, u9, u10, u11, u12, u13, u14, u15, u16, u17, u18, u19, u20, u21, u22, u23, u24, u25, u26, u27, u28, u29, u30, u31, u32, u33, u34, u35, u36, u37, u38, u39, u40, u41, u42, u43, u44, u45, u46, u47, u48, u49, u50, u51, u52, u53, u54, u55, u56, u57, u58, u59, u60, u61, u62, u63, u64, u65, u66, u67, u68, u69, u70, u71, u72, u73, u74, u75, u76, u77, u78, u79, u80, u81, u82, u83, u84, u85, u86, u87, u88, u89, u90, u91, u92, u93, u94, u95, u96, u97, u98, u99, u100, u101, u102, u103, u104, u105, u106, u107, u108, u109, u110, u111, u112, u113, u114, u115, u116, u117, u118, u119, u120, u121, u122, u123, u124, u125, u126, u127, u128, u129, u130, u131, u132, u133, u134, u135, u136, u137, u138, u139, u140, u141, u142, u143, u144, u145, u146, u147, u148, u149, u150, u151, u152, u153, u154, u155, u156, u157, u158, u159, u160, u161, u162, u163, u164, u165, u166, u167, u168, u169, u170, u171, u172, u173, u174, u175, u176, u177, u178, u179, u180, u181, u182, u183, u184, u185, u186, u187, u188, u189, u190, u191, u192, u193, u194, u195, u196, u197, u198, u199, u200, u201, u202, u203, u204, u205, u206, u207, u208, u209, u210, u211, u212, u213, u214, u215, u216, u217, u218, u219, u220, u221, u222, u223, u224, u225, u226, u227, u228, u229, u230, u231, u232, u233, u234, u235, u236, u237, u238, u239, u240, u241, u242, u243, u244, u245, u246, u247, u248, u249, u250, u251, u252, u253, u254, u255, u256, u257, u258, u259, u260, u261, u262, u263, u264, u265, u266, u267, u268, u269, u270, u271, u272, u273, u274, u275, u276, u277, u278, u279, u280], []⟩ W := by
  obtain ⟨i0, hi, hz0, hz1, hz2⟩ := info_parts info_str
  conv => arg 2; whnf
  go_wp2_with fail
  go_loopw [3, 5] (fun x3 x5 v => ∃ k : Nat, k ≤ D.ns ∧ x5 = .int .i64 k ∧ Hid (k = 0 → x3 = .slice none 0 0) ∧ Hid (v.ownsRow (w.heap.size + 1) 9 1 (x3) k ((List.range (k)).map fun j => .string ((D.ss j).nm))) ∧ Hid (Below w.heap.size w v) ∧ Hid (v.heap[w.heap.size]? = some (.cells #[.slice D.sa D.ns D.sc, .slice D.za D.nz D.zc, .slice D.la D.nl D.lc] 26)) ∧ Hid (∀ j, j < k → 1 ≤ (D.ss j).n ∧ (D.ss j).n ≤ 4)) (fun _ x5 _ => D.ns - (intOf x5).toNat)
  case atStart => exact ⟨0, Nat.zero_le _, rfl, fun _ => rfl, World.ownsRow_nil _ _ _ _, HW, HC, fun j hj => by omega⟩
  case round =>
    obtain ⟨k, hk, rfl, HZ, Q4, HW2, HC2, HA⟩ := hrel
    obtain ⟨c0, c1, c2⟩ := cells3 HC2.out
    by_cases hlt : k < D.ns
    · rcases HD.out.sets with h0 | ⟨b, off, hsa, hcs⟩
      · omega
      obtain ⟨d0, d1⟩ := hcs k hlt
      have hk0 : decide ((k : Int) < 0) = false := by simp
      have hkn : decide (D.ns ≤ k) = false := by simp; omega
      have hki : (k : Int) < (D.ns : Int) := by omega
      have c3 : wr.cell? ⟨w.heap.size, 0, none⟩ = some (.slice (some ⟨b, off, none⟩) D.ns D.sc) := by rw [← hsa]; exact c0
      have e0 := cell_on d0 HW2.out
      have hsz : w.heap.size < wr.heap.size := (Array.getElem?_eq_some_iff.1 HC2.out).1
      clear hcs c0 c1 c2
      have D1 := hideH d1
      have HSA := hideH hsa
      clear d0 d1 hsa
      go_wp2_with (at_builtin; refine wpList_append_lies _ rfl _ _ 57 rfl (w.heap.size + 1) 9 i0 (.string ⟨#[]⟩) 1 16 Tryz.underlying57 hi hz0 hz1 hz2 rfl (by decide) _ _ _ rfl (Q4.out.alloc _) ⟨wr.heap.size, 0, none⟩ 1 1 [.string (D.ss k).nm] rfl rfl (cell_one_new _ _ _) (by simp [Value.oneCell']) (by decide) (by unfold maxLen; omega) (by omega) (by simp; omega) _ rfl ?_; intro g4 q4 w1 hown hgrow hat hl1; refine Hid.out ?_)
      refine hideH ?_
      have H1 := hideH (below_grown (HW2.out.alloc (by omega) _) (Q4.out.alloc _) hgrow)
      have C1 := hideH (box_grown (base := 0) (box_alloc HC2.out _) (Q4.out.alloc _) hgrow)
      have S4 : Hid (w1.ownsRow (w.heap.size + 1) 9 1 (.slice (some ⟨g4, 0, none⟩) (k + 1) q4) (k + 1) ((List.range (k + 1)).map fun j => .string ((D.ss j).nm))) := by
        have h := hown
        rw [row_one k (fun j => Value.string ((D.ss j).nm)) (show Value.string (D.ss k).nm = _ by rfl)] at h
        exact h
      clear hown hgrow hat c3 e0 Q4 HW2 HC2
      obtain ⟨x0, x1, x2⟩ := cells3 C1.out
      have c3 : w1.cell? ⟨w.heap.size, 0, none⟩ = some (.slice (some ⟨b, off, none⟩) D.ns D.sc) := by rw [← HSA.out]; exact x0
      have e1 := cell_on D1.out H1.out
      clear x0 x1 x2
      by_cases hq : 1 ≤ (D.ss k).n ∧ (D.ss k).n ≤ 4
      · have hin : inB ((D.ss k).n : Int) 1 4 = true := in_mk (by omega)
        have HA2 : Hid (∀ j, j < k + 1 → 1 ≤ (D.ss j).n ∧ (D.ss j).n ≤ 4) := fun j hj => by
          rcases Nat.lt_or_ge j k with h | h
          · exact HA.out j h
          · obtain rfl : j = k := by omega
            exact hq
        clear hq
        go_wp2_with (first | (go_at_call 17; refine (within_c _ _ _ _).mono ?_; rintro e w2 ⟨rfl, rfl⟩))
        go_roundw
        case rel => exact ⟨k + 1, by omega, by go_num, fun h => by omega, S4, H1, C1, HA2⟩
        case measure => simp [intOf]; omega
      · have hin : inB ((D.ss k).n : Int) 1 4 = false := in_not (by omega)
        have HX : Hid (V = 2) := HV.out (fun h => hq (h k hlt))
        clear hq
        go_wp2_with (first | (go_at_call 17; refine (within_c _ _ _ _).mono ?_; rintro e w2 ⟨rfl, rfl⟩))
        go_ret
        exact ⟨ret_int HX.out.symm, H1.out⟩
    · obtain rfl : k = D.ns := by omega
      have H4 := hideH (H4.out HA.out)
      rename ∀ (a : Act) (w : World), _ → _ => hcont
      have HCONT := hideH hcont
      clear hcont
      go_wp2_with fail
      refine HCONT.out _ _ ?_
      exact H4.out wr _ _ _ _ _ _ _ _ _ _ _ _ _ _ _ _ _ _ _ _ _ _ _ _ _ _ _ _ _ _ _ _ _ _ _ _ _ _ _ _ _ _ _ _ _ _ _ _ _ _ _ _ _ _ _ _ _ _ _ _ _ _ _ _ _ _ _ _ _ _ _ _ _ _ _ _ _ _ _ _ _ _ _ _ _ _ _ _ _ _ _ _ _ _ _ _ _ _ _ _ _ _ _ _ _ _ _ _ _ _ _ _ _ _ _ _ _ _ _ _ _ _ _ _ _ _ _ _ _ _ _ _ _ _ _ _ _ _ _ _ _ _ _ _ _ _ _ _ _ _ _ _ _ _ _ _ _ _ _ _ _ _ _ _ _ _ _ _ _ _ _ _ _ _ _ _ _ _ _ _ _ _ _ _ _ _ _ _ _ _ _ _ _ _ _ _ _ _ _ _ _ _ _ _ _ _ _ _ _ _ _ _ _ _ _ _ _ _ _ _ _ _ _ _ _ _ _ _ _ _ _ _ _ _ _ _ _ _ _ _ _ _ _ _ _ _ _ _ _ _ _ _ _ _ _ _ _ _ _ _ _ _ _ _ _ _ _ _ _ _ _ _ _ _ _ _ _ _ _ HW2 HC2 Q4 HZ
end Go.Proofs.YtbpdbggojgijiaaGreatDoor

/- The document's own CheckData, the part ahead of the last one: what links lead to is there. -/
namespace Go.Proofs.YtbpdbggojgijiaaGreatDoor
open Go Go.RowKit Go.Maps
set_option linter.unusedVariables false

set_option maxRecDepth 1000000 in
set_option maxHeartbeats 4000000 in
theorem cd12 {D : Dt} {w W : World} {V : Int} {u0 u2 u3 u4 u5 u6 u7 u8 u9 u10 u11 u12 u13 u14 u15 u16 u17 u18 u19 u20 u21 u22 u23 u24 u25 u26 u27 u28 u29 u30 u31 u32 u33 u34 u35 u36 u37 u38 u39 u40 u41 u42 u43 u44 u45 u46 u47 u48 u49 u50 u51 u52 u53 u54 u55 u56 u57 u58 u59 u60 u61 u62 u63 u64 u65 u66 u67 u68 u69 u70 u71 u72 u73 u74 u75 u76 u77 u78 u79 u80 u81 u82 u83 u84 u85 u86 u87 u88 u89 u90 u91 u92 u93 u94 u95 u96 u97 u98 u99 u100 u101 u102 u103 u104 u105 u106 u107 u108 u109 u110 u111 u112 u113 u114 u115 u116 u117 u118 u119 u120 u121 u122 u123 u124 u125 u126 u127 u128 u129 u130 u131 u132 u133 u134 u135 u136 u137 u138 u139 u140 u141 u142 u143 u144 u145 u146 u147 u148 u149 u150 u151 u152 u153 u154 u155 u156 u157 u158 u159 u160 u161 u162 u163 u164 u165 u166 u167 u168 u169 u170 u171 u172 u173 u174 u175 u176 u177 u178 u179 u180 u181 u182 u183 u184 u185 u186 u187 u188 u189 u190 u191 u192 u193 u194 u195 u196 u197 u198 u199 u200 u201 u202 u203 u204 u205 u206 u207 u208 u209 u210 u211 u212 u213 u214 u215 u216 u217 u218 u219 u220 u221 u222 u223 u224 u225 u226 u227 u228 u229 u230 u231 u232 u233 u234 u235 u236 u237 u238 u239 u240 u241 u242 u243 u244 u245 u246 u247 u248 u249 u250 u251 u252 u253 u254 u255 u256 u257 u258 u259 u260 u261 u262 u263 u264 u265 u266 u267 u268 u269 u270 u271 u272 u273 u274 u275 u276 u277 u278 u279 u280 : Value} (HD : Hid (DAt w D)) (HF : Hid D.fits) (h4 : D.nl ≤ 4) (h5 : D.nz ≤ 5) (HW : Hid (Below w.heap.size w W)) (HC : Hid (W.heap[w.heap.size]? = some (.cells #[.slice D.sa D.ns D.sc, .slice D.za D.nz D.zc, .slice D.la D.nl D.lc] 26)))
    (HV : Hid (V = if lnk1 D then (if ∀ j, j < D.nl → (leadK D (D.nl + 1) (D.ls j).nm).2 = 0 then 0 else 7) else 4)) :
    Code.wp Tryz.prog (ctl 12 (Tryz.f6.body.getD .skip)) (bodyPost Tryz.prog Tryz.f6 fun e w' => e = .returned (.int .i64 V) ∧ Below w.heap.size w w') ⟨#[u0, .pointer (some ⟨w.heap.size, 0, none⟩), u2, u3, u4, u5, u6, u7, u8, u9, u10, u11, u12, u13, u14, u15, u16, u17, u18, u19, u20, u21, u22, u23, u24, u25, u26, u27, u28, u29, u30, u31, u32, u33, u34, u35, u36, u37, u38, u39, u40, u41, u42, u43, u44, u45, u46, u47, u48, u49, u50, u51, u52, u53, u54, u55, u56, u57, u58, u59, u60, u61, u62, u63, u64, u65, u66, u67, u68, u69, u70, u71, u72, u73, u74, u75, u76, u77, u78, u79, u80, u81, u82, u83, u84, u85, u86, u87, u88, u89, u90, u91, u92, u93, u94, u95, u96, u97, u98, u99, u100, u101, u102, u103, u104, u105, u106, u107, u108, u109, u110, u111, u112, u113, u114, u115, u116, u117, u118, u119, u120, u121, u122, u123, u124, u125, u126, u127, u128, u129, u130, u131, u132, u133, u134, u135, u136, u137, u138, u139, u140, u141, u142, u143, u144, u145, u146, u147, u148, u149, u150, u151, u152, u153, u154, u155, u156, u157, u158, u159, u160, u161, u162, u163, u164, u165, u166, u167, u168, u169, u170, u171, u172, u173, u174, u175, u176, u177, u178, u179, u180, u181, u182, u183, u184, u185, u186, u187, u188, u189, u190, u191, u192, u193, u194, u195, u196, u197, u198, u199, u200, u201, u202, u203, u204, u205, u206, u207, u208, u209, u210, u211, u212, u213, u214, u215, u216, u217, u218, u219, u220, u221, u222, u223, u224, u225, u226, u227, u228, u229, u230, u231, u232, u233, u234, u235, u236, u237, u238, u239, u240, u241, u242, u243, u244, u245, u246, u247, u248, u249, u250, u251, u252, u253, u254, u255, u256, u257, u258, u259, u260, u261, u262, u263, u264, u265, u266, u267, u268, u269, u270, u271, u272, u273, u274, u275, u276, u277, u278, u279, u280], []⟩ W := by
  conv => arg 2; whnf
  go_wp2_with fail
  go_loopw [19] (fun x19 v => ∃ k : Nat, k ≤ D.nl ∧ x19 = .int .i64 k ∧ Hid (Below w.heap.size w v) ∧ Hid (v.heap[w.heap.size]? = some (.cells #[.slice D.sa D.ns D.sc, .slice D.za D.nz D.zc, .slice D.la D.nl D.lc] 26)) ∧ Hid (∀ j, j < k → (idx D (D.ls j).tgt).isSome = true)) (fun x19 _ => D.nl - (intOf x19).toNat)
  case atStart => exact ⟨0, Nat.zero_le _, rfl, HW, HC, fun j hj => by omega⟩
  case round =>
    obtain ⟨k, hk, rfl, HW2, HC2, HA⟩ := hrel
    obtain ⟨c0, c1, c2⟩ := cells3 HC2.out
    by_cases hlt : k < D.nl
    · rcases (HD.out.on HW2.out).links with h0 | ⟨b, off, hsa, hcs⟩
      · omega
      obtain ⟨d0, d1⟩ := hcs k hlt
      have hk0 : decide ((k : Int) < 0) = false := by simp
      have hkn : decide (D.nl ≤ k) = false := by simp; omega
      have hki : (k : Int) < (D.nl : Int) := by omega
      have c3 : wr.cell? ⟨w.heap.size, 2, none⟩ = some (.slice (some ⟨b, off, none⟩) D.nl D.lc) := by rw [← hsa]; exact c2
      clear hcs d0 c2
      rcases idx_cases D (D.ls k).tgt with ⟨g1, g2, g3⟩ | ⟨j, hj, g1, g2⟩ | ⟨j, hj, g1, g2, g3⟩
      · have HX : Hid (V = 4) := by
          show V = 4
          rw [HV.out, if_neg (fun h => by have := h k hlt; rw [g1] at this; cases this)]
        have HZ : Hid (∀ v, Below w.heap.size w v → Calls Tryz.prog 23 #[.agg #[.slice D.sa D.ns D.sc, .slice D.za D.nz D.zc, .slice (some ⟨b, off, none⟩) D.nl D.lc], .string (D.ls k).tgt] v fun e w' => e = .returned (.int .i64 (-1)) ∧ Below v.heap.size v w') := fun v hv => by have := zoneAt_c D (D.ls k).tgt v (HD.out.on hv) HF.out; rw [g2] at this; simp only [Dt.v, hsa] at this; exact this
        have HL : Hid (∀ v, Below w.heap.size w v → Calls Tryz.prog 24 #[.agg #[.slice D.sa D.ns D.sc, .slice D.za D.nz D.zc, .slice (some ⟨b, off, none⟩) D.nl D.lc], .string (D.ls k).tgt] v fun e w' => e = .returned (.int .i64 (-1)) ∧ Below v.heap.size v w') := fun v hv => by have := linkAt_c D (D.ls k).tgt v (HD.out.on hv) HF.out; rw [g3] at this; simp only [Dt.v, hsa] at this; exact this
        clear g1 g2 g3
        go_wp2_with fail
        go_region_held3 (fun v => v.cell? ⟨w.heap.size, 0, none⟩ = some (.slice D.sa D.ns D.sc) ∧ v.cell? ⟨w.heap.size, 1, none⟩ = some (.slice D.za D.nz D.zc) ∧ v.cell? ⟨w.heap.size, 2, none⟩ = some (.slice (some ⟨b, off, none⟩) D.nl D.lc) ∧ v.cell? ⟨b, off + k * 2 + 1, none⟩ = some (.string (D.ls k).tgt))
          (first | (exact ⟨c0, c1, c3, d1⟩) | (exact ⟨cell_on (w := wr.drew) c0 hw2, cell_on (w := wr.drew) c1 hw2, cell_on (w := wr.drew) c3 hw2, cell_on (w := wr.drew) d1 hw2⟩) | (exact ⟨cell_on (cell_on (w := wr.drew) c0 hw2) hw3, cell_on (cell_on (w := wr.drew) c1 hw2) hw3, cell_on (cell_on (w := wr.drew) c3 hw2) hw3, cell_on (cell_on (w := wr.drew) d1 hw2) hw3⟩))
          (first
            | (go_at_call 23; refine (HZ.out _ (by exact HW2.out.drew)).mono ?_; rintro e w2 ⟨rfl, hw2⟩)
            | (go_at_call 24; refine (HL.out _ (by exact bthen (w := w) (a := wr.drew) HW2.out.drew hw2)).mono ?_; rintro e w3 ⟨rfl, hw3⟩))
        all_goals
          go_wp2_with fail
          go_ret
          exact ⟨ret_int HX.out.symm, bthen (bthen (w := w) (a := wr.drew) HW2.out.drew hw2) hw3⟩
      · obtain ⟨r, hr⟩ : ∃ r : Int, r = j := ⟨_, rfl⟩
        rw [← hr] at g2
        have HZ : Hid (∀ v, Below w.heap.size w v → Calls Tryz.prog 23 #[.agg #[.slice D.sa D.ns D.sc, .slice D.za D.nz D.zc, .slice (some ⟨b, off, none⟩) D.nl D.lc], .string (D.ls k).tgt] v fun e w' => e = .returned (.int .i64 r) ∧ Below v.heap.size v w') := fun v hv => by have := zoneAt_c D (D.ls k).tgt v (HD.out.on hv) HF.out; rw [g2] at this; simp only [Dt.v, hsa] at this; exact this
        have HA2 : Hid (∀ i, i < k + 1 → (idx D (D.ls i).tgt).isSome = true) := fun i hi => by
          rcases Nat.lt_or_ge i k with h | h
          · exact HA.out i h
          · obtain rfl : i = k := by omega
            rw [g1]; rfl
        have hjf : decide (r < 0) = false := by rw [hr]; simp
        have hjg : ¬ r < 0 := by omega
        clear g1 g2 hr
        go_wp2_with fail
        refine wp_region_held (S := (fun v => v.cell? ⟨w.heap.size, 0, none⟩ = some (.slice D.sa D.ns D.sc) ∧ v.cell? ⟨w.heap.size, 1, none⟩ = some (.slice D.za D.nz D.zc) ∧ v.cell? ⟨w.heap.size, 2, none⟩ = some (.slice (some ⟨b, off, none⟩) D.nl D.lc) ∧ v.cell? ⟨b, off + k * 2 + 1, none⟩ = some (.string (D.ls k).tgt))) (by kernel_rfl) ?_
        have hS0 : (fun v => v.cell? ⟨w.heap.size, 0, none⟩ = some (.slice D.sa D.ns D.sc) ∧ v.cell? ⟨w.heap.size, 1, none⟩ = some (.slice D.za D.nz D.zc) ∧ v.cell? ⟨w.heap.size, 2, none⟩ = some (.slice (some ⟨b, off, none⟩) D.nl D.lc) ∧ v.cell? ⟨b, off + k * 2 + 1, none⟩ = some (.string (D.ls k).tgt)) wr.drew := ⟨c0, c1, c3, d1⟩
        refine wpAnyH_take (i := 0) (v := .agg #[.slice D.sa D.ns D.sc, .slice D.za D.nz D.zc, .slice (some ⟨b, off, none⟩) D.nl D.lc]) rfl (by kernel_rfl) (by kernel_rfl) (by kernel_rfl) (fun _ _ _ h => h) (.inl ⟨by kernel_rfl, fun v ⟨y0, y1, y2, y3⟩ => by go_simp⟩) hS0 ?_
        refine wpAnyH_take (i := 1) (v := .pointer (some ⟨w.heap.size, 2, none⟩)) rfl (by kernel_rfl) (by kernel_rfl) (by kernel_rfl) (fun _ _ _ h => h) (.inl ⟨by kernel_rfl, fun v ⟨y0, y1, y2, y3⟩ => by go_simp⟩) hS0 ?_
        refine wpAnyH_take (i := 2) (v := .slice (some ⟨b, off, none⟩) D.nl D.lc) rfl (by kernel_rfl) (by kernel_rfl) (by kernel_rfl) (fun _ _ _ h => h) (.inl ⟨by kernel_rfl, fun v ⟨y0, y1, y2, y3⟩ => by go_simp⟩) hS0 ?_
        refine wpAnyH_take (i := 3) (v := .int .i64 k) rfl (by kernel_rfl) (by kernel_rfl) (by kernel_rfl) (fun _ _ _ h => h) (.inl ⟨by kernel_rfl, fun v ⟨y0, y1, y2, y3⟩ => by go_simp⟩) hS0 ?_
        refine wpAnyH_take (i := 4) (v := .pointer (some ⟨b, off + k * 2, none⟩)) rfl (by kernel_rfl) (by kernel_rfl) (by kernel_rfl) (fun _ _ _ h => h) (.inl ⟨by kernel_rfl, fun v ⟨y0, y1, y2, y3⟩ => by go_simp⟩) hS0 ?_
        refine wpAnyH_take (i := 5) (v := .pointer (some ⟨b, off + k * 2 + 1, none⟩)) rfl (by kernel_rfl) (by kernel_rfl) (by kernel_rfl) (fun _ _ _ h => h) (.inl ⟨by kernel_rfl, fun v ⟨y0, y1, y2, y3⟩ => by go_simp⟩) hS0 ?_
        refine wpAnyH_take (i := 6) (v := .string (D.ls k).tgt) rfl (by kernel_rfl) (by kernel_rfl) (by kernel_rfl) (fun _ _ _ h => h) (.inl ⟨by kernel_rfl, fun v ⟨y0, y1, y2, y3⟩ => by go_simp⟩) hS0 ?_
        refine wpAnyH_ready (rs := [7]) (by kernel_rfl) (by simp) ?_
        refine AllReadyH.cons rfl (fun K hK => ?_) AllReadyH.nil
        go_simp
        refine (HZ.out _ (by exact HW2.out.drew)).mono ?_
        rintro e w2 ⟨rfl, hw2⟩
        have hS1 : (fun v => v.cell? ⟨w.heap.size, 0, none⟩ = some (.slice D.sa D.ns D.sc) ∧ v.cell? ⟨w.heap.size, 1, none⟩ = some (.slice D.za D.nz D.zc) ∧ v.cell? ⟨w.heap.size, 2, none⟩ = some (.slice (some ⟨b, off, none⟩) D.nl D.lc) ∧ v.cell? ⟨b, off + k * 2 + 1, none⟩ = some (.string (D.ls k).tgt)) w2 := ⟨cell_on (w := wr.drew) c0 hw2, cell_on (w := wr.drew) c1 hw2, cell_on (w := wr.drew) c3 hw2, cell_on (w := wr.drew) d1 hw2⟩
        refine hK.out _ _ hS1 (fun _ => ?_)
        clear hK K
        refine wpAnyH_take (i := 8) (v := .bool false) rfl (by kernel_rfl) (by kernel_rfl) (by kernel_rfl) (fun _ _ _ h => h) (.inl ⟨by kernel_rfl, fun v ⟨y0, y1, y2, y3⟩ => by go_simp⟩) hS1 ?_
        refine wpAnyH_take (i := 9) (v := .bool false) rfl (by kernel_rfl) (by kernel_rfl) (by kernel_rfl) (fun _ _ _ h => h) (.inl ⟨by kernel_rfl, fun v ⟨y0, y1, y2, y3⟩ => by go_simp⟩) hS1 ?_
        refine wpAnyH_take (i := 10) (v := undef) rfl (by kernel_rfl) (by kernel_rfl) (by kernel_rfl) (fun _ _ _ h => h) (.inr ⟨by kernel_rfl, rfl⟩) hS1 ?_
        refine wpAnyH_take (i := 11) (v := undef) rfl (by kernel_rfl) (by kernel_rfl) (by kernel_rfl) (fun _ _ _ h => h) (.inr ⟨by kernel_rfl, rfl⟩) hS1 ?_
        refine wpAnyH_take (i := 12) (v := undef) rfl (by kernel_rfl) (by kernel_rfl) (by kernel_rfl) (fun _ _ _ h => h) (.inr ⟨by kernel_rfl, rfl⟩) hS1 ?_
        refine wpAnyH_take (i := 13) (v := undef) rfl (by kernel_rfl) (by kernel_rfl) (by kernel_rfl) (fun _ _ _ h => h) (.inr ⟨by kernel_rfl, rfl⟩) hS1 ?_
        refine wpAnyH_take (i := 14) (v := undef) rfl (by kernel_rfl) (by kernel_rfl) (by kernel_rfl) (fun _ _ _ h => h) (.inr ⟨by kernel_rfl, rfl⟩) hS1 ?_
        refine wpAnyH_take (i := 15) (v := undef) rfl (by kernel_rfl) (by kernel_rfl) (by kernel_rfl) (fun _ _ _ h => h) (.inr ⟨by kernel_rfl, rfl⟩) hS1 ?_
        refine wpAnyH_take (i := 16) (v := undef) rfl (by kernel_rfl) (by kernel_rfl) (by kernel_rfl) (fun _ _ _ h => h) (.inr ⟨by kernel_rfl, rfl⟩) hS1 ?_
        refine wpAnyH_take (i := 17) (v := undef) rfl (by kernel_rfl) (by kernel_rfl) (by kernel_rfl) (fun _ _ _ h => h) (.inr ⟨by kernel_rfl, rfl⟩) hS1 ?_
        refine wpAnyH_take (i := 18) (v := undef) rfl (by kernel_rfl) (by kernel_rfl) (by kernel_rfl) (fun _ _ _ h => h) (.inr ⟨by kernel_rfl, rfl⟩) hS1 ?_
        refine wpAnyH_take (i := 19) (v := .bool false) rfl (by kernel_rfl) (by kernel_rfl) (by kernel_rfl) (fun _ _ _ h => h) (.inl ⟨by kernel_rfl, fun v ⟨y0, y1, y2, y3⟩ => by go_simp⟩) hS1 ?_
        refine wpAnyH_done (by kernel_rfl) ?_ _
        have H2 := hideH (bthen (w := w) (a := wr.drew) HW2.out.drew hw2)
        have C2 := hideH (heap_on (w := wr.drew) HC2.out hw2)
        clear hw2 c0 c1 c3 d1 hS0 hS1
        simp (config := { maxSteps := 1000000 }) only [Act.put, List.getElem_toArray, List.getElem_cons_zero, List.getElem_cons_succ, List.setIfInBounds_toArray, List.set_cons_succ, List.set_cons_zero]
        go_wp2_with fail
        go_roundw
        case rel => exact ⟨k + 1, by omega, by go_num, H2, C2, HA2⟩
        case measure => simp [intOf]; omega
      · have HZ : Hid (∀ v, Below w.heap.size w v → Calls Tryz.prog 23 #[.agg #[.slice D.sa D.ns D.sc, .slice D.za D.nz D.zc, .slice (some ⟨b, off, none⟩) D.nl D.lc], .string (D.ls k).tgt] v fun e w' => e = .returned (.int .i64 (-1)) ∧ Below v.heap.size v w') := fun v hv => by have := zoneAt_c D (D.ls k).tgt v (HD.out.on hv) HF.out; rw [g2] at this; simp only [Dt.v, hsa] at this; exact this
        have HL : Hid (∀ v, Below w.heap.size w v → Calls Tryz.prog 24 #[.agg #[.slice D.sa D.ns D.sc, .slice D.za D.nz D.zc, .slice (some ⟨b, off, none⟩) D.nl D.lc], .string (D.ls k).tgt] v fun e w' => e = .returned (.int .i64 j) ∧ Below v.heap.size v w') := fun v hv => by have := linkAt_c D (D.ls k).tgt v (HD.out.on hv) HF.out; rw [g3] at this; simp only [Dt.v, hsa] at this; exact this
        have HA2 : Hid (∀ i, i < k + 1 → (idx D (D.ls i).tgt).isSome = true) := fun i hi => by
          rcases Nat.lt_or_ge i k with h | h
          · exact HA.out i h
          · obtain rfl : i = k := by omega
            rw [g1]; rfl
        have hjf : decide ((j : Int) < 0) = false := by simp
        have hjg : ¬ (j : Int) < 0 := by omega
        clear g1 g2 g3
        go_wp2_with fail
        go_region_held3 (fun v => v.cell? ⟨w.heap.size, 0, none⟩ = some (.slice D.sa D.ns D.sc) ∧ v.cell? ⟨w.heap.size, 1, none⟩ = some (.slice D.za D.nz D.zc) ∧ v.cell? ⟨w.heap.size, 2, none⟩ = some (.slice (some ⟨b, off, none⟩) D.nl D.lc) ∧ v.cell? ⟨b, off + k * 2 + 1, none⟩ = some (.string (D.ls k).tgt))
          (first | (exact ⟨c0, c1, c3, d1⟩) | (exact ⟨cell_on (w := wr.drew) c0 hw2, cell_on (w := wr.drew) c1 hw2, cell_on (w := wr.drew) c3 hw2, cell_on (w := wr.drew) d1 hw2⟩) | (exact ⟨cell_on (cell_on (w := wr.drew) c0 hw2) hw3, cell_on (cell_on (w := wr.drew) c1 hw2) hw3, cell_on (cell_on (w := wr.drew) c3 hw2) hw3, cell_on (cell_on (w := wr.drew) d1 hw2) hw3⟩))
          (first
            | (go_at_call 23; refine (HZ.out _ (by exact HW2.out.drew)).mono ?_; rintro e w2 ⟨rfl, hw2⟩)
            | (go_at_call 24; refine (HL.out _ (by exact bthen (w := w) (a := wr.drew) HW2.out.drew hw2)).mono ?_; rintro e w3 ⟨rfl, hw3⟩))
        all_goals
          have H2 := hideH (bthen (bthen (w := w) (a := wr.drew) HW2.out.drew hw2) hw3)
          have C2 := hideH (heap_on (heap_on (w := wr.drew) HC2.out hw2) hw3)
          clear hw3 hw2 c0 c1 c3 d1
          go_wp2_with fail
          go_roundw
          case rel => exact ⟨k + 1, by omega, by go_num, H2, C2, HA2⟩
          case measure => simp [intOf]; omega
    · have hl1 : lnk1 D := fun j hj => HA.out j (by omega)
      have HV0 : Hid ((∀ j, j < D.nl → (leadK D (D.nl + 1) (D.ls j).nm).2 = 0) → V = 0) := fun h => by rw [HV.out, if_pos hl1, if_pos h]
      have HV7 : Hid (∀ j, j < D.nl → (leadK D (D.nl + 1) (D.ls j).nm).2 ≠ 0 → V = 7) := fun j hj h => by rw [HV.out, if_pos hl1, if_neg (fun h' => h (h' j hj))]
      clear HV
      rename ∀ (a : Act) (w : World), _ → _ => hcont
      have HCONT := hideH hcont
      clear hcont
      go_wp2_with fail
      refine HCONT.out _ _ ?_
      exact cd13 HD HF h4 HW2 HC2 HV0 HV7
end Go.Proofs.YtbpdbggojgijiaaGreatDoor

/- The document's own CheckData whole: it answers what data.Check answers. -/
namespace Go.Proofs.YtbpdbggojgijiaaGreatDoor
open Go Go.RowKit Go.Maps
set_option linter.unusedVariables false

theorem lead_two {D : Dt} (h1 : lnk1 D) : ∀ (k : Nat) (s : ByteArray), (idx D s).isSome = true → (leadK D k s).2 = 0 ∨ (leadK D k s).2 = 7
  | 0, _, _ => .inr rfl
  | k + 1, s, h => by
    cases hi : idx D s with
    | none => rw [hi] at h; cases h
    | some j =>
      have hj := (idx_some hi).1
      simp only [leadK, hi]
      by_cases hz : j < D.nz
      · rw [if_pos hz]; exact .inl rfl
      · rw [if_neg hz]; exact lead_two h1 k _ (h1 (j - D.nz) (by omega))
theorem own_idx {D : Dt} {j : Nat} (hj : j < D.nl) : (idx D (D.ls j).nm).isSome = true := by
  cases hi : idx D (D.ls j).nm with
  | some k => rfl
  | none => exact absurd (by rw [nms_link]) (idx_none hi (D.nz + j) (by omega))
theorem fstE_or (f : Nat → Int) : ∀ n, fstE f n = 0 ∨ ∃ k, k < n ∧ fstE f n = f k
  | 0 => .inl rfl
  | n + 1 => by
    rcases fstE_or f n with h | ⟨k, h1, h2⟩
    · by_cases hn : f n = 0
      · left
        exact fstE_zero fun i hi => by
          rcases Nat.lt_or_ge i n with h3 | h3
          · exact fstE_all h i h3
          · obtain rfl : i = n := by omega
            exact hn
      · right
        exact ⟨n, by omega, fstE_at (fun i hi => fstE_all h i hi) hn (by omega)⟩
    · by_cases h0 : fstE f n = 0
      · by_cases hn : f n = 0
        · left
          exact fstE_zero fun i hi => by
            rcases Nat.lt_or_ge i n with h3 | h3
            · exact fstE_all h0 i h3
            · obtain rfl : i = n := by omega
              exact hn
        · exact .inr ⟨n, by omega, fstE_at (fun i hi => fstE_all h0 i hi) hn (by omega)⟩
      · by_cases ha : fstE f (n + 1) = 0
        · exact .inl ha
        · refine .inr ⟨k, by omega, ?_⟩
          rw [← h2]
          simp only [fstE] at ha ⊢
          split at ha <;> simp_all
theorem lnk2_val {D : Dt} (h1 : lnk1 D) : lnk2 D = if ∀ j, j < D.nl → (leadK D (D.nl + 1) (D.ls j).nm).2 = 0 then 0 else 7 := by
  unfold lnk2
  by_cases h : ∀ j, j < D.nl → (leadK D (D.nl + 1) (D.ls j).nm).2 = 0
  · rw [if_pos h]; exact fstE_zero h
  · rw [if_neg h]
    rcases fstE_or (fun j => (leadK D (D.nl + 1) (D.ls j).nm).2) D.nl with h0 | ⟨k, h2, h3⟩
    · exact absurd (fun j hj => fstE_all h0 j hj) h
    · rw [h3]
      rcases lead_two h1 (D.nl + 1) (D.ls k).nm (own_idx h2) with h4 | h4
      · exfalso
        have h5 : fstE (fun j => (leadK D (D.nl + 1) (D.ls j).nm).2) D.nl = 0 := h3.trans h4
        exact h (fun j hj => fstE_all h5 j hj)
      · exact h4
theorem catL_mk {pn : Nat → Nat} {pf : Nat → Nat → ByteArray} {i j : Nat} : ∀ {k : Nat}, i < k → j < pn i → pf i j ∈ catL pn pf k
  | 0, h, _ => by omega
  | k + 1, h, hj => by
    unfold catL
    rcases Nat.lt_or_ge i k with h1 | h1
    · exact List.mem_append.2 (.inl (catL_mk h1 hj))
    · obtain rfl : i = k := by omega
      exact List.mem_append.2 (.inr (List.mem_map.2 ⟨j, List.mem_range.2 hj, rfl⟩))
theorem alN_mem {D : Dt} {j : Nat} (hj : j < D.ns + D.nz + 2 * D.nl) : alN D j ∈ allN D := by
  unfold alN allN
  by_cases h1 : j < D.ns
  · rw [if_pos h1]; exact catL_mk (i := 0) (pf := f4 D) (by omega) h1
  · rw [if_neg h1]
    by_cases h2 : j < D.ns + D.nz
    · rw [if_pos h2]; exact catL_mk (i := 1) (j := j - D.ns) (pf := f4 D) (by omega) (by show j - D.ns < D.nz; omega)
    · rw [if_neg h2]
      by_cases h3 : (j - (D.ns + D.nz)) % 2 = 0
      · rw [if_pos h3]; exact catL_mk (i := 2) (j := (j - (D.ns + D.nz)) / 2) (pf := f4 D) (by omega) (by show _ < D.nl; omega)
      · rw [if_neg h3]; exact catL_mk (i := 3) (j := (j - (D.ns + D.nz)) / 2) (pf := f4 D) (by omega) (by show _ < D.nl; omega)
theorem names_iff (D : Dt) : (∀ j, j < D.ns + D.nz + 2 * D.nl → nameB (alN D j) = true) ↔ namesOK D := by
  constructor
  · intro h s hs
    obtain ⟨i, hi, j, hj, e⟩ := catL_mem hs
    subst e
    have hc : i = 0 ∨ i = 1 ∨ i = 2 ∨ i = 3 := by omega
    rcases hc with rfl | rfl | rfl | rfl
    · have hj' : j < D.ns := hj
      have := h j (by omega)
      rw [alN_set hj'] at this; exact this
    · have hj' : j < D.nz := hj
      have := h (D.ns + j) (by omega)
      rw [alN_zone hj'] at this
      unfold nms at this; rw [if_pos hj'] at this; exact this
    · have hj' : j < D.nl := hj
      have := h (D.ns + D.nz + 2 * j) (by omega)
      rw [alN_nm] at this; exact this
    · have hj' : j < D.nl := hj
      have := h (D.ns + D.nz + 2 * j + 1) (by omega)
      rw [alN_to] at this; exact this
  · intro h j hj
    exact h _ (alN_mem hj)
theorem chk_2 {D : Dt} (h : ¬ (few1 D ∧ few2 D ∧ few3 D)) : chkE D = 2 := by
  unfold chkE
  rw [if_neg]
  intro hf
  unfold few at hf
  simp only [Bool.and_eq_true, decide_eq_true_eq] at hf
  exact h ⟨hf.1, hf.2.1, hf.2.2⟩
theorem few_mk {D : Dt} (h1 : few1 D) (h2 : few2 D) (h3 : few3 D) : few D = true := by
  unfold few; simp only [Bool.and_eq_true, decide_eq_true_eq]; exact ⟨h1, h2, h3⟩
theorem chk_5 {D : Dt} (h1 : few D = true) (h2 : ¬ namesOK D) : chkE D = 5 := by unfold chkE; rw [if_pos h1, if_neg h2]
theorem chk_6 {D : Dt} (h1 : few D = true) (h2 : namesOK D) (h3 : ¬ (dist (fun j => (D.ss j).nm) D.ns ∧ dist (nms D) (D.nz + D.nl))) : chkE D = 6 := by
  unfold chkE
  rw [if_pos h1, if_pos h2]
  by_cases a : dist (fun j => (D.ss j).nm) D.ns
  · rw [if_pos a, if_neg (fun b => h3 ⟨a, b⟩)]
  · rw [if_neg a]
theorem chk_r {D : Dt} (h1 : few D = true) (h2 : namesOK D) (h3 : dist (fun j => (D.ss j).nm) D.ns) (h4 : dist (nms D) (D.nz + D.nl)) (h5 : rulE D ≠ 0) : chkE D = rulE D := by
  unfold chkE; rw [if_pos h1, if_pos h2, if_pos h3, if_pos h4, if_neg h5]
theorem chk_3 {D : Dt} (h1 : few D = true) (h2 : namesOK D) (h3 : dist (fun j => (D.ss j).nm) D.ns) (h4 : dist (nms D) (D.nz + D.nl)) (h5 : rulE D = 0) (h6 : ¬ ersOK D) : chkE D = 3 := by
  unfold chkE; rw [if_pos h1, if_pos h2, if_pos h3, if_pos h4, if_pos h5, if_neg h6]
theorem chk_1 {D : Dt} (h1 : few D = true) (h2 : namesOK D) (h3 : dist (fun j => (D.ss j).nm) D.ns) (h4 : dist (nms D) (D.nz + D.nl)) (h5 : rulE D = 0) (h6 : ersOK D) (h7 : ¬ fmts D) : chkE D = 1 := by
  unfold chkE; rw [if_pos h1, if_pos h2, if_pos h3, if_pos h4, if_pos h5, if_pos h6, if_neg h7]
theorem chk_l {D : Dt} (h1 : few D = true) (h2 : namesOK D) (h3 : dist (fun j => (D.ss j).nm) D.ns) (h4 : dist (nms D) (D.nz + D.nl)) (h5 : rulE D = 0) (h6 : ersOK D) (h7 : fmts D) : chkE D = if lnk1 D then (if ∀ j, j < D.nl → (leadK D (D.nl + 1) (D.ls j).nm).2 = 0 then 0 else 7) else 4 := by
  unfold chkE; rw [if_pos h1, if_pos h2, if_pos h3, if_pos h4, if_pos h5, if_pos h6, if_pos h7]
  by_cases hl : lnk1 D
  · rw [if_pos hl, if_pos hl, lnk2_val hl]
  · rw [if_neg hl, if_neg hl]
set_option maxRecDepth 1000000 in
set_option maxHeartbeats 4000000 in
theorem cd_all {D : Dt} {w : World} (hD : DAt w D) (hF : D.fits) (h1 : few1 D) : (few2 D → CD4 D w (chkE D)) ∧ (¬ few2 D → chkE D = 2) := by
  obtain ⟨n1, n2, n3⟩ := h1
  have HD := hideH hD
  have HF := hideH hF
  refine ⟨fun f2 => ?_, fun h => chk_2 (fun x => h x.2.1)⟩
  have K12 : few D = true → namesOK D → dist (fun j => (D.ss j).nm) D.ns → dist (nms D) (D.nz + D.nl) → rulE D = 0 → ersOK D → fmts D → CD12 D w (chkE D) := by
    intro a1 a2 a3 a4 a5 a6 a7 W
    intros
    rename_i HW HC
    exact cd12 HD HF n3 n2 HW HC (chk_l a1 a2 a3 a4 a5 a6 a7)
  have K11 : few3 D → few D = true → namesOK D → dist (fun j => (D.ss j).nm) D.ns → dist (nms D) (D.nz + D.nl) → rulE D = 0 → ersOK D → CD11 D w (chkE D) := by
    intro a0 a1 a2 a3 a4 a5 a6 W
    intros
    rename_i HW HC
    exact cd11 HD HF n2 (fun j hj => (a0 j hj).2) HW HC (K12 a1 a2 a3 a4 a5 a6) (chk_1 a1 a2 a3 a4 a5 a6)
  have K10 : few3 D → few D = true → namesOK D → dist (fun j => (D.ss j).nm) D.ns → dist (nms D) (D.nz + D.nl) → rulE D = 0 → CD10 D w (chkE D) := by
    intro a0 a1 a2 a3 a4 a5 W
    intros
    rename_i HW HC
    exact cd10 HD HF n1 n2 (fun j hj => (a0 j hj).2) HW HC (K11 a0 a1 a2 a3 a4 a5) (chk_3 a1 a2 a3 a4 a5)
  have K9 : few3 D → few D = true → namesOK D → dist (fun j => (D.ss j).nm) D.ns → dist (nms D) (D.nz + D.nl) → CD9 D w (chkE D) := by
    intro a0 a1 a2 a3 a4 W
    intros
    rename_i HW HC
    exact cd9 HD HF n1 (fun j hj => (f2 j hj).2) HW HC (K10 a0 a1 a2 a3 a4) (chk_r a1 a2 a3 a4)
  have K8 : few3 D → few D = true → namesOK D → CD8 D w (chkE D) := by
    intro a0 a1 a2 W b3 b4 q3 q4
    intros
    rename_i HW HC R3 R4
    exact cd8 n1 (by omega) HW HC R3 R4 (K9 a0 a1 a2) (chk_6 a1 a2)
  have K7 : few3 D → few D = true → CD7 D w (chkE D) := by
    intro a0 a1 W b3 b4 q3 q4 q7 b7
    intros
    rename_i HW HC R3 R4 R7
    exact cd7 (by omega) (fun j hj => allN_size HF.out (alN_mem hj)) HW HC R3 R4 R7 (fun h => K8 a0 a1 ((names_iff D).1 h)) (fun h => chk_5 a1 (fun x => h ((names_iff D).2 x)))
  have K6 : few3 D → few D = true → CD6 D w (chkE D) := by
    intro a0 a1 W v3 v4 g7 q7
    intros
    rename_i HW HC O3 O4 O7 A34 A37 A47
    exact cd6 n1 n2 n3 HD HW HC O3 O4 O7 A34 A37 A47 (K7 a0 a1)
  have K5 : few3 D → CD5 D w (chkE D) := by
    intro a0 W v3 v4
    intros
    rename_i HW HC O3 O4 Z3 Z4 A34
    exact cd5 n1 n2 HW HC O3 O4 Z3 Z4 A34 (K6 a0 (few_mk ⟨n1, n2, n3⟩ f2 a0))
  intro W v3
  intros
  rename_i HW HC O3 Z3
  exact cd4 n2 HD HW HC O3 Z3 K5 (fun h => chk_2 (fun x => h x.2.2))
end Go.Proofs.YtbpdbggojgijiaaGreatDoor

/- The document's own CheckData and ZoneOf: contracts. -/
namespace Go.Proofs.YtbpdbggojgijiaaGreatDoor
open Go Go.RowKit Go.Maps
set_option linter.unusedVariables false

set_option maxRecDepth 1000000 in
set_option maxHeartbeats 4000000 in
theorem CheckData_c (D : Dt) (w : World) (hD : DAt w D) (hF : D.fits) : Calls Tryz.prog 6 #[D.v] w fun e w' => e = .returned (.int .i64 (chkE D)) ∧ Below w.heap.size w w' := by
  have m1 := hF.ns
  have m2 := hF.nz
  have m3 := hF.nl
  unfold maxLen at m1 m2 m3
  have HB := hideH ((Below.refl _ w).alloc (Nat.le_refl _) (.cells #[.slice D.sa D.ns D.sc, .slice D.za D.nz D.zc, .slice D.la D.nl D.lc] 26))
  have HC : Hid ((w.alloc (.cells #[.slice D.sa D.ns D.sc, .slice D.za D.nz D.zc, .slice D.la D.nl D.lc] 26)).heap[w.heap.size]? = some (.cells #[.slice D.sa D.ns D.sc, .slice D.za D.nz D.zc, .slice D.la D.nl D.lc] 26)) := heap_alloc_new w _
  have hc : 3 < D.ns ∨ (D.ns ≤ 3 ∧ 5 < D.nz) ∨ (D.ns ≤ 3 ∧ D.nz ≤ 5 ∧ 4 < D.nl) ∨ (D.ns ≤ 3 ∧ D.nz ≤ 5 ∧ D.nl ≤ 4) := by omega
  rcases hc with h | ⟨h1, h⟩ | ⟨h1, h2, h⟩ | ⟨h1, h2, h3⟩
  · have HX := hideH (chk_2 (D := D) (fun x => by have := x.1.1; omega))
    have t1 : (3 : Int) < (D.ns : Int) := by omega
    clear hD hF
    go_enter Tryz.func6, Tryz.ntmps6
    go_wp2_with fail
    go_ret
    exact ⟨ret_int HX.out.symm, HB.out⟩
  · have HX := hideH (chk_2 (D := D) (fun x => by have := x.1.2.1; omega))
    have t1 : (D.ns : Int) ≤ 3 := by omega
    have t2 : (5 : Int) < (D.nz : Int) := by omega
    clear hD hF
    go_enter Tryz.func6, Tryz.ntmps6
    go_wp2_with fail
    go_ret
    exact ⟨ret_int HX.out.symm, HB.out⟩
  · have HX := hideH (chk_2 (D := D) (fun x => by have := x.1.2.2; omega))
    have t1 : (D.ns : Int) ≤ 3 := by omega
    have t2 : (D.nz : Int) ≤ 5 := by omega
    have t3 : (4 : Int) < (D.nl : Int) := by omega
    clear hD hF
    go_enter Tryz.func6, Tryz.ntmps6
    go_wp2_with fail
    go_ret
    exact ⟨ret_int HX.out.symm, HB.out⟩
  · have HA := hideH (cd_all hD hF ⟨h1, h2, h3⟩)
    have HD := hideH hD
    have t1 : (D.ns : Int) ≤ 3 := by omega
    have t2 : (D.nz : Int) ≤ 5 := by omega
    have t3 : (D.nl : Int) ≤ 4 := by omega
    clear hD hF
    go_enter Tryz.func6, Tryz.ntmps6
    refine wp_seq_k (fun K0 hK0 => ?_)
    have HK0 := hideH hK0
    clear hK0
    go_wp2_with fail
    refine HK0.out _ _ ?_
    clear HK0 K0
    refine wp_seq_k (fun K0 hK0 => ?_)
    have HK0 := hideH hK0
    clear hK0
    go_wp2_with fail
    refine HK0.out _ _ ?_
    clear HK0 K0
    refine wp_seq_k (fun K0 hK0 => ?_)
    have HK0 := hideH hK0
    clear hK0
    go_wp2_with fail
    refine HK0.out _ _ ?_
    clear HK0 K0
    exact cd3 (by omega) HD HB HC HA.out.1 HA.out.2
theorem folR_ok {r : Int × Int} (h : r.2 = 0) : folR r = r.1 := by unfold folR; rw [if_pos h]
theorem folR_no {r : Int × Int} (h : r.2 ≠ 0) : folR r = -1 := by unfold folR; rw [if_neg h]
theorem lead_04 {D : Dt} (h : chkE D = 0) (s : ByteArray) : (leadK D (D.nl + 1) s).2 = 0 ∨ (leadK D (D.nl + 1) s).2 = 4 := by
  obtain ⟨_, hd, _, h2⟩ := chk_parts h
  cases hi : idx D s with
  | none =>
    right
    have : leadK D (D.nl + 1) s = (0, 4) := by simp only [leadK, hi]
    rw [this]
  | some j =>
    left
    have hj := (idx_some hi).1
    by_cases hz : j < D.nz
    · have : leadK D (D.nl + 1) s = ((j : Int), 0) := by simp only [leadK, hi]; rw [if_pos hz]
      rw [this]
    · have e1 : leadK D (D.nl + 1) s = leadK D D.nl (D.ls (j - D.nz)).tgt := by simp only [leadK, hi]; rw [if_neg hz]
      have hi2 : idx D (D.ls (j - D.nz)).nm = some j := by
        have := idx_at hd (j := j) hj
        rwa [show nms D j = (D.ls (j - D.nz)).nm by unfold nms; rw [if_neg hz]] at this
      have e2 : leadK D (D.nl + 1) (D.ls (j - D.nz)).nm = leadK D D.nl (D.ls (j - D.nz)).tgt := by simp only [leadK, hi2]; rw [if_neg hz]
      rw [e1, ← e2]
      exact fstE_all h2 (j - D.nz) (by omega)
theorem lead_nn {D : Dt} {s : ByteArray} (h : (leadK D (D.nl + 1) s).2 = 0) : ∃ j : Nat, (leadK D (D.nl + 1) s).1 = j := by
  have := lead_in (D.nl + 1) s h
  exact ⟨(leadK D (D.nl + 1) s).1.toNat, by omega⟩
end Go.Proofs.YtbpdbggojgijiaaGreatDoor
