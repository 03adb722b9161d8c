/- The document's own CheckData: formats. -/
import Derived.Test.YtcdokhjmpkcpnabDoorRefJ
namespace Go.Proofs.YtcdokhjmpkcpnabDoor
open Go Go.RowKit Go.Maps
set_option linter.unusedVariables false

set_option maxRecDepth 1000000 in
/-- what is left behind the formats -/
def CD12 (D : Dt) (w : World) (V : Int) : Prop := ∀ (W : World) (u0 u2 u3 u4 u5 u6 u7 u8 u9 u10 u11 u12 u13 u14 u15 u16 u17 u18 u19 u20 u21 u22 u23 u24 u25 u26 u27 u28 u29 u30 u31 u32 u33 u34 u35 u36 u37 u38 u39 u40 u41 u42 u43 u44 u45 u46 u47 u48 u49 u50 u51 u52 u53 u54 u55 u56 u57 u58 u59 u60 u61 u62 u63 u64 u65 u66 u67 u68 u69 u70 u71 u72 u73 u74 u75 u76 u77 u78 u79 u80 u81 u82 u83 u84 u85 u86 u87 u88 u89 u90 u91 u92 u93 u94 u95 u96 u97 u98 u99 u100 u101 u102 u103 u104 u105 u106 u107 u108 u109 u110 u111 u112 u113 u114 u115 u116 u117 u118 u119 u120 u121 u122 u123 u124 u125 u126 u127 u128 u129 u130 u131 u132 u133 u134 u135 u136 u137 u138 u139 u140 u141 u142 u143 u144 u145 u146 u147 u148 u149 u150 u151 u152 u153 u154 u155 u156 u157 u158 u159 u160 u161 u162 u163 u164 u165 u166 u167 u168 u169 u170 u171 u172 u173 u174 u175 u176 u177 u178 u179 u180 u181 u182 u183 u184 u185 u186 u187 u188 u189 u190 u191 u192 u193 u194 u195 u196 u197 u198 u199 u200 u201 u202 u203 u204 u205 u206 u207 u208 u209 u210 u211 u212 u213 u214 u215 u216 u217 u218 u219 u220 u221 u222 u223 u224 u225 u226 u227 u228 u229 u230 u231 u232 u233 u234 u235 u236 u237 u238 u239 u240 u241 u242 u243 u244 u245 u246 u247 u248 u249 u250 u251 u252 u253 u254 u255 u256 u257 u258 u259 u260 u261 u262 u263 u264 u265 u266 u267 u268 u269 u270 u271 u272 u273 u274 u275 u276 u277 u278 u279 u280 : Value), Hid (Below w.heap.size w W) → Hid (W.heap[w.heap.size]? = some (.cells #[.slice D.sa D.ns D.sc, .slice D.za D.nz D.zc, .slice D.la D.nl D.lc] 43)) → Code.wp Tryd.prog (ctl 12 (Tryd.f21.body.getD .skip)) (bodyPost Tryd.prog Tryd.f21 fun e w' => e = .returned (.int .i64 V) ∧ Below w.heap.size w w') ⟨#[u0, .pointer (some ⟨w.heap.size, 0, none⟩), u2, u3, u4, u5, u6, u7, u8, u9, u10, u11, u12, u13, u14, u15, u16, u17, u18, u19, u20, u21, u22, u23, u24, u25, u26, u27, u28, u29, u30, u31, u32, u33, u34, u35, u36, u37, u38, u39, u40, u41, u42, u43, u44, u45, u46, u47, u48, u49, u50, u51, u52, u53, u54, u55, u56, u57, u58, u59, u60, u61, u62, u63, u64, u65, u66, u67, u68, u69, u70, u71, u72, u73, u74, u75, u76, u77, u78, u79, u80, u81, u82, u83, u84, u85, u86, u87, u88, u89, u90, u91, u92, u93, u94, u95, u96, u97, u98, u99, u100, u101, u102, u103, u104, u105, u106, u107, u108, u109, u110, u111, u112, u113, u114, u115, u116, u117, u118, u119, u120, u121, u122, u123, u124, u125, u126, u127, u128, u129, u130, u131, u132, u133, u134, u135, u136, u137, u138, u139, u140, u141, u142, u143, u144, u145, u146, u147, u148, u149, u150, u151, u152, u153, u154, u155, u156, u157, u158, u159, u160, u161, u162, u163, u164, u165, u166, u167, u168, u169, u170, u171, u172, u173, u174, u175, u176, u177, u178, u179, u180, u181, u182, u183, u184, u185, u186, u187, u188, u189, u190, u191, u192, u193, u194, u195, u196, u197, u198, u199, u200, u201, u202, u203, u204, u205, u206, u207, u208, u209, u210, u211, u212, u213, u214, u215, u216, u217, u218, u219, u220, u221, u222, u223, u224, u225, u226, u227, u228, u229, u230, u231, u232, u233, u234, u235, u236, u237, u238, u239, u240, u241, u242, u243, u244, u245, u246, u247, u248, u249, u250, u251, u252, u253, u254, u255, u256, u257, u258, u259, u260, u261, u262, u263, u264, u265, u266, u267, u268, u269, u270, u271, u272, u273, u274, u275, u276, u277, u278, u279, u280], []⟩ W
set_option maxRecDepth 1000000 in
set_option maxHeartbeats 4000000 in
theorem cd11 {D : Dt} {w W : World} {V : Int} {u0 u2 u3 u4 u5 u6 u7 u8 u9 u10 u11 u12 u13 u14 u15 u16 u17 u18 u19 u20 u21 u22 u23 u24 u25 u26 u27 u28 u29 u30 u31 u32 u33 u34 u35 u36 u37 u38 u39 u40 u41 u42 u43 u44 u45 u46 u47 u48 u49 u50 u51 u52 u53 u54 u55 u56 u57 u58 u59 u60 u61 u62 u63 u64 u65 u66 u67 u68 u69 u70 u71 u72 u73 u74 u75 u76 u77 u78 u79 u80 u81 u82 u83 u84 u85 u86 u87 u88 u89 u90 u91 u92 u93 u94 u95 u96 u97 u98 u99 u100 u101 u102 u103 u104 u105 u106 u107 u108 u109 u110 u111 u112 u113 u114 u115 u116 u117 u118 u119 u120 u121 u122 u123 u124 u125 u126 u127 u128 u129 u130 u131 u132 u133 u134 u135 u136 u137 u138 u139 u140 u141 u142 u143 u144 u145 u146 u147 u148 u149 u150 u151 u152 u153 u154 u155 u156 u157 u158 u159 u160 u161 u162 u163 u164 u165 u166 u167 u168 u169 u170 u171 u172 u173 u174 u175 u176 u177 u178 u179 u180 u181 u182 u183 u184 u185 u186 u187 u188 u189 u190 u191 u192 u193 u194 u195 u196 u197 u198 u199 u200 u201 u202 u203 u204 u205 u206 u207 u208 u209 u210 u211 u212 u213 u214 u215 u216 u217 u218 u219 u220 u221 u222 u223 u224 u225 u226 u227 u228 u229 u230 u231 u232 u233 u234 u235 u236 u237 u238 u239 u240 u241 u242 u243 u244 u245 u246 u247 u248 u249 u250 u251 u252 u253 u254 u255 u256 u257 u258 u259 u260 u261 u262 u263 u264 u265 u266 u267 u268 u269 u270 u271 u272 u273 u274 u275 u276 u277 u278 u279 u280 : Value} (HD : Hid (DAt w D)) (HF : Hid D.fits) (h5 : D.nz ≤ 5) (h4 : ∀ j, j < D.nz → (D.zs j).n ≤ 4) (HW : Hid (Below w.heap.size w W)) (HC : Hid (W.heap[w.heap.size]? = some (.cells #[.slice D.sa D.ns D.sc, .slice D.za D.nz D.zc, .slice D.la D.nl D.lc] 43)))
    (HN : Hid (fmts D → CD12 D w V)) (HV : Hid (¬ fmts D → V = 1)) :
    Code.wp Tryd.prog (ctl 11 (Tryd.f21.body.getD .skip)) (bodyPost Tryd.prog Tryd.f21 fun e w' => e = .returned (.int .i64 V) ∧ Below w.heap.size w w') ⟨#[u0, .pointer (some ⟨w.heap.size, 0, none⟩), u2, u3, u4, u5, u6, u7, u8, u9, u10, u11, u12, u13, u14, u15, u16, u17, u18, u19, u20, u21, u22, u23, u24, u25, u26, u27, u28, u29, u30, u31, u32, u33, u34, u35, u36, u37, u38, u39, u40, u41, u42, u43, u44, u45, u46, u47, u48, u49, u50, u51, u52, u53, u54, u55, u56, u57, u58, u59, u60, u61, u62, u63, u64, u65, u66, u67, u68, u69, u70, u71, u72, u73, u74, u75, u76, u77, u78, u79, u80, u81, u82, u83, u84, u85, u86, u87, u88, u89, u90, u91, u92, u93, u94, u95, u96, u97, u98, u99, u100, u101, u102, u103, u104, u105, u106, u107, u108, u109, u110, u111, u112, u113, u114, u115, u116, u117, u118, u119, u120, u121, u122, u123, u124, u125, u126, u127, u128, u129, u130, u131, u132, u133, u134, u135, u136, u137, u138, u139, u140, u141, u142, u143, u144, u145, u146, u147, u148, u149, u150, u151, u152, u153, u154, u155, u156, u157, u158, u159, u160, u161, u162, u163, u164, u165, u166, u167, u168, u169, u170, u171, u172, u173, u174, u175, u176, u177, u178, u179, u180, u181, u182, u183, u184, u185, u186, u187, u188, u189, u190, u191, u192, u193, u194, u195, u196, u197, u198, u199, u200, u201, u202, u203, u204, u205, u206, u207, u208, u209, u210, u211, u212, u213, u214, u215, u216, u217, u218, u219, u220, u221, u222, u223, u224, u225, u226, u227, u228, u229, u230, u231, u232, u233, u234, u235, u236, u237, u238, u239, u240, u241, u242, u243, u244, u245, u246, u247, u248, u249, u250, u251, u252, u253, u254, u255, u256, u257, u258, u259, u260, u261, u262, u263, u264, u265, u266, u267, u268, u269, u270, u271, u272, u273, u274, u275, u276, u277, u278, u279, u280], []⟩ W := by
  have H4 := hideH h4
  clear h4
  conv => arg 2; whnf
  go_wp2_with fail
  go_loop [17] (fun x17 => ∃ k : Nat, k ≤ D.nz ∧ x17 = .int .i64 k ∧ Hid (∀ j, j < k → ∀ i, i < (D.zs j).n → fmtB ((D.zs j).es i).fm = true)) (fun x17 => D.nz - (intOf x17).toNat)
  case atStart => exact ⟨0, Nat.zero_le _, rfl, fun j hj => by omega⟩
  case round =>
    obtain ⟨k, hk, rfl, HA⟩ := hrel
    obtain ⟨c0, c1, c2⟩ := cells3 HC.out
    by_cases hlt : k < D.nz
    · have hn4 := H4.out k hlt
      go_wp2_with fail
      clear c0 c1 c2
      go_loop [18] (fun x18 => ∃ i : Nat, i ≤ (D.zs k).n ∧ x18 = .int .i64 i ∧ Hid (∀ p, p < i → fmtB ((D.zs k).es p).fm = true)) (fun x18 => (D.zs k).n - (intOf x18).toNat)
      case atStart => exact ⟨0, Nat.zero_le _, rfl, fun p hp => by omega⟩
      case round =>
        obtain ⟨i, hi, rfl, HB⟩ := hrel
        obtain ⟨c0, c1, c2⟩ := cells3 HC.out
        rcases (HD.out.on HW.out).zones with h0 | ⟨b, off, hsa, hcs⟩
        · omega
        obtain ⟨d0, d1⟩ := hcs k hlt
        have hk0 : decide ((k : Int) < 0) = false := by simp
        have hkn : decide (D.nz ≤ k) = false := by simp; omega
        clear hcs d0
        by_cases hil : i < (D.zs k).n
        · rcases (HD.out.on HW.out).eras k hlt with h0 | ⟨be, offe, hea, hes⟩
          · omega
          obtain ⟨-, -, -, e3, -⟩ := hes i hil
          have d2 : W.cell? ⟨b, off + k * 2 + 1, none⟩ = some (.slice (some ⟨be, offe, none⟩) (D.zs k).n (D.zs k).c) := by rw [← hea]; exact d1
          have hi0 : decide ((i : Int) < 0) = false := by simp
          have hin : decide ((D.zs k).n ≤ i) = false := by simp; omega
          have HFm := hideH (RisFormat_c ((D.zs k).es i).fm W (HF.out.fm k hlt i hil))
          clear hes d1
          cases hq : fmtB ((D.zs k).es i).fm
          · rw [hq] at HFm
            have HX : Hid (V = 1) := HV.out (fun h => by have := h k hlt i hil; rw [hq] at this; cases this)
            clear hq
            go_wp2_with fail
            refine HFm.out.mono ?_
            rintro e w2 ⟨rfl, rfl⟩
            go_wp2_with fail
            go_ret
            exact ⟨ret_int HX.out.symm, HW.out⟩
          · rw [hq] at HFm
            have HB2 : Hid (∀ p, p < i + 1 → fmtB ((D.zs k).es p).fm = true) := fun p hp => by
              rcases Nat.lt_or_ge p i with h | h
              · exact HB.out p h
              · obtain rfl : p = i := by omega
                exact hq
            clear hq
            go_wp2_with fail
            refine HFm.out.mono ?_
            rintro e w2 ⟨rfl, rfl⟩
            go_wp2_with fail
            try simp only [← hsa]
            go_round
            case rel => exact ⟨i + 1, by omega, by go_num, HB2⟩
            case measure => simp [intOf]; omega
        · have HA2 : Hid (∀ j, j < k + 1 → ∀ p, p < (D.zs j).n → fmtB ((D.zs j).es p).fm = true) := fun j hj p hp => by
            rcases Nat.lt_or_ge j k with h | h
            · exact HA.out j h p hp
            · obtain rfl : j = k := by omega
              exact HB.out p (by omega)
          go_wp2_with fail
          exact ⟨⟨k + 1, by omega, by first | omega | go_num, HA2⟩, by simp [intOf]; omega⟩
    · have h12 := HN.out (fun j hj i hi => HA.out j (by omega) i hi)
      have H12 := hideH h12
      clear h12
      rename ∀ (a : Act) (w : World), _ → _ => hcont
      have HCONT := hideH hcont
      clear hcont
      go_wp2_with fail
      refine HCONT.out _ _ ?_
      exact H12.out W _ _ _ _ _ _ _ _ _ _ _ _ _ _ _ _ _ _ _ _ _ _ _ _ _ _ _ _ _ _ _ _ _ _ _ _ _ _ _ _ _ _ _ _ _ _ _ _ _ _ _ _ _ _ _ _ _ _ _ _ _ _ _ _ _ _ _ _ _ _ _ _ _ _ _ _ _ _ _ _ _ _ _ _ _ _ _ _ _ _ _ _ _ _ _ _ _ _ _ _ _ _ _ _ _ _ _ _ _ _ _ _ _ _ _ _ _ _ _ _ _ _ _ _ _ _ _ _ _ _ _ _ _ _ _ _ _ _ _ _ _ _ _ _ _ _ _ _ _ _ _ _ _ _ _ _ _ _ _ _ _ _ _ _ _ _ _ _ _ _ _ _ _ _ _ _ _ _ _ _ _ _ _ _ _ _ _ _ _ _ _ _ _ _ _ _ _ _ _ _ _ _ _ _ _ _ _ _ _ _ _ _ _ _ _ _ _ _ _ _ _ _ _ _ _ _ _ _ _ _ _ _ _ _ _ _ _ _ _ _ _ _ _ _ _ _ _ _ _ _ _ _ _ _ _ _ _ _ _ _ _ _ _ _ _ _ _ _ _ _ _ _ _ _ _ _ _ _ _ _ HW HC
end Go.Proofs.YtcdokhjmpkcpnabDoor
