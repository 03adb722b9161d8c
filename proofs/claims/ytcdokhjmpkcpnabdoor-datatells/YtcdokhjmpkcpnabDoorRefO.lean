/- The document's own CheckData: names that are told twice. -/
import Derived.Test.YtcdokhjmpkcpnabDoorRefN
namespace Go.Proofs.YtcdokhjmpkcpnabDoor
open Go Go.RowKit Go.Maps
set_option linter.unusedVariables false

theorem twice_none (a : Option Addr) (c : Nat) (nm : Nat → ByteArray) (w : World) : Calls Tryd.prog 49 #[.slice a 0 c] w fun e w' => e = .returned (.bool (!decide (dist nm 0))) ∧ Below w.heap.size w w' := by
  have hd : dist nm 0 := fun i hi => by omega
  rw [decide_eq_true hd]
  go_enter Tryd.func49, Tryd.ntmps49
  go_wp2_with fail
  go_loop [3] (fun x3 => x3 = .int .i64 0) (fun _ => 0)
  case atStart => rfl
  case round =>
    subst hrel
    go_wp2_with fail
    go_ret
    exact ⟨rfl, Below.refl _ _⟩
theorem twice_c (a : Option Addr) (n c : Nat) (nm : Nat → ByteArray) (w : World) (hR : P1 w a n (fun j => .string (nm j))) (hm : n ≤ maxLen) : Calls Tryd.prog 49 #[.slice a n c] w fun e w' => e = .returned (.bool (!decide (dist nm n))) ∧ Below w.heap.size w w' := by
  rcases hR with rfl | ⟨b, off, rfl, h⟩
  · exact twice_none a c nm w
  · exact twice_some b off n c nm w h hm
set_option maxRecDepth 1000000 in
/-- what is left behind the names -/
def CD9 (D : Dt) (w : World) (V : Int) : Prop := ∀ (W : World) (u0 u2 u3 u4 u5 u6 u7 u8 u9 u10 u11 u12 u13 u14 u15 u16 u17 u18 u19 u20 u21 u22 u23 u24 u25 u26 u27 u28 u29 u30 u31 u32 u33 u34 u35 u36 u37 u38 u39 u40 u41 u42 u43 u44 u45 u46 u47 u48 u49 u50 u51 u52 u53 u54 u55 u56 u57 u58 u59 u60 u61 u62 u63 u64 u65 u66 u67 u68 u69 u70 u71 u72 u73 u74 u75 u76 u77 u78 u79 u80 u81 u82 u83 u84 u85 u86 u87 u88 u89 u90 u91 u92 u93 u94 u95 u96 u97 u98 u99 u100 u101 u102 u103 u104 u105 u106 u107 u108 u109 u110 u111 u112 u113 u114 u115 u116 u117 u118 u119 u120 u121 u122 u123 u124 u125 u126 u127 u128 u129 u130 u131 u132 u133 u134 u135 u136 u137 u138 u139 u140 u141 u142 u143 u144 u145 u146 u147 u148 u149 u150 u151 u152 u153 u154 u155 u156 u157 u158 u159 u160 u161 u162 u163 u164 u165 u166 u167 u168 u169 u170 u171 u172 u173 u174 u175 u176 u177 u178 u179 u180 u181 u182 u183 u184 u185 u186 u187 u188 u189 u190 u191 u192 u193 u194 u195 u196 u197 u198 u199 u200 u201 u202 u203 u204 u205 u206 u207 u208 u209 u210 u211 u212 u213 u214 u215 u216 u217 u218 u219 u220 u221 u222 u223 u224 u225 u226 u227 u228 u229 u230 u231 u232 u233 u234 u235 u236 u237 u238 u239 u240 u241 u242 u243 u244 u245 u246 u247 u248 u249 u250 u251 u252 u253 u254 u255 u256 u257 u258 u259 u260 u261 u262 u263 u264 u265 u266 u267 u268 u269 u270 u271 u272 u273 u274 u275 u276 u277 u278 u279 u280 : Value), Hid (Below w.heap.size w W) → Hid (W.heap[w.heap.size]? = some (.cells #[.slice D.sa D.ns D.sc, .slice D.za D.nz D.zc, .slice D.la D.nl D.lc] 43)) → Code.wp Tryd.prog (ctl 9 (Tryd.f21.body.getD .skip)) (bodyPost Tryd.prog Tryd.f21 fun e w' => e = .returned (.int .i64 V) ∧ Below w.heap.size w w') ⟨#[u0, .pointer (some ⟨w.heap.size, 0, none⟩), u2, u3, u4, u5, u6, u7, u8, u9, u10, u11, u12, u13, u14, u15, u16, u17, u18, u19, u20, u21, u22, u23, u24, u25, u26, u27, u28, u29, u30, u31, u32, u33, u34, u35, u36, u37, u38, u39, u40, u41, u42, u43, u44, u45, u46, u47, u48, u49, u50, u51, u52, u53, u54, u55, u56, u57, u58, u59, u60, u61, u62, u63, u64, u65, u66, u67, u68, u69, u70, u71, u72, u73, u74, u75, u76, u77, u78, u79, u80, u81, u82, u83, u84, u85, u86, u87, u88, u89, u90, u91, u92, u93, u94, u95, u96, u97, u98, u99, u100, u101, u102, u103, u104, u105, u106, u107, u108, u109, u110, u111, u112, u113, u114, u115, u116, u117, u118, u119, u120, u121, u122, u123, u124, u125, u126, u127, u128, u129, u130, u131, u132, u133, u134, u135, u136, u137, u138, u139, u140, u141, u142, u143, u144, u145, u146, u147, u148, u149, u150, u151, u152, u153, u154, u155, u156, u157, u158, u159, u160, u161, u162, u163, u164, u165, u166, u167, u168, u169, u170, u171, u172, u173, u174, u175, u176, u177, u178, u179, u180, u181, u182, u183, u184, u185, u186, u187, u188, u189, u190, u191, u192, u193, u194, u195, u196, u197, u198, u199, u200, u201, u202, u203, u204, u205, u206, u207, u208, u209, u210, u211, u212, u213, u214, u215, u216, u217, u218, u219, u220, u221, u222, u223, u224, u225, u226, u227, u228, u229, u230, u231, u232, u233, u234, u235, u236, u237, u238, u239, u240, u241, u242, u243, u244, u245, u246, u247, u248, u249, u250, u251, u252, u253, u254, u255, u256, u257, u258, u259, u260, u261, u262, u263, u264, u265, u266, u267, u268, u269, u270, u271, u272, u273, u274, u275, u276, u277, u278, u279, u280], []⟩ W
set_option maxRecDepth 1000000 in
set_option maxHeartbeats 4000000 in
theorem cd8 {D : Dt} {w W : World} {V : Int} {a3 a4 : Option Addr} {q3 q4 : Nat} {u0 u2 u5 u6 u7 u8 u9 u10 u11 u12 u13 u14 u15 u16 u17 u18 u19 u20 u21 u22 u23 u24 u25 u26 u27 u28 u29 u30 u31 u32 u33 u34 u35 u36 u37 u38 u39 u40 u41 u42 u43 u44 u45 u46 u47 u48 u49 u50 u51 u52 u53 u54 u55 u56 u57 u58 u59 u60 u61 u62 u63 u64 u65 u66 u67 u68 u69 u70 u71 u72 u73 u74 u75 u76 u77 u78 u79 u80 u81 u82 u83 u84 u85 u86 u87 u88 u89 u90 u91 u92 u93 u94 u95 u96 u97 u98 u99 u100 u101 u102 u103 u104 u105 u106 u107 u108 u109 u110 u111 u112 u113 u114 u115 u116 u117 u118 u119 u120 u121 u122 u123 u124 u125 u126 u127 u128 u129 u130 u131 u132 u133 u134 u135 u136 u137 u138 u139 u140 u141 u142 u143 u144 u145 u146 u147 u148 u149 u150 u151 u152 u153 u154 u155 u156 u157 u158 u159 u160 u161 u162 u163 u164 u165 u166 u167 u168 u169 u170 u171 u172 u173 u174 u175 u176 u177 u178 u179 u180 u181 u182 u183 u184 u185 u186 u187 u188 u189 u190 u191 u192 u193 u194 u195 u196 u197 u198 u199 u200 u201 u202 u203 u204 u205 u206 u207 u208 u209 u210 u211 u212 u213 u214 u215 u216 u217 u218 u219 u220 u221 u222 u223 u224 u225 u226 u227 u228 u229 u230 u231 u232 u233 u234 u235 u236 u237 u238 u239 u240 u241 u242 u243 u244 u245 u246 u247 u248 u249 u250 u251 u252 u253 u254 u255 u256 u257 u258 u259 u260 u261 u262 u263 u264 u265 u266 u267 u268 u269 u270 u271 u272 u273 u274 u275 u276 u277 u278 u279 u280 : Value} (h3 : D.ns ≤ 3) (h9 : D.nz + D.nl ≤ 9) (HW : Hid (Below w.heap.size w W)) (HC : Hid (W.heap[w.heap.size]? = some (.cells #[.slice D.sa D.ns D.sc, .slice D.za D.nz D.zc, .slice D.la D.nl D.lc] 43)))
    (R3 : Hid (P1 W a3 D.ns (fun j => .string (D.ss j).nm))) (R4 : Hid (P1 W a4 (D.nz + D.nl) (fun j => .string (nms D j))))
    (HN : Hid (dist (fun j => (D.ss j).nm) D.ns → dist (nms D) (D.nz + D.nl) → CD9 D w V)) (HV : Hid (¬ (dist (fun j => (D.ss j).nm) D.ns ∧ dist (nms D) (D.nz + D.nl)) → V = 6)) :
    Code.wp Tryd.prog (ctl 8 (Tryd.f21.body.getD .skip)) (bodyPost Tryd.prog Tryd.f21 fun e w' => e = .returned (.int .i64 V) ∧ Below w.heap.size w w') ⟨#[u0, .pointer (some ⟨w.heap.size, 0, none⟩), u2, .slice a3 D.ns q3, .slice a4 (D.nz + D.nl) q4, u5, u6, u7, u8, u9, u10, u11, u12, u13, u14, u15, u16, u17, u18, u19, u20, u21, u22, u23, u24, u25, u26, u27, u28, u29, u30, u31, u32, u33, u34, u35, u36, u37, u38, u39, u40, u41, u42, u43, u44, u45, u46, u47, u48, u49, u50, u51, u52, u53, u54, u55, u56, u57, u58, u59, u60, u61, u62, u63, u64, u65, u66, u67, u68, u69, u70, u71, u72, u73, u74, u75, u76, u77, u78, u79, u80, u81, u82, u83, u84, u85, u86, u87, u88, u89, u90, u91, u92, u93, u94, u95, u96, u97, u98, u99, u100, u101, u102, u103, u104, u105, u106, u107, u108, u109, u110, u111, u112, u113, u114, u115, u116, u117, u118, u119, u120, u121, u122, u123, u124, u125, u126, u127, u128, u129, u130, u131, u132, u133, u134, u135, u136, u137, u138, u139, u140, u141, u142, u143, u144, u145, u146, u147, u148, u149, u150, u151, u152, u153, u154, u155, u156, u157, u158, u159, u160, u161, u162, u163, u164, u165, u166, u167, u168, u169, u170, u171, u172, u173, u174, u175, u176, u177, u178, u179, u180, u181, u182, u183, u184, u185, u186, u187, u188, u189, u190, u191, u192, u193, u194, u195, u196, u197, u198, u199, u200, u201, u202, u203, u204, u205, u206, u207, u208, u209, u210, u211, u212, u213, u214, u215, u216, u217, u218, u219, u220, u221, u222, u223, u224, u225, u226, u227, u228, u229, u230, u231, u232, u233, u234, u235, u236, u237, u238, u239, u240, u241, u242, u243, u244, u245, u246, u247, u248, u249, u250, u251, u252, u253, u254, u255, u256, u257, u258, u259, u260, u261, u262, u263, u264, u265, u266, u267, u268, u269, u270, u271, u272, u273, u274, u275, u276, u277, u278, u279, u280], []⟩ W := by
  have T3 : Hid (∀ v, P1 v a3 D.ns (fun j => .string (D.ss j).nm) → Calls Tryd.prog 49 #[.slice a3 D.ns q3] v fun e w' => e = .returned (.bool (!decide (dist (fun j => (D.ss j).nm) D.ns))) ∧ Below v.heap.size v w') := fun v hv => twice_c a3 D.ns q3 (fun j => (D.ss j).nm) v hv (by unfold maxLen; omega)
  have T4 : Hid (∀ v, P1 v a4 (D.nz + D.nl) (fun j => .string (nms D j)) → Calls Tryd.prog 49 #[.slice a4 (D.nz + D.nl) q4] v fun e w' => e = .returned (.bool (!decide (dist (nms D) (D.nz + D.nl)))) ∧ Below v.heap.size v w') := fun v hv => twice_c a4 (D.nz + D.nl) q4 (nms D) v hv (by unfold maxLen; omega)
  conv => arg 2; whnf
  by_cases d3 : dist (fun j => (D.ss j).nm) D.ns
  · rw [decide_eq_true d3] at T3
    by_cases d4 : dist (nms D) (D.nz + D.nl)
    · rw [decide_eq_true d4] at T4
      have H9 := hideH (HN.out d3 d4)
      clear HN HV d3 d4
      go_wp2_with fail
      refine (T3.out _ R3.out).mono ?_
      rintro e w1 ⟨rfl, hw1⟩
      have H1 := hideH (bthen HW.out hw1)
      have C1 := hideH (heap_on HC.out hw1)
      have R1 := hideH (R4.out.on hw1)
      clear hw1 HW HC R3 R4
      go_wp2_with fail
      refine (T4.out _ R1.out).mono ?_
      rintro e w2 ⟨rfl, hw2⟩
      have H2 := hideH (bthen H1.out hw2)
      have C2 := hideH (heap_on C1.out hw2)
      clear hw2 H1 C1 R1
      rename ∀ (a : Act) (w : World), _ → _ => hc1
      revert hc1
      rename ∀ (a : Act) (w : World), _ → _ => hc2
      revert hc2
      rename ∀ (a : Act) (w : World), _ → _ => hcont
      have HCONT := hideH hcont
      clear hcont
      intro hc2 hc1
      go_wp2_with fail
      refine HCONT.out _ _ ?_
      exact H9.out w2 _ _ _ _ _ _ _ _ _ _ _ _ _ _ _ _ _ _ _ _ _ _ _ _ _ _ _ _ _ _ _ _ _ _ _ _ _ _ _ _ _ _ _ _ _ _ _ _ _ _ _ _ _ _ _ _ _ _ _ _ _ _ _ _ _ _ _ _ _ _ _ _ _ _ _ _ _ _ _ _ _ _ _ _ _ _ _ _ _ _ _ _ _ _ _ _ _ _ _ _ _ _ _ _ _ _ _ _ _ _ _ _ _ _ _ _ _ _ _ _ _ _ _ _ _ _ _ _ _ _ _ _ _ _ _ _ _ _ _ _ _ _ _ _ _ _ _ _ _ _ _ _ _ _ _ _ _ _ _ _ _ _ _ _ _ _ _ _ _ _ _ _ _ _ _ _ _ _ _ _ _ _ _ _ _ _ _ _ _ _ _ _ _ _ _ _ _ _ _ _ _ _ _ _ _ _ _ _ _ _ _ _ _ _ _ _ _ _ _ _ _ _ _ _ _ _ _ _ _ _ _ _ _ _ _ _ _ _ _ _ _ _ _ _ _ _ _ _ _ _ _ _ _ _ _ _ _ _ _ _ _ _ _ _ _ _ _ _ _ _ _ _ _ _ _ _ _ _ _ _ H2 C2
    · rw [decide_eq_false d4] at T4
      have HX : Hid (V = 6) := HV.out (fun h => d4 h.2)
      clear HN HV d3 d4
      go_wp2_with fail
      refine (T3.out _ R3.out).mono ?_
      rintro e w1 ⟨rfl, hw1⟩
      have H1 := hideH (bthen HW.out hw1)
      have R1 := hideH (R4.out.on hw1)
      clear hw1 HW HC R3 R4
      go_wp2_with fail
      refine (T4.out _ R1.out).mono ?_
      rintro e w2 ⟨rfl, hw2⟩
      have H2 := hideH (bthen H1.out hw2)
      clear hw2 H1 R1
      go_wp2_with fail
      go_ret
      exact ⟨ret_int HX.out.symm, H2.out⟩
  · rw [decide_eq_false d3] at T3
    have HX : Hid (V = 6) := HV.out (fun h => d3 h.1)
    clear HN HV d3
    go_wp2_with fail
    refine (T3.out _ R3.out).mono ?_
    rintro e w1 ⟨rfl, hw1⟩
    have H1 := hideH (bthen HW.out hw1)
    clear hw1 HW HC R3 R4
    go_wp2_with fail
    go_ret
    exact ⟨ret_int HX.out.symm, H1.out⟩
end Go.Proofs.YtcdokhjmpkcpnabDoor
