/- The document's own CheckData: eras. -/
import Derived.Test.YtcdokhjmpkcpnabDoorRefL
namespace Go.Proofs.YtcdokhjmpkcpnabDoor
open Go Go.RowKit Go.Maps
set_option linter.unusedVariables false

theorem cellsE5 {w : World} {b : Nat} {x y z u v : Value} {t : TypeId} (h : w.heap[b]? = some (.cells #[x, y, z, u, v] t)) : w.cell? ⟨b, 0, none⟩ = some x ∧ w.cell? ⟨b, 1, none⟩ = some y ∧ w.cell? ⟨b, 2, none⟩ = some z ∧ w.cell? ⟨b, 3, none⟩ = some u ∧ w.cell? ⟨b, 4, none⟩ = some v := by
  refine ⟨?_, ?_, ?_, ?_, ?_⟩ <;> simp [World.cell?, h]
set_option maxRecDepth 1000000 in
/-- what is left behind the eras -/
def CD11 (D : Dt) (w : World) (V : Int) : Prop := ∀ (W : World) (u0 u2 u3 u4 u5 u6 u7 u8 u9 u10 u11 u12 u13 u14 u15 u16 u17 u18 u19 u20 u21 u22 u23 u24 u25 u26 u27 u28 u29 u30 u31 u32 u33 u34 u35 u36 u37 u38 u39 u40 u41 u42 u43 u44 u45 u46 u47 u48 u49 u50 u51 u52 u53 u54 u55 u56 u57 u58 u59 u60 u61 u62 u63 u64 u65 u66 u67 u68 u69 u70 u71 u72 u73 u74 u75 u76 u77 u78 u79 u80 u81 u82 u83 u84 u85 u86 u87 u88 u89 u90 u91 u92 u93 u94 u95 u96 u97 u98 u99 u100 u101 u102 u103 u104 u105 u106 u107 u108 u109 u110 u111 u112 u113 u114 u115 u116 u117 u118 u119 u120 u121 u122 u123 u124 u125 u126 u127 u128 u129 u130 u131 u132 u133 u134 u135 u136 u137 u138 u139 u140 u141 u142 u143 u144 u145 u146 u147 u148 u149 u150 u151 u152 u153 u154 u155 u156 u157 u158 u159 u160 u161 u162 u163 u164 u165 u166 u167 u168 u169 u170 u171 u172 u173 u174 u175 u176 u177 u178 u179 u180 u181 u182 u183 u184 u185 u186 u187 u188 u189 u190 u191 u192 u193 u194 u195 u196 u197 u198 u199 u200 u201 u202 u203 u204 u205 u206 u207 u208 u209 u210 u211 u212 u213 u214 u215 u216 u217 u218 u219 u220 u221 u222 u223 u224 u225 u226 u227 u228 u229 u230 u231 u232 u233 u234 u235 u236 u237 u238 u239 u240 u241 u242 u243 u244 u245 u246 u247 u248 u249 u250 u251 u252 u253 u254 u255 u256 u257 u258 u259 u260 u261 u262 u263 u264 u265 u266 u267 u268 u269 u270 u271 u272 u273 u274 u275 u276 u277 u278 u279 u280 : Value), Hid (Below w.heap.size w W) → Hid (W.heap[w.heap.size]? = some (.cells #[.slice D.sa D.ns D.sc, .slice D.za D.nz D.zc, .slice D.la D.nl D.lc] 43)) → Code.wp Tryd.prog (ctl 11 (Tryd.f21.body.getD .skip)) (bodyPost Tryd.prog Tryd.f21 fun e w' => e = .returned (.int .i64 V) ∧ Below w.heap.size w w') ⟨#[u0, .pointer (some ⟨w.heap.size, 0, none⟩), u2, u3, u4, u5, u6, u7, u8, u9, u10, u11, u12, u13, u14, u15, u16, u17, u18, u19, u20, u21, u22, u23, u24, u25, u26, u27, u28, u29, u30, u31, u32, u33, u34, u35, u36, u37, u38, u39, u40, u41, u42, u43, u44, u45, u46, u47, u48, u49, u50, u51, u52, u53, u54, u55, u56, u57, u58, u59, u60, u61, u62, u63, u64, u65, u66, u67, u68, u69, u70, u71, u72, u73, u74, u75, u76, u77, u78, u79, u80, u81, u82, u83, u84, u85, u86, u87, u88, u89, u90, u91, u92, u93, u94, u95, u96, u97, u98, u99, u100, u101, u102, u103, u104, u105, u106, u107, u108, u109, u110, u111, u112, u113, u114, u115, u116, u117, u118, u119, u120, u121, u122, u123, u124, u125, u126, u127, u128, u129, u130, u131, u132, u133, u134, u135, u136, u137, u138, u139, u140, u141, u142, u143, u144, u145, u146, u147, u148, u149, u150, u151, u152, u153, u154, u155, u156, u157, u158, u159, u160, u161, u162, u163, u164, u165, u166, u167, u168, u169, u170, u171, u172, u173, u174, u175, u176, u177, u178, u179, u180, u181, u182, u183, u184, u185, u186, u187, u188, u189, u190, u191, u192, u193, u194, u195, u196, u197, u198, u199, u200, u201, u202, u203, u204, u205, u206, u207, u208, u209, u210, u211, u212, u213, u214, u215, u216, u217, u218, u219, u220, u221, u222, u223, u224, u225, u226, u227, u228, u229, u230, u231, u232, u233, u234, u235, u236, u237, u238, u239, u240, u241, u242, u243, u244, u245, u246, u247, u248, u249, u250, u251, u252, u253, u254, u255, u256, u257, u258, u259, u260, u261, u262, u263, u264, u265, u266, u267, u268, u269, u270, u271, u272, u273, u274, u275, u276, u277, u278, u279, u280], []⟩ W
set_option maxRecDepth 1000000 in
set_option maxHeartbeats 4000000 in
theorem cd10 {D : Dt} {w W : World} {V : Int} {u0 u2 u3 u4 u5 u6 u7 u8 u9 u10 u11 u12 u13 u14 u15 u16 u17 u18 u19 u20 u21 u22 u23 u24 u25 u26 u27 u28 u29 u30 u31 u32 u33 u34 u35 u36 u37 u38 u39 u40 u41 u42 u43 u44 u45 u46 u47 u48 u49 u50 u51 u52 u53 u54 u55 u56 u57 u58 u59 u60 u61 u62 u63 u64 u65 u66 u67 u68 u69 u70 u71 u72 u73 u74 u75 u76 u77 u78 u79 u80 u81 u82 u83 u84 u85 u86 u87 u88 u89 u90 u91 u92 u93 u94 u95 u96 u97 u98 u99 u100 u101 u102 u103 u104 u105 u106 u107 u108 u109 u110 u111 u112 u113 u114 u115 u116 u117 u118 u119 u120 u121 u122 u123 u124 u125 u126 u127 u128 u129 u130 u131 u132 u133 u134 u135 u136 u137 u138 u139 u140 u141 u142 u143 u144 u145 u146 u147 u148 u149 u150 u151 u152 u153 u154 u155 u156 u157 u158 u159 u160 u161 u162 u163 u164 u165 u166 u167 u168 u169 u170 u171 u172 u173 u174 u175 u176 u177 u178 u179 u180 u181 u182 u183 u184 u185 u186 u187 u188 u189 u190 u191 u192 u193 u194 u195 u196 u197 u198 u199 u200 u201 u202 u203 u204 u205 u206 u207 u208 u209 u210 u211 u212 u213 u214 u215 u216 u217 u218 u219 u220 u221 u222 u223 u224 u225 u226 u227 u228 u229 u230 u231 u232 u233 u234 u235 u236 u237 u238 u239 u240 u241 u242 u243 u244 u245 u246 u247 u248 u249 u250 u251 u252 u253 u254 u255 u256 u257 u258 u259 u260 u261 u262 u263 u264 u265 u266 u267 u268 u269 u270 u271 u272 u273 u274 u275 u276 u277 u278 u279 u280 : Value} (HD : Hid (DAt w D)) (HF : Hid D.fits) (h3 : D.ns ≤ 3) (h5 : D.nz ≤ 5) (h4 : ∀ j, j < D.nz → (D.zs j).n ≤ 4) (HW : Hid (Below w.heap.size w W)) (HC : Hid (W.heap[w.heap.size]? = some (.cells #[.slice D.sa D.ns D.sc, .slice D.za D.nz D.zc, .slice D.la D.nl D.lc] 43)))
    (HN : Hid (ersOK D → CD11 D w V)) (HV : Hid (¬ ersOK D → V = 3)) :
    Code.wp Tryd.prog (ctl 10 (Tryd.f21.body.getD .skip)) (bodyPost Tryd.prog Tryd.f21 fun e w' => e = .returned (.int .i64 V) ∧ Below w.heap.size w w') ⟨#[u0, .pointer (some ⟨w.heap.size, 0, none⟩), u2, u3, u4, u5, u6, u7, u8, u9, u10, u11, u12, u13, u14, u15, u16, u17, u18, u19, u20, u21, u22, u23, u24, u25, u26, u27, u28, u29, u30, u31, u32, u33, u34, u35, u36, u37, u38, u39, u40, u41, u42, u43, u44, u45, u46, u47, u48, u49, u50, u51, u52, u53, u54, u55, u56, u57, u58, u59, u60, u61, u62, u63, u64, u65, u66, u67, u68, u69, u70, u71, u72, u73, u74, u75, u76, u77, u78, u79, u80, u81, u82, u83, u84, u85, u86, u87, u88, u89, u90, u91, u92, u93, u94, u95, u96, u97, u98, u99, u100, u101, u102, u103, u104, u105, u106, u107, u108, u109, u110, u111, u112, u113, u114, u115, u116, u117, u118, u119, u120, u121, u122, u123, u124, u125, u126, u127, u128, u129, u130, u131, u132, u133, u134, u135, u136, u137, u138, u139, u140, u141, u142, u143, u144, u145, u146, u147, u148, u149, u150, u151, u152, u153, u154, u155, u156, u157, u158, u159, u160, u161, u162, u163, u164, u165, u166, u167, u168, u169, u170, u171, u172, u173, u174, u175, u176, u177, u178, u179, u180, u181, u182, u183, u184, u185, u186, u187, u188, u189, u190, u191, u192, u193, u194, u195, u196, u197, u198, u199, u200, u201, u202, u203, u204, u205, u206, u207, u208, u209, u210, u211, u212, u213, u214, u215, u216, u217, u218, u219, u220, u221, u222, u223, u224, u225, u226, u227, u228, u229, u230, u231, u232, u233, u234, u235, u236, u237, u238, u239, u240, u241, u242, u243, u244, u245, u246, u247, u248, u249, u250, u251, u252, u253, u254, u255, u256, u257, u258, u259, u260, u261, u262, u263, u264, u265, u266, u267, u268, u269, u270, u271, u272, u273, u274, u275, u276, u277, u278, u279, u280], []⟩ W := by
  have H4 := hideH h4
  clear h4
  conv => arg 2; whnf
  go_wp2_with fail
  go_loopw [13] (fun x13 v => ∃ k : Nat, k ≤ D.nz ∧ x13 = .int .i64 k ∧ Hid (Below w.heap.size w v) ∧ Hid (v.heap[w.heap.size]? = some (.cells #[.slice D.sa D.ns D.sc, .slice D.za D.nz D.zc, .slice D.la D.nl D.lc] 43)) ∧ Hid (∀ j, j < k → zoneOK D (D.zs j))) (fun x13 _ => D.nz - (intOf x13).toNat)
  case atStart => exact ⟨0, Nat.zero_le _, rfl, HW, HC, fun j hj => by omega⟩
  case round =>
    obtain ⟨k, hk, rfl, HW1, HC1, HA⟩ := hrel
    clear HW HC
    obtain ⟨c0, c1, c2⟩ := cells3 HC1.out
    by_cases hlt : k < D.nz
    · have hn4 := H4.out k hlt
      go_wp2_with fail
      clear c0 c1 c2
      go_loopw [14, 15] (fun x14 x15 v => ∃ i : Nat, i ≤ (D.zs k).n ∧ x15 = .int .i64 i ∧ x14 = .int .i64 (frm (D.zs k).es i) ∧ Hid (Below w.heap.size w v) ∧ Hid (v.heap[w.heap.size]? = some (.cells #[.slice D.sa D.ns D.sc, .slice D.za D.nz D.zc, .slice D.la D.nl D.lc] 43)) ∧ Hid (∀ p, p < i → ebnd ((D.zs k).es p) D.ns = true ∧ frm (D.zs k).es p < ((D.zs k).es p).un)) (fun _ x15 _ => (D.zs k).n - (intOf x15).toNat)
      case atStart => exact ⟨0, Nat.zero_le _, rfl, rfl, HW1, HC1, fun p hp => by omega⟩
      case round =>
        obtain ⟨i, hi, rfl, rfl, HW2, HC2, HB⟩ := hrel
        obtain ⟨c0, c1, c2⟩ := cells3 HC2.out
        rcases (HD.out.on HW2.out).zones with h0 | ⟨b, off, hsa, hcs⟩
        · omega
        obtain ⟨d0, d1⟩ := hcs k hlt
        have hk0 : decide ((k : Int) < 0) = false := by simp
        have hkn : decide (D.nz ≤ k) = false := by simp; omega
        clear hcs d0
        by_cases hil : i < (D.zs k).n
        · rcases (HD.out.on HW2.out).eras k hlt with h0 | ⟨be, offe, hea, hes⟩
          · omega
          obtain ⟨e0, e1, e2, e3, e4⟩ := hes i hil
          have d2 : wr.cell? ⟨b, off + k * 2 + 1, none⟩ = some (.slice (some ⟨be, offe, none⟩) (D.zs k).n (D.zs k).c) := by rw [← hea]; exact d1
          have hi0 : decide ((i : Int) < 0) = false := by simp
          have hin : decide ((D.zs k).n ≤ i) = false := by simp; omega
          have hEF : ∃ q : Bool, (q = false ∧ Hid (V = 3) ∨ q = true ∧ Hid (ebnd ((D.zs k).es i) D.ns = true ∧ frm (D.zs k).es i < ((D.zs k).es i).un)) ∧ ∀ v, Calls Tryd.prog 50 #[D.v, ((D.zs k).es i).v, .int .i64 (frm (D.zs k).es i)] v fun e w' => e = .returned (.bool q) ∧ Below v.heap.size v w' := by
            refine ⟨_, ?_, fun v => eraFine_c D ((D.zs k).es i) (frm (D.zs k).es i) v h3⟩
            cases hq : (ebnd ((D.zs k).es i) D.ns && decide (frm (D.zs k).es i < ((D.zs k).es i).un))
            · exact .inl ⟨rfl, HV.out (fun h => by have := (h k hlt).1 i hil; rw [this.1] at hq; simp at hq; omega)⟩
            · exact .inr ⟨rfl, hideH (by simpa using hq)⟩
          obtain ⟨q, hq, hEF⟩ := hEF
          simp only [Dt.v, hsa] at hEF
          have HEF := hideH hEF
          have hbl := cell_lt e0
          have hcl := cell_lt c0
          have hbx := hideH ((Below.refl _ wr).alloc (Nat.le_refl _) (.cells #[.int .i64 ((D.zs k).es i).std, .int .i64 ((D.zs k).es i).set, .int .i64 ((D.zs k).es i).sv, .string ((D.zs k).es i).fm, .int .i64 ((D.zs k).es i).un] 72))
          have hbn := hideH (World.alloc_heap_new wr (.cells #[.int .i64 ((D.zs k).es i).std, .int .i64 ((D.zs k).es i).set, .int .i64 ((D.zs k).es i).sv, .string ((D.zs k).es i).fm, .int .i64 ((D.zs k).es i).un] 72))
          clear hes d1 hEF
          rcases hq with ⟨rfl, HX⟩ | ⟨rfl, HQ⟩
          · go_wp2_with fail
            refine (HEF.out _).mono ?_
            rintro e w2 ⟨rfl, hw2⟩
            have H2 := hideH (bthen (bthen HW2.out hbx.out) hw2)
            clear hw2
            go_wp2_with fail
            go_ret
            exact ⟨ret_int HX.out.symm, H2.out⟩
          · have HB2 : Hid (∀ p, p < i + 1 → ebnd ((D.zs k).es p) D.ns = true ∧ frm (D.zs k).es p < ((D.zs k).es p).un) := fun p hp => by
              rcases Nat.lt_or_ge p i with h | h
              · exact HB.out p h
              · obtain rfl : p = i := by omega
                exact HQ.out
            go_wp2_with fail
            refine (HEF.out _).mono ?_
            rintro e w2 ⟨rfl, hw2⟩
            have H2 := hideH (bthen (bthen HW2.out hbx.out) hw2)
            have C2 := hideH (heap_on (heap_on HC2.out hbx.out) hw2)
            obtain ⟨y0, y1, y2, y3, y4⟩ := cellsE5 (heap_on hbn.out hw2)
            clear hw2 c0 c1 c2 e0 e1 e2 e3 e4 d2
            go_wp2_with fail
            try simp only [← hsa]
            go_roundw
            case rel => exact ⟨i + 1, by omega, by go_num, rfl, H2, C2, HB2⟩
            case measure => simp [intOf]; omega
        · obtain rfl : i = (D.zs k).n := by omega
          rcases beq_cases (frm (D.zs k).es (D.zs k).n) 1893456000 with ⟨q1, q2⟩ | ⟨q1, q2⟩
          · have HA2 : Hid (∀ j, j < k + 1 → zoneOK D (D.zs j)) := fun j hj => by
              rcases Nat.lt_or_ge j k with h | h
              · exact HA.out j h
              · obtain rfl : j = k := by omega
                exact ⟨HB.out, q2⟩
            have q3 : (frm (D.zs k).es (D.zs k).n != 1893456000) = false := by simp [q2]
            clear q2
            go_wp2_with fail
            try simp only [← hsa]
            go_roundw
            case rel => exact ⟨k + 1, by omega, by go_num, HW2, HC2, HA2⟩
            case measure => simp [intOf]; omega
          · have HX : Hid (V = 3) := HV.out (fun h => q2 (h k hlt).2)
            have q3 : (frm (D.zs k).es (D.zs k).n != 1893456000) = true := by rw [bne_iff_ne]; exact q2
            clear q2
            go_wp2_with fail
            go_ret
            exact ⟨ret_int HX.out.symm, HW2.out⟩
    · have H11 := hideH (HN.out (fun j hj => HA.out j (by omega)))
      rename ∀ (a : Act) (w : World), _ → _ => hcont
      have HCONT := hideH hcont
      clear hcont
      go_wp2_with fail
      refine HCONT.out _ _ ?_
      exact H11.out wr _ _ _ _ _ _ _ _ _ _ _ _ _ _ _ _ _ _ _ _ _ _ _ _ _ _ _ _ _ _ _ _ _ _ _ _ _ _ _ _ _ _ _ _ _ _ _ _ _ _ _ _ _ _ _ _ _ _ _ _ _ _ _ _ _ _ _ _ _ _ _ _ _ _ _ _ _ _ _ _ _ _ _ _ _ _ _ _ _ _ _ _ _ _ _ _ _ _ _ _ _ _ _ _ _ _ _ _ _ _ _ _ _ _ _ _ _ _ _ _ _ _ _ _ _ _ _ _ _ _ _ _ _ _ _ _ _ _ _ _ _ _ _ _ _ _ _ _ _ _ _ _ _ _ _ _ _ _ _ _ _ _ _ _ _ _ _ _ _ _ _ _ _ _ _ _ _ _ _ _ _ _ _ _ _ _ _ _ _ _ _ _ _ _ _ _ _ _ _ _ _ _ _ _ _ _ _ _ _ _ _ _ _ _ _ _ _ _ _ _ _ _ _ _ _ _ _ _ _ _ _ _ _ _ _ _ _ _ _ _ _ _ _ _ _ _ _ _ _ _ _ _ _ _ _ _ _ _ _ _ _ _ _ _ _ _ _ _ _ _ _ _ _ _ _ _ _ _ _ _ HW1 HC1
end Go.Proofs.YtcdokhjmpkcpnabDoor
