/- The document's own CheckData: the names of links. -/
import Derived.Test.YtcdokhjmpkcpnabDoorRefP
import Derived.Deep.AppendLies
import Derived.Deep.RegionHeldLaw
namespace Go.Proofs.YtcdokhjmpkcpnabDoor
open Go Go.RowKit Go.Maps
set_option linter.unusedVariables false

/-- two rows of the call's own that share no block -/
def ap (u v : Value) : Prop := ∀ g, u.ownBlock = some g → v.ownBlock ≠ some g
theorem own_lt {w : World} {base n size : Nat} {e : TypeId} {v : Value} {xs : List Value} (h : w.ownsRow base e size v n xs) {g : Nat} (hg : v.ownBlock = some g) : base ≤ g ∧ g < w.heap.size := by
  rcases h.2 with ⟨rfl, _⟩ | ⟨g', cap, cur, rfl, hb, hh, _⟩
  · simp [Value.ownBlock] at hg
  · obtain rfl : g' = g := by simpa [Value.ownBlock] using hg
    exact ⟨hb, (Array.getElem?_eq_some_iff.1 hh).1⟩
theorem own_far {w w' : World} {base n size : Nat} {e : TypeId} {u v : Value} {xs : List Value} (h : w.ownsRow base e size u n xs) (hg : w.grownBy w' v.ownBlock) (ha : ap u v) : w'.ownsRow base e size u n xs :=
  h.kept hg (by
    cases hu : u.ownBlock with
    | none => exact .inl rfl
    | some g => exact .inr (fun e => ha g hu e.symm))
theorem ap_new {w : World} {base n size m cap g H : Nat} {e : TypeId} {u v : Value} {xs : List Value} (h : w.ownsRow base e size u n xs) (ha : ap u v) (hat : v.ownBlock = some g ∨ g = H) (hH : w.heap.size ≤ H) : ap u (.slice (some ⟨g, 0, none⟩) m cap) := by
  intro k hk hx
  obtain rfl : g = k := by simpa [Value.ownBlock] using hx
  rcases hat with h1 | h1
  · exact ha g hk h1
  · have := own_lt h hk; omega
theorem ap_symm {u v : Value} (h : ap u v) : ap v u := fun g hg hx => h g hx hg
theorem ap_nil (u : Value) : ap u (.slice none 0 0) := fun g _ hx => by simp [Value.ownBlock] at hx
theorem box_grown {w W w1 : World} {base n size : Nat} {e : TypeId} {v : Value} {xs : List Value} {o : Obj} (hB : W.heap[w.heap.size]? = some o) (h : W.ownsRow (w.heap.size + 1) e size v n xs) (hg : W.grownBy w1 v.ownBlock) : w1.heap[w.heap.size]? = some o := by
  rw [hg.block w.heap.size (Array.getElem?_eq_some_iff.1 hB).1 (fun e => by have := (own_lt h e.symm).1; omega)]
  exact hB
theorem below_grown {w W w1 : World} {n size : Nat} {e : TypeId} {v : Value} {xs : List Value} (hB : Below w.heap.size w W) (h : W.ownsRow (w.heap.size + 1) e size v n xs) (hg : W.grownBy w1 v.ownBlock) : Below w.heap.size w w1 :=
  hB.grown hg hB.size (fun k hk => by have := (own_lt h hk).1; omega)
theorem box_alloc {W : World} {b : Nat} {o : Obj} (h : W.heap[b]? = some o) (x : Obj) : (W.alloc x).heap[b]? = some o := heap_on h ((Below.refl _ W).alloc (Nat.le_refl _) x)
theorem row_two (n : Nat) (f : Nat → Value) {x y : Value} (hx : x = f n) (hy : y = f (n + 1)) : (List.range n).map f ++ [x, y] = (List.range (n + 2)).map f := by
  rw [List.range_succ, List.range_succ, hx, hy]; simp
theorem row_one (n : Nat) (f : Nat → Value) {x : Value} (hx : x = f n) : (List.range n).map f ++ [x] = (List.range (n + 1)).map f := by
  rw [List.range_succ, hx]; simp
/-- all names, in the order in which the document's own answer gathers them -/
def alN (D : Dt) (j : Nat) : ByteArray := if j < D.ns then (D.ss j).nm else if j < D.ns + D.nz then (D.zs (j - D.ns)).nm else if (j - (D.ns + D.nz)) % 2 = 0 then (D.ls ((j - (D.ns + D.nz)) / 2)).nm else (D.ls ((j - (D.ns + D.nz)) / 2)).to
theorem alN_nm (D : Dt) (k : Nat) : alN D (D.ns + D.nz + 2 * k) = (D.ls k).nm := by
  unfold alN
  rw [if_neg (by omega), if_neg (by omega), if_pos (by omega), show (D.ns + D.nz + 2 * k - (D.ns + D.nz)) / 2 = k by omega]
theorem alN_to (D : Dt) (k : Nat) : alN D (D.ns + D.nz + 2 * k + 1) = (D.ls k).to := by
  unfold alN
  rw [if_neg (by omega), if_neg (by omega), if_neg (by omega), show (D.ns + D.nz + 2 * k + 1 - (D.ns + D.nz)) / 2 = k by omega]
theorem nms_link (D : Dt) (k : Nat) : nms D (D.nz + k) = (D.ls k).nm := by
  unfold nms
  rw [if_neg (by omega), show D.nz + k - D.nz = k by omega]
set_option maxRecDepth 1000000 in
/-- what is left behind the names of links -/
def CD7 (D : Dt) (w : World) (V : Int) : Prop := ∀ (W : World) (a3 a4 : Option Addr) (q3 q4 q7 b7 : Nat) (u0 u2 u5 u6 u8 u9 u10 u11 u12 u13 u14 u15 u16 u17 u18 u19 u20 u21 u22 u23 u24 u25 u26 u27 u28 u29 u30 u31 u32 u33 u34 u35 u36 u37 u38 u39 u40 u41 u42 u43 u44 u45 u46 u47 u48 u49 u50 u51 u52 u53 u54 u55 u56 u57 u58 u59 u60 u61 u62 u63 u64 u65 u66 u67 u68 u69 u70 u71 u72 u73 u74 u75 u76 u77 u78 u79 u80 u81 u82 u83 u84 u85 u86 u87 u88 u89 u90 u91 u92 u93 u94 u95 u96 u97 u98 u99 u100 u101 u102 u103 u104 u105 u106 u107 u108 u109 u110 u111 u112 u113 u114 u115 u116 u117 u118 u119 u120 u121 u122 u123 u124 u125 u126 u127 u128 u129 u130 u131 u132 u133 u134 u135 u136 u137 u138 u139 u140 u141 u142 u143 u144 u145 u146 u147 u148 u149 u150 u151 u152 u153 u154 u155 u156 u157 u158 u159 u160 u161 u162 u163 u164 u165 u166 u167 u168 u169 u170 u171 u172 u173 u174 u175 u176 u177 u178 u179 u180 u181 u182 u183 u184 u185 u186 u187 u188 u189 u190 u191 u192 u193 u194 u195 u196 u197 u198 u199 u200 u201 u202 u203 u204 u205 u206 u207 u208 u209 u210 u211 u212 u213 u214 u215 u216 u217 u218 u219 u220 u221 u222 u223 u224 u225 u226 u227 u228 u229 u230 u231 u232 u233 u234 u235 u236 u237 u238 u239 u240 u241 u242 u243 u244 u245 u246 u247 u248 u249 u250 u251 u252 u253 u254 u255 u256 u257 u258 u259 u260 u261 u262 u263 u264 u265 u266 u267 u268 u269 u270 u271 u272 u273 u274 u275 u276 u277 u278 u279 u280 : Value), Hid (Below w.heap.size w W) → Hid (W.heap[w.heap.size]? = some (.cells #[.slice D.sa D.ns D.sc, .slice D.za D.nz D.zc, .slice D.la D.nl D.lc] 43)) → Hid (P1 W a3 D.ns (fun j => .string (D.ss j).nm)) → Hid (P1 W a4 (D.nz + D.nl) (fun j => .string (nms D j))) → Hid (∀ j, j < D.ns + D.nz + 2 * D.nl → W.cell? ⟨b7, 0 + j, none⟩ = some (.string (alN D j))) → Code.wp Tryd.prog (ctl 7 (Tryd.f21.body.getD .skip)) (bodyPost Tryd.prog Tryd.f21 fun e w' => e = .returned (.int .i64 V) ∧ Below w.heap.size w w') ⟨#[u0, .pointer (some ⟨w.heap.size, 0, none⟩), u2, .slice a3 D.ns q3, .slice a4 (D.nz + D.nl) q4, u5, u6, .slice (some ⟨b7, 0, none⟩) (D.ns + D.nz + 2 * D.nl) q7, u8, u9, u10, u11, u12, u13, u14, u15, u16, u17, u18, u19, u20, u21, u22, u23, u24, u25, u26, u27, u28, u29, u30, u31, u32, u33, u34, u35, u36, u37, u38, u39, u40, u41, u42, u43, u44, u45, u46, u47, u48, u49, u50, u51, u52, u53, u54, u55, u56, u57, u58, u59, u60, u61, u62, u63, u64, u65, u66, u67, u68, u69, u70, u71, u72, u73, u74, u75, u76, u77, u78, u79, u80, u81, u82, u83, u84, u85, u86, u87, u88, u89, u90, u91, u92, u93, u94, u95, u96, u97, u98, u99, u100, u101, u102, u103, u104, u105, u106, u107, u108, u109, u110, u111, u112, u113, u114, u115, u116, u117, u118, u119, u120, u121, u122, u123, u124, u125, u126, u127, u128, u129, u130, u131, u132, u133, u134, u135, u136, u137, u138, u139, u140, u141, u142, u143, u144, u145, u146, u147, u148, u149, u150, u151, u152, u153, u154, u155, u156, u157, u158, u159, u160, u161, u162, u163, u164, u165, u166, u167, u168, u169, u170, u171, u172, u173, u174, u175, u176, u177, u178, u179, u180, u181, u182, u183, u184, u185, u186, u187, u188, u189, u190, u191, u192, u193, u194, u195, u196, u197, u198, u199, u200, u201, u202, u203, u204, u205, u206, u207, u208, u209, u210, u211, u212, u213, u214, u215, u216, u217, u218, u219, u220, u221, u222, u223, u224, u225, u226, u227, u228, u229, u230, u231, u232, u233, u234, u235, u236, u237, u238, u239, u240, u241, u242, u243, u244, u245, u246, u247, u248, u249, u250, u251, u252, u253, u254, u255, u256, u257, u258, u259, u260, u261, u262, u263, u264, u265, u266, u267, u268, u269, u270, u271, u272, u273, u274, u275, u276, u277, u278, u279, u280], []⟩ W
set_option maxRecDepth 1000000 in
set_option maxHeartbeats 4000000 in
theorem cd6 {D : Dt} {w W : World} {V : Int} {v3 v4 : Value} {g7 q7 : Nat} {u0 u2 u5 u6 u8 u9 u10 u11 u12 u13 u14 u15 u16 u17 u18 u19 u20 u21 u22 u23 u24 u25 u26 u27 u28 u29 u30 u31 u32 u33 u34 u35 u36 u37 u38 u39 u40 u41 u42 u43 u44 u45 u46 u47 u48 u49 u50 u51 u52 u53 u54 u55 u56 u57 u58 u59 u60 u61 u62 u63 u64 u65 u66 u67 u68 u69 u70 u71 u72 u73 u74 u75 u76 u77 u78 u79 u80 u81 u82 u83 u84 u85 u86 u87 u88 u89 u90 u91 u92 u93 u94 u95 u96 u97 u98 u99 u100 u101 u102 u103 u104 u105 u106 u107 u108 u109 u110 u111 u112 u113 u114 u115 u116 u117 u118 u119 u120 u121 u122 u123 u124 u125 u126 u127 u128 u129 u130 u131 u132 u133 u134 u135 u136 u137 u138 u139 u140 u141 u142 u143 u144 u145 u146 u147 u148 u149 u150 u151 u152 u153 u154 u155 u156 u157 u158 u159 u160 u161 u162 u163 u164 u165 u166 u167 u168 u169 u170 u171 u172 u173 u174 u175 u176 u177 u178 u179 u180 u181 u182 u183 u184 u185 u186 u187 u188 u189 u190 u191 u192 u193 u194 u195 u196 u197 u198 u199 u200 u201 u202 u203 u204 u205 u206 u207 u208 u209 u210 u211 u212 u213 u214 u215 u216 u217 u218 u219 u220 u221 u222 u223 u224 u225 u226 u227 u228 u229 u230 u231 u232 u233 u234 u235 u236 u237 u238 u239 u240 u241 u242 u243 u244 u245 u246 u247 u248 u249 u250 u251 u252 u253 u254 u255 u256 u257 u258 u259 u260 u261 u262 u263 u264 u265 u266 u267 u268 u269 u270 u271 u272 u273 u274 u275 u276 u277 u278 u279 u280 : Value} (h3 : D.ns ≤ 3) (h5 : D.nz ≤ 5) (h4 : D.nl ≤ 4) (HD : Hid (DAt w D)) (HW : Hid (Below w.heap.size w W)) (HC : Hid (W.heap[w.heap.size]? = some (.cells #[.slice D.sa D.ns D.sc, .slice D.za D.nz D.zc, .slice D.la D.nl D.lc] 43)))
    (O3 : Hid (W.ownsRow (w.heap.size + 1) 9 1 (v3) D.ns ((List.range (D.ns)).map fun j => .string ((D.ss j).nm)))) (O4 : Hid (W.ownsRow (w.heap.size + 1) 9 1 (v4) D.nz ((List.range (D.nz)).map fun j => .string (nms D j)))) (O7 : Hid (W.ownsRow (w.heap.size + 1) 9 1 (.slice (some ⟨g7, 0, none⟩) (D.ns + D.nz) q7) (D.ns + D.nz) ((List.range (D.ns + D.nz)).map fun j => .string (alN D j))))
    (A34 : Hid (ap v3 v4)) (A37 : Hid (ap v3 (.slice (some ⟨g7, 0, none⟩) (D.ns + D.nz) q7))) (A47 : Hid (ap v4 (.slice (some ⟨g7, 0, none⟩) (D.ns + D.nz) q7))) (H7 : Hid (CD7 D w V)) :
    Code.wp Tryd.prog (ctl 6 (Tryd.f21.body.getD .skip)) (bodyPost Tryd.prog Tryd.f21 fun e w' => e = .returned (.int .i64 V) ∧ Below w.heap.size w w') ⟨#[u0, .pointer (some ⟨w.heap.size, 0, none⟩), u2, v3, v4, u5, u6, .slice (some ⟨g7, 0, none⟩) (D.ns + D.nz) q7, u8, u9, u10, u11, u12, u13, u14, u15, u16, u17, u18, u19, u20, u21, u22, u23, u24, u25, u26, u27, u28, u29, u30, u31, u32, u33, u34, u35, u36, u37, u38, u39, u40, u41, u42, u43, u44, u45, u46, u47, u48, u49, u50, u51, u52, u53, u54, u55, u56, u57, u58, u59, u60, u61, u62, u63, u64, u65, u66, u67, u68, u69, u70, u71, u72, u73, u74, u75, u76, u77, u78, u79, u80, u81, u82, u83, u84, u85, u86, u87, u88, u89, u90, u91, u92, u93, u94, u95, u96, u97, u98, u99, u100, u101, u102, u103, u104, u105, u106, u107, u108, u109, u110, u111, u112, u113, u114, u115, u116, u117, u118, u119, u120, u121, u122, u123, u124, u125, u126, u127, u128, u129, u130, u131, u132, u133, u134, u135, u136, u137, u138, u139, u140, u141, u142, u143, u144, u145, u146, u147, u148, u149, u150, u151, u152, u153, u154, u155, u156, u157, u158, u159, u160, u161, u162, u163, u164, u165, u166, u167, u168, u169, u170, u171, u172, u173, u174, u175, u176, u177, u178, u179, u180, u181, u182, u183, u184, u185, u186, u187, u188, u189, u190, u191, u192, u193, u194, u195, u196, u197, u198, u199, u200, u201, u202, u203, u204, u205, u206, u207, u208, u209, u210, u211, u212, u213, u214, u215, u216, u217, u218, u219, u220, u221, u222, u223, u224, u225, u226, u227, u228, u229, u230, u231, u232, u233, u234, u235, u236, u237, u238, u239, u240, u241, u242, u243, u244, u245, u246, u247, u248, u249, u250, u251, u252, u253, u254, u255, u256, u257, u258, u259, u260, u261, u262, u263, u264, u265, u266, u267, u268, u269, u270, u271, u272, u273, u274, u275, u276, u277, u278, u279, u280], []⟩ W := by
  obtain ⟨i0, hi, hz0, hz1, hz2⟩ := info_parts info_str
  conv => arg 2; whnf
  go_wp2_with fail
  go_loopw [4, 7, 8] (fun x4 x7 x8 v => ∃ k : Nat, k ≤ D.nl ∧ x8 = .int .i64 k ∧ (∃ g q, x7 = .slice (some ⟨g, 0, none⟩) (D.ns + D.nz + 2 * k) q) ∧ Hid (v.ownsRow (w.heap.size + 1) 9 1 (v3) D.ns ((List.range (D.ns)).map fun j => .string ((D.ss j).nm))) ∧ Hid (v.ownsRow (w.heap.size + 1) 9 1 (x4) (D.nz + k) ((List.range (D.nz + k)).map fun j => .string (nms D j))) ∧ Hid (v.ownsRow (w.heap.size + 1) 9 1 (x7) (D.ns + D.nz + 2 * k) ((List.range (D.ns + D.nz + 2 * k)).map fun j => .string (alN D j))) ∧ Hid (ap v3 x4) ∧ Hid (ap v3 x7) ∧ Hid (ap x4 x7) ∧ Hid (Below w.heap.size w v) ∧ Hid (v.heap[w.heap.size]? = some (.cells #[.slice D.sa D.ns D.sc, .slice D.za D.nz D.zc, .slice D.la D.nl D.lc] 43))) (fun _ _ x8 _ => D.nl - (intOf x8).toNat)
  case atStart => exact ⟨0, Nat.zero_le _, rfl, ⟨g7, q7, rfl⟩, O3, O4, O7, A34, A37, A47, HW, HC⟩
  case round =>
    obtain ⟨k, hk, rfl, ⟨g, q, rfl⟩, Q3, Q4, Q7, B34, B37, B47, HW2, HC2⟩ := hrel
    obtain ⟨c0, c1, c2⟩ := cells3 HC2.out
    by_cases hlt : k < D.nl
    · rcases HD.out.links with h0 | ⟨b, off, hsa, hcs⟩
      · omega
      obtain ⟨d0, d1⟩ := hcs k hlt
      have hk0 : decide ((k : Int) < 0) = false := by simp
      have hkn : decide (D.nl ≤ k) = false := by simp; omega
      have hki : (k : Int) < (D.nl : Int) := by omega
      have c3 : wr.cell? ⟨w.heap.size, 2, none⟩ = some (.slice (some ⟨b, off, none⟩) D.nl D.lc) := by rw [← hsa]; exact c2
      have e0 := cell_on d0 HW2.out
      have hsz : w.heap.size < wr.heap.size := (Array.getElem?_eq_some_iff.1 HC2.out).1
      clear hcs c0 c1 c2
      have D0 := hideH d0
      have D1 := hideH d1
      have HSA := hideH hsa
      clear d0 d1 hsa
      go_wp2_with (at_builtin; refine wpList_append_lies _ rfl _ _ 73 rfl (w.heap.size + 1) 9 i0 (.string ⟨#[]⟩) 1 16 Tryd.underlying73 hi hz0 hz1 hz2 rfl (by decide) _ _ _ rfl (Q4.out.alloc _) ⟨wr.heap.size, 0, none⟩ 1 1 [.string (D.ls k).nm] rfl rfl (cell_one_new _ _ _) (by simp [Value.oneCell']) (by decide) (by unfold maxLen; omega) (by omega) (by simp; omega) _ rfl ?_; intro g4 q4 w1 hown hgrow hat hl1; refine Hid.out ?_)
      refine hideH ?_
      have H1 := hideH (below_grown (HW2.out.alloc (by omega) _) (Q4.out.alloc _) hgrow)
      have C1 := hideH (box_grown (base := 0) (box_alloc HC2.out _) (Q4.out.alloc _) hgrow)
      have S3 := hideH (own_far (Q3.out.alloc _) hgrow B34.out)
      have S7 := hideH (own_far (Q7.out.alloc _) hgrow (ap_symm B47.out))
      have S4 : Hid (w1.ownsRow (w.heap.size + 1) 9 1 (.slice (some ⟨g4, 0, none⟩) (D.nz + k + 1) q4) (D.nz + k + 1) ((List.range (D.nz + k + 1)).map fun j => .string (nms D j))) := by
        have h := hown
        rw [row_one (D.nz + k) (fun j => Value.string (nms D j)) (show Value.string (D.ls k).nm = _ by rw [nms_link])] at h
        exact h
      have E34 : Hid (ap v3 (.slice (some ⟨g4, 0, none⟩) (D.nz + k + 1) q4)) := ap_new (Q3.out.alloc (.cells #[.string (D.ls k).nm] 9)) B34.out hat (by simp)
      have E74 : Hid (ap (.slice (some ⟨g, 0, none⟩) (D.ns + D.nz + 2 * k) q) (.slice (some ⟨g4, 0, none⟩) (D.nz + k + 1) q4)) := ap_new (Q7.out.alloc (.cells #[.string (D.ls k).nm] 9)) (ap_symm B47.out) hat (by simp)
      clear hown hgrow hat c3 e0 Q3 Q4 Q7 B34 B47 HW2 HC2
      obtain ⟨x0, x1, x2⟩ := cells3 C1.out
      have c3 : w1.cell? ⟨w.heap.size, 2, none⟩ = some (.slice (some ⟨b, off, none⟩) D.nl D.lc) := by rw [← HSA.out]; exact x2
      have e0 := cell_on D0.out H1.out
      have e1 := cell_on D1.out H1.out
      have hb := hideH ((Below.refl _ w1).alloc (Nat.le_refl _) (.cells #[.string (D.ls k).nm, .string (D.ls k).to] 9))
      have hsz1 : w.heap.size < w1.heap.size := (Array.getElem?_eq_some_iff.1 C1.out).1
      clear x0 x1 x2
      go_wp2_with fail
      have hnew : Hid ((w1.alloc (.cells #[.string (D.ls k).nm, .string (D.ls k).to] 9)).heap[w1.heap.size]? = some (.cells #[.string (D.ls k).nm, .string (D.ls k).to] 9)) := heap_alloc_new w1 _
      go_region_held_law (fun v => v.cell? ⟨w.heap.size, 2, none⟩ = some (.slice (some ⟨b, off, none⟩) D.nl D.lc) ∧ v.cell? ⟨b, off + k * 2, none⟩ = some (.string (D.ls k).nm) ∧ v.cell? ⟨b, off + k * 2 + 1, none⟩ = some (.string (D.ls k).to))
        (first | (exact ⟨c3, e0, e1⟩) | (exact ⟨cell_on c3 hb.out.drew, cell_on e0 hb.out.drew, cell_on e1 hb.out.drew⟩) | (exact ⟨by rw [← HSA.out]; exact (cells3 C2.out).2.2, cell_on D0.out H2.out, cell_on D1.out H2.out⟩))
        (first | (refine step_append_lies _ rfl _ _ 73 rfl (w.heap.size + 1) 9 i0 (.string ⟨#[]⟩) 1 16 Tryd.underlying73 hi hz0 hz1 hz2 rfl (by decide) _ _ _ rfl (own_on S7.out hb.out.drew) ⟨w1.heap.size, 0, none⟩ 2 2 [.string (D.ls k).nm, .string (D.ls k).to] rfl rfl (World.news_of_block (w := (w1.alloc _).drew) hnew.out) (by simp [Value.oneCell']) (by decide) (by unfold maxLen; omega) (by omega) (by simp; omega) _ rfl ?_; intro g8 q8 w2 hown2 hgrow2 hat2 hl2; have H2 := hideH (below_grown (bthen H1.out hb.out.drew) (own_on S7.out hb.out.drew) hgrow2); have C2 := hideH (box_grown (base := 0) (heap_on C1.out hb.out.drew) (own_on S7.out hb.out.drew) hgrow2)))
      all_goals
        have U3 := hideH (own_far (own_on S3.out hb.out.drew) hgrow2 B37.out)
        have U4 := hideH (own_far (own_on S4.out hb.out.drew) hgrow2 (ap_symm E74.out))
        have U7 := hideH hown2
        have G37 : Hid (ap v3 (.slice (some ⟨g8, 0, none⟩) (D.ns + D.nz + 2 * k + 2) q8)) := ap_new (own_on S3.out hb.out.drew) B37.out hat2 (Nat.le_refl _)
        have G47 : Hid (ap (.slice (some ⟨g4, 0, none⟩) (D.nz + k + 1) q4) (.slice (some ⟨g8, 0, none⟩) (D.ns + D.nz + 2 * k + 2) q8)) := ap_new (own_on S4.out hb.out.drew) (ap_symm E74.out) hat2 (Nat.le_refl _)
        clear hown2 hgrow2 hat2
        go_wp2_with fail
        go_roundw
        case rel =>
          refine ⟨k + 1, by omega, by go_num, ⟨g8, q8, rfl⟩, U3, U4, ?_, E34, G37, G47, H2, C2⟩
          show World.ownsRow _ _ _ _ _ _ _
          have h := U7.out
          rw [row_two (D.ns + D.nz + 2 * k) (fun j => Value.string (alN D j)) (show Value.string (D.ls k).nm = _ by rw [alN_nm]) (show Value.string (D.ls k).to = _ by rw [alN_to])] at h
          exact h
        case measure => simp [intOf]; omega
    · obtain rfl : k = D.nl := by omega
      obtain ⟨a3, q3, rfl, _, P3⟩ := own_p1 Q3.out
      obtain ⟨a4, q4, rfl, _, P4⟩ := own_p1 Q4.out
      have HP3 := hideH P3
      have HP4 := hideH P4
      have R7 : Hid (∀ j, j < D.ns + D.nz + 2 * D.nl → wr.cell? ⟨g, 0 + j, none⟩ = some (.string (alN D j))) := by
        obtain ⟨a, c, e, _, h⟩ := own_p1 Q7.out
        obtain ⟨rfl, _, rfl⟩ := Value.slice.inj e
        rcases h with h | ⟨b, off, h1, h2⟩
        · intro j hj; omega
        · obtain ⟨rfl, rfl⟩ : g = b ∧ 0 = off := by simpa using h1
          exact h2
      clear P3 P4
      rename ∀ (a : Act) (w : World), _ → _ => hcont
      have HCONT := hideH hcont
      clear hcont
      go_wp2_with fail
      refine HCONT.out _ _ ?_
      exact H7.out wr a3 a4 q3 q4 q g _ _ _ _ _ _ _ _ _ _ _ _ _ _ _ _ _ _ _ _ _ _ _ _ _ _ _ _ _ _ _ _ _ _ _ _ _ _ _ _ _ _ _ _ _ _ _ _ _ _ _ _ _ _ _ _ _ _ _ _ _ _ _ _ _ _ _ _ _ _ _ _ _ _ _ _ _ _ _ _ _ _ _ _ _ _ _ _ _ _ _ _ _ _ _ _ _ _ _ _ _ _ _ _ _ _ _ _ _ _ _ _ _ _ _ _ _ _ _ _ _ _ _ _ _ _ _ _ _ _ _ _ _ _ _ _ _ _ _ _ _ _ _ _ _ _ _ _ _ _ _ _ _ _ _ _ _ _ _ _ _ _ _ _ _ _ _ _ _ _ _ _ _ _ _ _ _ _ _ _ _ _ _ _ _ _ _ _ _ _ _ _ _ _ _ _ _ _ _ _ _ _ _ _ _ _ _ _ _ _ _ _ _ _ _ _ _ _ _ _ _ _ _ _ _ _ _ _ _ _ _ _ _ _ _ _ _ _ _ _ _ _ _ _ _ _ _ _ _ _ _ _ _ _ _ _ _ _ _ _ _ _ _ _ _ _ _ _ _ _ _ _ _ _ _ _ _ HW2 HC2 HP3 HP4 R7
end Go.Proofs.YtcdokhjmpkcpnabDoor
