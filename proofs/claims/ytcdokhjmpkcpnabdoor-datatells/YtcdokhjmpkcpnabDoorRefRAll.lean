/- The document's own CheckData: all names but those of links, in a row of its own. -/
import Derived.Test.YtcdokhjmpkcpnabDoorRefQ
import Derived.Laws.AppendOwnNone
namespace Go.Proofs.YtcdokhjmpkcpnabDoor
open Go Go.RowKit Go.Maps
set_option linter.unusedVariables false

theorem alN_set {D : Dt} {j : Nat} (h : j < D.ns) : alN D j = (D.ss j).nm := by unfold alN; rw [if_pos h]
theorem alN_zone {D : Dt} {j : Nat} (h : j < D.nz) : alN D (D.ns + j) = nms D j := by
  unfold alN nms
  rw [if_neg (by omega), if_pos (by omega), if_pos h, show D.ns + j - D.ns = j by omega]
theorem row_cat (D : Dt) : ((List.range D.ns).map fun j => Value.string (D.ss j).nm) ++ ((List.range D.nz).map fun j => Value.string (nms D j)) = (List.range (D.ns + D.nz)).map fun j => Value.string (alN D j) := by
  rw [List.range_add, List.map_append, List.map_map]
  congr 1
  · exact List.map_congr_left fun j hj => by rw [alN_set (List.mem_range.1 hj)]
  · exact List.map_congr_left fun j hj => by show _ = Value.string (alN D (D.ns + j)); rw [alN_zone (List.mem_range.1 hj)]
theorem own_pos {w : World} {base n : Nat} {e : TypeId} {v : Value} {f : Nat → Value} (h : w.ownsRow base e 1 v n ((List.range n).map f)) (hn : 0 < n) : ∃ g c, v = .slice (some ⟨g, 0, none⟩) n c ∧ ∀ j u, ((List.range n).map f)[j]? = some u → w.cell? ((⟨g, 0, none⟩ : Addr).add j) = some u := by
  obtain ⟨g, c, rfl, _, _⟩ := h.form hn
  exact ⟨g, c, rfl, h.cells (g := g) rfl⟩
/-- a row, maybe a nil one, is appended -/
theorem wpList_append_row {P : Program} {w : World} {ops : Array Oper} {rest : List Oper} {o : Oper} {a : Act} {Q : Exit → Act → World → Prop} (hgd : o.guard = none) (s x : Operand) (t : TypeId)
    (ho : o.op = .call { callee := .builtin .append, args := #[s, x], argTypes := #[t, t] })
    (base base' : Nat) (e : TypeId) (i : TypeInfo) (z : Value) (bytes : Nat) (ht : P.underlying t = some (.slice e)) (hi : P.info? e = some i) (hz : i.zero = some z)
    (hsize : i.size = 1) (hby : i.bytes = bytes) (hzs : z.cells.size = 1)
    (g0 cap0 n : Nat) (xs : List Value) (hs : a.eval s = .slice (some ⟨g0, 0, none⟩) n cap0) (hown : w.ownsRow base e 1 (.slice (some ⟨g0, 0, none⟩) n cap0) n xs)
    (u : Value) (m : Nat) (ys : List Value) (hx : a.eval x = u) (hu : w.ownsRow base' e 1 u m ys) (hu0 : m = 0 → u = .slice none 0 0) (h1 : ∀ u ∈ ys, u.oneCell' = true)
    (h63 : n + m ≤ maxLen) (hbytes : (n + m) * bytes ≤ 140737488355328) (hbase : base ≤ w.heap.size)
    (h : ∀ g cap w', w'.ownsRow base e 1 (.slice (some ⟨g, 0, none⟩) (n + m) cap) (n + m) (xs ++ ys) → w.grownBy w' (some g0) → (g0 = g ∨ g = w.heap.size) → wpList P ops Q rest (a.put o.dst (.slice (some ⟨g, 0, none⟩) (n + m) cap)) w') : wpList P ops Q (o :: rest) a w := by
  rcases Nat.eq_zero_or_pos m with hm | hm
  · have hy : ys = [] := List.eq_nil_of_length_eq_zero (by have := hu.1; rw [hm] at this; simpa using this)
    subst hm hy
    refine wpList_append_own_none hgd s x t ho base e i 1 ht hi _ n xs hs hown (hx.trans (hu0 rfl)) ?_
    exact h g0 cap0 w (by simpa using hown) ⟨rfl, rfl, rfl, Nat.le_refl _, fun _ _ _ => rfl⟩ (.inl rfl)
  · obtain ⟨gu, cu, rfl, _, _⟩ := hu.form hm
    refine wpList_append_lies _ hgd s x t ho base e i z 1 bytes ht hi hz hsize hby hzs (by decide) _ n xs hs hown ⟨gu, 0, none⟩ m cu ys hx (by simpa using hu.1) (hu.cells (g := gu) rfl) h1 hm h63 hbytes hbase _ rfl ?_
    intro g cap w' h2 h3 h4 _
    exact h g cap w' h2 h3 (by simpa [Value.ownBlock] using h4)
theorem one_str {α : Type} (l : List α) (f : α → ByteArray) : ∀ u ∈ l.map (fun j => Value.string (f j)), u.oneCell' = true := by
  intro u hu
  obtain ⟨j, _, rfl⟩ := List.mem_map.1 hu
  rfl
theorem ap_hi {w : World} {base n size g m cap : Nat} {e : TypeId} {u : Value} {xs : List Value} (h : w.ownsRow base e size u n xs) (hg : w.heap.size ≤ g) : ap u (.slice (some ⟨g, 0, none⟩) m cap) := by
  intro k hk hx
  obtain rfl : g = k := by simpa [Value.ownBlock] using hx
  have := own_lt h hk; omega
set_option maxRecDepth 1000000 in
def CD6 (D : Dt) (w : World) (V : Int) : Prop := ∀ (W : World) (v3 v4 : Value) (g7 q7 : Nat) (u0 u2 u5 u6 u8 u9 u10 u11 u12 u13 u14 u15 u16 u17 u18 u19 u20 u21 u22 u23 u24 u25 u26 u27 u28 u29 u30 u31 u32 u33 u34 u35 u36 u37 u38 u39 u40 u41 u42 u43 u44 u45 u46 u47 u48 u49 u50 u51 u52 u53 u54 u55 u56 u57 u58 u59 u60 u61 u62 u63 u64 u65 u66 u67 u68 u69 u70 u71 u72 u73 u74 u75 u76 u77 u78 u79 u80 u81 u82 u83 u84 u85 u86 u87 u88 u89 u90 u91 u92 u93 u94 u95 u96 u97 u98 u99 u100 u101 u102 u103 u104 u105 u106 u107 u108 u109 u110 u111 u112 u113 u114 u115 u116 u117 u118 u119 u120 u121 u122 u123 u124 u125 u126 u127 u128 u129 u130 u131 u132 u133 u134 u135 u136 u137 u138 u139 u140 u141 u142 u143 u144 u145 u146 u147 u148 u149 u150 u151 u152 u153 u154 u155 u156 u157 u158 u159 u160 u161 u162 u163 u164 u165 u166 u167 u168 u169 u170 u171 u172 u173 u174 u175 u176 u177 u178 u179 u180 u181 u182 u183 u184 u185 u186 u187 u188 u189 u190 u191 u192 u193 u194 u195 u196 u197 u198 u199 u200 u201 u202 u203 u204 u205 u206 u207 u208 u209 u210 u211 u212 u213 u214 u215 u216 u217 u218 u219 u220 u221 u222 u223 u224 u225 u226 u227 u228 u229 u230 u231 u232 u233 u234 u235 u236 u237 u238 u239 u240 u241 u242 u243 u244 u245 u246 u247 u248 u249 u250 u251 u252 u253 u254 u255 u256 u257 u258 u259 u260 u261 u262 u263 u264 u265 u266 u267 u268 u269 u270 u271 u272 u273 u274 u275 u276 u277 u278 u279 u280 : Value), Hid (Below w.heap.size w W) → Hid (W.heap[w.heap.size]? = some (.cells #[.slice D.sa D.ns D.sc, .slice D.za D.nz D.zc, .slice D.la D.nl D.lc] 43)) → Hid (W.ownsRow (w.heap.size + 1) 9 1 (v3) D.ns ((List.range (D.ns)).map fun j => .string ((D.ss j).nm))) → Hid (W.ownsRow (w.heap.size + 1) 9 1 (v4) D.nz ((List.range (D.nz)).map fun j => .string (nms D j))) → Hid (W.ownsRow (w.heap.size + 1) 9 1 (.slice (some ⟨g7, 0, none⟩) (D.ns + D.nz) q7) (D.ns + D.nz) ((List.range (D.ns + D.nz)).map fun j => .string (alN D j))) → Hid (ap v3 v4) → Hid (ap v3 (.slice (some ⟨g7, 0, none⟩) (D.ns + D.nz) q7)) → Hid (ap v4 (.slice (some ⟨g7, 0, none⟩) (D.ns + D.nz) q7)) → Code.wp Tryd.prog (ctl 6 (Tryd.f21.body.getD .skip)) (bodyPost Tryd.prog Tryd.f21 fun e w' => e = .returned (.int .i64 V) ∧ Below w.heap.size w w') ⟨#[u0, .pointer (some ⟨w.heap.size, 0, none⟩), u2, v3, v4, u5, u6, .slice (some ⟨g7, 0, none⟩) (D.ns + D.nz) q7, u8, u9, u10, u11, u12, u13, u14, u15, u16, u17, u18, u19, u20, u21, u22, u23, u24, u25, u26, u27, u28, u29, u30, u31, u32, u33, u34, u35, u36, u37, u38, u39, u40, u41, u42, u43, u44, u45, u46, u47, u48, u49, u50, u51, u52, u53, u54, u55, u56, u57, u58, u59, u60, u61, u62, u63, u64, u65, u66, u67, u68, u69, u70, u71, u72, u73, u74, u75, u76, u77, u78, u79, u80, u81, u82, u83, u84, u85, u86, u87, u88, u89, u90, u91, u92, u93, u94, u95, u96, u97, u98, u99, u100, u101, u102, u103, u104, u105, u106, u107, u108, u109, u110, u111, u112, u113, u114, u115, u116, u117, u118, u119, u120, u121, u122, u123, u124, u125, u126, u127, u128, u129, u130, u131, u132, u133, u134, u135, u136, u137, u138, u139, u140, u141, u142, u143, u144, u145, u146, u147, u148, u149, u150, u151, u152, u153, u154, u155, u156, u157, u158, u159, u160, u161, u162, u163, u164, u165, u166, u167, u168, u169, u170, u171, u172, u173, u174, u175, u176, u177, u178, u179, u180, u181, u182, u183, u184, u185, u186, u187, u188, u189, u190, u191, u192, u193, u194, u195, u196, u197, u198, u199, u200, u201, u202, u203, u204, u205, u206, u207, u208, u209, u210, u211, u212, u213, u214, u215, u216, u217, u218, u219, u220, u221, u222, u223, u224, u225, u226, u227, u228, u229, u230, u231, u232, u233, u234, u235, u236, u237, u238, u239, u240, u241, u242, u243, u244, u245, u246, u247, u248, u249, u250, u251, u252, u253, u254, u255, u256, u257, u258, u259, u260, u261, u262, u263, u264, u265, u266, u267, u268, u269, u270, u271, u272, u273, u274, u275, u276, u277, u278, u279, u280], []⟩ W
set_option maxRecDepth 1000000 in
set_option maxHeartbeats 4000000 in
theorem cd5 {D : Dt} {w W : World} {V : Int} {v3 v4 : Value} {u0 u2 u5 u6 u7 u8 u9 u10 u11 u12 u13 u14 u15 u16 u17 u18 u19 u20 u21 u22 u23 u24 u25 u26 u27 u28 u29 u30 u31 u32 u33 u34 u35 u36 u37 u38 u39 u40 u41 u42 u43 u44 u45 u46 u47 u48 u49 u50 u51 u52 u53 u54 u55 u56 u57 u58 u59 u60 u61 u62 u63 u64 u65 u66 u67 u68 u69 u70 u71 u72 u73 u74 u75 u76 u77 u78 u79 u80 u81 u82 u83 u84 u85 u86 u87 u88 u89 u90 u91 u92 u93 u94 u95 u96 u97 u98 u99 u100 u101 u102 u103 u104 u105 u106 u107 u108 u109 u110 u111 u112 u113 u114 u115 u116 u117 u118 u119 u120 u121 u122 u123 u124 u125 u126 u127 u128 u129 u130 u131 u132 u133 u134 u135 u136 u137 u138 u139 u140 u141 u142 u143 u144 u145 u146 u147 u148 u149 u150 u151 u152 u153 u154 u155 u156 u157 u158 u159 u160 u161 u162 u163 u164 u165 u166 u167 u168 u169 u170 u171 u172 u173 u174 u175 u176 u177 u178 u179 u180 u181 u182 u183 u184 u185 u186 u187 u188 u189 u190 u191 u192 u193 u194 u195 u196 u197 u198 u199 u200 u201 u202 u203 u204 u205 u206 u207 u208 u209 u210 u211 u212 u213 u214 u215 u216 u217 u218 u219 u220 u221 u222 u223 u224 u225 u226 u227 u228 u229 u230 u231 u232 u233 u234 u235 u236 u237 u238 u239 u240 u241 u242 u243 u244 u245 u246 u247 u248 u249 u250 u251 u252 u253 u254 u255 u256 u257 u258 u259 u260 u261 u262 u263 u264 u265 u266 u267 u268 u269 u270 u271 u272 u273 u274 u275 u276 u277 u278 u279 u280 : Value} (h3 : D.ns ≤ 3) (h5 : D.nz ≤ 5) (HW : Hid (Below w.heap.size w W)) (HC : Hid (W.heap[w.heap.size]? = some (.cells #[.slice D.sa D.ns D.sc, .slice D.za D.nz D.zc, .slice D.la D.nl D.lc] 43)))
    (O3 : Hid (W.ownsRow (w.heap.size + 1) 9 1 (v3) D.ns ((List.range (D.ns)).map fun j => .string ((D.ss j).nm)))) (O4 : Hid (W.ownsRow (w.heap.size + 1) 9 1 (v4) D.nz ((List.range (D.nz)).map fun j => .string (nms D j)))) (Z3 : Hid (D.ns = 0 → v3 = .slice none 0 0)) (Z4 : Hid (D.nz = 0 → v4 = .slice none 0 0)) (A34 : Hid (ap v3 v4)) (H6 : Hid (CD6 D w V)) :
    Code.wp Tryd.prog (ctl 5 (Tryd.f21.body.getD .skip)) (bodyPost Tryd.prog Tryd.f21 fun e w' => e = .returned (.int .i64 V) ∧ Below w.heap.size w w') ⟨#[u0, .pointer (some ⟨w.heap.size, 0, none⟩), u2, v3, v4, u5, u6, u7, u8, u9, u10, u11, u12, u13, u14, u15, u16, u17, u18, u19, u20, u21, u22, u23, u24, u25, u26, u27, u28, u29, u30, u31, u32, u33, u34, u35, u36, u37, u38, u39, u40, u41, u42, u43, u44, u45, u46, u47, u48, u49, u50, u51, u52, u53, u54, u55, u56, u57, u58, u59, u60, u61, u62, u63, u64, u65, u66, u67, u68, u69, u70, u71, u72, u73, u74, u75, u76, u77, u78, u79, u80, u81, u82, u83, u84, u85, u86, u87, u88, u89, u90, u91, u92, u93, u94, u95, u96, u97, u98, u99, u100, u101, u102, u103, u104, u105, u106, u107, u108, u109, u110, u111, u112, u113, u114, u115, u116, u117, u118, u119, u120, u121, u122, u123, u124, u125, u126, u127, u128, u129, u130, u131, u132, u133, u134, u135, u136, u137, u138, u139, u140, u141, u142, u143, u144, u145, u146, u147, u148, u149, u150, u151, u152, u153, u154, u155, u156, u157, u158, u159, u160, u161, u162, u163, u164, u165, u166, u167, u168, u169, u170, u171, u172, u173, u174, u175, u176, u177, u178, u179, u180, u181, u182, u183, u184, u185, u186, u187, u188, u189, u190, u191, u192, u193, u194, u195, u196, u197, u198, u199, u200, u201, u202, u203, u204, u205, u206, u207, u208, u209, u210, u211, u212, u213, u214, u215, u216, u217, u218, u219, u220, u221, u222, u223, u224, u225, u226, u227, u228, u229, u230, u231, u232, u233, u234, u235, u236, u237, u238, u239, u240, u241, u242, u243, u244, u245, u246, u247, u248, u249, u250, u251, u252, u253, u254, u255, u256, u257, u258, u259, u260, u261, u262, u263, u264, u265, u266, u267, u268, u269, u270, u271, u272, u273, u274, u275, u276, u277, u278, u279, u280], []⟩ W := by
  obtain ⟨i0, hi, hz0, hz1, hz2⟩ := info_parts info_str
  conv => arg 2; whnf
  have hsz : w.heap.size < W.heap.size := (Array.getElem?_eq_some_iff.1 HC.out).1
  have OB : Hid ((W.alloc (.cells #[] 9)).ownsRow (w.heap.size + 1) 9 1 (.slice (some ⟨W.heap.size, 0, none⟩) 0 0) 0 []) := ⟨rfl, .inr ⟨W.heap.size, 0, #[], rfl, hsz, heap_alloc_new W _, Nat.le_refl _, Nat.zero_le _, rfl, rfl⟩⟩
  have hB1 := hideH ((Below.refl _ W).alloc (Nat.le_refl _) (.cells #[] 9))
  have H1 := hideH (bthen HW.out hB1.out)
  have C1 := hideH (heap_on HC.out hB1.out)
  have S3 := hideH (own_on O3.out hB1.out)
  have S4 := hideH (own_on O4.out hB1.out)
  go_wp2_with (at_builtin; refine wpList_append_row rfl _ _ 73 rfl (w.heap.size + 1) (w.heap.size + 1) 9 i0 (.string ⟨#[]⟩) 16 Tryd.underlying73 hi hz0 hz1 hz2 rfl _ _ _ [] rfl OB.out v3 D.ns _ rfl S3.out Z3.out (one_str _ _) (by unfold maxLen; omega) (by omega) (by simp; omega) ?_; intro g5 q5 w2 hown2 hgrow2 hat2; refine Hid.out ?_)
  refine hideH ?_
  have hg5 : W.heap.size ≤ g5 := by
    rcases hat2 with h | h
    · omega
    · simp at h; omega
  have H2 := hideH (below_grown H1.out OB.out hgrow2)
  have C2 := hideH (box_grown (base := 0) C1.out OB.out hgrow2)
  have T3 := hideH (own_far (v := .slice (some ⟨W.heap.size, 0, none⟩) 0 0) S3.out hgrow2 (ap_hi O3.out (Nat.le_refl _)))
  have T4 := hideH (own_far (v := .slice (some ⟨W.heap.size, 0, none⟩) 0 0) S4.out hgrow2 (ap_hi O4.out (Nat.le_refl _)))
  have hz2' : W.heap.size < w2.heap.size := by have := hgrow2.size; simp at this; omega
  have O5 : Hid (w2.ownsRow (w.heap.size + 1) 9 1 (.slice (some ⟨g5, 0, none⟩) D.ns q5) D.ns ((List.range D.ns).map fun j => .string (D.ss j).nm)) := by
    have h := hown2
    simp only [Nat.zero_add, List.nil_append] at h
    exact h
  clear hown2 hgrow2 hat2 S3 S4 H1 C1 OB hB1
  go_wp2_with (at_builtin; refine wpList_append_row rfl _ _ 73 rfl (w.heap.size + 1) (w.heap.size + 1) 9 i0 (.string ⟨#[]⟩) 16 Tryd.underlying73 hi hz0 hz1 hz2 rfl _ _ _ _ rfl O5.out v4 D.nz _ rfl T4.out Z4.out (one_str _ _) (by unfold maxLen; omega) (by omega) (by omega) ?_; intro g7 q7 w3 hown3 hgrow3 hat3; refine Hid.out ?_)
  refine hideH ?_
  have hg7 : W.heap.size ≤ g7 := by rcases hat3 with h | h <;> omega
  have H3 := hideH (below_grown H2.out O5.out hgrow3)
  have C3 := hideH (box_grown (base := 0) C2.out O5.out hgrow3)
  have U3 := hideH (own_far (v := .slice (some ⟨g5, 0, none⟩) D.ns q5) T3.out hgrow3 (ap_hi O3.out hg5))
  have U4 := hideH (own_far (v := .slice (some ⟨g5, 0, none⟩) D.ns q5) T4.out hgrow3 (ap_hi O4.out hg5))
  have O7 : Hid (w3.ownsRow (w.heap.size + 1) 9 1 (.slice (some ⟨g7, 0, none⟩) (D.ns + D.nz) q7) (D.ns + D.nz) ((List.range (D.ns + D.nz)).map fun j => .string (alN D j))) := by
    have h := hown3
    rw [row_cat] at h
    exact h
  have A37 : Hid (ap v3 (.slice (some ⟨g7, 0, none⟩) (D.ns + D.nz) q7)) := ap_hi O3.out hg7
  have A47 : Hid (ap v4 (.slice (some ⟨g7, 0, none⟩) (D.ns + D.nz) q7)) := ap_hi O4.out hg7
  clear hown3 hgrow3 hat3
  rename ∀ (a : Act) (w : World), _ → _ => hcont
  have HCONT := hideH hcont
  clear hcont
  go_wp2_with fail
  refine HCONT.out _ _ ?_
  exact H6.out w3 v3 v4 g7 q7 _ _ _ _ _ _ _ _ _ _ _ _ _ _ _ _ _ _ _ _ _ _ _ _ _ _ _ _ _ _ _ _ _ _ _ _ _ _ _ _ _ _ _ _ _ _ _ _ _ _ _ _ _ _ _ _ _ _ _ _ _ _ _ _ _ _ _ _ _ _ _ _ _ _ _ _ _ _ _ _ _ _ _ _ _ _ _ _ _ _ _ _ _ _ _ _ _ _ _ _ _ _ _ _ _ _ _ _ _ _ _ _ _ _ _ _ _ _ _ _ _ _ _ _ _ _ _ _ _ _ _ _ _ _ _ _ _ _ _ _ _ _ _ _ _ _ _ _ _ _ _ _ _ _ _ _ _ _ _ _ _ _ _ _ _ _ _ _ _ _ _ _ _ _ _ _ _ _ _ _ _ _ _ _ _ _ _ _ _ _ _ _ _ _ _ _ _ _ _ _ _ _ _ _ _ _ _ _ _ _ _ _ _ _ _ _ _ _ _ _ _ _ _ _ _ _ _ _ _ _ _ _ _ _ _ _ _ _ _ _ _ _ _ _ _ _ _ _ _ _ _ _ _ _ _ _ _ _ _ _ _ _ _ _ _ _ _ _ _ _ _ _ _ _ _ _ _ H3 C3 U3 U4 O7 A34 A37 A47
end Go.Proofs.YtcdokhjmpkcpnabDoor

/- The document's own CheckData: zones, and how many eras each has. -/
namespace Go.Proofs.YtcdokhjmpkcpnabDoor
open Go Go.RowKit Go.Maps
set_option linter.unusedVariables false

set_option maxRecDepth 1000000 in
def CD5 (D : Dt) (w : World) (V : Int) : Prop := ∀ (W : World) (v3 v4 : Value) (u0 u2 u5 u6 u7 u8 u9 u10 u11 u12 u13 u14 u15 u16 u17 u18 u19 u20 u21 u22 u23 u24 u25 u26 u27 u28 u29 u30 u31 u32 u33 u34 u35 u36 u37 u38 u39 u40 u41 u42 u43 u44 u45 u46 u47 u48 u49 u50 u51 u52 u53 u54 u55 u56 u57 u58 u59 u60 u61 u62 u63 u64 u65 u66 u67 u68 u69 u70 u71 u72 u73 u74 u75 u76 u77 u78 u79 u80 u81 u82 u83 u84 u85 u86 u87 u88 u89 u90 u91 u92 u93 u94 u95 u96 u97 u98 u99 u100 u101 u102 u103 u104 u105 u106 u107 u108 u109 u110 u111 u112 u113 u114 u115 u116 u117 u118 u119 u120 u121 u122 u123 u124 u125 u126 u127 u128 u129 u130 u131 u132 u133 u134 u135 u136 u137 u138 u139 u140 u141 u142 u143 u144 u145 u146 u147 u148 u149 u150 u151 u152 u153 u154 u155 u156 u157 u158 u159 u160 u161 u162 u163 u164 u165 u166 u167 u168 u169 u170 u171 u172 u173 u174 u175 u176 u177 u178 u179 u180 u181 u182 u183 u184 u185 u186 u187 u188 u189 u190 u191 u192 u193 u194 u195 u196 u197 u198 u199 u200 u201 u202 u203 u204 u205 u206 u207 u208 u209 u210 u211 u212 u213 u214 u215 u216 u217 u218 u219 u220 u221 u222 u223 u224 u225 u226 u227 u228 u229 u230 u231 u232 u233 u234 u235 u236 u237 u238 u239 u240 u241 u242 u243 u244 u245 u246 u247 u248 u249 u250 u251 u252 u253 u254 u255 u256 u257 u258 u259 u260 u261 u262 u263 u264 u265 u266 u267 u268 u269 u270 u271 u272 u273 u274 u275 u276 u277 u278 u279 u280 : Value), Hid (Below w.heap.size w W) → Hid (W.heap[w.heap.size]? = some (.cells #[.slice D.sa D.ns D.sc, .slice D.za D.nz D.zc, .slice D.la D.nl D.lc] 43)) → Hid (W.ownsRow (w.heap.size + 1) 9 1 (v3) D.ns ((List.range (D.ns)).map fun j => .string ((D.ss j).nm))) → Hid (W.ownsRow (w.heap.size + 1) 9 1 (v4) D.nz ((List.range (D.nz)).map fun j => .string (nms D j))) → Hid (D.ns = 0 → v3 = .slice none 0 0) → Hid (D.nz = 0 → v4 = .slice none 0 0) → Hid (ap v3 v4) → Code.wp Tryd.prog (ctl 5 (Tryd.f21.body.getD .skip)) (bodyPost Tryd.prog Tryd.f21 fun e w' => e = .returned (.int .i64 V) ∧ Below w.heap.size w w') ⟨#[u0, .pointer (some ⟨w.heap.size, 0, none⟩), u2, v3, v4, u5, u6, u7, u8, u9, u10, u11, u12, u13, u14, u15, u16, u17, u18, u19, u20, u21, u22, u23, u24, u25, u26, u27, u28, u29, u30, u31, u32, u33, u34, u35, u36, u37, u38, u39, u40, u41, u42, u43, u44, u45, u46, u47, u48, u49, u50, u51, u52, u53, u54, u55, u56, u57, u58, u59, u60, u61, u62, u63, u64, u65, u66, u67, u68, u69, u70, u71, u72, u73, u74, u75, u76, u77, u78, u79, u80, u81, u82, u83, u84, u85, u86, u87, u88, u89, u90, u91, u92, u93, u94, u95, u96, u97, u98, u99, u100, u101, u102, u103, u104, u105, u106, u107, u108, u109, u110, u111, u112, u113, u114, u115, u116, u117, u118, u119, u120, u121, u122, u123, u124, u125, u126, u127, u128, u129, u130, u131, u132, u133, u134, u135, u136, u137, u138, u139, u140, u141, u142, u143, u144, u145, u146, u147, u148, u149, u150, u151, u152, u153, u154, u155, u156, u157, u158, u159, u160, u161, u162, u163, u164, u165, u166, u167, u168, u169, u170, u171, u172, u173, u174, u175, u176, u177, u178, u179, u180, u181, u182, u183, u184, u185, u186, u187, u188, u189, u190, u191, u192, u193, u194, u195, u196, u197, u198, u199, u200, u201, u202, u203, u204, u205, u206, u207, u208, u209, u210, u211, u212, u213, u214, u215, u216, u217, u218, u219, u220, u221, u222, u223, u224, u225, u226, u227, u228, u229, u230, u231, u232, u233, u234, u235, u236, u237, u238, u239, u240, u241, u242, u243, u244, u245, u246, u247, u248, u249, u250, u251, u252, u253, u254, u255, u256, u257, u258, u259, u260, u261, u262, u263, u264, u265, u266, u267, u268, u269, u270, u271, u272, u273, u274, u275, u276, u277, u278, u279, u280], []⟩ W
set_option maxRecDepth 1000000 in
set_option maxHeartbeats 4000000 in
theorem cd4 {D : Dt} {w W : World} {V : Int} {v3 : Value} {u0 u2 u5 u6 u7 u8 u9 u10 u11 u12 u13 u14 u15 u16 u17 u18 u19 u20 u21 u22 u23 u24 u25 u26 u27 u28 u29 u30 u31 u32 u33 u34 u35 u36 u37 u38 u39 u40 u41 u42 u43 u44 u45 u46 u47 u48 u49 u50 u51 u52 u53 u54 u55 u56 u57 u58 u59 u60 u61 u62 u63 u64 u65 u66 u67 u68 u69 u70 u71 u72 u73 u74 u75 u76 u77 u78 u79 u80 u81 u82 u83 u84 u85 u86 u87 u88 u89 u90 u91 u92 u93 u94 u95 u96 u97 u98 u99 u100 u101 u102 u103 u104 u105 u106 u107 u108 u109 u110 u111 u112 u113 u114 u115 u116 u117 u118 u119 u120 u121 u122 u123 u124 u125 u126 u127 u128 u129 u130 u131 u132 u133 u134 u135 u136 u137 u138 u139 u140 u141 u142 u143 u144 u145 u146 u147 u148 u149 u150 u151 u152 u153 u154 u155 u156 u157 u158 u159 u160 u161 u162 u163 u164 u165 u166 u167 u168 u169 u170 u171 u172 u173 u174 u175 u176 u177 u178 u179 u180 u181 u182 u183 u184 u185 u186 u187 u188 u189 u190 u191 u192 u193 u194 u195 u196 u197 u198 u199 u200 u201 u202 u203 u204 u205 u206 u207 u208 u209 u210 u211 u212 u213 u214 u215 u216 u217 u218 u219 u220 u221 u222 u223 u224 u225 u226 u227 u228 u229 u230 u231 u232 u233 u234 u235 u236 u237 u238 u239 u240 u241 u242 u243 u244 u245 u246 u247 u248 u249 u250 u251 u252 u253 u254 u255 u256 u257 u258 u259 u260 u261 u262 u263 u264 u265 u266 u267 u268 u269 u270 u271 u272 u273 u274 u275 u276 u277 u278 u279 u280 : Value} (hn : D.nz ≤ 5) (HD : Hid (DAt w D)) (HW : Hid (Below w.heap.size w W)) (HC : Hid (W.heap[w.heap.size]? = some (.cells #[.slice D.sa D.ns D.sc, .slice D.za D.nz D.zc, .slice D.la D.nl D.lc] 43))) (O3 : Hid (W.ownsRow (w.heap.size + 1) 9 1 (v3) D.ns ((List.range (D.ns)).map fun j => .string ((D.ss j).nm)))) (Z3 : Hid (D.ns = 0 → v3 = .slice none 0 0)) 
    (H5 : Hid ((∀ j, j < D.nz → 1 ≤ (D.zs j).n ∧ (D.zs j).n ≤ 4) → CD5 D w V)) (HV : Hid (¬ (∀ j, j < D.nz → 1 ≤ (D.zs j).n ∧ (D.zs j).n ≤ 4) → V = 2)) :
    Code.wp Tryd.prog (ctl 4 (Tryd.f21.body.getD .skip)) (bodyPost Tryd.prog Tryd.f21 fun e w' => e = .returned (.int .i64 V) ∧ Below w.heap.size w w') ⟨#[u0, .pointer (some ⟨w.heap.size, 0, none⟩), u2, v3, .slice none 0 0, u5, u6, u7, u8, u9, u10, u11, u12, u13, u14, u15, u16, u17, u18, u19, u20, u21, u22, u23, u24, u25, u26, u27, u28, u29, u30, u31, u32, u33, u34, u35, u36, u37, u38, u39, u40, u41, u42, u43, u44, u45, u46, u47, u48, u49, u50, u51, u52, u53, u54, u55, u56, u57, u58, u59, u60, u61, u62, u63, u64, u65, u66, u67, u68, u69, u70, u71, u72, u73, u74, u75, u76, u77, u78, u79, u80, u81, u82, u83, u84, u85, u86, u87, u88, u89, u90, u91, u92, u93, u94, u95, u96, u97, u98, u99, u100, u101, u102, u103, u104, u105, u106, u107, u108, u109, u110, u111, u112, u113, u114, u115, u116, u117, u118, u119, u120, u121, u122, u123, u124, u125, u126, u127, u128, u129, u130, u131, u132, u133, u134, u135, u136, u137, u138, u139, u140, u141, u142, u143, u144, u145, u146, u147, u148, u149, u150, u151, u152, u153, u154, u155, u156, u157, u158, u159, u160, u161, u162, u163, u164, u165, u166, u167, u168, u169, u170, u171, u172, u173, u174, u175, u176, u177, u178, u179, u180, u181, u182, u183, u184, u185, u186, u187, u188, u189, u190, u191, u192, u193, u194, u195, u196, u197, u198, u199, u200, u201, u202, u203, u204, u205, u206, u207, u208, u209, u210, u211, u212, u213, u214, u215, u216, u217, u218, u219, u220, u221, u222, u223, u224, u225, u226, u227, u228, u229, u230, u231, u232, u233, u234, u235, u236, u237, u238, u239, u240, u241, u242, u243, u244, u245, u246, u247, u248, u249, u250, u251, u252, u253, u254, u255, u256, u257, u258, u259, u260, u261, u262, u263, u264, u265, u266, u267, u268, u269, u270, u271, u272, u273, u274, u275, u276, u277, u278, u279, u280], []⟩ W := by
  obtain ⟨i0, hi, hz0, hz1, hz2⟩ := info_parts info_str
  conv => arg 2; whnf
  go_wp2_with fail
  go_loopw [4, 6] (fun x4 x6 v => ∃ k : Nat, k ≤ D.nz ∧ x6 = .int .i64 k ∧ Hid (k = 0 → x4 = .slice none 0 0) ∧ Hid (v.ownsRow (w.heap.size + 1) 9 1 (x4) k ((List.range (k)).map fun j => .string (nms D j))) ∧ Hid (v.ownsRow (w.heap.size + 1) 9 1 (v3) D.ns ((List.range (D.ns)).map fun j => .string ((D.ss j).nm))) ∧ Hid (ap v3 x4) ∧ Hid (Below w.heap.size w v) ∧ Hid (v.heap[w.heap.size]? = some (.cells #[.slice D.sa D.ns D.sc, .slice D.za D.nz D.zc, .slice D.la D.nl D.lc] 43)) ∧ Hid (∀ j, j < k → 1 ≤ (D.zs j).n ∧ (D.zs j).n ≤ 4)) (fun _ x6 _ => D.nz - (intOf x6).toNat)
  case atStart => exact ⟨0, Nat.zero_le _, rfl, fun _ => rfl, World.ownsRow_nil _ _ _ _, O3, ap_nil _, HW, HC, fun j hj => by omega⟩
  case round =>
    obtain ⟨k, hk, rfl, HZ, Q4, Q3, B3, HW2, HC2, HA⟩ := hrel
    obtain ⟨c0, c1, c2⟩ := cells3 HC2.out
    by_cases hlt : k < D.nz
    · rcases HD.out.zones with h0 | ⟨b, off, hsa, hcs⟩
      · omega
      obtain ⟨d0, d1⟩ := hcs k hlt
      have hk0 : decide ((k : Int) < 0) = false := by simp
      have hkn : decide (D.nz ≤ k) = false := by simp; omega
      have hki : (k : Int) < (D.nz : Int) := by omega
      have c3 : wr.cell? ⟨w.heap.size, 1, none⟩ = some (.slice (some ⟨b, off, none⟩) D.nz D.zc) := by rw [← hsa]; exact c1
      have e0 := cell_on d0 HW2.out
      have hsz : w.heap.size < wr.heap.size := (Array.getElem?_eq_some_iff.1 HC2.out).1
      clear hcs c0 c1 c2
      have D1 := hideH d1
      have HSA := hideH hsa
      clear d0 d1 hsa
      go_wp2_with (at_builtin; refine wpList_append_lies _ rfl _ _ 73 rfl (w.heap.size + 1) 9 i0 (.string ⟨#[]⟩) 1 16 Tryd.underlying73 hi hz0 hz1 hz2 rfl (by decide) _ _ _ rfl (Q4.out.alloc _) ⟨wr.heap.size, 0, none⟩ 1 1 [.string (D.zs k).nm] rfl rfl (cell_one_new _ _ _) (by simp [Value.oneCell']) (by decide) (by unfold maxLen; omega) (by omega) (by simp; omega) _ rfl ?_; intro g4 q4 w1 hown hgrow hat hl1; refine Hid.out ?_)
      refine hideH ?_
      have H1 := hideH (below_grown (HW2.out.alloc (by omega) _) (Q4.out.alloc _) hgrow)
      have C1 := hideH (box_grown (base := 0) (box_alloc HC2.out _) (Q4.out.alloc _) hgrow)
      have S4 : Hid (w1.ownsRow (w.heap.size + 1) 9 1 (.slice (some ⟨g4, 0, none⟩) (k + 1) q4) (k + 1) ((List.range (k + 1)).map fun j => .string (nms D j))) := by
        have h := hown
        rw [row_one k (fun j => Value.string (nms D j)) (show Value.string (D.zs k).nm = _ by unfold nms; rw [if_pos hlt])] at h
        exact h
      have S3 := hideH (own_far (Q3.out.alloc _) hgrow B3.out)
      have E3 : Hid (ap v3 (.slice (some ⟨g4, 0, none⟩) (k + 1) q4)) := ap_new (Q3.out.alloc (.cells #[.string (D.zs k).nm] 9)) B3.out hat (by simp)
      clear hown hgrow hat c3 e0 Q4 Q3 B3 HW2 HC2
      obtain ⟨x0, x1, x2⟩ := cells3 C1.out
      have c3 : w1.cell? ⟨w.heap.size, 1, none⟩ = some (.slice (some ⟨b, off, none⟩) D.nz D.zc) := by rw [← HSA.out]; exact x1
      have e1 := cell_on D1.out H1.out
      clear x0 x1 x2
      by_cases hq : 1 ≤ (D.zs k).n ∧ (D.zs k).n ≤ 4
      · have hin : inB ((D.zs k).n : Int) 1 4 = true := in_mk (by omega)
        have HA2 : Hid (∀ j, j < k + 1 → 1 ≤ (D.zs j).n ∧ (D.zs j).n ≤ 4) := fun j hj => by
          rcases Nat.lt_or_ge j k with h | h
          · exact HA.out j h
          · obtain rfl : j = k := by omega
            exact hq
        clear hq
        go_wp2_with (first | (go_at_call 26; refine (within_c _ _ _ _).mono ?_; rintro e w2 ⟨rfl, rfl⟩))
        go_roundw
        case rel => exact ⟨k + 1, by omega, by go_num, fun h => by omega, S4, S3, E3, H1, C1, HA2⟩
        case measure => simp [intOf]; omega
      · have hin : inB ((D.zs k).n : Int) 1 4 = false := in_not (by omega)
        have HX : Hid (V = 2) := HV.out (fun h => hq (h k hlt))
        clear hq
        go_wp2_with (first | (go_at_call 26; refine (within_c _ _ _ _).mono ?_; rintro e w2 ⟨rfl, rfl⟩))
        go_ret
        exact ⟨ret_int HX.out.symm, H1.out⟩
    · obtain rfl : k = D.nz := by omega
      have H5 := hideH (H5.out HA.out)
      rename ∀ (a : Act) (w : World), _ → _ => hcont
      have HCONT := hideH hcont
      clear hcont
      go_wp2_with fail
      refine HCONT.out _ _ ?_
      exact H5.out wr v3 _ _ _ _ _ _ _ _ _ _ _ _ _ _ _ _ _ _ _ _ _ _ _ _ _ _ _ _ _ _ _ _ _ _ _ _ _ _ _ _ _ _ _ _ _ _ _ _ _ _ _ _ _ _ _ _ _ _ _ _ _ _ _ _ _ _ _ _ _ _ _ _ _ _ _ _ _ _ _ _ _ _ _ _ _ _ _ _ _ _ _ _ _ _ _ _ _ _ _ _ _ _ _ _ _ _ _ _ _ _ _ _ _ _ _ _ _ _ _ _ _ _ _ _ _ _ _ _ _ _ _ _ _ _ _ _ _ _ _ _ _ _ _ _ _ _ _ _ _ _ _ _ _ _ _ _ _ _ _ _ _ _ _ _ _ _ _ _ _ _ _ _ _ _ _ _ _ _ _ _ _ _ _ _ _ _ _ _ _ _ _ _ _ _ _ _ _ _ _ _ _ _ _ _ _ _ _ _ _ _ _ _ _ _ _ _ _ _ _ _ _ _ _ _ _ _ _ _ _ _ _ _ _ _ _ _ _ _ _ _ _ _ _ _ _ _ _ _ _ _ _ _ _ _ _ _ _ _ _ _ _ _ _ _ _ _ _ _ _ _ _ _ _ _ _ _ _ _ _ HW2 HC2 Q3 Q4 Z3 HZ B3
end Go.Proofs.YtcdokhjmpkcpnabDoor

/- The document's own CheckData: sets, and how many rules each has. -/
namespace Go.Proofs.YtcdokhjmpkcpnabDoor
open Go Go.RowKit Go.Maps
set_option linter.unusedVariables false

set_option maxRecDepth 1000000 in
def CD4 (D : Dt) (w : World) (V : Int) : Prop := ∀ (W : World) (v3 : Value) (u0 u2 u5 u6 u7 u8 u9 u10 u11 u12 u13 u14 u15 u16 u17 u18 u19 u20 u21 u22 u23 u24 u25 u26 u27 u28 u29 u30 u31 u32 u33 u34 u35 u36 u37 u38 u39 u40 u41 u42 u43 u44 u45 u46 u47 u48 u49 u50 u51 u52 u53 u54 u55 u56 u57 u58 u59 u60 u61 u62 u63 u64 u65 u66 u67 u68 u69 u70 u71 u72 u73 u74 u75 u76 u77 u78 u79 u80 u81 u82 u83 u84 u85 u86 u87 u88 u89 u90 u91 u92 u93 u94 u95 u96 u97 u98 u99 u100 u101 u102 u103 u104 u105 u106 u107 u108 u109 u110 u111 u112 u113 u114 u115 u116 u117 u118 u119 u120 u121 u122 u123 u124 u125 u126 u127 u128 u129 u130 u131 u132 u133 u134 u135 u136 u137 u138 u139 u140 u141 u142 u143 u144 u145 u146 u147 u148 u149 u150 u151 u152 u153 u154 u155 u156 u157 u158 u159 u160 u161 u162 u163 u164 u165 u166 u167 u168 u169 u170 u171 u172 u173 u174 u175 u176 u177 u178 u179 u180 u181 u182 u183 u184 u185 u186 u187 u188 u189 u190 u191 u192 u193 u194 u195 u196 u197 u198 u199 u200 u201 u202 u203 u204 u205 u206 u207 u208 u209 u210 u211 u212 u213 u214 u215 u216 u217 u218 u219 u220 u221 u222 u223 u224 u225 u226 u227 u228 u229 u230 u231 u232 u233 u234 u235 u236 u237 u238 u239 u240 u241 u242 u243 u244 u245 u246 u247 u248 u249 u250 u251 u252 u253 u254 u255 u256 u257 u258 u259 u260 u261 u262 u263 u264 u265 u266 u267 u268 u269 u270 u271 u272 u273 u274 u275 u276 u277 u278 u279 u280 : Value), Hid (Below w.heap.size w W) → Hid (W.heap[w.heap.size]? = some (.cells #[.slice D.sa D.ns D.sc, .slice D.za D.nz D.zc, .slice D.la D.nl D.lc] 43)) → Hid (W.ownsRow (w.heap.size + 1) 9 1 (v3) D.ns ((List.range (D.ns)).map fun j => .string ((D.ss j).nm))) → Hid (D.ns = 0 → v3 = .slice none 0 0) → Code.wp Tryd.prog (ctl 4 (Tryd.f21.body.getD .skip)) (bodyPost Tryd.prog Tryd.f21 fun e w' => e = .returned (.int .i64 V) ∧ Below w.heap.size w w') ⟨#[u0, .pointer (some ⟨w.heap.size, 0, none⟩), u2, v3, .slice none 0 0, u5, u6, u7, u8, u9, u10, u11, u12, u13, u14, u15, u16, u17, u18, u19, u20, u21, u22, u23, u24, u25, u26, u27, u28, u29, u30, u31, u32, u33, u34, u35, u36, u37, u38, u39, u40, u41, u42, u43, u44, u45, u46, u47, u48, u49, u50, u51, u52, u53, u54, u55, u56, u57, u58, u59, u60, u61, u62, u63, u64, u65, u66, u67, u68, u69, u70, u71, u72, u73, u74, u75, u76, u77, u78, u79, u80, u81, u82, u83, u84, u85, u86, u87, u88, u89, u90, u91, u92, u93, u94, u95, u96, u97, u98, u99, u100, u101, u102, u103, u104, u105, u106, u107, u108, u109, u110, u111, u112, u113, u114, u115, u116, u117, u118, u119, u120, u121, u122, u123, u124, u125, u126, u127, u128, u129, u130, u131, u132, u133, u134, u135, u136, u137, u138, u139, u140, u141, u142, u143, u144, u145, u146, u147, u148, u149, u150, u151, u152, u153, u154, u155, u156, u157, u158, u159, u160, u161, u162, u163, u164, u165, u166, u167, u168, u169, u170, u171, u172, u173, u174, u175, u176, u177, u178, u179, u180, u181, u182, u183, u184, u185, u186, u187, u188, u189, u190, u191, u192, u193, u194, u195, u196, u197, u198, u199, u200, u201, u202, u203, u204, u205, u206, u207, u208, u209, u210, u211, u212, u213, u214, u215, u216, u217, u218, u219, u220, u221, u222, u223, u224, u225, u226, u227, u228, u229, u230, u231, u232, u233, u234, u235, u236, u237, u238, u239, u240, u241, u242, u243, u244, u245, u246, u247, u248, u249, u250, u251, u252, u253, u254, u255, u256, u257, u258, u259, u260, u261, u262, u263, u264, u265, u266, u267, u268, u269, u270, u271, u272, u273, u274, u275, u276, u277, u278, u279, u280], []⟩ W
set_option maxRecDepth 1000000 in
set_option maxHeartbeats 4000000 in
theorem cd3 {D : Dt} {w W : World} {V : Int} {u0 u2 u5 u6 u7 u8 u9 u10 u11 u12 u13 u14 u15 u16 u17 u18 u19 u20 u21 u22 u23 u24 u25 u26 u27 u28 u29 u30 u31 u32 u33 u34 u35 u36 u37 u38 u39 u40 u41 u42 u43 u44 u45 u46 u47 u48 u49 u50 u51 u52 u53 u54 u55 u56 u57 u58 u59 u60 u61 u62 u63 u64 u65 u66 u67 u68 u69 u70 u71 u72 u73 u74 u75 u76 u77 u78 u79 u80 u81 u82 u83 u84 u85 u86 u87 u88 u89 u90 u91 u92 u93 u94 u95 u96 u97 u98 u99 u100 u101 u102 u103 u104 u105 u106 u107 u108 u109 u110 u111 u112 u113 u114 u115 u116 u117 u118 u119 u120 u121 u122 u123 u124 u125 u126 u127 u128 u129 u130 u131 u132 u133 u134 u135 u136 u137 u138 u139 u140 u141 u142 u143 u144 u145 u146 u147 u148 u149 u150 u151 u152 u153 u154 u155 u156 u157 u158 u159 u160 u161 u162 u163 u164 u165 u166 u167 u168 u169 u170 u171 u172 u173 u174 u175 u176 u177 u178 u179 u180 u181 u182 u183 u184 u185 u186 u187 u188 u189 u190 u191 u192 u193 u194 u195 u196 u197 u198 u199 u200 u201 u202 u203 u204 u205 u206 u207 u208 u209 u210 u211 u212 u213 u214 u215 u216 u217 u218 u219 u220 u221 u222 u223 u224 u225 u226 u227 u228 u229 u230 u231 u232 u233 u234 u235 u236 u237 u238 u239 u240 u241 u242 u243 u244 u245 u246 u247 u248 u249 u250 u251 u252 u253 u254 u255 u256 u257 u258 u259 u260 u261 u262 u263 u264 u265 u266 u267 u268 u269 u270 u271 u272 u273 u274 u275 u276 u277 u278 u279 u280 : Value} (hn : D.ns ≤ 5) (HD : Hid (DAt w D)) (HW : Hid (Below w.heap.size w W)) (HC : Hid (W.heap[w.heap.size]? = some (.cells #[.slice D.sa D.ns D.sc, .slice D.za D.nz D.zc, .slice D.la D.nl D.lc] 43))) 
    (H4 : Hid ((∀ j, j < D.ns → 1 ≤ (D.ss j).n ∧ (D.ss j).n ≤ 4) → CD4 D w V)) (HV : Hid (¬ (∀ j, j < D.ns → 1 ≤ (D.ss j).n ∧ (D.ss j).n ≤ 4) → V = 2)) :
    Code.wp Tryd.prog (ctl 3 (Tryd.f21.body.getD .skip)) (bodyPost Tryd.prog Tryd.f21 fun e w' => e = .returned (.int .i64 V) ∧ Below w.heap.size w w') ⟨#[u0, .pointer (some ⟨w.heap.size, 0, none⟩), u2, .slice none 0 0, .slice none 0 0, u5, u6, u7, u8, u9, u10, u11, u12, u13, u14, u15, u16, u17, u18, u19, u20, u21, u22, u23, u24, u25, u26, u27, u28, u29, u30, u31, u32, u33, u34, u35, u36, u37, u38, u39, u40, u41, u42, u43, u44, u45, u46, u47, u48, u49, u50, u51, u52, u53, u54, u55, u56, u57, u58, u59, u60, u61, u62, u63, u64, u65, u66, u67, u68, u69, u70, u71, u72, u73, u74, u75, u76, u77, u78, u79, u80, u81, u82, u83, u84, u85, u86, u87, u88, u89, u90, u91, u92, u93, u94, u95, u96, u97, u98, u99, u100, u101, u102, u103, u104, u105, u106, u107, u108, u109, u110, u111, u112, u113, u114, u115, u116, u117, u118, u119, u120, u121, u122, u123, u124, u125, u126, u127, u128, u129, u130, u131, u132, u133, u134, u135, u136, u137, u138, u139, u140, u141, u142, u143, u144, u145, u146, u147, u148, u149, u150, u151, u152, u153, u154, u155, u156, u157, u158, u159, u160, u161, u162, u163, u164, u165, u166, u167, u168, u169, u170, u171, u172, u173, u174, u175, u176, u177, u178, u179, u180, u181, u182, u183, u184, u185, u186, u187, u188, u189, u190, u191, u192, u193, u194, u195, u196, u197, u198, u199, u200, u201, u202, u203, u204, u205, u206, u207, u208, u209, u210, u211, u212, u213, u214, u215, u216, u217, u218, u219, u220, u221, u222, u223, u224, u225, u226, u227, u228, u229, u230, u231, u232, u233, u234, u235, u236, u237, u238, u239, u240, u241, u242, u243, u244, u245, u246, u247, u248, u249, u250, u251, u252, u253, u254, u255, u256, u257, u258, u259, u260, u261, u262, u263, u264, u265, u266, u267, u268, u269, u270, u271, u272, u273, u274, u275, u276, u277, u278, u279, u280], []⟩ W := by
  obtain ⟨i0, hi, hz0, hz1, hz2⟩ := info_parts info_str
  conv => arg 2; whnf
  go_wp2_with fail
  go_loopw [3, 5] (fun x3 x5 v => ∃ k : Nat, k ≤ D.ns ∧ x5 = .int .i64 k ∧ Hid (k = 0 → x3 = .slice none 0 0) ∧ Hid (v.ownsRow (w.heap.size + 1) 9 1 (x3) k ((List.range (k)).map fun j => .string ((D.ss j).nm))) ∧ Hid (Below w.heap.size w v) ∧ Hid (v.heap[w.heap.size]? = some (.cells #[.slice D.sa D.ns D.sc, .slice D.za D.nz D.zc, .slice D.la D.nl D.lc] 43)) ∧ Hid (∀ j, j < k → 1 ≤ (D.ss j).n ∧ (D.ss j).n ≤ 4)) (fun _ x5 _ => D.ns - (intOf x5).toNat)
  case atStart => exact ⟨0, Nat.zero_le _, rfl, fun _ => rfl, World.ownsRow_nil _ _ _ _, HW, HC, fun j hj => by omega⟩
  case round =>
    obtain ⟨k, hk, rfl, HZ, Q4, HW2, HC2, HA⟩ := hrel
    obtain ⟨c0, c1, c2⟩ := cells3 HC2.out
    by_cases hlt : k < D.ns
    · rcases HD.out.sets with h0 | ⟨b, off, hsa, hcs⟩
      · omega
      obtain ⟨d0, d1⟩ := hcs k hlt
      have hk0 : decide ((k : Int) < 0) = false := by simp
      have hkn : decide (D.ns ≤ k) = false := by simp; omega
      have hki : (k : Int) < (D.ns : Int) := by omega
      have c3 : wr.cell? ⟨w.heap.size, 0, none⟩ = some (.slice (some ⟨b, off, none⟩) D.ns D.sc) := by rw [← hsa]; exact c0
      have e0 := cell_on d0 HW2.out
      have hsz : w.heap.size < wr.heap.size := (Array.getElem?_eq_some_iff.1 HC2.out).1
      clear hcs c0 c1 c2
      have D1 := hideH d1
      have HSA := hideH hsa
      clear d0 d1 hsa
      go_wp2_with (at_builtin; refine wpList_append_lies _ rfl _ _ 73 rfl (w.heap.size + 1) 9 i0 (.string ⟨#[]⟩) 1 16 Tryd.underlying73 hi hz0 hz1 hz2 rfl (by decide) _ _ _ rfl (Q4.out.alloc _) ⟨wr.heap.size, 0, none⟩ 1 1 [.string (D.ss k).nm] rfl rfl (cell_one_new _ _ _) (by simp [Value.oneCell']) (by decide) (by unfold maxLen; omega) (by omega) (by simp; omega) _ rfl ?_; intro g4 q4 w1 hown hgrow hat hl1; refine Hid.out ?_)
      refine hideH ?_
      have H1 := hideH (below_grown (HW2.out.alloc (by omega) _) (Q4.out.alloc _) hgrow)
      have C1 := hideH (box_grown (base := 0) (box_alloc HC2.out _) (Q4.out.alloc _) hgrow)
      have S4 : Hid (w1.ownsRow (w.heap.size + 1) 9 1 (.slice (some ⟨g4, 0, none⟩) (k + 1) q4) (k + 1) ((List.range (k + 1)).map fun j => .string ((D.ss j).nm))) := by
        have h := hown
        rw [row_one k (fun j => Value.string ((D.ss j).nm)) (show Value.string (D.ss k).nm = _ by rfl)] at h
        exact h
      clear hown hgrow hat c3 e0 Q4 HW2 HC2
      obtain ⟨x0, x1, x2⟩ := cells3 C1.out
      have c3 : w1.cell? ⟨w.heap.size, 0, none⟩ = some (.slice (some ⟨b, off, none⟩) D.ns D.sc) := by rw [← HSA.out]; exact x0
      have e1 := cell_on D1.out H1.out
      clear x0 x1 x2
      by_cases hq : 1 ≤ (D.ss k).n ∧ (D.ss k).n ≤ 4
      · have hin : inB ((D.ss k).n : Int) 1 4 = true := in_mk (by omega)
        have HA2 : Hid (∀ j, j < k + 1 → 1 ≤ (D.ss j).n ∧ (D.ss j).n ≤ 4) := fun j hj => by
          rcases Nat.lt_or_ge j k with h | h
          · exact HA.out j h
          · obtain rfl : j = k := by omega
            exact hq
        clear hq
        go_wp2_with (first | (go_at_call 26; refine (within_c _ _ _ _).mono ?_; rintro e w2 ⟨rfl, rfl⟩))
        go_roundw
        case rel => exact ⟨k + 1, by omega, by go_num, fun h => by omega, S4, H1, C1, HA2⟩
        case measure => simp [intOf]; omega
      · have hin : inB ((D.ss k).n : Int) 1 4 = false := in_not (by omega)
        have HX : Hid (V = 2) := HV.out (fun h => hq (h k hlt))
        clear hq
        go_wp2_with (first | (go_at_call 26; refine (within_c _ _ _ _).mono ?_; rintro e w2 ⟨rfl, rfl⟩))
        go_ret
        exact ⟨ret_int HX.out.symm, H1.out⟩
    · obtain rfl : k = D.ns := by omega
      have H4 := hideH (H4.out HA.out)
      rename ∀ (a : Act) (w : World), _ → _ => hcont
      have HCONT := hideH hcont
      clear hcont
      go_wp2_with fail
      refine HCONT.out _ _ ?_
      exact H4.out wr _ _ _ _ _ _ _ _ _ _ _ _ _ _ _ _ _ _ _ _ _ _ _ _ _ _ _ _ _ _ _ _ _ _ _ _ _ _ _ _ _ _ _ _ _ _ _ _ _ _ _ _ _ _ _ _ _ _ _ _ _ _ _ _ _ _ _ _ _ _ _ _ _ _ _ _ _ _ _ _ _ _ _ _ _ _ _ _ _ _ _ _ _ _ _ _ _ _ _ _ _ _ _ _ _ _ _ _ _ _ _ _ _ _ _ _ _ _ _ _ _ _ _ _ _ _ _ _ _ _ _ _ _ _ _ _ _ _ _ _ _ _ _ _ _ _ _ _ _ _ _ _ _ _ _ _ _ _ _ _ _ _ _ _ _ _ _ _ _ _ _ _ _ _ _ _ _ _ _ _ _ _ _ _ _ _ _ _ _ _ _ _ _ _ _ _ _ _ _ _ _ _ _ _ _ _ _ _ _ _ _ _ _ _ _ _ _ _ _ _ _ _ _ _ _ _ _ _ _ _ _ _ _ _ _ _ _ _ _ _ _ _ _ _ _ _ _ _ _ _ _ _ _ _ _ _ _ _ _ _ _ _ _ _ _ _ _ _ _ _ _ _ _ _ _ _ _ _ _ HW2 HC2 Q4 HZ
end Go.Proofs.YtcdokhjmpkcpnabDoor
