/- The document's own DataFrom: a rule goes behind the last set's. -/
import Derived.Test.YtbpdbggojgijiaaGreatDoorSrcRD
import Derived.Deep.RegionHeld3
import Derived.Deep.RegionHeldLaw
namespace Go.Proofs.YtbpdbggojgijiaaGreatDoor.Src
open Go Go.RowKit Go.Maps
set_option linter.unusedVariables false
set_option linter.unusedSimpArgs false

theorem cells_SrcRG {w : World} {b : Nat} {x0 x1 x2 x3 x4 x5 x6 x7 x8 : Value} {t : TypeId} (h : w.heap[b]? = some (.cells #[x0, x1, x2, x3, x4, x5, x6, x7, x8] t)) : w.cell? ⟨b, 0, none⟩ = some x0 ∧ w.cell? ⟨b, 1, none⟩ = some x1 ∧ w.cell? ⟨b, 2, none⟩ = some x2 ∧ w.cell? ⟨b, 3, none⟩ = some x3 ∧ w.cell? ⟨b, 4, none⟩ = some x4 ∧ w.cell? ⟨b, 5, none⟩ = some x5 ∧ w.cell? ⟨b, 6, none⟩ = some x6 ∧ w.cell? ⟨b, 7, none⟩ = some x7 ∧ w.cell? ⟨b, 8, none⟩ = some x8 := by
  refine ⟨?_, ?_, ?_, ?_, ?_, ?_, ?_, ?_, ?_⟩ <;> simp [World.cell?, h]
set_option maxHeartbeats 8000000 in
set_option maxRecDepth 100000 in
theorem df16 {u0 u1 u2 u3 u4 u6 u7 u10 u11 u12 u13 u14 u15 u16 u17 u18 u19 u20 u21 u22 u23 u24 u25 u26 u27 u28 u29 u30 u31 u32 u33 u34 u35 u36 u37 u38 u39 u40 u41 u42 u43 u44 u45 u46 u47 u48 u49 u50 u51 u52 u53 u54 u55 u56 u57 u58 u59 u60 u61 u62 u63 u64 u65 u66 u67 u68 u69 u70 u71 u72 u73 u74 u75 u76 u77 u78 u79 u80 u81 u82 u83 u84 u85 u86 u87 u88 u89 u90 u91 u92 u93 u94 u95 u96 u97 u98 u99 u100 u101 u102 u103 u104 u105 u106 u107 u108 u109 u110 u111 u112 u113 u114 u115 u116 u117 u118 u119 u120 u121 u122 u123 u124 u125 u126 u127 u128 u129 u130 u131 u132 u133 u134 u135 u136 u137 u138 u139 u140 u141 u142 u143 u144 u145 u146 u147 u148 u149 u150 u151 u152 u153 u154 u155 u156 u157 u158 u159 u160 u161 u162 u163 u164 u165 u166 u167 u168 u169 u170 u171 u172 u173 u174 u175 u176 u177 u178 u179 u180 u181 u182 u183 u184 : Value} {ds : List Deferred} {Q : Exit → Act → World → Prop} (hP : ∀ c d v (a : Act) (w : World), Q (.panic c) (a.put d v) w → Q (.panic c) a w) (B db rb gs m : Nat) (r : Rl) (w : World) (c1 : Nat) (v1 v2 : Value) (xs ys : List Value) (ra : Option Addr) (rn rc : Nat) (hd : w.heap[db]? = some (.cells #[.slice (some ⟨gs, 0, none⟩) (m + 1) c1, v1, v2] 26)) (hrb : w.heap[rb]? = some (.cells #[.int .i64 r.f, .int .i64 r.t, .int .i64 r.m, .int .i64 r.k, .int .i64 r.wk, .int .i64 r.D, .int .i64 r.a, .int .i64 r.sv, .string r.s] 65)) (hne : (Value.slice ra rn rc).ownBlock ≠ some rb) (hB : B ≤ w.heap.size) (hBd : B ≤ db) (ho : w.ownsRow B 47 2 (.slice (some ⟨gs, 0, none⟩) (m + 1) c1) (m + 1) xs) (hx : xs[m * 2 + 1]? = some (.slice ra rn rc)) (hr : w.ownsRow B 65 9 (.slice ra rn rc) rn ys) (hn : m ≤ 1000000) (hrn : rn ≤ 1000000)
    (hQ : ∀ a2 c2 w' y90 y91 y92 y93 y94 y95 y96 y97 y98 y99 y100 y101 y102 y103 y104 y105, w'.heap[db]? = some (.cells #[.slice (some ⟨gs, 0, none⟩) (m + 1) c1, v1, v2] 26) → w'.ownsRow B 47 2 (.slice (some ⟨gs, 0, none⟩) (m + 1) c1) (m + 1) (xs.set (m * 2 + 1) (.slice a2 (rn + 1) c2)) → w'.ownsRow B 65 9 (.slice a2 (rn + 1) c2) (rn + 1) (ys ++ [.int .i64 r.f, .int .i64 r.t, .int .i64 r.m, .int .i64 r.k, .int .i64 r.wk, .int .i64 r.D, .int .i64 r.a, .int .i64 r.sv, .string r.s]) → Below B w w' → KO (Value.slice ra rn rc).ownBlock [47] w w' → ((Value.slice a2 (rn + 1) c2).ownBlock = (Value.slice ra rn rc).ownBlock ∨ ∃ k, (Value.slice a2 (rn + 1) c2).ownBlock = some k ∧ w.heap.size ≤ k) → Q .normal ⟨#[u0, u1, u2, u3, u4, .pointer (some ⟨db, 0, none⟩), u6, u7, .pointer (some ⟨rb, 0, none⟩), .int .i64 ((m : Int) + 1), u10, u11, u12, u13, u14, u15, u16, u17, u18, u19, u20, u21, u22, u23, u24, u25, u26, u27, u28, u29, u30, u31, u32, u33, u34, u35, u36, u37, u38, u39, u40, u41, u42, u43, u44, u45, u46, u47, u48, u49, u50, u51, u52, u53, u54, u55, u56, u57, u58, u59, u60, u61, u62, u63, u64, u65, u66, u67, u68, u69, u70, u71, u72, u73, u74, u75, u76, u77, u78, u79, u80, u81, u82, u83, u84, u85, u86, u87, u88, u89, y90, y91, y92, y93, y94, y95, y96, y97, y98, y99, y100, y101, y102, y103, y104, y105, u106, u107, u108, u109, u110, u111, u112, u113, u114, u115, u116, u117, u118, u119, u120, u121, u122, u123, u124, u125, u126, u127, u128, u129, u130, u131, u132, u133, u134, u135, u136, u137, u138, u139, u140, u141, u142, u143, u144, u145, u146, u147, u148, u149, u150, u151, u152, u153, u154, u155, u156, u157, u158, u159, u160, u161, u162, u163, u164, u165, u166, u167, u168, u169, u170, u171, u172, u173, u174, u175, u176, u177, u178, u179, u180, u181, u182, u183, u184], ds⟩ w') :
    Code.wp Tryz.prog ((regF 16 (Tryz.f11.body.getD .skip)).getD .skip) Q ⟨#[u0, u1, u2, u3, u4, .pointer (some ⟨db, 0, none⟩), u6, u7, .pointer (some ⟨rb, 0, none⟩), .int .i64 ((m : Int) + 1), u10, u11, u12, u13, u14, u15, u16, u17, u18, u19, u20, u21, u22, u23, u24, u25, u26, u27, u28, u29, u30, u31, u32, u33, u34, u35, u36, u37, u38, u39, u40, u41, u42, u43, u44, u45, u46, u47, u48, u49, u50, u51, u52, u53, u54, u55, u56, u57, u58, u59, u60, u61, u62, u63, u64, u65, u66, u67, u68, u69, u70, u71, u72, u73, u74, u75, u76, u77, u78, u79, u80, u81, u82, u83, u84, u85, u86, u87, u88, u89, u90, u91, u92, u93, u94, u95, u96, u97, u98, u99, u100, u101, u102, u103, u104, u105, u106, u107, u108, u109, u110, u111, u112, u113, u114, u115, u116, u117, u118, u119, u120, u121, u122, u123, u124, u125, u126, u127, u128, u129, u130, u131, u132, u133, u134, u135, u136, u137, u138, u139, u140, u141, u142, u143, u144, u145, u146, u147, u148, u149, u150, u151, u152, u153, u154, u155, u156, u157, u158, u159, u160, u161, u162, u163, u164, u165, u166, u167, u168, u169, u170, u171, u172, u173, u174, u175, u176, u177, u178, u179, u180, u181, u182, u183, u184], ds⟩ w := by
  have hdl : db < w.heap.size := (Array.getElem?_eq_some_iff.1 hd).1
  have hrl : rb < w.heap.size := (Array.getElem?_eq_some_iff.1 hrb).1
  have HO := hideS ho
  have HRr := hideS hr
  have HQ := hideS hQ
  have HD := hideS hd
  have HRB := hideS hrb
  have HNE := hideS hne
  have HXs := hideS hx
  obtain ⟨i2, hi2, hx0, hx1, hx2⟩ := info_parts infoS_rule
  have hk0 : (m : Int) + 1 - 1 = m := by omega
  have hwm : IntKind.i64.wrap (m : Int) = (m : Int) := wrap_nnS (by omega) (by omega)
  have j0 : decide ((m : Int) < 0) = false := by simp
  have j1 : decide (m + 1 ≤ m) = false := by simp
  have j2 : (m : Int) < (m : Int) + 1 := by omega
  have j3 : m < m + 1 := by omega
  have hS0 : Hid (∀ v : World, v.heap[db]? = some (.cells #[.slice (some ⟨gs, 0, none⟩) (m + 1) c1, v1, v2] 26) → v.ownsRow B 47 2 (.slice (some ⟨gs, 0, none⟩) (m + 1) c1) (m + 1) xs → v.heap[rb]? = some (.cells #[.int .i64 r.f, .int .i64 r.t, .int .i64 r.m, .int .i64 r.k, .int .i64 r.wk, .int .i64 r.D, .int .i64 r.a, .int .i64 r.sv, .string r.s] 65) → v.cell? ⟨db, 0, none⟩ = some (.slice (some ⟨gs, 0, none⟩) (m + 1) c1) ∧ v.cell? ⟨gs, m * 2 + 1, none⟩ = some (.slice ra rn rc) ∧ v.cell? ⟨rb, 0, none⟩ = some (.int .i64 r.f) ∧ v.cell? ⟨rb, 1, none⟩ = some (.int .i64 r.t) ∧ v.cell? ⟨rb, 2, none⟩ = some (.int .i64 r.m) ∧ v.cell? ⟨rb, 3, none⟩ = some (.int .i64 r.k) ∧ v.cell? ⟨rb, 4, none⟩ = some (.int .i64 r.wk) ∧ v.cell? ⟨rb, 5, none⟩ = some (.int .i64 r.D) ∧ v.cell? ⟨rb, 6, none⟩ = some (.int .i64 r.a) ∧ v.cell? ⟨rb, 7, none⟩ = some (.int .i64 r.sv) ∧ v.cell? ⟨rb, 8, none⟩ = some (.string r.s)) := fun v hv ho hb => ⟨(cells3 hv).1, by
    have := ho.cells (g := gs) rfl _ _ HXs.out
    simpa [Addr.add] using this, cells_SrcRG hb⟩
  clear ho hr hQ hd hrb hne hx
  conv => arg 2; whnf
  refine region_last2 (S := fun v => v.cell? ⟨db, 0, none⟩ = some (.slice (some ⟨gs, 0, none⟩) (m + 1) c1) ∧ v.cell? ⟨gs, m * 2 + 1, none⟩ = some (.slice ra rn rc) ∧ v.cell? ⟨rb, 0, none⟩ = some (.int .i64 r.f) ∧ v.cell? ⟨rb, 1, none⟩ = some (.int .i64 r.t) ∧ v.cell? ⟨rb, 2, none⟩ = some (.int .i64 r.m) ∧ v.cell? ⟨rb, 3, none⟩ = some (.int .i64 r.k) ∧ v.cell? ⟨rb, 4, none⟩ = some (.int .i64 r.wk) ∧ v.cell? ⟨rb, 5, none⟩ = some (.int .i64 r.D) ∧ v.cell? ⟨rb, 6, none⟩ = some (.int .i64 r.a) ∧ v.cell? ⟨rb, 7, none⟩ = some (.int .i64 r.sv) ∧ v.cell? ⟨rb, 8, none⟩ = some (.string r.s)) (by kernel_rfl) (by kernel_rfl) (hS0.out w.drew HD.out (show w.drew.ownsRow B 47 2 (.slice (some ⟨gs, 0, none⟩) (m + 1) c1) (m + 1) xs from HO.out) HRB.out) (fun hHeld => ?_)
  refine wpAnyH_take (i := 0) (v := ?va0) rfl (by kernel_rfl) (by kernel_rfl) (by kernel_rfl) (fun c a w h => hP c _ _ a w h) (Or.inl ⟨by rfl, ?ya0⟩) hHeld ?ra0
  case ya0 => intro w hSw; (try dsimp only at hSw); obtain ⟨hS0, hS1, hS2, hS3, hS4, hS5, hS6, hS7, hS8, hS9, hS10⟩ := hSw; go_simp; (try with_reducible rfl)
  try simp only [Act.put, List.setIfInBounds_toArray, List.set_cons_zero, List.set_cons_succ]
  refine wpAnyH_take (i := 1) (v := ?va1) rfl (by kernel_rfl) (by kernel_rfl) (by kernel_rfl) (fun c a w h => hP c _ _ a w h) (Or.inl ⟨by rfl, ?ya1⟩) hHeld ?ra1
  case ya1 => intro w hSw; (try dsimp only at hSw); obtain ⟨hS0, hS1, hS2, hS3, hS4, hS5, hS6, hS7, hS8, hS9, hS10⟩ := hSw; go_simp; (try with_reducible rfl)
  try simp only [Act.put, List.setIfInBounds_toArray, List.set_cons_zero, List.set_cons_succ]
  refine wpAnyH_take (i := 2) (v := ?va2) rfl (by kernel_rfl) (by kernel_rfl) (by kernel_rfl) (fun c a w h => hP c _ _ a w h) (Or.inl ⟨by rfl, ?ya2⟩) hHeld ?ra2
  case ya2 => intro w hSw; (try dsimp only at hSw); obtain ⟨hS0, hS1, hS2, hS3, hS4, hS5, hS6, hS7, hS8, hS9, hS10⟩ := hSw; go_simp; (try with_reducible rfl)
  try simp only [Act.put, List.setIfInBounds_toArray, List.set_cons_zero, List.set_cons_succ]
  refine wpAnyH_take (i := 3) (v := ?va3) rfl (by kernel_rfl) (by kernel_rfl) (by kernel_rfl) (fun c a w h => hP c _ _ a w h) (Or.inl ⟨by rfl, ?ya3⟩) hHeld ?ra3
  case ya3 => intro w hSw; (try dsimp only at hSw); obtain ⟨hS0, hS1, hS2, hS3, hS4, hS5, hS6, hS7, hS8, hS9, hS10⟩ := hSw; go_simp; (try with_reducible rfl)
  try simp only [Act.put, List.setIfInBounds_toArray, List.set_cons_zero, List.set_cons_succ]
  refine wpAnyH_take (i := 4) (v := ?va4) rfl (by kernel_rfl) (by kernel_rfl) (by kernel_rfl) (fun c a w h => hP c _ _ a w h) (Or.inl ⟨by rfl, ?ya4⟩) hHeld ?ra4
  case ya4 => intro w hSw; (try dsimp only at hSw); obtain ⟨hS0, hS1, hS2, hS3, hS4, hS5, hS6, hS7, hS8, hS9, hS10⟩ := hSw; go_simp; (try with_reducible rfl)
  try simp only [Act.put, List.setIfInBounds_toArray, List.set_cons_zero, List.set_cons_succ]
  refine wpAnyH_take (i := 5) (v := ?va5) rfl (by kernel_rfl) (by kernel_rfl) (by kernel_rfl) (fun c a w h => hP c _ _ a w h) (Or.inl ⟨by rfl, ?ya5⟩) hHeld ?ra5
  case ya5 => intro w hSw; (try dsimp only at hSw); obtain ⟨hS0, hS1, hS2, hS3, hS4, hS5, hS6, hS7, hS8, hS9, hS10⟩ := hSw; go_simp; (try with_reducible rfl)
  try simp only [Act.put, List.setIfInBounds_toArray, List.set_cons_zero, List.set_cons_succ]
  refine wpAnyH_take (i := 6) (v := ?va6) rfl (by kernel_rfl) (by kernel_rfl) (by kernel_rfl) (fun c a w h => hP c _ _ a w h) (Or.inl ⟨by rfl, ?ya6⟩) hHeld ?ra6
  case ya6 => intro w hSw; (try dsimp only at hSw); obtain ⟨hS0, hS1, hS2, hS3, hS4, hS5, hS6, hS7, hS8, hS9, hS10⟩ := hSw; go_simp; (try with_reducible rfl)
  try simp only [Act.put, List.setIfInBounds_toArray, List.set_cons_zero, List.set_cons_succ]
  refine wpAnyH_take (i := 7) (v := ?va7) rfl (by kernel_rfl) (by kernel_rfl) (by kernel_rfl) (fun c a w h => hP c _ _ a w h) (Or.inl ⟨by rfl, ?ya7⟩) hHeld ?ra7
  case ya7 => intro w hSw; (try dsimp only at hSw); obtain ⟨hS0, hS1, hS2, hS3, hS4, hS5, hS6, hS7, hS8, hS9, hS10⟩ := hSw; go_simp; (try with_reducible rfl)
  try simp only [Act.put, List.setIfInBounds_toArray, List.set_cons_zero, List.set_cons_succ]
  refine wpAnyH_take (i := 8) (v := ?va8) rfl (by kernel_rfl) (by kernel_rfl) (by kernel_rfl) (fun c a w h => hP c _ _ a w h) (Or.inl ⟨by rfl, ?ya8⟩) hHeld ?ra8
  case ya8 => intro w hSw; (try dsimp only at hSw); obtain ⟨hS0, hS1, hS2, hS3, hS4, hS5, hS6, hS7, hS8, hS9, hS10⟩ := hSw; go_simp; (try with_reducible rfl)
  try simp only [Act.put, List.setIfInBounds_toArray, List.set_cons_zero, List.set_cons_succ]
  refine wpAnyH_take (i := 9) (v := ?va9) rfl (by kernel_rfl) (by kernel_rfl) (by kernel_rfl) (fun c a w h => hP c _ _ a w h) (Or.inl ⟨by rfl, ?ya9⟩) hHeld ?ra9
  case ya9 => intro w hSw; (try dsimp only at hSw); obtain ⟨hS0, hS1, hS2, hS3, hS4, hS5, hS6, hS7, hS8, hS9, hS10⟩ := hSw; go_simp; (try with_reducible rfl)
  try simp only [Act.put, List.setIfInBounds_toArray, List.set_cons_zero, List.set_cons_succ]
  refine wpAnyH_take (i := 10) (v := ?va10) rfl (by kernel_rfl) (by kernel_rfl) (by kernel_rfl) (fun c a w h => hP c _ _ a w h) (Or.inl ⟨by rfl, ?ya10⟩) hHeld ?ra10
  case ya10 => intro w hSw; (try dsimp only at hSw); obtain ⟨hS0, hS1, hS2, hS3, hS4, hS5, hS6, hS7, hS8, hS9, hS10⟩ := hSw; go_simp; (try with_reducible rfl)
  try simp only [Act.put, List.setIfInBounds_toArray, List.set_cons_zero, List.set_cons_succ]
  refine wpAnyH_take (i := 11) (v := ?va11) rfl (by kernel_rfl) (by kernel_rfl) (by kernel_rfl) (fun c a w h => hP c _ _ a w h) (Or.inl ⟨by rfl, ?ya11⟩) hHeld ?ra11
  case ya11 => intro w hSw; (try dsimp only at hSw); obtain ⟨hS0, hS1, hS2, hS3, hS4, hS5, hS6, hS7, hS8, hS9, hS10⟩ := hSw; go_simp; (try with_reducible rfl)
  try simp only [Act.put, List.setIfInBounds_toArray, List.set_cons_zero, List.set_cons_succ]
  refine wpAnyH_ready (rs := [12]) (by kernel_rfl) (by simp) ?_
  refine AllReadyH.cons (i := 12) rfl (fun K hK => ?_) AllReadyH.nil
  go_simp
  have ba := ((Below.refl _ w).alloc (Nat.le_refl _) (.cells #[.int .i64 r.f, .int .i64 r.t, .int .i64 r.m, .int .i64 r.k, .int .i64 r.wk, .int .i64 r.D, .int .i64 r.a, .int .i64 r.sv, .string r.s] 65)).drew
  have D3 := hideS (heap_on HD.out ba)
  have R3 := hideS (heap_on HRB.out ba)
  have W3 : Hid (Below B w (w.alloc (.cells #[.int .i64 r.f, .int .i64 r.t, .int .i64 r.m, .int .i64 r.k, .int .i64 r.wk, .int .i64 r.D, .int .i64 r.a, .int .i64 r.sv, .string r.s] 65)).drew) := ba.mono hB
  have O3 := hideS (own_on HO.out ba)
  have P3 := hideS (own_on HRr.out ba)
  have K3 : Hid (KO (Value.slice ra rn rc).ownBlock [47] w (w.alloc (.cells #[.int .i64 r.f, .int .i64 r.t, .int .i64 r.m, .int .i64 r.k, .int .i64 r.wk, .int .i64 r.D, .int .i64 r.a, .int .i64 r.sv, .string r.s] 65)).drew) := ko_kt (kt_on ba)
  clear ba
  refine hK.out _ _ ?s12 (fun hHeld => ?_)
  case s12 => exact hS0.out _ D3.out O3.out R3.out
  clear hK K
  try simp only [Act.put, List.setIfInBounds_toArray, List.set_cons_zero, List.set_cons_succ]
  refine wpAnyH_ready (rs := [13]) (by kernel_rfl) (by simp) ?_
  refine AllReadyH.cons (i := 13) rfl (fun K hK => ?_) AllReadyH.nil
  refine step_append_row _ rfl _ _ 45 rfl B 65 i2 _ 9 80 Tryz.underlying45 hi2 hx0 hx1 hx2 rfl (by decide) _ rn ys rfl P3.out _ 1 1 [.int .i64 r.f, .int .i64 r.t, .int .i64 r.m, .int .i64 r.k, .int .i64 r.wk, .int .i64 r.D, .int .i64 r.a, .int .i64 r.sv, .string r.s] rfl rfl (.inr ⟨_, rfl, World.news_of_block (World.alloc_heap_new w _)⟩) (by intro u hu; simp at hu; rcases hu with rfl | rfl | rfl | rfl | rfl | rfl | rfl | rfl | rfl <;> rfl) (by unfold maxLen; omega) (by omega) (by simp; omega) ?_
  intro vr z4 O4 G4 hat
  obtain ⟨a2, c2, rfl⟩ := ownS_sl O4
  have K4 : Hid (KO (Value.slice ra rn rc).ownBlock [47] w z4) := K3.out.trans (ko_grown G4)
  have KB := hideS (keptB_grown P3.out G4)
  have D4 : Hid (z4.heap[db]? = some (.cells #[.slice (some ⟨gs, 0, none⟩) (m + 1) c1, v1, v2] 26)) := KB.out _ _ _ _ D3.out (by decide)
  have S4 : Hid (z4.ownsRow B 47 2 (.slice (some ⟨gs, 0, none⟩) (m + 1) c1) (m + 1) xs) := keptB_own KB.out O3.out (by decide)
  have R4 : Hid (z4.heap[rb]? = some (.cells #[.int .i64 r.f, .int .i64 r.t, .int .i64 r.m, .int .i64 r.k, .int .i64 r.wk, .int .i64 r.D, .int .i64 r.a, .int .i64 r.sv, .string r.s] 65)) := (G4.block rb (by simp; omega) (fun e => HNE.out e.symm)).trans R3.out
  have W4 : Hid (Below B w z4) := W3.out.grown G4 (by simp; omega) fun k hk => (P3.out.lt k hk).1
  have HAT : Hid ((Value.slice a2 (rn + 1) c2).ownBlock = (Value.slice ra rn rc).ownBlock ∨ ∃ k, (Value.slice a2 (rn + 1) c2).ownBlock = some k ∧ w.heap.size ≤ k) := hat.imp id fun h => ⟨_, h, by simp⟩
  have P4 := hideS O4
  clear O4 G4
  refine hK.out _ _ ?s13 (fun hHeld => ?_)
  case s13 => exact hS0.out _ D4.out S4.out R4.out
  clear hK K
  try simp only [Act.put, List.setIfInBounds_toArray, List.set_cons_zero, List.set_cons_succ]
  refine wpAnyH_take (i := 14) (v := ?va14) rfl (by kernel_rfl) (by kernel_rfl) (by kernel_rfl) (fun c a w h => hP c _ _ a w h) (Or.inl ⟨by rfl, ?ya14⟩) hHeld ?ra14
  case ya14 => intro w hSw; (try dsimp only at hSw); obtain ⟨hS0, hS1, hS2, hS3, hS4, hS5, hS6, hS7, hS8, hS9, hS10⟩ := hSw; go_simp; (try with_reducible rfl)
  try simp only [Act.put, List.setIfInBounds_toArray, List.set_cons_zero, List.set_cons_succ]
  refine wpAnyH_take (i := 15) (v := ?va15) rfl (by kernel_rfl) (by kernel_rfl) (by kernel_rfl) (fun c a w h => hP c _ _ a w h) (Or.inl ⟨by rfl, ?ya15⟩) hHeld ?ra15
  case ya15 => intro w hSw; (try dsimp only at hSw); obtain ⟨hS0, hS1, hS2, hS3, hS4, hS5, hS6, hS7, hS8, hS9, hS10⟩ := hSw; go_simp; (try with_reducible rfl)
  try simp only [Act.put, List.setIfInBounds_toArray, List.set_cons_zero, List.set_cons_succ]
  refine wpAnyH_done (by kernel_rfl) ?_ _
  obtain ⟨ow0, ow, -⟩ := hS0.out z4 D4.out S4.out R4.out
  obtain ⟨cur, hcur, hBg⟩ := own_block S4.out
  have of : z4.frozen? ⟨gs, m * 2 + 1, none⟩ = false := Lib.frozen_of_heap hcur _
  refine qlast_n ?_
  refine wpOp_step rfl (fun K hK => ?_)
  go_simp
  refine hK _ _ ?_
  clear hK K
  have KD : KT [47] z4 (z4.setCell ⟨gs, m * 2 + 1, none⟩ (.slice a2 (rn + 1) c2)) := kt_set hcur (by decide) _ _
  exact HQ.out a2 c2 _ _ _ _ _ _ _ _ _ _ _ _ _ _ _ _ _ (KD _ _ _ _ D4.out (by decide)) (own_put S4.out _) (kt_own KD P4.out (by decide)) (W4.out.setCell (p := ⟨gs, m * 2 + 1, none⟩) hBg _) (K4.out.trans (ko_kt (kt_set hcur (by decide) _ _))) HAT.out
end Go.Proofs.YtbpdbggojgijiaaGreatDoor.Src
