/- The document's own DataFrom: an era is made of words. -/
import Derived.Test.YtbpdbggojgijiaaGreatDoorSrcRD
import Derived.Deep.RegionHeld3
import Derived.Deep.RegionHeldLaw
namespace Go.Proofs.YtbpdbggojgijiaaGreatDoor.Src
open Go Go.RowKit Go.Maps
set_option linter.unusedVariables false
set_option linter.unusedSimpArgs false

set_option maxHeartbeats 16000000 in
set_option maxRecDepth 100000 in
theorem df20 {u0 u1 u2 u3 u4 u5 u6 u8 u9 u10 u11 u12 u13 u14 u15 u16 u17 u18 u19 u20 u21 u22 u23 u24 u25 u26 u27 u28 u29 u30 u31 u32 u33 u34 u35 u36 u37 u38 u39 u40 u41 u42 u43 u44 u45 u46 u47 u48 u49 u50 u51 u52 u53 u54 u55 u56 u57 u58 u59 u60 u61 u62 u63 u64 u65 u66 u67 u68 u69 u70 u71 u72 u73 u74 u75 u76 u77 u78 u79 u80 u81 u82 u83 u84 u85 u86 u87 u88 u89 u90 u91 u92 u93 u94 u95 u96 u97 u98 u99 u100 u101 u102 u103 u104 u105 u106 u107 u108 u109 u110 u111 u112 u113 u114 u115 u116 u117 u118 u119 u120 u121 u122 u123 u124 u125 u126 u127 u128 u129 u130 u131 u132 u133 u134 u135 u136 u137 u138 u139 u140 u141 u142 u143 u144 u145 u146 u147 u148 u149 u150 u151 u152 u153 u154 u155 u156 u157 u158 u159 u160 u161 u162 u163 u164 u165 u166 u167 u168 u169 u170 u171 u172 u173 u174 u175 u176 u177 u178 u179 u180 u181 u182 u183 u184 : Value} {ds : List Deferred} {Q : Exit → Act → World → Prop} (hP : ∀ c d v (a : Act) (w : World), Q (.panic c) (a.put d v) w → Q (.panic c) a w) (g nw cw : Nat) (T1 T2 T3 T4 T5 : By) (q1 q2 q3 q5 : Int) (cs : Array Value) (w : World) (hg : w.heap[g]? = some (.cells cs 9)) (hc1 : cs[1]? = some (.string ⟨T1.toArray⟩)) (hc2 : cs[2]? = some (.string ⟨T2.toArray⟩)) (hc3 : cs[3]? = some (.string ⟨T3.toArray⟩)) (hc4 : cs[4]? = some (.string ⟨T4.toArray⟩)) (hc5 : cs[5]? = some (.string ⟨T5.toArray⟩)) (hnw : 10 ≤ nw) (hs1 : ∀ v : World, Calls Tryz.prog 30 #[.string ⟨T1.toArray⟩] v fun e w' => e = .returned (.int .i64 q1) ∧ w' = v) (hs2 : ∀ v : World, Calls Tryz.prog 30 #[.string ⟨T2.toArray⟩] v fun e w' => e = .returned (.int .i64 q2) ∧ w' = v) (hs3 : ∀ v : World, Calls Tryz.prog 30 #[.string ⟨T3.toArray⟩] v fun e w' => e = .returned (.int .i64 q3) ∧ w' = v) (hs5 : ∀ v : World, Calls Tryz.prog 30 #[.string ⟨T5.toArray⟩] v fun e w' => e = .returned (.int .i64 q5) ∧ w' = v)
    (hQ : ∀ rb w' y119 y120 y121 y122 y123 y124 y125 y126 y127 y128 y129 y130 y131 y132 y133 y134 y135 y136 y137 y138, w'.heap[rb]? = some (.cells #[.int .i64 q1, .int .i64 q2, .int .i64 q3, .string ⟨T4.toArray⟩, .int .i64 q5] 67) → w.heap.size ≤ rb → Below w.heap.size w w' → Q .normal ⟨#[u0, u1, u2, u3, u4, u5, u6, .slice (some ⟨g, 0, none⟩) nw cw, u8, u9, .pointer (some ⟨rb, 0, none⟩), u11, u12, u13, u14, u15, u16, u17, u18, u19, u20, u21, u22, u23, u24, u25, u26, u27, u28, u29, u30, u31, u32, u33, u34, u35, u36, u37, u38, u39, u40, u41, u42, u43, u44, u45, u46, u47, u48, u49, u50, u51, u52, u53, u54, u55, u56, u57, u58, u59, u60, u61, u62, u63, u64, u65, u66, u67, u68, u69, u70, u71, u72, u73, u74, u75, u76, u77, u78, u79, u80, u81, u82, u83, u84, u85, u86, u87, u88, u89, u90, u91, u92, u93, u94, u95, u96, u97, u98, u99, u100, u101, u102, u103, u104, u105, u106, u107, u108, u109, u110, u111, u112, u113, u114, u115, u116, u117, u118, y119, y120, y121, y122, y123, y124, y125, y126, y127, y128, y129, y130, y131, y132, y133, y134, y135, y136, y137, y138, u139, u140, u141, u142, u143, u144, u145, u146, u147, u148, u149, u150, u151, u152, u153, u154, u155, u156, u157, u158, u159, u160, u161, u162, u163, u164, u165, u166, u167, u168, u169, u170, u171, u172, u173, u174, u175, u176, u177, u178, u179, u180, u181, u182, u183, u184], ds⟩ w') :
    Code.wp Tryz.prog ((regF 20 (Tryz.f11.body.getD .skip)).getD .skip) Q ⟨#[u0, u1, u2, u3, u4, u5, u6, .slice (some ⟨g, 0, none⟩) nw cw, u8, u9, u10, u11, u12, u13, u14, u15, u16, u17, u18, u19, u20, u21, u22, u23, u24, u25, u26, u27, u28, u29, u30, u31, u32, u33, u34, u35, u36, u37, u38, u39, u40, u41, u42, u43, u44, u45, u46, u47, u48, u49, u50, u51, u52, u53, u54, u55, u56, u57, u58, u59, u60, u61, u62, u63, u64, u65, u66, u67, u68, u69, u70, u71, u72, u73, u74, u75, u76, u77, u78, u79, u80, u81, u82, u83, u84, u85, u86, u87, u88, u89, u90, u91, u92, u93, u94, u95, u96, u97, u98, u99, u100, u101, u102, u103, u104, u105, u106, u107, u108, u109, u110, u111, u112, u113, u114, u115, u116, u117, u118, u119, u120, u121, u122, u123, u124, u125, u126, u127, u128, u129, u130, u131, u132, u133, u134, u135, u136, u137, u138, u139, u140, u141, u142, u143, u144, u145, u146, u147, u148, u149, u150, u151, u152, u153, u154, u155, u156, u157, u158, u159, u160, u161, u162, u163, u164, u165, u166, u167, u168, u169, u170, u171, u172, u173, u174, u175, u176, u177, u178, u179, u180, u181, u182, u183, u184], ds⟩ w := by
  have HQ := hideS hQ
  have HG := hideS hg
  have HS1 := hideS hs1
  have HS2 := hideS hs2
  have HS3 := hideS hs3
  have HS5 := hideS hs5
  have hS0 : Hid (∀ v : World, v.heap[g]? = some (.cells cs 9) → v.cell? ⟨g, 1, none⟩ = some (.string ⟨T1.toArray⟩) ∧ v.cell? ⟨g, 2, none⟩ = some (.string ⟨T2.toArray⟩) ∧ v.cell? ⟨g, 3, none⟩ = some (.string ⟨T3.toArray⟩) ∧ v.cell? ⟨g, 4, none⟩ = some (.string ⟨T4.toArray⟩) ∧ v.cell? ⟨g, 5, none⟩ = some (.string ⟨T5.toArray⟩)) := fun v hv2 => ⟨by rw [Lib.cell_of_heap hv2, hc1], by rw [Lib.cell_of_heap hv2, hc2], by rw [Lib.cell_of_heap hv2, hc3], by rw [Lib.cell_of_heap hv2, hc4], by rw [Lib.cell_of_heap hv2, hc5]⟩
  have jn1 : decide (nw ≤ 1) = false := by simp; omega
  have ji1 : (1 : Int) < (nw : Int) := by omega
  have jl1 : 1 < nw := by omega
  have jn2 : decide (nw ≤ 2) = false := by simp; omega
  have ji2 : (2 : Int) < (nw : Int) := by omega
  have jl2 : 2 < nw := by omega
  have jn3 : decide (nw ≤ 3) = false := by simp; omega
  have ji3 : (3 : Int) < (nw : Int) := by omega
  have jl3 : 3 < nw := by omega
  have jn4 : decide (nw ≤ 4) = false := by simp; omega
  have ji4 : (4 : Int) < (nw : Int) := by omega
  have jl4 : 4 < nw := by omega
  have jn5 : decide (nw ≤ 5) = false := by simp; omega
  have ji5 : (5 : Int) < (nw : Int) := by omega
  have jl5 : 5 < nw := by omega
  have ba := hideS ((Below.refl _ w).alloc (Nat.le_refl _) (.cells #[.int .i64 0, .int .i64 0, .int .i64 0, .string ⟨#[]⟩, .int .i64 0] 67))
  have Z0 : Hid ((w.alloc (.cells #[.int .i64 0, .int .i64 0, .int .i64 0, .string ⟨#[]⟩, .int .i64 0] 67)).drew.heap[w.heap.size]? = some (.cells #[.int .i64 0, .int .i64 0, .int .i64 0, .string ⟨#[]⟩, .int .i64 0] 67)) := World.alloc_heap_new w _
  have GA : Hid ((w.alloc (.cells #[.int .i64 0, .int .i64 0, .int .i64 0, .string ⟨#[]⟩, .int .i64 0] 67)).drew.heap[g]? = some (.cells cs 9)) := heap_on (w' := w.alloc (.cells #[.int .i64 0, .int .i64 0, .int .i64 0, .string ⟨#[]⟩, .int .i64 0] 67)) HG.out ba.out
  clear hQ hg hc1 hc2 hc3 hc4 hc5 hs1 hs2 hs3 hs5
  conv => arg 2; whnf
  refine region_last2 (S := fun v => v.cell? ⟨g, 1, none⟩ = some (.string ⟨T1.toArray⟩) ∧ v.cell? ⟨g, 2, none⟩ = some (.string ⟨T2.toArray⟩) ∧ v.cell? ⟨g, 3, none⟩ = some (.string ⟨T3.toArray⟩) ∧ v.cell? ⟨g, 4, none⟩ = some (.string ⟨T4.toArray⟩) ∧ v.cell? ⟨g, 5, none⟩ = some (.string ⟨T5.toArray⟩)) (by kernel_rfl) (by kernel_rfl) (hS0.out w.drew HG.out) (fun hHeld => ?_)
  refine wpAnyH_take (i := 0) (v := ?va0) rfl (by kernel_rfl) (by kernel_rfl) (by kernel_rfl) (fun c a w h => hP c _ _ a w h) (Or.inl ⟨by rfl, ?ya0⟩) hHeld ?ra0
  case ya0 => intro w hSw; (try dsimp only at hSw); obtain ⟨hS1, hS2, hS3, hS4, hS5⟩ := hSw; go_simp; (try with_reducible rfl)
  try simp only [Act.put, List.setIfInBounds_toArray, List.set_cons_zero, List.set_cons_succ]
  refine wpAnyH_take (i := 1) (v := ?va1) rfl (by kernel_rfl) (by kernel_rfl) (by kernel_rfl) (fun c a w h => hP c _ _ a w h) (Or.inl ⟨by rfl, ?ya1⟩) hHeld ?ra1
  case ya1 => intro w hSw; (try dsimp only at hSw); obtain ⟨hS1, hS2, hS3, hS4, hS5⟩ := hSw; go_simp; (try with_reducible rfl)
  try simp only [Act.put, List.setIfInBounds_toArray, List.set_cons_zero, List.set_cons_succ]
  refine wpAnyH_take (i := 2) (v := ?va2) rfl (by kernel_rfl) (by kernel_rfl) (by kernel_rfl) (fun c a w h => hP c _ _ a w h) (Or.inl ⟨by rfl, ?ya2⟩) hHeld ?ra2
  case ya2 => intro w hSw; (try dsimp only at hSw); obtain ⟨hS1, hS2, hS3, hS4, hS5⟩ := hSw; go_simp; (try with_reducible rfl)
  try simp only [Act.put, List.setIfInBounds_toArray, List.set_cons_zero, List.set_cons_succ]
  refine wpAnyH_take (i := 4) (v := ?va4) rfl (by kernel_rfl) (by kernel_rfl) (by kernel_rfl) (fun c a w h => hP c _ _ a w h) (Or.inl ⟨by rfl, ?ya4⟩) hHeld ?ra4
  case ya4 => intro w hSw; (try dsimp only at hSw); obtain ⟨hS1, hS2, hS3, hS4, hS5⟩ := hSw; go_simp; (try with_reducible rfl)
  try simp only [Act.put, List.setIfInBounds_toArray, List.set_cons_zero, List.set_cons_succ]
  refine wpAnyH_take (i := 5) (v := ?va5) rfl (by kernel_rfl) (by kernel_rfl) (by kernel_rfl) (fun c a w h => hP c _ _ a w h) (Or.inl ⟨by rfl, ?ya5⟩) hHeld ?ra5
  case ya5 => intro w hSw; (try dsimp only at hSw); obtain ⟨hS1, hS2, hS3, hS4, hS5⟩ := hSw; go_simp; (try with_reducible rfl)
  try simp only [Act.put, List.setIfInBounds_toArray, List.set_cons_zero, List.set_cons_succ]
  refine wpAnyH_take (i := 6) (v := ?va6) rfl (by kernel_rfl) (by kernel_rfl) (by kernel_rfl) (fun c a w h => hP c _ _ a w h) (Or.inl ⟨by rfl, ?ya6⟩) hHeld ?ra6
  case ya6 => intro w hSw; (try dsimp only at hSw); obtain ⟨hS1, hS2, hS3, hS4, hS5⟩ := hSw; go_simp; (try with_reducible rfl)
  try simp only [Act.put, List.setIfInBounds_toArray, List.set_cons_zero, List.set_cons_succ]
  refine wpAnyH_take (i := 8) (v := ?va8) rfl (by kernel_rfl) (by kernel_rfl) (by kernel_rfl) (fun c a w h => hP c _ _ a w h) (Or.inl ⟨by rfl, ?ya8⟩) hHeld ?ra8
  case ya8 => intro w hSw; (try dsimp only at hSw); obtain ⟨hS1, hS2, hS3, hS4, hS5⟩ := hSw; go_simp; (try with_reducible rfl)
  try simp only [Act.put, List.setIfInBounds_toArray, List.set_cons_zero, List.set_cons_succ]
  refine wpAnyH_take (i := 9) (v := ?va9) rfl (by kernel_rfl) (by kernel_rfl) (by kernel_rfl) (fun c a w h => hP c _ _ a w h) (Or.inl ⟨by rfl, ?ya9⟩) hHeld ?ra9
  case ya9 => intro w hSw; (try dsimp only at hSw); obtain ⟨hS1, hS2, hS3, hS4, hS5⟩ := hSw; go_simp; (try with_reducible rfl)
  try simp only [Act.put, List.setIfInBounds_toArray, List.set_cons_zero, List.set_cons_succ]
  refine wpAnyH_take (i := 10) (v := ?va10) rfl (by kernel_rfl) (by kernel_rfl) (by kernel_rfl) (fun c a w h => hP c _ _ a w h) (Or.inl ⟨by rfl, ?ya10⟩) hHeld ?ra10
  case ya10 => intro w hSw; (try dsimp only at hSw); obtain ⟨hS1, hS2, hS3, hS4, hS5⟩ := hSw; go_simp; (try with_reducible rfl)
  try simp only [Act.put, List.setIfInBounds_toArray, List.set_cons_zero, List.set_cons_succ]
  refine wpAnyH_take (i := 12) (v := ?va12) rfl (by kernel_rfl) (by kernel_rfl) (by kernel_rfl) (fun c a w h => hP c _ _ a w h) (Or.inl ⟨by rfl, ?ya12⟩) hHeld ?ra12
  case ya12 => intro w hSw; (try dsimp only at hSw); obtain ⟨hS1, hS2, hS3, hS4, hS5⟩ := hSw; go_simp; (try with_reducible rfl)
  try simp only [Act.put, List.setIfInBounds_toArray, List.set_cons_zero, List.set_cons_succ]
  refine wpAnyH_take (i := 13) (v := ?va13) rfl (by kernel_rfl) (by kernel_rfl) (by kernel_rfl) (fun c a w h => hP c _ _ a w h) (Or.inl ⟨by rfl, ?ya13⟩) hHeld ?ra13
  case ya13 => intro w hSw; (try dsimp only at hSw); obtain ⟨hS1, hS2, hS3, hS4, hS5⟩ := hSw; go_simp; (try with_reducible rfl)
  try simp only [Act.put, List.setIfInBounds_toArray, List.set_cons_zero, List.set_cons_succ]
  refine wpAnyH_take (i := 14) (v := ?va14) rfl (by kernel_rfl) (by kernel_rfl) (by kernel_rfl) (fun c a w h => hP c _ _ a w h) (Or.inl ⟨by rfl, ?ya14⟩) hHeld ?ra14
  case ya14 => intro w hSw; (try dsimp only at hSw); obtain ⟨hS1, hS2, hS3, hS4, hS5⟩ := hSw; go_simp; (try with_reducible rfl)
  try simp only [Act.put, List.setIfInBounds_toArray, List.set_cons_zero, List.set_cons_succ]
  refine wpAnyH_take (i := 15) (v := ?va15) rfl (by kernel_rfl) (by kernel_rfl) (by kernel_rfl) (fun c a w h => hP c _ _ a w h) (Or.inl ⟨by rfl, ?ya15⟩) hHeld ?ra15
  case ya15 => intro w hSw; (try dsimp only at hSw); obtain ⟨hS1, hS2, hS3, hS4, hS5⟩ := hSw; go_simp; (try with_reducible rfl)
  try simp only [Act.put, List.setIfInBounds_toArray, List.set_cons_zero, List.set_cons_succ]
  refine wpAnyH_take (i := 16) (v := ?va16) rfl (by kernel_rfl) (by kernel_rfl) (by kernel_rfl) (fun c a w h => hP c _ _ a w h) (Or.inl ⟨by rfl, ?ya16⟩) hHeld ?ra16
  case ya16 => intro w hSw; (try dsimp only at hSw); obtain ⟨hS1, hS2, hS3, hS4, hS5⟩ := hSw; go_simp; (try with_reducible rfl)
  try simp only [Act.put, List.setIfInBounds_toArray, List.set_cons_zero, List.set_cons_succ]
  refine wpAnyH_take (i := 17) (v := ?va17) rfl (by kernel_rfl) (by kernel_rfl) (by kernel_rfl) (fun c a w h => hP c _ _ a w h) (Or.inl ⟨by rfl, ?ya17⟩) hHeld ?ra17
  case ya17 => intro w hSw; (try dsimp only at hSw); obtain ⟨hS1, hS2, hS3, hS4, hS5⟩ := hSw; go_simp; (try with_reducible rfl)
  try simp only [Act.put, List.setIfInBounds_toArray, List.set_cons_zero, List.set_cons_succ]
  refine wpAnyH_ready (rs := [3, 20]) (by kernel_rfl) (by simp) ?_
  refine AllReadyH.cons (i := 3) rfl (fun K hK => ?bx1) (AllReadyH.cons (i := 20) rfl (fun K hK => ?bx2) AllReadyH.nil)
  case bx2 =>
    go_simp
    refine hK.out _ _ ?sx3 (fun hHeld => ?_)
    case sx3 => exact hS0.out _ GA.out
    clear hK K
    try simp only [Act.put, List.setIfInBounds_toArray, List.set_cons_zero, List.set_cons_succ]
    refine wpAnyH_ready (rs := [3]) (by kernel_rfl) (by simp) ?_
    refine AllReadyH.cons (i := 3) rfl (fun K hK => ?_) AllReadyH.nil
    go_simp
    refine (HS1.out _).mono ?_
    rintro e zz ⟨rfl, rfl⟩
    refine hK.out _ _ ?sx4 (fun hHeld => ?_)
    case sx4 => exact hHeld
    clear hK K
    try simp only [Act.put, List.setIfInBounds_toArray, List.set_cons_zero, List.set_cons_succ]
    refine wpAnyH_ready (rs := [7]) (by kernel_rfl) (by simp) ?_
    refine AllReadyH.cons (i := 7) rfl (fun K hK => ?_) AllReadyH.nil
    go_simp
    refine (HS2.out _).mono ?_
    rintro e zz ⟨rfl, rfl⟩
    refine hK.out _ _ ?sx5 (fun hHeld => ?_)
    case sx5 => exact hHeld
    clear hK K
    try simp only [Act.put, List.setIfInBounds_toArray, List.set_cons_zero, List.set_cons_succ]
    refine wpAnyH_ready (rs := [11]) (by kernel_rfl) (by simp) ?_
    refine AllReadyH.cons (i := 11) rfl (fun K hK => ?_) AllReadyH.nil
    go_simp
    refine (HS3.out _).mono ?_
    rintro e zz ⟨rfl, rfl⟩
    refine hK.out _ _ ?sx6 (fun hHeld => ?_)
    case sx6 => exact hHeld
    clear hK K
    try simp only [Act.put, List.setIfInBounds_toArray, List.set_cons_zero, List.set_cons_succ]
    refine wpAnyH_ready (rs := [18]) (by kernel_rfl) (by simp) ?_
    refine AllReadyH.cons (i := 18) rfl (fun K hK => ?_) AllReadyH.nil
    go_simp
    refine (HS5.out _).mono ?_
    rintro e zz ⟨rfl, rfl⟩
    refine hK.out _ _ ?sx7 (fun hHeld => ?_)
    case sx7 => exact hHeld
    clear hK K
    try simp only [Act.put, List.setIfInBounds_toArray, List.set_cons_zero, List.set_cons_succ]
    refine wpAnyH_take (i := 19) (v := ?va19x8) rfl (by kernel_rfl) (by kernel_rfl) (by kernel_rfl) (fun c a w h => hP c _ _ a w h) (Or.inl ⟨by rfl, ?ya19x8⟩) hHeld ?ra19x8
    case ya19x8 => intro w hSw; (try dsimp only at hSw); obtain ⟨hS1, hS2, hS3, hS4, hS5⟩ := hSw; go_simp; (try with_reducible rfl)
    try simp only [Act.put, List.setIfInBounds_toArray, List.set_cons_zero, List.set_cons_succ]
    refine wpAnyH_done (by kernel_rfl) ?_ _
    refine qlast_n ?_
    refine wpOp_step rfl (fun K hK => ?_)
    go_simp
    refine hK _ _ ?_
    clear hK K
    exact HQ.out w.heap.size ((w.alloc (.cells #[.int .i64 q1, .int .i64 q2, .int .i64 q3, .string ⟨T4.toArray⟩, .int .i64 q5] 67)).drew) _ _ _ _ _ _ _ _ _ _ _ _ _ _ _ _ _ _ _ _ (World.alloc_heap_new w _) (Nat.le_refl _) (((Below.refl _ w).alloc (Nat.le_refl _) (.cells #[.int .i64 q1, .int .i64 q2, .int .i64 q3, .string ⟨T4.toArray⟩, .int .i64 q5] 67)).drew)
  case bx1 =>
    go_simp
    refine (HS1.out _).mono ?_
    rintro e zz ⟨rfl, rfl⟩
    refine hK.out _ _ ?sx9 (fun hHeld => ?_)
    case sx9 => exact hHeld
    clear hK K
    try simp only [Act.put, List.setIfInBounds_toArray, List.set_cons_zero, List.set_cons_succ]
    refine wpAnyH_ready (rs := [7, 20]) (by kernel_rfl) (by simp) ?_
    refine AllReadyH.cons (i := 7) rfl (fun K hK => ?bx10) (AllReadyH.cons (i := 20) rfl (fun K hK => ?bx11) AllReadyH.nil)
    case bx11 =>
      go_simp
      refine hK.out _ _ ?sx12 (fun hHeld => ?_)
      case sx12 => exact hS0.out _ GA.out
      clear hK K
      try simp only [Act.put, List.setIfInBounds_toArray, List.set_cons_zero, List.set_cons_succ]
      refine wpAnyH_ready (rs := [7]) (by kernel_rfl) (by simp) ?_
      refine AllReadyH.cons (i := 7) rfl (fun K hK => ?_) AllReadyH.nil
      go_simp
      refine (HS2.out _).mono ?_
      rintro e zz ⟨rfl, rfl⟩
      refine hK.out _ _ ?sx13 (fun hHeld => ?_)
      case sx13 => exact hHeld
      clear hK K
      try simp only [Act.put, List.setIfInBounds_toArray, List.set_cons_zero, List.set_cons_succ]
      refine wpAnyH_ready (rs := [11]) (by kernel_rfl) (by simp) ?_
      refine AllReadyH.cons (i := 11) rfl (fun K hK => ?_) AllReadyH.nil
      go_simp
      refine (HS3.out _).mono ?_
      rintro e zz ⟨rfl, rfl⟩
      refine hK.out _ _ ?sx14 (fun hHeld => ?_)
      case sx14 => exact hHeld
      clear hK K
      try simp only [Act.put, List.setIfInBounds_toArray, List.set_cons_zero, List.set_cons_succ]
      refine wpAnyH_ready (rs := [18]) (by kernel_rfl) (by simp) ?_
      refine AllReadyH.cons (i := 18) rfl (fun K hK => ?_) AllReadyH.nil
      go_simp
      refine (HS5.out _).mono ?_
      rintro e zz ⟨rfl, rfl⟩
      refine hK.out _ _ ?sx15 (fun hHeld => ?_)
      case sx15 => exact hHeld
      clear hK K
      try simp only [Act.put, List.setIfInBounds_toArray, List.set_cons_zero, List.set_cons_succ]
      refine wpAnyH_take (i := 19) (v := ?va19x16) rfl (by kernel_rfl) (by kernel_rfl) (by kernel_rfl) (fun c a w h => hP c _ _ a w h) (Or.inl ⟨by rfl, ?ya19x16⟩) hHeld ?ra19x16
      case ya19x16 => intro w hSw; (try dsimp only at hSw); obtain ⟨hS1, hS2, hS3, hS4, hS5⟩ := hSw; go_simp; (try with_reducible rfl)
      try simp only [Act.put, List.setIfInBounds_toArray, List.set_cons_zero, List.set_cons_succ]
      refine wpAnyH_done (by kernel_rfl) ?_ _
      refine qlast_n ?_
      refine wpOp_step rfl (fun K hK => ?_)
      go_simp
      refine hK _ _ ?_
      clear hK K
      exact HQ.out w.heap.size ((w.alloc (.cells #[.int .i64 q1, .int .i64 q2, .int .i64 q3, .string ⟨T4.toArray⟩, .int .i64 q5] 67)).drew) _ _ _ _ _ _ _ _ _ _ _ _ _ _ _ _ _ _ _ _ (World.alloc_heap_new w _) (Nat.le_refl _) (((Below.refl _ w).alloc (Nat.le_refl _) (.cells #[.int .i64 q1, .int .i64 q2, .int .i64 q3, .string ⟨T4.toArray⟩, .int .i64 q5] 67)).drew)
    case bx10 =>
      go_simp
      refine (HS2.out _).mono ?_
      rintro e zz ⟨rfl, rfl⟩
      refine hK.out _ _ ?sx17 (fun hHeld => ?_)
      case sx17 => exact hHeld
      clear hK K
      try simp only [Act.put, List.setIfInBounds_toArray, List.set_cons_zero, List.set_cons_succ]
      refine wpAnyH_ready (rs := [11, 20]) (by kernel_rfl) (by simp) ?_
      refine AllReadyH.cons (i := 11) rfl (fun K hK => ?bx18) (AllReadyH.cons (i := 20) rfl (fun K hK => ?bx19) AllReadyH.nil)
      case bx19 =>
        go_simp
        refine hK.out _ _ ?sx20 (fun hHeld => ?_)
        case sx20 => exact hS0.out _ GA.out
        clear hK K
        try simp only [Act.put, List.setIfInBounds_toArray, List.set_cons_zero, List.set_cons_succ]
        refine wpAnyH_ready (rs := [11]) (by kernel_rfl) (by simp) ?_
        refine AllReadyH.cons (i := 11) rfl (fun K hK => ?_) AllReadyH.nil
        go_simp
        refine (HS3.out _).mono ?_
        rintro e zz ⟨rfl, rfl⟩
        refine hK.out _ _ ?sx21 (fun hHeld => ?_)
        case sx21 => exact hHeld
        clear hK K
        try simp only [Act.put, List.setIfInBounds_toArray, List.set_cons_zero, List.set_cons_succ]
        refine wpAnyH_ready (rs := [18]) (by kernel_rfl) (by simp) ?_
        refine AllReadyH.cons (i := 18) rfl (fun K hK => ?_) AllReadyH.nil
        go_simp
        refine (HS5.out _).mono ?_
        rintro e zz ⟨rfl, rfl⟩
        refine hK.out _ _ ?sx22 (fun hHeld => ?_)
        case sx22 => exact hHeld
        clear hK K
        try simp only [Act.put, List.setIfInBounds_toArray, List.set_cons_zero, List.set_cons_succ]
        refine wpAnyH_take (i := 19) (v := ?va19x23) rfl (by kernel_rfl) (by kernel_rfl) (by kernel_rfl) (fun c a w h => hP c _ _ a w h) (Or.inl ⟨by rfl, ?ya19x23⟩) hHeld ?ra19x23
        case ya19x23 => intro w hSw; (try dsimp only at hSw); obtain ⟨hS1, hS2, hS3, hS4, hS5⟩ := hSw; go_simp; (try with_reducible rfl)
        try simp only [Act.put, List.setIfInBounds_toArray, List.set_cons_zero, List.set_cons_succ]
        refine wpAnyH_done (by kernel_rfl) ?_ _
        refine qlast_n ?_
        refine wpOp_step rfl (fun K hK => ?_)
        go_simp
        refine hK _ _ ?_
        clear hK K
        exact HQ.out w.heap.size ((w.alloc (.cells #[.int .i64 q1, .int .i64 q2, .int .i64 q3, .string ⟨T4.toArray⟩, .int .i64 q5] 67)).drew) _ _ _ _ _ _ _ _ _ _ _ _ _ _ _ _ _ _ _ _ (World.alloc_heap_new w _) (Nat.le_refl _) (((Below.refl _ w).alloc (Nat.le_refl _) (.cells #[.int .i64 q1, .int .i64 q2, .int .i64 q3, .string ⟨T4.toArray⟩, .int .i64 q5] 67)).drew)
      case bx18 =>
        go_simp
        refine (HS3.out _).mono ?_
        rintro e zz ⟨rfl, rfl⟩
        refine hK.out _ _ ?sx24 (fun hHeld => ?_)
        case sx24 => exact hHeld
        clear hK K
        try simp only [Act.put, List.setIfInBounds_toArray, List.set_cons_zero, List.set_cons_succ]
        refine wpAnyH_ready (rs := [18, 20]) (by kernel_rfl) (by simp) ?_
        refine AllReadyH.cons (i := 18) rfl (fun K hK => ?bx25) (AllReadyH.cons (i := 20) rfl (fun K hK => ?bx26) AllReadyH.nil)
        case bx26 =>
          go_simp
          refine hK.out _ _ ?sx27 (fun hHeld => ?_)
          case sx27 => exact hS0.out _ GA.out
          clear hK K
          try simp only [Act.put, List.setIfInBounds_toArray, List.set_cons_zero, List.set_cons_succ]
          refine wpAnyH_ready (rs := [18]) (by kernel_rfl) (by simp) ?_
          refine AllReadyH.cons (i := 18) rfl (fun K hK => ?_) AllReadyH.nil
          go_simp
          refine (HS5.out _).mono ?_
          rintro e zz ⟨rfl, rfl⟩
          refine hK.out _ _ ?sx28 (fun hHeld => ?_)
          case sx28 => exact hHeld
          clear hK K
          try simp only [Act.put, List.setIfInBounds_toArray, List.set_cons_zero, List.set_cons_succ]
          refine wpAnyH_take (i := 19) (v := ?va19x29) rfl (by kernel_rfl) (by kernel_rfl) (by kernel_rfl) (fun c a w h => hP c _ _ a w h) (Or.inl ⟨by rfl, ?ya19x29⟩) hHeld ?ra19x29
          case ya19x29 => intro w hSw; (try dsimp only at hSw); obtain ⟨hS1, hS2, hS3, hS4, hS5⟩ := hSw; go_simp; (try with_reducible rfl)
          try simp only [Act.put, List.setIfInBounds_toArray, List.set_cons_zero, List.set_cons_succ]
          refine wpAnyH_done (by kernel_rfl) ?_ _
          refine qlast_n ?_
          refine wpOp_step rfl (fun K hK => ?_)
          go_simp
          refine hK _ _ ?_
          clear hK K
          exact HQ.out w.heap.size ((w.alloc (.cells #[.int .i64 q1, .int .i64 q2, .int .i64 q3, .string ⟨T4.toArray⟩, .int .i64 q5] 67)).drew) _ _ _ _ _ _ _ _ _ _ _ _ _ _ _ _ _ _ _ _ (World.alloc_heap_new w _) (Nat.le_refl _) (((Below.refl _ w).alloc (Nat.le_refl _) (.cells #[.int .i64 q1, .int .i64 q2, .int .i64 q3, .string ⟨T4.toArray⟩, .int .i64 q5] 67)).drew)
        case bx25 =>
          go_simp
          refine (HS5.out _).mono ?_
          rintro e zz ⟨rfl, rfl⟩
          refine hK.out _ _ ?sx30 (fun hHeld => ?_)
          case sx30 => exact hHeld
          clear hK K
          try simp only [Act.put, List.setIfInBounds_toArray, List.set_cons_zero, List.set_cons_succ]
          refine wpAnyH_take (i := 19) (v := ?va19x31) rfl (by kernel_rfl) (by kernel_rfl) (by kernel_rfl) (fun c a w h => hP c _ _ a w h) (Or.inl ⟨by rfl, ?ya19x31⟩) hHeld ?ra19x31
          case ya19x31 => intro w hSw; (try dsimp only at hSw); obtain ⟨hS1, hS2, hS3, hS4, hS5⟩ := hSw; go_simp; (try with_reducible rfl)
          try simp only [Act.put, List.setIfInBounds_toArray, List.set_cons_zero, List.set_cons_succ]
          refine wpAnyH_ready (rs := [20]) (by kernel_rfl) (by simp) ?_
          refine AllReadyH.cons (i := 20) rfl (fun K hK => ?_) AllReadyH.nil
          go_simp
          refine hK.out _ _ ?sx32 (fun hHeld => ?_)
          case sx32 => exact hS0.out _ GA.out
          clear hK K
          try simp only [Act.put, List.setIfInBounds_toArray, List.set_cons_zero, List.set_cons_succ]
          refine wpAnyH_done (by kernel_rfl) ?_ _
          refine qlast_n ?_
          refine wpOp_step rfl (fun K hK => ?_)
          go_simp
          refine hK _ _ ?_
          clear hK K
          exact HQ.out w.heap.size ((w.alloc (.cells #[.int .i64 q1, .int .i64 q2, .int .i64 q3, .string ⟨T4.toArray⟩, .int .i64 q5] 67)).drew) _ _ _ _ _ _ _ _ _ _ _ _ _ _ _ _ _ _ _ _ (World.alloc_heap_new w _) (Nat.le_refl _) (((Below.refl _ w).alloc (Nat.le_refl _) (.cells #[.int .i64 q1, .int .i64 q2, .int .i64 q3, .string ⟨T4.toArray⟩, .int .i64 q5] 67)).drew)
end Go.Proofs.YtbpdbggojgijiaaGreatDoor.Src
