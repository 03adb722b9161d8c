/- The document's own DataFrom: a rule is made of words. -/
import Derived.Test.YtbpdbggojgijiaaGreatDoorSrcRD
import Derived.Deep.RegionHeld3
import Derived.Deep.RegionHeldLaw
namespace Go.Proofs.YtbpdbggojgijiaaGreatDoor.Src
open Go Go.RowKit Go.Maps
set_option linter.unusedVariables false
set_option linter.unusedSimpArgs false

set_option maxHeartbeats 16000000 in
set_option maxRecDepth 100000 in
theorem df11 {u0 u1 u2 u3 u4 u5 u6 u8 u9 u10 u11 u12 u13 u14 u15 u16 u17 u18 u19 u20 u21 u22 u23 u24 u25 u26 u27 u28 u29 u30 u31 u32 u33 u34 u35 u36 u37 u38 u39 u40 u41 u42 u43 u44 u45 u46 u47 u48 u49 u50 u51 u52 u53 u54 u55 u56 u57 u58 u59 u60 u61 u62 u63 u64 u65 u66 u67 u68 u69 u70 u71 u72 u73 u74 u75 u76 u77 u78 u79 u80 u81 u82 u83 u84 u85 u86 u87 u88 u89 u90 u91 u92 u93 u94 u95 u96 u97 u98 u99 u100 u101 u102 u103 u104 u105 u106 u107 u108 u109 u110 u111 u112 u113 u114 u115 u116 u117 u118 u119 u120 u121 u122 u123 u124 u125 u126 u127 u128 u129 u130 u131 u132 u133 u134 u135 u136 u137 u138 u139 u140 u141 u142 u143 u144 u145 u146 u147 u148 u149 u150 u151 u152 u153 u154 u155 u156 u157 u158 u159 u160 u161 u162 u163 u164 u165 u166 u167 u168 u169 u170 u171 u172 u173 u174 u175 u176 u177 u178 u179 u180 u181 u182 u183 u184 : Value} {ds : List Deferred} {Q : Exit → Act → World → Prop} (hP : ∀ c d v (a : Act) (w : World), Q (.panic c) (a.put d v) w → Q (.panic c) a w) (g nw cw : Nat) (T1 T2 T3 T4 T5 T6 T7 T8 T9 : By) (q1 q2 q3 q4 q5 q6 q7 q8 : Int) (cs : Array Value) (w : World) (hg : w.heap[g]? = some (.cells cs 9)) (hc1 : cs[1]? = some (.string ⟨T1.toArray⟩)) (hc2 : cs[2]? = some (.string ⟨T2.toArray⟩)) (hc3 : cs[3]? = some (.string ⟨T3.toArray⟩)) (hc4 : cs[4]? = some (.string ⟨T4.toArray⟩)) (hc5 : cs[5]? = some (.string ⟨T5.toArray⟩)) (hc6 : cs[6]? = some (.string ⟨T6.toArray⟩)) (hc7 : cs[7]? = some (.string ⟨T7.toArray⟩)) (hc8 : cs[8]? = some (.string ⟨T8.toArray⟩)) (hc9 : cs[9]? = some (.string ⟨T9.toArray⟩)) (hnw : 10 ≤ nw) (hs1 : ∀ v : World, Calls Tryz.prog 30 #[.string ⟨T1.toArray⟩] v fun e w' => e = .returned (.int .i64 q1) ∧ w' = v) (hs2 : ∀ v : World, Calls Tryz.prog 30 #[.string ⟨T2.toArray⟩] v fun e w' => e = .returned (.int .i64 q2) ∧ w' = v) (hs3 : ∀ v : World, Calls Tryz.prog 30 #[.string ⟨T3.toArray⟩] v fun e w' => e = .returned (.int .i64 q3) ∧ w' = v) (hs4 : ∀ v : World, Calls Tryz.prog 30 #[.string ⟨T4.toArray⟩] v fun e w' => e = .returned (.int .i64 q4) ∧ w' = v) (hs5 : ∀ v : World, Calls Tryz.prog 30 #[.string ⟨T5.toArray⟩] v fun e w' => e = .returned (.int .i64 q5) ∧ w' = v) (hs6 : ∀ v : World, Calls Tryz.prog 30 #[.string ⟨T6.toArray⟩] v fun e w' => e = .returned (.int .i64 q6) ∧ w' = v) (hs7 : ∀ v : World, Calls Tryz.prog 30 #[.string ⟨T7.toArray⟩] v fun e w' => e = .returned (.int .i64 q7) ∧ w' = v) (hs8 : ∀ v : World, Calls Tryz.prog 30 #[.string ⟨T8.toArray⟩] v fun e w' => e = .returned (.int .i64 q8) ∧ w' = v)
    (hQ : ∀ rb w' y44 y45 y46 y47 y48 y49 y50 y51 y52 y53 y54 y55 y56 y57 y58 y59 y60 y61 y62 y63 y64 y65 y66 y67 y68 y69 y70 y71 y72 y73 y74 y75 y76 y77 y78 y79 y80, w'.heap[rb]? = some (.cells #[.int .i64 q1, .int .i64 q2, .int .i64 q3, .int .i64 q4, .int .i64 q5, .int .i64 q6, .int .i64 q7, .int .i64 q8, .string ⟨T9.toArray⟩] 65) → w.heap.size ≤ rb → Below w.heap.size w w' → Q .normal ⟨#[u0, u1, u2, u3, u4, u5, u6, .slice (some ⟨g, 0, none⟩) nw cw, .pointer (some ⟨rb, 0, none⟩), u9, u10, u11, u12, u13, u14, u15, u16, u17, u18, u19, u20, u21, u22, u23, u24, u25, u26, u27, u28, u29, u30, u31, u32, u33, u34, u35, u36, u37, u38, u39, u40, u41, u42, u43, y44, y45, y46, y47, y48, y49, y50, y51, y52, y53, y54, y55, y56, y57, y58, y59, y60, y61, y62, y63, y64, y65, y66, y67, y68, y69, y70, y71, y72, y73, y74, y75, y76, y77, y78, y79, y80, u81, u82, u83, u84, u85, u86, u87, u88, u89, u90, u91, u92, u93, u94, u95, u96, u97, u98, u99, u100, u101, u102, u103, u104, u105, u106, u107, u108, u109, u110, u111, u112, u113, u114, u115, u116, u117, u118, u119, u120, u121, u122, u123, u124, u125, u126, u127, u128, u129, u130, u131, u132, u133, u134, u135, u136, u137, u138, u139, u140, u141, u142, u143, u144, u145, u146, u147, u148, u149, u150, u151, u152, u153, u154, u155, u156, u157, u158, u159, u160, u161, u162, u163, u164, u165, u166, u167, u168, u169, u170, u171, u172, u173, u174, u175, u176, u177, u178, u179, u180, u181, u182, u183, u184], ds⟩ w') :
    Code.wp Tryz.prog ((regF 11 (Tryz.f11.body.getD .skip)).getD .skip) Q ⟨#[u0, u1, u2, u3, u4, u5, u6, .slice (some ⟨g, 0, none⟩) nw cw, u8, u9, u10, u11, u12, u13, u14, u15, u16, u17, u18, u19, u20, u21, u22, u23, u24, u25, u26, u27, u28, u29, u30, u31, u32, u33, u34, u35, u36, u37, u38, u39, u40, u41, u42, u43, u44, u45, u46, u47, u48, u49, u50, u51, u52, u53, u54, u55, u56, u57, u58, u59, u60, u61, u62, u63, u64, u65, u66, u67, u68, u69, u70, u71, u72, u73, u74, u75, u76, u77, u78, u79, u80, u81, u82, u83, u84, u85, u86, u87, u88, u89, u90, u91, u92, u93, u94, u95, u96, u97, u98, u99, u100, u101, u102, u103, u104, u105, u106, u107, u108, u109, u110, u111, u112, u113, u114, u115, u116, u117, u118, u119, u120, u121, u122, u123, u124, u125, u126, u127, u128, u129, u130, u131, u132, u133, u134, u135, u136, u137, u138, u139, u140, u141, u142, u143, u144, u145, u146, u147, u148, u149, u150, u151, u152, u153, u154, u155, u156, u157, u158, u159, u160, u161, u162, u163, u164, u165, u166, u167, u168, u169, u170, u171, u172, u173, u174, u175, u176, u177, u178, u179, u180, u181, u182, u183, u184], ds⟩ w := by
  have HQ := hideS hQ
  have HG := hideS hg
  have HS1 := hideS hs1
  have HS2 := hideS hs2
  have HS3 := hideS hs3
  have HS4 := hideS hs4
  have HS5 := hideS hs5
  have HS6 := hideS hs6
  have HS7 := hideS hs7
  have HS8 := hideS hs8
  have hS0 : Hid (∀ v : World, v.heap[g]? = some (.cells cs 9) → v.cell? ⟨g, 1, none⟩ = some (.string ⟨T1.toArray⟩) ∧ v.cell? ⟨g, 2, none⟩ = some (.string ⟨T2.toArray⟩) ∧ v.cell? ⟨g, 3, none⟩ = some (.string ⟨T3.toArray⟩) ∧ v.cell? ⟨g, 4, none⟩ = some (.string ⟨T4.toArray⟩) ∧ v.cell? ⟨g, 5, none⟩ = some (.string ⟨T5.toArray⟩) ∧ v.cell? ⟨g, 6, none⟩ = some (.string ⟨T6.toArray⟩) ∧ v.cell? ⟨g, 7, none⟩ = some (.string ⟨T7.toArray⟩) ∧ v.cell? ⟨g, 8, none⟩ = some (.string ⟨T8.toArray⟩) ∧ v.cell? ⟨g, 9, none⟩ = some (.string ⟨T9.toArray⟩)) := fun v hv2 => ⟨by rw [Lib.cell_of_heap hv2, hc1], by rw [Lib.cell_of_heap hv2, hc2], by rw [Lib.cell_of_heap hv2, hc3], by rw [Lib.cell_of_heap hv2, hc4], by rw [Lib.cell_of_heap hv2, hc5], by rw [Lib.cell_of_heap hv2, hc6], by rw [Lib.cell_of_heap hv2, hc7], by rw [Lib.cell_of_heap hv2, hc8], by rw [Lib.cell_of_heap hv2, hc9]⟩
  have jn1 : decide (nw ≤ 1) = false := by simp; omega
  have ji1 : (1 : Int) < (nw : Int) := by omega
  have jl1 : 1 < nw := by omega
  have jn2 : decide (nw ≤ 2) = false := by simp; omega
  have ji2 : (2 : Int) < (nw : Int) := by omega
  have jl2 : 2 < nw := by omega
  have jn3 : decide (nw ≤ 3) = false := by simp; omega
  have ji3 : (3 : Int) < (nw : Int) := by omega
  have jl3 : 3 < nw := by omega
  have jn4 : decide (nw ≤ 4) = false := by simp; omega
  have ji4 : (4 : Int) < (nw : Int) := by omega
  have jl4 : 4 < nw := by omega
  have jn5 : decide (nw ≤ 5) = false := by simp; omega
  have ji5 : (5 : Int) < (nw : Int) := by omega
  have jl5 : 5 < nw := by omega
  have jn6 : decide (nw ≤ 6) = false := by simp; omega
  have ji6 : (6 : Int) < (nw : Int) := by omega
  have jl6 : 6 < nw := by omega
  have jn7 : decide (nw ≤ 7) = false := by simp; omega
  have ji7 : (7 : Int) < (nw : Int) := by omega
  have jl7 : 7 < nw := by omega
  have jn8 : decide (nw ≤ 8) = false := by simp; omega
  have ji8 : (8 : Int) < (nw : Int) := by omega
  have jl8 : 8 < nw := by omega
  have jn9 : decide (nw ≤ 9) = false := by simp; omega
  have ji9 : (9 : Int) < (nw : Int) := by omega
  have jl9 : 9 < nw := by omega
  have ba := hideS ((Below.refl _ w).alloc (Nat.le_refl _) (.cells #[.int .i64 0, .int .i64 0, .int .i64 0, .int .i64 0, .int .i64 0, .int .i64 0, .int .i64 0, .int .i64 0, .string ⟨#[]⟩] 65))
  have Z0 : Hid ((w.alloc (.cells #[.int .i64 0, .int .i64 0, .int .i64 0, .int .i64 0, .int .i64 0, .int .i64 0, .int .i64 0, .int .i64 0, .string ⟨#[]⟩] 65)).drew.heap[w.heap.size]? = some (.cells #[.int .i64 0, .int .i64 0, .int .i64 0, .int .i64 0, .int .i64 0, .int .i64 0, .int .i64 0, .int .i64 0, .string ⟨#[]⟩] 65)) := World.alloc_heap_new w _
  have GA : Hid ((w.alloc (.cells #[.int .i64 0, .int .i64 0, .int .i64 0, .int .i64 0, .int .i64 0, .int .i64 0, .int .i64 0, .int .i64 0, .string ⟨#[]⟩] 65)).drew.heap[g]? = some (.cells cs 9)) := heap_on (w' := w.alloc (.cells #[.int .i64 0, .int .i64 0, .int .i64 0, .int .i64 0, .int .i64 0, .int .i64 0, .int .i64 0, .int .i64 0, .string ⟨#[]⟩] 65)) HG.out ba.out
  clear hQ hg hc1 hc2 hc3 hc4 hc5 hc6 hc7 hc8 hc9 hs1 hs2 hs3 hs4 hs5 hs6 hs7 hs8
  conv => arg 2; whnf
  refine region_last2 (S := fun v => v.cell? ⟨g, 1, none⟩ = some (.string ⟨T1.toArray⟩) ∧ v.cell? ⟨g, 2, none⟩ = some (.string ⟨T2.toArray⟩) ∧ v.cell? ⟨g, 3, none⟩ = some (.string ⟨T3.toArray⟩) ∧ v.cell? ⟨g, 4, none⟩ = some (.string ⟨T4.toArray⟩) ∧ v.cell? ⟨g, 5, none⟩ = some (.string ⟨T5.toArray⟩) ∧ v.cell? ⟨g, 6, none⟩ = some (.string ⟨T6.toArray⟩) ∧ v.cell? ⟨g, 7, none⟩ = some (.string ⟨T7.toArray⟩) ∧ v.cell? ⟨g, 8, none⟩ = some (.string ⟨T8.toArray⟩) ∧ v.cell? ⟨g, 9, none⟩ = some (.string ⟨T9.toArray⟩)) (by kernel_rfl) (by kernel_rfl) (hS0.out w.drew HG.out) (fun hHeld => ?_)
  refine wpAnyH_take (i := 0) (v := ?va0) rfl (by kernel_rfl) (by kernel_rfl) (by kernel_rfl) (fun c a w h => hP c _ _ a w h) (Or.inl ⟨by rfl, ?ya0⟩) hHeld ?ra0
  case ya0 => intro w hSw; (try dsimp only at hSw); obtain ⟨hS1, hS2, hS3, hS4, hS5, hS6, hS7, hS8, hS9⟩ := hSw; go_simp; (try with_reducible rfl)
  try simp only [Act.put, List.setIfInBounds_toArray, List.set_cons_zero, List.set_cons_succ]
  refine wpAnyH_take (i := 1) (v := ?va1) rfl (by kernel_rfl) (by kernel_rfl) (by kernel_rfl) (fun c a w h => hP c _ _ a w h) (Or.inl ⟨by rfl, ?ya1⟩) hHeld ?ra1
  case ya1 => intro w hSw; (try dsimp only at hSw); obtain ⟨hS1, hS2, hS3, hS4, hS5, hS6, hS7, hS8, hS9⟩ := hSw; go_simp; (try with_reducible rfl)
  try simp only [Act.put, List.setIfInBounds_toArray, List.set_cons_zero, List.set_cons_succ]
  refine wpAnyH_take (i := 2) (v := ?va2) rfl (by kernel_rfl) (by kernel_rfl) (by kernel_rfl) (fun c a w h => hP c _ _ a w h) (Or.inl ⟨by rfl, ?ya2⟩) hHeld ?ra2
  case ya2 => intro w hSw; (try dsimp only at hSw); obtain ⟨hS1, hS2, hS3, hS4, hS5, hS6, hS7, hS8, hS9⟩ := hSw; go_simp; (try with_reducible rfl)
  try simp only [Act.put, List.setIfInBounds_toArray, List.set_cons_zero, List.set_cons_succ]
  refine wpAnyH_take (i := 4) (v := ?va4) rfl (by kernel_rfl) (by kernel_rfl) (by kernel_rfl) (fun c a w h => hP c _ _ a w h) (Or.inl ⟨by rfl, ?ya4⟩) hHeld ?ra4
  case ya4 => intro w hSw; (try dsimp only at hSw); obtain ⟨hS1, hS2, hS3, hS4, hS5, hS6, hS7, hS8, hS9⟩ := hSw; go_simp; (try with_reducible rfl)
  try simp only [Act.put, List.setIfInBounds_toArray, List.set_cons_zero, List.set_cons_succ]
  refine wpAnyH_take (i := 5) (v := ?va5) rfl (by kernel_rfl) (by kernel_rfl) (by kernel_rfl) (fun c a w h => hP c _ _ a w h) (Or.inl ⟨by rfl, ?ya5⟩) hHeld ?ra5
  case ya5 => intro w hSw; (try dsimp only at hSw); obtain ⟨hS1, hS2, hS3, hS4, hS5, hS6, hS7, hS8, hS9⟩ := hSw; go_simp; (try with_reducible rfl)
  try simp only [Act.put, List.setIfInBounds_toArray, List.set_cons_zero, List.set_cons_succ]
  refine wpAnyH_take (i := 6) (v := ?va6) rfl (by kernel_rfl) (by kernel_rfl) (by kernel_rfl) (fun c a w h => hP c _ _ a w h) (Or.inl ⟨by rfl, ?ya6⟩) hHeld ?ra6
  case ya6 => intro w hSw; (try dsimp only at hSw); obtain ⟨hS1, hS2, hS3, hS4, hS5, hS6, hS7, hS8, hS9⟩ := hSw; go_simp; (try with_reducible rfl)
  try simp only [Act.put, List.setIfInBounds_toArray, List.set_cons_zero, List.set_cons_succ]
  refine wpAnyH_take (i := 8) (v := ?va8) rfl (by kernel_rfl) (by kernel_rfl) (by kernel_rfl) (fun c a w h => hP c _ _ a w h) (Or.inl ⟨by rfl, ?ya8⟩) hHeld ?ra8
  case ya8 => intro w hSw; (try dsimp only at hSw); obtain ⟨hS1, hS2, hS3, hS4, hS5, hS6, hS7, hS8, hS9⟩ := hSw; go_simp; (try with_reducible rfl)
  try simp only [Act.put, List.setIfInBounds_toArray, List.set_cons_zero, List.set_cons_succ]
  refine wpAnyH_take (i := 9) (v := ?va9) rfl (by kernel_rfl) (by kernel_rfl) (by kernel_rfl) (fun c a w h => hP c _ _ a w h) (Or.inl ⟨by rfl, ?ya9⟩) hHeld ?ra9
  case ya9 => intro w hSw; (try dsimp only at hSw); obtain ⟨hS1, hS2, hS3, hS4, hS5, hS6, hS7, hS8, hS9⟩ := hSw; go_simp; (try with_reducible rfl)
  try simp only [Act.put, List.setIfInBounds_toArray, List.set_cons_zero, List.set_cons_succ]
  refine wpAnyH_take (i := 10) (v := ?va10) rfl (by kernel_rfl) (by kernel_rfl) (by kernel_rfl) (fun c a w h => hP c _ _ a w h) (Or.inl ⟨by rfl, ?ya10⟩) hHeld ?ra10
  case ya10 => intro w hSw; (try dsimp only at hSw); obtain ⟨hS1, hS2, hS3, hS4, hS5, hS6, hS7, hS8, hS9⟩ := hSw; go_simp; (try with_reducible rfl)
  try simp only [Act.put, List.setIfInBounds_toArray, List.set_cons_zero, List.set_cons_succ]
  refine wpAnyH_take (i := 12) (v := ?va12) rfl (by kernel_rfl) (by kernel_rfl) (by kernel_rfl) (fun c a w h => hP c _ _ a w h) (Or.inl ⟨by rfl, ?ya12⟩) hHeld ?ra12
  case ya12 => intro w hSw; (try dsimp only at hSw); obtain ⟨hS1, hS2, hS3, hS4, hS5, hS6, hS7, hS8, hS9⟩ := hSw; go_simp; (try with_reducible rfl)
  try simp only [Act.put, List.setIfInBounds_toArray, List.set_cons_zero, List.set_cons_succ]
  refine wpAnyH_take (i := 13) (v := ?va13) rfl (by kernel_rfl) (by kernel_rfl) (by kernel_rfl) (fun c a w h => hP c _ _ a w h) (Or.inl ⟨by rfl, ?ya13⟩) hHeld ?ra13
  case ya13 => intro w hSw; (try dsimp only at hSw); obtain ⟨hS1, hS2, hS3, hS4, hS5, hS6, hS7, hS8, hS9⟩ := hSw; go_simp; (try with_reducible rfl)
  try simp only [Act.put, List.setIfInBounds_toArray, List.set_cons_zero, List.set_cons_succ]
  refine wpAnyH_take (i := 14) (v := ?va14) rfl (by kernel_rfl) (by kernel_rfl) (by kernel_rfl) (fun c a w h => hP c _ _ a w h) (Or.inl ⟨by rfl, ?ya14⟩) hHeld ?ra14
  case ya14 => intro w hSw; (try dsimp only at hSw); obtain ⟨hS1, hS2, hS3, hS4, hS5, hS6, hS7, hS8, hS9⟩ := hSw; go_simp; (try with_reducible rfl)
  try simp only [Act.put, List.setIfInBounds_toArray, List.set_cons_zero, List.set_cons_succ]
  refine wpAnyH_take (i := 16) (v := ?va16) rfl (by kernel_rfl) (by kernel_rfl) (by kernel_rfl) (fun c a w h => hP c _ _ a w h) (Or.inl ⟨by rfl, ?ya16⟩) hHeld ?ra16
  case ya16 => intro w hSw; (try dsimp only at hSw); obtain ⟨hS1, hS2, hS3, hS4, hS5, hS6, hS7, hS8, hS9⟩ := hSw; go_simp; (try with_reducible rfl)
  try simp only [Act.put, List.setIfInBounds_toArray, List.set_cons_zero, List.set_cons_succ]
  refine wpAnyH_take (i := 17) (v := ?va17) rfl (by kernel_rfl) (by kernel_rfl) (by kernel_rfl) (fun c a w h => hP c _ _ a w h) (Or.inl ⟨by rfl, ?ya17⟩) hHeld ?ra17
  case ya17 => intro w hSw; (try dsimp only at hSw); obtain ⟨hS1, hS2, hS3, hS4, hS5, hS6, hS7, hS8, hS9⟩ := hSw; go_simp; (try with_reducible rfl)
  try simp only [Act.put, List.setIfInBounds_toArray, List.set_cons_zero, List.set_cons_succ]
  refine wpAnyH_take (i := 18) (v := ?va18) rfl (by kernel_rfl) (by kernel_rfl) (by kernel_rfl) (fun c a w h => hP c _ _ a w h) (Or.inl ⟨by rfl, ?ya18⟩) hHeld ?ra18
  case ya18 => intro w hSw; (try dsimp only at hSw); obtain ⟨hS1, hS2, hS3, hS4, hS5, hS6, hS7, hS8, hS9⟩ := hSw; go_simp; (try with_reducible rfl)
  try simp only [Act.put, List.setIfInBounds_toArray, List.set_cons_zero, List.set_cons_succ]
  refine wpAnyH_take (i := 20) (v := ?va20) rfl (by kernel_rfl) (by kernel_rfl) (by kernel_rfl) (fun c a w h => hP c _ _ a w h) (Or.inl ⟨by rfl, ?ya20⟩) hHeld ?ra20
  case ya20 => intro w hSw; (try dsimp only at hSw); obtain ⟨hS1, hS2, hS3, hS4, hS5, hS6, hS7, hS8, hS9⟩ := hSw; go_simp; (try with_reducible rfl)
  try simp only [Act.put, List.setIfInBounds_toArray, List.set_cons_zero, List.set_cons_succ]
  refine wpAnyH_take (i := 21) (v := ?va21) rfl (by kernel_rfl) (by kernel_rfl) (by kernel_rfl) (fun c a w h => hP c _ _ a w h) (Or.inl ⟨by rfl, ?ya21⟩) hHeld ?ra21
  case ya21 => intro w hSw; (try dsimp only at hSw); obtain ⟨hS1, hS2, hS3, hS4, hS5, hS6, hS7, hS8, hS9⟩ := hSw; go_simp; (try with_reducible rfl)
  try simp only [Act.put, List.setIfInBounds_toArray, List.set_cons_zero, List.set_cons_succ]
  refine wpAnyH_take (i := 22) (v := ?va22) rfl (by kernel_rfl) (by kernel_rfl) (by kernel_rfl) (fun c a w h => hP c _ _ a w h) (Or.inl ⟨by rfl, ?ya22⟩) hHeld ?ra22
  case ya22 => intro w hSw; (try dsimp only at hSw); obtain ⟨hS1, hS2, hS3, hS4, hS5, hS6, hS7, hS8, hS9⟩ := hSw; go_simp; (try with_reducible rfl)
  try simp only [Act.put, List.setIfInBounds_toArray, List.set_cons_zero, List.set_cons_succ]
  refine wpAnyH_take (i := 25) (v := ?va25) rfl (by kernel_rfl) (by kernel_rfl) (by kernel_rfl) (fun c a w h => hP c _ _ a w h) (Or.inl ⟨by rfl, ?ya25⟩) hHeld ?ra25
  case ya25 => intro w hSw; (try dsimp only at hSw); obtain ⟨hS1, hS2, hS3, hS4, hS5, hS6, hS7, hS8, hS9⟩ := hSw; go_simp; (try with_reducible rfl)
  try simp only [Act.put, List.setIfInBounds_toArray, List.set_cons_zero, List.set_cons_succ]
  refine wpAnyH_take (i := 26) (v := ?va26) rfl (by kernel_rfl) (by kernel_rfl) (by kernel_rfl) (fun c a w h => hP c _ _ a w h) (Or.inl ⟨by rfl, ?ya26⟩) hHeld ?ra26
  case ya26 => intro w hSw; (try dsimp only at hSw); obtain ⟨hS1, hS2, hS3, hS4, hS5, hS6, hS7, hS8, hS9⟩ := hSw; go_simp; (try with_reducible rfl)
  try simp only [Act.put, List.setIfInBounds_toArray, List.set_cons_zero, List.set_cons_succ]
  refine wpAnyH_take (i := 27) (v := ?va27) rfl (by kernel_rfl) (by kernel_rfl) (by kernel_rfl) (fun c a w h => hP c _ _ a w h) (Or.inl ⟨by rfl, ?ya27⟩) hHeld ?ra27
  case ya27 => intro w hSw; (try dsimp only at hSw); obtain ⟨hS1, hS2, hS3, hS4, hS5, hS6, hS7, hS8, hS9⟩ := hSw; go_simp; (try with_reducible rfl)
  try simp only [Act.put, List.setIfInBounds_toArray, List.set_cons_zero, List.set_cons_succ]
  refine wpAnyH_take (i := 29) (v := ?va29) rfl (by kernel_rfl) (by kernel_rfl) (by kernel_rfl) (fun c a w h => hP c _ _ a w h) (Or.inl ⟨by rfl, ?ya29⟩) hHeld ?ra29
  case ya29 => intro w hSw; (try dsimp only at hSw); obtain ⟨hS1, hS2, hS3, hS4, hS5, hS6, hS7, hS8, hS9⟩ := hSw; go_simp; (try with_reducible rfl)
  try simp only [Act.put, List.setIfInBounds_toArray, List.set_cons_zero, List.set_cons_succ]
  refine wpAnyH_take (i := 30) (v := ?va30) rfl (by kernel_rfl) (by kernel_rfl) (by kernel_rfl) (fun c a w h => hP c _ _ a w h) (Or.inl ⟨by rfl, ?ya30⟩) hHeld ?ra30
  case ya30 => intro w hSw; (try dsimp only at hSw); obtain ⟨hS1, hS2, hS3, hS4, hS5, hS6, hS7, hS8, hS9⟩ := hSw; go_simp; (try with_reducible rfl)
  try simp only [Act.put, List.setIfInBounds_toArray, List.set_cons_zero, List.set_cons_succ]
  refine wpAnyH_take (i := 31) (v := ?va31) rfl (by kernel_rfl) (by kernel_rfl) (by kernel_rfl) (fun c a w h => hP c _ _ a w h) (Or.inl ⟨by rfl, ?ya31⟩) hHeld ?ra31
  case ya31 => intro w hSw; (try dsimp only at hSw); obtain ⟨hS1, hS2, hS3, hS4, hS5, hS6, hS7, hS8, hS9⟩ := hSw; go_simp; (try with_reducible rfl)
  try simp only [Act.put, List.setIfInBounds_toArray, List.set_cons_zero, List.set_cons_succ]
  refine wpAnyH_take (i := 33) (v := ?va33) rfl (by kernel_rfl) (by kernel_rfl) (by kernel_rfl) (fun c a w h => hP c _ _ a w h) (Or.inl ⟨by rfl, ?ya33⟩) hHeld ?ra33
  case ya33 => intro w hSw; (try dsimp only at hSw); obtain ⟨hS1, hS2, hS3, hS4, hS5, hS6, hS7, hS8, hS9⟩ := hSw; go_simp; (try with_reducible rfl)
  try simp only [Act.put, List.setIfInBounds_toArray, List.set_cons_zero, List.set_cons_succ]
  refine wpAnyH_take (i := 34) (v := ?va34) rfl (by kernel_rfl) (by kernel_rfl) (by kernel_rfl) (fun c a w h => hP c _ _ a w h) (Or.inl ⟨by rfl, ?ya34⟩) hHeld ?ra34
  case ya34 => intro w hSw; (try dsimp only at hSw); obtain ⟨hS1, hS2, hS3, hS4, hS5, hS6, hS7, hS8, hS9⟩ := hSw; go_simp; (try with_reducible rfl)
  try simp only [Act.put, List.setIfInBounds_toArray, List.set_cons_zero, List.set_cons_succ]
  refine wpAnyH_take (i := 35) (v := ?va35) rfl (by kernel_rfl) (by kernel_rfl) (by kernel_rfl) (fun c a w h => hP c _ _ a w h) (Or.inl ⟨by rfl, ?ya35⟩) hHeld ?ra35
  case ya35 => intro w hSw; (try dsimp only at hSw); obtain ⟨hS1, hS2, hS3, hS4, hS5, hS6, hS7, hS8, hS9⟩ := hSw; go_simp; (try with_reducible rfl)
  try simp only [Act.put, List.setIfInBounds_toArray, List.set_cons_zero, List.set_cons_succ]
  refine wpAnyH_ready (rs := [3, 37]) (by kernel_rfl) (by simp) ?_
  refine AllReadyH.cons (i := 3) rfl (fun K hK => ?bx1) (AllReadyH.cons (i := 37) rfl (fun K hK => ?bx2) AllReadyH.nil)
  case bx2 =>
    go_simp
    refine hK.out _ _ ?sx3 (fun hHeld => ?_)
    case sx3 => exact hS0.out _ GA.out
    clear hK K
    try simp only [Act.put, List.setIfInBounds_toArray, List.set_cons_zero, List.set_cons_succ]
    refine wpAnyH_ready (rs := [3]) (by kernel_rfl) (by simp) ?_
    refine AllReadyH.cons (i := 3) rfl (fun K hK => ?_) AllReadyH.nil
    go_simp
    refine (HS1.out _).mono ?_
    rintro e zz ⟨rfl, rfl⟩
    refine hK.out _ _ ?sx4 (fun hHeld => ?_)
    case sx4 => exact hHeld
    clear hK K
    try simp only [Act.put, List.setIfInBounds_toArray, List.set_cons_zero, List.set_cons_succ]
    refine wpAnyH_ready (rs := [7]) (by kernel_rfl) (by simp) ?_
    refine AllReadyH.cons (i := 7) rfl (fun K hK => ?_) AllReadyH.nil
    go_simp
    refine (HS2.out _).mono ?_
    rintro e zz ⟨rfl, rfl⟩
    refine hK.out _ _ ?sx5 (fun hHeld => ?_)
    case sx5 => exact hHeld
    clear hK K
    try simp only [Act.put, List.setIfInBounds_toArray, List.set_cons_zero, List.set_cons_succ]
    refine wpAnyH_ready (rs := [11]) (by kernel_rfl) (by simp) ?_
    refine AllReadyH.cons (i := 11) rfl (fun K hK => ?_) AllReadyH.nil
    go_simp
    refine (HS3.out _).mono ?_
    rintro e zz ⟨rfl, rfl⟩
    refine hK.out _ _ ?sx6 (fun hHeld => ?_)
    case sx6 => exact hHeld
    clear hK K
    try simp only [Act.put, List.setIfInBounds_toArray, List.set_cons_zero, List.set_cons_succ]
    refine wpAnyH_ready (rs := [15]) (by kernel_rfl) (by simp) ?_
    refine AllReadyH.cons (i := 15) rfl (fun K hK => ?_) AllReadyH.nil
    go_simp
    refine (HS4.out _).mono ?_
    rintro e zz ⟨rfl, rfl⟩
    refine hK.out _ _ ?sx7 (fun hHeld => ?_)
    case sx7 => exact hHeld
    clear hK K
    try simp only [Act.put, List.setIfInBounds_toArray, List.set_cons_zero, List.set_cons_succ]
    refine wpAnyH_ready (rs := [19]) (by kernel_rfl) (by simp) ?_
    refine AllReadyH.cons (i := 19) rfl (fun K hK => ?_) AllReadyH.nil
    go_simp
    refine (HS5.out _).mono ?_
    rintro e zz ⟨rfl, rfl⟩
    refine hK.out _ _ ?sx8 (fun hHeld => ?_)
    case sx8 => exact hHeld
    clear hK K
    try simp only [Act.put, List.setIfInBounds_toArray, List.set_cons_zero, List.set_cons_succ]
    refine wpAnyH_ready (rs := [23]) (by kernel_rfl) (by simp) ?_
    refine AllReadyH.cons (i := 23) rfl (fun K hK => ?_) AllReadyH.nil
    go_simp
    refine (HS6.out _).mono ?_
    rintro e zz ⟨rfl, rfl⟩
    refine hK.out _ _ ?sx9 (fun hHeld => ?_)
    case sx9 => exact hHeld
    clear hK K
    try simp only [Act.put, List.setIfInBounds_toArray, List.set_cons_zero, List.set_cons_succ]
    refine wpAnyH_take (i := 24) (v := ?va24x10) rfl (by kernel_rfl) (by kernel_rfl) (by kernel_rfl) (fun c a w h => hP c _ _ a w h) (Or.inl ⟨by rfl, ?ya24x10⟩) hHeld ?ra24x10
    case ya24x10 => intro w hSw; (try dsimp only at hSw); obtain ⟨hS1, hS2, hS3, hS4, hS5, hS6, hS7, hS8, hS9⟩ := hSw; go_simp; (try with_reducible rfl)
    try simp only [Act.put, List.setIfInBounds_toArray, List.set_cons_zero, List.set_cons_succ]
    refine wpAnyH_ready (rs := [28]) (by kernel_rfl) (by simp) ?_
    refine AllReadyH.cons (i := 28) rfl (fun K hK => ?_) AllReadyH.nil
    go_simp
    refine (HS7.out _).mono ?_
    rintro e zz ⟨rfl, rfl⟩
    refine hK.out _ _ ?sx11 (fun hHeld => ?_)
    case sx11 => exact hHeld
    clear hK K
    try simp only [Act.put, List.setIfInBounds_toArray, List.set_cons_zero, List.set_cons_succ]
    refine wpAnyH_ready (rs := [32]) (by kernel_rfl) (by simp) ?_
    refine AllReadyH.cons (i := 32) rfl (fun K hK => ?_) AllReadyH.nil
    go_simp
    refine (HS8.out _).mono ?_
    rintro e zz ⟨rfl, rfl⟩
    refine hK.out _ _ ?sx12 (fun hHeld => ?_)
    case sx12 => exact hHeld
    clear hK K
    try simp only [Act.put, List.setIfInBounds_toArray, List.set_cons_zero, List.set_cons_succ]
    refine wpAnyH_take (i := 36) (v := ?va36x13) rfl (by kernel_rfl) (by kernel_rfl) (by kernel_rfl) (fun c a w h => hP c _ _ a w h) (Or.inl ⟨by rfl, ?ya36x13⟩) hHeld ?ra36x13
    case ya36x13 => intro w hSw; (try dsimp only at hSw); obtain ⟨hS1, hS2, hS3, hS4, hS5, hS6, hS7, hS8, hS9⟩ := hSw; go_simp; (try with_reducible rfl)
    try simp only [Act.put, List.setIfInBounds_toArray, List.set_cons_zero, List.set_cons_succ]
    refine wpAnyH_done (by kernel_rfl) ?_ _
    refine qlast_n ?_
    refine wpOp_step rfl (fun K hK => ?_)
    go_simp
    refine hK _ _ ?_
    clear hK K
    exact HQ.out w.heap.size ((w.alloc (.cells #[.int .i64 q1, .int .i64 q2, .int .i64 q3, .int .i64 q4, .int .i64 q5, .int .i64 q6, .int .i64 q7, .int .i64 q8, .string ⟨T9.toArray⟩] 65)).drew) _ _ _ _ _ _ _ _ _ _ _ _ _ _ _ _ _ _ _ _ _ _ _ _ _ _ _ _ _ _ _ _ _ _ _ _ _ (World.alloc_heap_new w _) (Nat.le_refl _) (((Below.refl _ w).alloc (Nat.le_refl _) (.cells #[.int .i64 q1, .int .i64 q2, .int .i64 q3, .int .i64 q4, .int .i64 q5, .int .i64 q6, .int .i64 q7, .int .i64 q8, .string ⟨T9.toArray⟩] 65)).drew)
  case bx1 =>
    go_simp
    refine (HS1.out _).mono ?_
    rintro e zz ⟨rfl, rfl⟩
    refine hK.out _ _ ?sx14 (fun hHeld => ?_)
    case sx14 => exact hHeld
    clear hK K
    try simp only [Act.put, List.setIfInBounds_toArray, List.set_cons_zero, List.set_cons_succ]
    refine wpAnyH_ready (rs := [7, 37]) (by kernel_rfl) (by simp) ?_
    refine AllReadyH.cons (i := 7) rfl (fun K hK => ?bx15) (AllReadyH.cons (i := 37) rfl (fun K hK => ?bx16) AllReadyH.nil)
    case bx16 =>
      go_simp
      refine hK.out _ _ ?sx17 (fun hHeld => ?_)
      case sx17 => exact hS0.out _ GA.out
      clear hK K
      try simp only [Act.put, List.setIfInBounds_toArray, List.set_cons_zero, List.set_cons_succ]
      refine wpAnyH_ready (rs := [7]) (by kernel_rfl) (by simp) ?_
      refine AllReadyH.cons (i := 7) rfl (fun K hK => ?_) AllReadyH.nil
      go_simp
      refine (HS2.out _).mono ?_
      rintro e zz ⟨rfl, rfl⟩
      refine hK.out _ _ ?sx18 (fun hHeld => ?_)
      case sx18 => exact hHeld
      clear hK K
      try simp only [Act.put, List.setIfInBounds_toArray, List.set_cons_zero, List.set_cons_succ]
      refine wpAnyH_ready (rs := [11]) (by kernel_rfl) (by simp) ?_
      refine AllReadyH.cons (i := 11) rfl (fun K hK => ?_) AllReadyH.nil
      go_simp
      refine (HS3.out _).mono ?_
      rintro e zz ⟨rfl, rfl⟩
      refine hK.out _ _ ?sx19 (fun hHeld => ?_)
      case sx19 => exact hHeld
      clear hK K
      try simp only [Act.put, List.setIfInBounds_toArray, List.set_cons_zero, List.set_cons_succ]
      refine wpAnyH_ready (rs := [15]) (by kernel_rfl) (by simp) ?_
      refine AllReadyH.cons (i := 15) rfl (fun K hK => ?_) AllReadyH.nil
      go_simp
      refine (HS4.out _).mono ?_
      rintro e zz ⟨rfl, rfl⟩
      refine hK.out _ _ ?sx20 (fun hHeld => ?_)
      case sx20 => exact hHeld
      clear hK K
      try simp only [Act.put, List.setIfInBounds_toArray, List.set_cons_zero, List.set_cons_succ]
      refine wpAnyH_ready (rs := [19]) (by kernel_rfl) (by simp) ?_
      refine AllReadyH.cons (i := 19) rfl (fun K hK => ?_) AllReadyH.nil
      go_simp
      refine (HS5.out _).mono ?_
      rintro e zz ⟨rfl, rfl⟩
      refine hK.out _ _ ?sx21 (fun hHeld => ?_)
      case sx21 => exact hHeld
      clear hK K
      try simp only [Act.put, List.setIfInBounds_toArray, List.set_cons_zero, List.set_cons_succ]
      refine wpAnyH_ready (rs := [23]) (by kernel_rfl) (by simp) ?_
      refine AllReadyH.cons (i := 23) rfl (fun K hK => ?_) AllReadyH.nil
      go_simp
      refine (HS6.out _).mono ?_
      rintro e zz ⟨rfl, rfl⟩
      refine hK.out _ _ ?sx22 (fun hHeld => ?_)
      case sx22 => exact hHeld
      clear hK K
      try simp only [Act.put, List.setIfInBounds_toArray, List.set_cons_zero, List.set_cons_succ]
      refine wpAnyH_take (i := 24) (v := ?va24x23) rfl (by kernel_rfl) (by kernel_rfl) (by kernel_rfl) (fun c a w h => hP c _ _ a w h) (Or.inl ⟨by rfl, ?ya24x23⟩) hHeld ?ra24x23
      case ya24x23 => intro w hSw; (try dsimp only at hSw); obtain ⟨hS1, hS2, hS3, hS4, hS5, hS6, hS7, hS8, hS9⟩ := hSw; go_simp; (try with_reducible rfl)
      try simp only [Act.put, List.setIfInBounds_toArray, List.set_cons_zero, List.set_cons_succ]
      refine wpAnyH_ready (rs := [28]) (by kernel_rfl) (by simp) ?_
      refine AllReadyH.cons (i := 28) rfl (fun K hK => ?_) AllReadyH.nil
      go_simp
      refine (HS7.out _).mono ?_
      rintro e zz ⟨rfl, rfl⟩
      refine hK.out _ _ ?sx24 (fun hHeld => ?_)
      case sx24 => exact hHeld
      clear hK K
      try simp only [Act.put, List.setIfInBounds_toArray, List.set_cons_zero, List.set_cons_succ]
      refine wpAnyH_ready (rs := [32]) (by kernel_rfl) (by simp) ?_
      refine AllReadyH.cons (i := 32) rfl (fun K hK => ?_) AllReadyH.nil
      go_simp
      refine (HS8.out _).mono ?_
      rintro e zz ⟨rfl, rfl⟩
      refine hK.out _ _ ?sx25 (fun hHeld => ?_)
      case sx25 => exact hHeld
      clear hK K
      try simp only [Act.put, List.setIfInBounds_toArray, List.set_cons_zero, List.set_cons_succ]
      refine wpAnyH_take (i := 36) (v := ?va36x26) rfl (by kernel_rfl) (by kernel_rfl) (by kernel_rfl) (fun c a w h => hP c _ _ a w h) (Or.inl ⟨by rfl, ?ya36x26⟩) hHeld ?ra36x26
      case ya36x26 => intro w hSw; (try dsimp only at hSw); obtain ⟨hS1, hS2, hS3, hS4, hS5, hS6, hS7, hS8, hS9⟩ := hSw; go_simp; (try with_reducible rfl)
      try simp only [Act.put, List.setIfInBounds_toArray, List.set_cons_zero, List.set_cons_succ]
      refine wpAnyH_done (by kernel_rfl) ?_ _
      refine qlast_n ?_
      refine wpOp_step rfl (fun K hK => ?_)
      go_simp
      refine hK _ _ ?_
      clear hK K
      exact HQ.out w.heap.size ((w.alloc (.cells #[.int .i64 q1, .int .i64 q2, .int .i64 q3, .int .i64 q4, .int .i64 q5, .int .i64 q6, .int .i64 q7, .int .i64 q8, .string ⟨T9.toArray⟩] 65)).drew) _ _ _ _ _ _ _ _ _ _ _ _ _ _ _ _ _ _ _ _ _ _ _ _ _ _ _ _ _ _ _ _ _ _ _ _ _ (World.alloc_heap_new w _) (Nat.le_refl _) (((Below.refl _ w).alloc (Nat.le_refl _) (.cells #[.int .i64 q1, .int .i64 q2, .int .i64 q3, .int .i64 q4, .int .i64 q5, .int .i64 q6, .int .i64 q7, .int .i64 q8, .string ⟨T9.toArray⟩] 65)).drew)
    case bx15 =>
      go_simp
      refine (HS2.out _).mono ?_
      rintro e zz ⟨rfl, rfl⟩
      refine hK.out _ _ ?sx27 (fun hHeld => ?_)
      case sx27 => exact hHeld
      clear hK K
      try simp only [Act.put, List.setIfInBounds_toArray, List.set_cons_zero, List.set_cons_succ]
      refine wpAnyH_ready (rs := [11, 37]) (by kernel_rfl) (by simp) ?_
      refine AllReadyH.cons (i := 11) rfl (fun K hK => ?bx28) (AllReadyH.cons (i := 37) rfl (fun K hK => ?bx29) AllReadyH.nil)
      case bx29 =>
        go_simp
        refine hK.out _ _ ?sx30 (fun hHeld => ?_)
        case sx30 => exact hS0.out _ GA.out
        clear hK K
        try simp only [Act.put, List.setIfInBounds_toArray, List.set_cons_zero, List.set_cons_succ]
        refine wpAnyH_ready (rs := [11]) (by kernel_rfl) (by simp) ?_
        refine AllReadyH.cons (i := 11) rfl (fun K hK => ?_) AllReadyH.nil
        go_simp
        refine (HS3.out _).mono ?_
        rintro e zz ⟨rfl, rfl⟩
        refine hK.out _ _ ?sx31 (fun hHeld => ?_)
        case sx31 => exact hHeld
        clear hK K
        try simp only [Act.put, List.setIfInBounds_toArray, List.set_cons_zero, List.set_cons_succ]
        refine wpAnyH_ready (rs := [15]) (by kernel_rfl) (by simp) ?_
        refine AllReadyH.cons (i := 15) rfl (fun K hK => ?_) AllReadyH.nil
        go_simp
        refine (HS4.out _).mono ?_
        rintro e zz ⟨rfl, rfl⟩
        refine hK.out _ _ ?sx32 (fun hHeld => ?_)
        case sx32 => exact hHeld
        clear hK K
        try simp only [Act.put, List.setIfInBounds_toArray, List.set_cons_zero, List.set_cons_succ]
        refine wpAnyH_ready (rs := [19]) (by kernel_rfl) (by simp) ?_
        refine AllReadyH.cons (i := 19) rfl (fun K hK => ?_) AllReadyH.nil
        go_simp
        refine (HS5.out _).mono ?_
        rintro e zz ⟨rfl, rfl⟩
        refine hK.out _ _ ?sx33 (fun hHeld => ?_)
        case sx33 => exact hHeld
        clear hK K
        try simp only [Act.put, List.setIfInBounds_toArray, List.set_cons_zero, List.set_cons_succ]
        refine wpAnyH_ready (rs := [23]) (by kernel_rfl) (by simp) ?_
        refine AllReadyH.cons (i := 23) rfl (fun K hK => ?_) AllReadyH.nil
        go_simp
        refine (HS6.out _).mono ?_
        rintro e zz ⟨rfl, rfl⟩
        refine hK.out _ _ ?sx34 (fun hHeld => ?_)
        case sx34 => exact hHeld
        clear hK K
        try simp only [Act.put, List.setIfInBounds_toArray, List.set_cons_zero, List.set_cons_succ]
        refine wpAnyH_take (i := 24) (v := ?va24x35) rfl (by kernel_rfl) (by kernel_rfl) (by kernel_rfl) (fun c a w h => hP c _ _ a w h) (Or.inl ⟨by rfl, ?ya24x35⟩) hHeld ?ra24x35
        case ya24x35 => intro w hSw; (try dsimp only at hSw); obtain ⟨hS1, hS2, hS3, hS4, hS5, hS6, hS7, hS8, hS9⟩ := hSw; go_simp; (try with_reducible rfl)
        try simp only [Act.put, List.setIfInBounds_toArray, List.set_cons_zero, List.set_cons_succ]
        refine wpAnyH_ready (rs := [28]) (by kernel_rfl) (by simp) ?_
        refine AllReadyH.cons (i := 28) rfl (fun K hK => ?_) AllReadyH.nil
        go_simp
        refine (HS7.out _).mono ?_
        rintro e zz ⟨rfl, rfl⟩
        refine hK.out _ _ ?sx36 (fun hHeld => ?_)
        case sx36 => exact hHeld
        clear hK K
        try simp only [Act.put, List.setIfInBounds_toArray, List.set_cons_zero, List.set_cons_succ]
        refine wpAnyH_ready (rs := [32]) (by kernel_rfl) (by simp) ?_
        refine AllReadyH.cons (i := 32) rfl (fun K hK => ?_) AllReadyH.nil
        go_simp
        refine (HS8.out _).mono ?_
        rintro e zz ⟨rfl, rfl⟩
        refine hK.out _ _ ?sx37 (fun hHeld => ?_)
        case sx37 => exact hHeld
        clear hK K
        try simp only [Act.put, List.setIfInBounds_toArray, List.set_cons_zero, List.set_cons_succ]
        refine wpAnyH_take (i := 36) (v := ?va36x38) rfl (by kernel_rfl) (by kernel_rfl) (by kernel_rfl) (fun c a w h => hP c _ _ a w h) (Or.inl ⟨by rfl, ?ya36x38⟩) hHeld ?ra36x38
        case ya36x38 => intro w hSw; (try dsimp only at hSw); obtain ⟨hS1, hS2, hS3, hS4, hS5, hS6, hS7, hS8, hS9⟩ := hSw; go_simp; (try with_reducible rfl)
        try simp only [Act.put, List.setIfInBounds_toArray, List.set_cons_zero, List.set_cons_succ]
        refine wpAnyH_done (by kernel_rfl) ?_ _
        refine qlast_n ?_
        refine wpOp_step rfl (fun K hK => ?_)
        go_simp
        refine hK _ _ ?_
        clear hK K
        exact HQ.out w.heap.size ((w.alloc (.cells #[.int .i64 q1, .int .i64 q2, .int .i64 q3, .int .i64 q4, .int .i64 q5, .int .i64 q6, .int .i64 q7, .int .i64 q8, .string ⟨T9.toArray⟩] 65)).drew) _ _ _ _ _ _ _ _ _ _ _ _ _ _ _ _ _ _ _ _ _ _ _ _ _ _ _ _ _ _ _ _ _ _ _ _ _ (World.alloc_heap_new w _) (Nat.le_refl _) (((Below.refl _ w).alloc (Nat.le_refl _) (.cells #[.int .i64 q1, .int .i64 q2, .int .i64 q3, .int .i64 q4, .int .i64 q5, .int .i64 q6, .int .i64 q7, .int .i64 q8, .string ⟨T9.toArray⟩] 65)).drew)
      case bx28 =>
        go_simp
        refine (HS3.out _).mono ?_
        rintro e zz ⟨rfl, rfl⟩
        refine hK.out _ _ ?sx39 (fun hHeld => ?_)
        case sx39 => exact hHeld
        clear hK K
        try simp only [Act.put, List.setIfInBounds_toArray, List.set_cons_zero, List.set_cons_succ]
        refine wpAnyH_ready (rs := [15, 37]) (by kernel_rfl) (by simp) ?_
        refine AllReadyH.cons (i := 15) rfl (fun K hK => ?bx40) (AllReadyH.cons (i := 37) rfl (fun K hK => ?bx41) AllReadyH.nil)
        case bx41 =>
          go_simp
          refine hK.out _ _ ?sx42 (fun hHeld => ?_)
          case sx42 => exact hS0.out _ GA.out
          clear hK K
          try simp only [Act.put, List.setIfInBounds_toArray, List.set_cons_zero, List.set_cons_succ]
          refine wpAnyH_ready (rs := [15]) (by kernel_rfl) (by simp) ?_
          refine AllReadyH.cons (i := 15) rfl (fun K hK => ?_) AllReadyH.nil
          go_simp
          refine (HS4.out _).mono ?_
          rintro e zz ⟨rfl, rfl⟩
          refine hK.out _ _ ?sx43 (fun hHeld => ?_)
          case sx43 => exact hHeld
          clear hK K
          try simp only [Act.put, List.setIfInBounds_toArray, List.set_cons_zero, List.set_cons_succ]
          refine wpAnyH_ready (rs := [19]) (by kernel_rfl) (by simp) ?_
          refine AllReadyH.cons (i := 19) rfl (fun K hK => ?_) AllReadyH.nil
          go_simp
          refine (HS5.out _).mono ?_
          rintro e zz ⟨rfl, rfl⟩
          refine hK.out _ _ ?sx44 (fun hHeld => ?_)
          case sx44 => exact hHeld
          clear hK K
          try simp only [Act.put, List.setIfInBounds_toArray, List.set_cons_zero, List.set_cons_succ]
          refine wpAnyH_ready (rs := [23]) (by kernel_rfl) (by simp) ?_
          refine AllReadyH.cons (i := 23) rfl (fun K hK => ?_) AllReadyH.nil
          go_simp
          refine (HS6.out _).mono ?_
          rintro e zz ⟨rfl, rfl⟩
          refine hK.out _ _ ?sx45 (fun hHeld => ?_)
          case sx45 => exact hHeld
          clear hK K
          try simp only [Act.put, List.setIfInBounds_toArray, List.set_cons_zero, List.set_cons_succ]
          refine wpAnyH_take (i := 24) (v := ?va24x46) rfl (by kernel_rfl) (by kernel_rfl) (by kernel_rfl) (fun c a w h => hP c _ _ a w h) (Or.inl ⟨by rfl, ?ya24x46⟩) hHeld ?ra24x46
          case ya24x46 => intro w hSw; (try dsimp only at hSw); obtain ⟨hS1, hS2, hS3, hS4, hS5, hS6, hS7, hS8, hS9⟩ := hSw; go_simp; (try with_reducible rfl)
          try simp only [Act.put, List.setIfInBounds_toArray, List.set_cons_zero, List.set_cons_succ]
          refine wpAnyH_ready (rs := [28]) (by kernel_rfl) (by simp) ?_
          refine AllReadyH.cons (i := 28) rfl (fun K hK => ?_) AllReadyH.nil
          go_simp
          refine (HS7.out _).mono ?_
          rintro e zz ⟨rfl, rfl⟩
          refine hK.out _ _ ?sx47 (fun hHeld => ?_)
          case sx47 => exact hHeld
          clear hK K
          try simp only [Act.put, List.setIfInBounds_toArray, List.set_cons_zero, List.set_cons_succ]
          refine wpAnyH_ready (rs := [32]) (by kernel_rfl) (by simp) ?_
          refine AllReadyH.cons (i := 32) rfl (fun K hK => ?_) AllReadyH.nil
          go_simp
          refine (HS8.out _).mono ?_
          rintro e zz ⟨rfl, rfl⟩
          refine hK.out _ _ ?sx48 (fun hHeld => ?_)
          case sx48 => exact hHeld
          clear hK K
          try simp only [Act.put, List.setIfInBounds_toArray, List.set_cons_zero, List.set_cons_succ]
          refine wpAnyH_take (i := 36) (v := ?va36x49) rfl (by kernel_rfl) (by kernel_rfl) (by kernel_rfl) (fun c a w h => hP c _ _ a w h) (Or.inl ⟨by rfl, ?ya36x49⟩) hHeld ?ra36x49
          case ya36x49 => intro w hSw; (try dsimp only at hSw); obtain ⟨hS1, hS2, hS3, hS4, hS5, hS6, hS7, hS8, hS9⟩ := hSw; go_simp; (try with_reducible rfl)
          try simp only [Act.put, List.setIfInBounds_toArray, List.set_cons_zero, List.set_cons_succ]
          refine wpAnyH_done (by kernel_rfl) ?_ _
          refine qlast_n ?_
          refine wpOp_step rfl (fun K hK => ?_)
          go_simp
          refine hK _ _ ?_
          clear hK K
          exact HQ.out w.heap.size ((w.alloc (.cells #[.int .i64 q1, .int .i64 q2, .int .i64 q3, .int .i64 q4, .int .i64 q5, .int .i64 q6, .int .i64 q7, .int .i64 q8, .string ⟨T9.toArray⟩] 65)).drew) _ _ _ _ _ _ _ _ _ _ _ _ _ _ _ _ _ _ _ _ _ _ _ _ _ _ _ _ _ _ _ _ _ _ _ _ _ (World.alloc_heap_new w _) (Nat.le_refl _) (((Below.refl _ w).alloc (Nat.le_refl _) (.cells #[.int .i64 q1, .int .i64 q2, .int .i64 q3, .int .i64 q4, .int .i64 q5, .int .i64 q6, .int .i64 q7, .int .i64 q8, .string ⟨T9.toArray⟩] 65)).drew)
        case bx40 =>
          go_simp
          refine (HS4.out _).mono ?_
          rintro e zz ⟨rfl, rfl⟩
          refine hK.out _ _ ?sx50 (fun hHeld => ?_)
          case sx50 => exact hHeld
          clear hK K
          try simp only [Act.put, List.setIfInBounds_toArray, List.set_cons_zero, List.set_cons_succ]
          refine wpAnyH_ready (rs := [19, 37]) (by kernel_rfl) (by simp) ?_
          refine AllReadyH.cons (i := 19) rfl (fun K hK => ?bx51) (AllReadyH.cons (i := 37) rfl (fun K hK => ?bx52) AllReadyH.nil)
          case bx52 =>
            go_simp
            refine hK.out _ _ ?sx53 (fun hHeld => ?_)
            case sx53 => exact hS0.out _ GA.out
            clear hK K
            try simp only [Act.put, List.setIfInBounds_toArray, List.set_cons_zero, List.set_cons_succ]
            refine wpAnyH_ready (rs := [19]) (by kernel_rfl) (by simp) ?_
            refine AllReadyH.cons (i := 19) rfl (fun K hK => ?_) AllReadyH.nil
            go_simp
            refine (HS5.out _).mono ?_
            rintro e zz ⟨rfl, rfl⟩
            refine hK.out _ _ ?sx54 (fun hHeld => ?_)
            case sx54 => exact hHeld
            clear hK K
            try simp only [Act.put, List.setIfInBounds_toArray, List.set_cons_zero, List.set_cons_succ]
            refine wpAnyH_ready (rs := [23]) (by kernel_rfl) (by simp) ?_
            refine AllReadyH.cons (i := 23) rfl (fun K hK => ?_) AllReadyH.nil
            go_simp
            refine (HS6.out _).mono ?_
            rintro e zz ⟨rfl, rfl⟩
            refine hK.out _ _ ?sx55 (fun hHeld => ?_)
            case sx55 => exact hHeld
            clear hK K
            try simp only [Act.put, List.setIfInBounds_toArray, List.set_cons_zero, List.set_cons_succ]
            refine wpAnyH_take (i := 24) (v := ?va24x56) rfl (by kernel_rfl) (by kernel_rfl) (by kernel_rfl) (fun c a w h => hP c _ _ a w h) (Or.inl ⟨by rfl, ?ya24x56⟩) hHeld ?ra24x56
            case ya24x56 => intro w hSw; (try dsimp only at hSw); obtain ⟨hS1, hS2, hS3, hS4, hS5, hS6, hS7, hS8, hS9⟩ := hSw; go_simp; (try with_reducible rfl)
            try simp only [Act.put, List.setIfInBounds_toArray, List.set_cons_zero, List.set_cons_succ]
            refine wpAnyH_ready (rs := [28]) (by kernel_rfl) (by simp) ?_
            refine AllReadyH.cons (i := 28) rfl (fun K hK => ?_) AllReadyH.nil
            go_simp
            refine (HS7.out _).mono ?_
            rintro e zz ⟨rfl, rfl⟩
            refine hK.out _ _ ?sx57 (fun hHeld => ?_)
            case sx57 => exact hHeld
            clear hK K
            try simp only [Act.put, List.setIfInBounds_toArray, List.set_cons_zero, List.set_cons_succ]
            refine wpAnyH_ready (rs := [32]) (by kernel_rfl) (by simp) ?_
            refine AllReadyH.cons (i := 32) rfl (fun K hK => ?_) AllReadyH.nil
            go_simp
            refine (HS8.out _).mono ?_
            rintro e zz ⟨rfl, rfl⟩
            refine hK.out _ _ ?sx58 (fun hHeld => ?_)
            case sx58 => exact hHeld
            clear hK K
            try simp only [Act.put, List.setIfInBounds_toArray, List.set_cons_zero, List.set_cons_succ]
            refine wpAnyH_take (i := 36) (v := ?va36x59) rfl (by kernel_rfl) (by kernel_rfl) (by kernel_rfl) (fun c a w h => hP c _ _ a w h) (Or.inl ⟨by rfl, ?ya36x59⟩) hHeld ?ra36x59
            case ya36x59 => intro w hSw; (try dsimp only at hSw); obtain ⟨hS1, hS2, hS3, hS4, hS5, hS6, hS7, hS8, hS9⟩ := hSw; go_simp; (try with_reducible rfl)
            try simp only [Act.put, List.setIfInBounds_toArray, List.set_cons_zero, List.set_cons_succ]
            refine wpAnyH_done (by kernel_rfl) ?_ _
            refine qlast_n ?_
            refine wpOp_step rfl (fun K hK => ?_)
            go_simp
            refine hK _ _ ?_
            clear hK K
            exact HQ.out w.heap.size ((w.alloc (.cells #[.int .i64 q1, .int .i64 q2, .int .i64 q3, .int .i64 q4, .int .i64 q5, .int .i64 q6, .int .i64 q7, .int .i64 q8, .string ⟨T9.toArray⟩] 65)).drew) _ _ _ _ _ _ _ _ _ _ _ _ _ _ _ _ _ _ _ _ _ _ _ _ _ _ _ _ _ _ _ _ _ _ _ _ _ (World.alloc_heap_new w _) (Nat.le_refl _) (((Below.refl _ w).alloc (Nat.le_refl _) (.cells #[.int .i64 q1, .int .i64 q2, .int .i64 q3, .int .i64 q4, .int .i64 q5, .int .i64 q6, .int .i64 q7, .int .i64 q8, .string ⟨T9.toArray⟩] 65)).drew)
          case bx51 =>
            go_simp
            refine (HS5.out _).mono ?_
            rintro e zz ⟨rfl, rfl⟩
            refine hK.out _ _ ?sx60 (fun hHeld => ?_)
            case sx60 => exact hHeld
            clear hK K
            try simp only [Act.put, List.setIfInBounds_toArray, List.set_cons_zero, List.set_cons_succ]
            refine wpAnyH_ready (rs := [23, 37]) (by kernel_rfl) (by simp) ?_
            refine AllReadyH.cons (i := 23) rfl (fun K hK => ?bx61) (AllReadyH.cons (i := 37) rfl (fun K hK => ?bx62) AllReadyH.nil)
            case bx62 =>
              go_simp
              refine hK.out _ _ ?sx63 (fun hHeld => ?_)
              case sx63 => exact hS0.out _ GA.out
              clear hK K
              try simp only [Act.put, List.setIfInBounds_toArray, List.set_cons_zero, List.set_cons_succ]
              refine wpAnyH_ready (rs := [23]) (by kernel_rfl) (by simp) ?_
              refine AllReadyH.cons (i := 23) rfl (fun K hK => ?_) AllReadyH.nil
              go_simp
              refine (HS6.out _).mono ?_
              rintro e zz ⟨rfl, rfl⟩
              refine hK.out _ _ ?sx64 (fun hHeld => ?_)
              case sx64 => exact hHeld
              clear hK K
              try simp only [Act.put, List.setIfInBounds_toArray, List.set_cons_zero, List.set_cons_succ]
              refine wpAnyH_take (i := 24) (v := ?va24x65) rfl (by kernel_rfl) (by kernel_rfl) (by kernel_rfl) (fun c a w h => hP c _ _ a w h) (Or.inl ⟨by rfl, ?ya24x65⟩) hHeld ?ra24x65
              case ya24x65 => intro w hSw; (try dsimp only at hSw); obtain ⟨hS1, hS2, hS3, hS4, hS5, hS6, hS7, hS8, hS9⟩ := hSw; go_simp; (try with_reducible rfl)
              try simp only [Act.put, List.setIfInBounds_toArray, List.set_cons_zero, List.set_cons_succ]
              refine wpAnyH_ready (rs := [28]) (by kernel_rfl) (by simp) ?_
              refine AllReadyH.cons (i := 28) rfl (fun K hK => ?_) AllReadyH.nil
              go_simp
              refine (HS7.out _).mono ?_
              rintro e zz ⟨rfl, rfl⟩
              refine hK.out _ _ ?sx66 (fun hHeld => ?_)
              case sx66 => exact hHeld
              clear hK K
              try simp only [Act.put, List.setIfInBounds_toArray, List.set_cons_zero, List.set_cons_succ]
              refine wpAnyH_ready (rs := [32]) (by kernel_rfl) (by simp) ?_
              refine AllReadyH.cons (i := 32) rfl (fun K hK => ?_) AllReadyH.nil
              go_simp
              refine (HS8.out _).mono ?_
              rintro e zz ⟨rfl, rfl⟩
              refine hK.out _ _ ?sx67 (fun hHeld => ?_)
              case sx67 => exact hHeld
              clear hK K
              try simp only [Act.put, List.setIfInBounds_toArray, List.set_cons_zero, List.set_cons_succ]
              refine wpAnyH_take (i := 36) (v := ?va36x68) rfl (by kernel_rfl) (by kernel_rfl) (by kernel_rfl) (fun c a w h => hP c _ _ a w h) (Or.inl ⟨by rfl, ?ya36x68⟩) hHeld ?ra36x68
              case ya36x68 => intro w hSw; (try dsimp only at hSw); obtain ⟨hS1, hS2, hS3, hS4, hS5, hS6, hS7, hS8, hS9⟩ := hSw; go_simp; (try with_reducible rfl)
              try simp only [Act.put, List.setIfInBounds_toArray, List.set_cons_zero, List.set_cons_succ]
              refine wpAnyH_done (by kernel_rfl) ?_ _
              refine qlast_n ?_
              refine wpOp_step rfl (fun K hK => ?_)
              go_simp
              refine hK _ _ ?_
              clear hK K
              exact HQ.out w.heap.size ((w.alloc (.cells #[.int .i64 q1, .int .i64 q2, .int .i64 q3, .int .i64 q4, .int .i64 q5, .int .i64 q6, .int .i64 q7, .int .i64 q8, .string ⟨T9.toArray⟩] 65)).drew) _ _ _ _ _ _ _ _ _ _ _ _ _ _ _ _ _ _ _ _ _ _ _ _ _ _ _ _ _ _ _ _ _ _ _ _ _ (World.alloc_heap_new w _) (Nat.le_refl _) (((Below.refl _ w).alloc (Nat.le_refl _) (.cells #[.int .i64 q1, .int .i64 q2, .int .i64 q3, .int .i64 q4, .int .i64 q5, .int .i64 q6, .int .i64 q7, .int .i64 q8, .string ⟨T9.toArray⟩] 65)).drew)
            case bx61 =>
              go_simp
              refine (HS6.out _).mono ?_
              rintro e zz ⟨rfl, rfl⟩
              refine hK.out _ _ ?sx69 (fun hHeld => ?_)
              case sx69 => exact hHeld
              clear hK K
              try simp only [Act.put, List.setIfInBounds_toArray, List.set_cons_zero, List.set_cons_succ]
              refine wpAnyH_take (i := 24) (v := ?va24x70) rfl (by kernel_rfl) (by kernel_rfl) (by kernel_rfl) (fun c a w h => hP c _ _ a w h) (Or.inl ⟨by rfl, ?ya24x70⟩) hHeld ?ra24x70
              case ya24x70 => intro w hSw; (try dsimp only at hSw); obtain ⟨hS1, hS2, hS3, hS4, hS5, hS6, hS7, hS8, hS9⟩ := hSw; go_simp; (try with_reducible rfl)
              try simp only [Act.put, List.setIfInBounds_toArray, List.set_cons_zero, List.set_cons_succ]
              refine wpAnyH_ready (rs := [28, 37]) (by kernel_rfl) (by simp) ?_
              refine AllReadyH.cons (i := 28) rfl (fun K hK => ?bx71) (AllReadyH.cons (i := 37) rfl (fun K hK => ?bx72) AllReadyH.nil)
              case bx72 =>
                go_simp
                refine hK.out _ _ ?sx73 (fun hHeld => ?_)
                case sx73 => exact hS0.out _ GA.out
                clear hK K
                try simp only [Act.put, List.setIfInBounds_toArray, List.set_cons_zero, List.set_cons_succ]
                refine wpAnyH_ready (rs := [28]) (by kernel_rfl) (by simp) ?_
                refine AllReadyH.cons (i := 28) rfl (fun K hK => ?_) AllReadyH.nil
                go_simp
                refine (HS7.out _).mono ?_
                rintro e zz ⟨rfl, rfl⟩
                refine hK.out _ _ ?sx74 (fun hHeld => ?_)
                case sx74 => exact hHeld
                clear hK K
                try simp only [Act.put, List.setIfInBounds_toArray, List.set_cons_zero, List.set_cons_succ]
                refine wpAnyH_ready (rs := [32]) (by kernel_rfl) (by simp) ?_
                refine AllReadyH.cons (i := 32) rfl (fun K hK => ?_) AllReadyH.nil
                go_simp
                refine (HS8.out _).mono ?_
                rintro e zz ⟨rfl, rfl⟩
                refine hK.out _ _ ?sx75 (fun hHeld => ?_)
                case sx75 => exact hHeld
                clear hK K
                try simp only [Act.put, List.setIfInBounds_toArray, List.set_cons_zero, List.set_cons_succ]
                refine wpAnyH_take (i := 36) (v := ?va36x76) rfl (by kernel_rfl) (by kernel_rfl) (by kernel_rfl) (fun c a w h => hP c _ _ a w h) (Or.inl ⟨by rfl, ?ya36x76⟩) hHeld ?ra36x76
                case ya36x76 => intro w hSw; (try dsimp only at hSw); obtain ⟨hS1, hS2, hS3, hS4, hS5, hS6, hS7, hS8, hS9⟩ := hSw; go_simp; (try with_reducible rfl)
                try simp only [Act.put, List.setIfInBounds_toArray, List.set_cons_zero, List.set_cons_succ]
                refine wpAnyH_done (by kernel_rfl) ?_ _
                refine qlast_n ?_
                refine wpOp_step rfl (fun K hK => ?_)
                go_simp
                refine hK _ _ ?_
                clear hK K
                exact HQ.out w.heap.size ((w.alloc (.cells #[.int .i64 q1, .int .i64 q2, .int .i64 q3, .int .i64 q4, .int .i64 q5, .int .i64 q6, .int .i64 q7, .int .i64 q8, .string ⟨T9.toArray⟩] 65)).drew) _ _ _ _ _ _ _ _ _ _ _ _ _ _ _ _ _ _ _ _ _ _ _ _ _ _ _ _ _ _ _ _ _ _ _ _ _ (World.alloc_heap_new w _) (Nat.le_refl _) (((Below.refl _ w).alloc (Nat.le_refl _) (.cells #[.int .i64 q1, .int .i64 q2, .int .i64 q3, .int .i64 q4, .int .i64 q5, .int .i64 q6, .int .i64 q7, .int .i64 q8, .string ⟨T9.toArray⟩] 65)).drew)
              case bx71 =>
                go_simp
                refine (HS7.out _).mono ?_
                rintro e zz ⟨rfl, rfl⟩
                refine hK.out _ _ ?sx77 (fun hHeld => ?_)
                case sx77 => exact hHeld
                clear hK K
                try simp only [Act.put, List.setIfInBounds_toArray, List.set_cons_zero, List.set_cons_succ]
                refine wpAnyH_ready (rs := [32, 37]) (by kernel_rfl) (by simp) ?_
                refine AllReadyH.cons (i := 32) rfl (fun K hK => ?bx78) (AllReadyH.cons (i := 37) rfl (fun K hK => ?bx79) AllReadyH.nil)
                case bx79 =>
                  go_simp
                  refine hK.out _ _ ?sx80 (fun hHeld => ?_)
                  case sx80 => exact hS0.out _ GA.out
                  clear hK K
                  try simp only [Act.put, List.setIfInBounds_toArray, List.set_cons_zero, List.set_cons_succ]
                  refine wpAnyH_ready (rs := [32]) (by kernel_rfl) (by simp) ?_
                  refine AllReadyH.cons (i := 32) rfl (fun K hK => ?_) AllReadyH.nil
                  go_simp
                  refine (HS8.out _).mono ?_
                  rintro e zz ⟨rfl, rfl⟩
                  refine hK.out _ _ ?sx81 (fun hHeld => ?_)
                  case sx81 => exact hHeld
                  clear hK K
                  try simp only [Act.put, List.setIfInBounds_toArray, List.set_cons_zero, List.set_cons_succ]
                  refine wpAnyH_take (i := 36) (v := ?va36x82) rfl (by kernel_rfl) (by kernel_rfl) (by kernel_rfl) (fun c a w h => hP c _ _ a w h) (Or.inl ⟨by rfl, ?ya36x82⟩) hHeld ?ra36x82
                  case ya36x82 => intro w hSw; (try dsimp only at hSw); obtain ⟨hS1, hS2, hS3, hS4, hS5, hS6, hS7, hS8, hS9⟩ := hSw; go_simp; (try with_reducible rfl)
                  try simp only [Act.put, List.setIfInBounds_toArray, List.set_cons_zero, List.set_cons_succ]
                  refine wpAnyH_done (by kernel_rfl) ?_ _
                  refine qlast_n ?_
                  refine wpOp_step rfl (fun K hK => ?_)
                  go_simp
                  refine hK _ _ ?_
                  clear hK K
                  exact HQ.out w.heap.size ((w.alloc (.cells #[.int .i64 q1, .int .i64 q2, .int .i64 q3, .int .i64 q4, .int .i64 q5, .int .i64 q6, .int .i64 q7, .int .i64 q8, .string ⟨T9.toArray⟩] 65)).drew) _ _ _ _ _ _ _ _ _ _ _ _ _ _ _ _ _ _ _ _ _ _ _ _ _ _ _ _ _ _ _ _ _ _ _ _ _ (World.alloc_heap_new w _) (Nat.le_refl _) (((Below.refl _ w).alloc (Nat.le_refl _) (.cells #[.int .i64 q1, .int .i64 q2, .int .i64 q3, .int .i64 q4, .int .i64 q5, .int .i64 q6, .int .i64 q7, .int .i64 q8, .string ⟨T9.toArray⟩] 65)).drew)
                case bx78 =>
                  go_simp
                  refine (HS8.out _).mono ?_
                  rintro e zz ⟨rfl, rfl⟩
                  refine hK.out _ _ ?sx83 (fun hHeld => ?_)
                  case sx83 => exact hHeld
                  clear hK K
                  try simp only [Act.put, List.setIfInBounds_toArray, List.set_cons_zero, List.set_cons_succ]
                  refine wpAnyH_take (i := 36) (v := ?va36x84) rfl (by kernel_rfl) (by kernel_rfl) (by kernel_rfl) (fun c a w h => hP c _ _ a w h) (Or.inl ⟨by rfl, ?ya36x84⟩) hHeld ?ra36x84
                  case ya36x84 => intro w hSw; (try dsimp only at hSw); obtain ⟨hS1, hS2, hS3, hS4, hS5, hS6, hS7, hS8, hS9⟩ := hSw; go_simp; (try with_reducible rfl)
                  try simp only [Act.put, List.setIfInBounds_toArray, List.set_cons_zero, List.set_cons_succ]
                  refine wpAnyH_ready (rs := [37]) (by kernel_rfl) (by simp) ?_
                  refine AllReadyH.cons (i := 37) rfl (fun K hK => ?_) AllReadyH.nil
                  go_simp
                  refine hK.out _ _ ?sx85 (fun hHeld => ?_)
                  case sx85 => exact hS0.out _ GA.out
                  clear hK K
                  try simp only [Act.put, List.setIfInBounds_toArray, List.set_cons_zero, List.set_cons_succ]
                  refine wpAnyH_done (by kernel_rfl) ?_ _
                  refine qlast_n ?_
                  refine wpOp_step rfl (fun K hK => ?_)
                  go_simp
                  refine hK _ _ ?_
                  clear hK K
                  exact HQ.out w.heap.size ((w.alloc (.cells #[.int .i64 q1, .int .i64 q2, .int .i64 q3, .int .i64 q4, .int .i64 q5, .int .i64 q6, .int .i64 q7, .int .i64 q8, .string ⟨T9.toArray⟩] 65)).drew) _ _ _ _ _ _ _ _ _ _ _ _ _ _ _ _ _ _ _ _ _ _ _ _ _ _ _ _ _ _ _ _ _ _ _ _ _ (World.alloc_heap_new w _) (Nat.le_refl _) (((Below.refl _ w).alloc (Nat.le_refl _) (.cells #[.int .i64 q1, .int .i64 q2, .int .i64 q3, .int .i64 q4, .int .i64 q5, .int .i64 q6, .int .i64 q7, .int .i64 q8, .string ⟨T9.toArray⟩] 65)).drew)
end Go.Proofs.YtbpdbggojgijiaaGreatDoor.Src
