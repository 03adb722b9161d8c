/- The document's own DataFrom: a zone. -/
import Derived.Test.YtbpdbggojgijiaaGreatDoorSrcRD
import Derived.Deep.RegionHeld3
import Derived.Deep.RegionHeldLaw
namespace Go.Proofs.YtbpdbggojgijiaaGreatDoor.Src
open Go Go.RowKit Go.Maps
set_option linter.unusedVariables false
set_option linter.unusedSimpArgs false

set_option maxHeartbeats 8000000 in
set_option maxRecDepth 100000 in
theorem df18 {u0 u1 u2 u3 u4 u6 u8 u9 u10 u11 u12 u13 u14 u15 u16 u17 u18 u19 u20 u21 u22 u23 u24 u25 u26 u27 u28 u29 u30 u31 u32 u33 u34 u35 u36 u37 u38 u39 u40 u41 u42 u43 u44 u45 u46 u47 u48 u49 u50 u51 u52 u53 u54 u55 u56 u57 u58 u59 u60 u61 u62 u63 u64 u65 u66 u67 u68 u69 u70 u71 u72 u73 u74 u75 u76 u77 u78 u79 u80 u81 u82 u83 u84 u85 u86 u87 u88 u89 u90 u91 u92 u93 u94 u95 u96 u97 u98 u99 u100 u101 u102 u103 u104 u105 u106 u107 u108 u109 u110 u111 u112 u113 u114 u115 u116 u117 u118 u119 u120 u121 u122 u123 u124 u125 u126 u127 u128 u129 u130 u131 u132 u133 u134 u135 u136 u137 u138 u139 u140 u141 u142 u143 u144 u145 u146 u147 u148 u149 u150 u151 u152 u153 u154 u155 u156 u157 u158 u159 u160 u161 u162 u163 u164 u165 u166 u167 u168 u169 u170 u171 u172 u173 u174 u175 u176 u177 u178 u179 u180 u181 u182 u183 u184 : Value} {ds : List Deferred} {Q : Exit → Act → World → Prop} (hP : ∀ c d v (a : Act) (w : World), Q (.panic c) (a.put d v) w → Q (.panic c) a w) (B db g nw cw : Nat) (T1 : By) (cs : Array Value) (w : World) (s1 : Option Addr) (n1 c1 : Nat) (v0 v2 : Value) (xs : List Value) (hd : w.heap[db]? = some (.cells #[v0, .slice s1 n1 c1, v2] 26)) (hg : w.heap[g]? = some (.cells cs 9)) (hc1 : cs[1]? = some (.string ⟨T1.toArray⟩)) (hnw : 10 ≤ nw) (hB : B ≤ w.heap.size) (hBd : B ≤ db) (ho : w.ownsRow B 51 2 (.slice s1 n1 c1) n1 xs) (hn : n1 ≤ 1000000)
    (hQ : ∀ a2 c2 w' y108 y109 y110 y111 y112 y113 y114 y115 y116, w'.heap[db]? = some (.cells #[v0, .slice a2 (n1 + 1) c2, v2] 26) → w'.ownsRow B 51 2 (.slice a2 (n1 + 1) c2) (n1 + 1) (xs ++ [.string ⟨T1.toArray⟩, .slice none 0 0]) → Below B w w' → KT [51, 26] w w' → Q .normal ⟨#[u0, u1, u2, u3, u4, .pointer (some ⟨db, 0, none⟩), u6, .slice (some ⟨g, 0, none⟩) nw cw, u8, u9, u10, u11, u12, u13, u14, u15, u16, u17, u18, u19, u20, u21, u22, u23, u24, u25, u26, u27, u28, u29, u30, u31, u32, u33, u34, u35, u36, u37, u38, u39, u40, u41, u42, u43, u44, u45, u46, u47, u48, u49, u50, u51, u52, u53, u54, u55, u56, u57, u58, u59, u60, u61, u62, u63, u64, u65, u66, u67, u68, u69, u70, u71, u72, u73, u74, u75, u76, u77, u78, u79, u80, u81, u82, u83, u84, u85, u86, u87, u88, u89, u90, u91, u92, u93, u94, u95, u96, u97, u98, u99, u100, u101, u102, u103, u104, u105, u106, u107, y108, y109, y110, y111, y112, y113, y114, y115, y116, u117, u118, u119, u120, u121, u122, u123, u124, u125, u126, u127, u128, u129, u130, u131, u132, u133, u134, u135, u136, u137, u138, u139, u140, u141, u142, u143, u144, u145, u146, u147, u148, u149, u150, u151, u152, u153, u154, u155, u156, u157, u158, u159, u160, u161, u162, u163, u164, u165, u166, u167, u168, u169, u170, u171, u172, u173, u174, u175, u176, u177, u178, u179, u180, u181, u182, u183, u184], ds⟩ w') :
    Code.wp Tryz.prog ((regF 18 (Tryz.f11.body.getD .skip)).getD .skip) Q ⟨#[u0, u1, u2, u3, u4, .pointer (some ⟨db, 0, none⟩), u6, .slice (some ⟨g, 0, none⟩) nw cw, u8, u9, u10, u11, u12, u13, u14, u15, u16, u17, u18, u19, u20, u21, u22, u23, u24, u25, u26, u27, u28, u29, u30, u31, u32, u33, u34, u35, u36, u37, u38, u39, u40, u41, u42, u43, u44, u45, u46, u47, u48, u49, u50, u51, u52, u53, u54, u55, u56, u57, u58, u59, u60, u61, u62, u63, u64, u65, u66, u67, u68, u69, u70, u71, u72, u73, u74, u75, u76, u77, u78, u79, u80, u81, u82, u83, u84, u85, u86, u87, u88, u89, u90, u91, u92, u93, u94, u95, u96, u97, u98, u99, u100, u101, u102, u103, u104, u105, u106, u107, u108, u109, u110, u111, u112, u113, u114, u115, u116, u117, u118, u119, u120, u121, u122, u123, u124, u125, u126, u127, u128, u129, u130, u131, u132, u133, u134, u135, u136, u137, u138, u139, u140, u141, u142, u143, u144, u145, u146, u147, u148, u149, u150, u151, u152, u153, u154, u155, u156, u157, u158, u159, u160, u161, u162, u163, u164, u165, u166, u167, u168, u169, u170, u171, u172, u173, u174, u175, u176, u177, u178, u179, u180, u181, u182, u183, u184], ds⟩ w := by
  have hdl : db < w.heap.size := (Array.getElem?_eq_some_iff.1 hd).1
  have HO := hideS ho
  have HQ := hideS hQ
  have HD := hideS hd
  obtain ⟨i2, hi2, hx0, hx1, hx2⟩ := info_parts infoS_zone
  have hS0 : Hid (∀ v : World, v.heap[db]? = some (.cells #[v0, .slice s1 n1 c1, v2] 26) → v.heap[g]? = some (.cells cs 9) → v.cell? ⟨db, 1, none⟩ = some (.slice s1 n1 c1) ∧ v.cell? ⟨g, 1, none⟩ = some (.string ⟨T1.toArray⟩)) := fun v hv hv2 => ⟨(cells3 hv).2.1, by rw [Lib.cell_of_heap hv2, hc1]⟩
  have HG := hideS hg
  have jn1 : decide (nw ≤ 1) = false := by simp; omega
  have ji1 : (1 : Int) < (nw : Int) := by omega
  have jl1 : 1 < nw := by omega
  clear ho hQ hd hg hc1
  conv => arg 2; whnf
  refine region_last2 (S := fun v => v.cell? ⟨db, 1, none⟩ = some (.slice s1 n1 c1) ∧ v.cell? ⟨g, 1, none⟩ = some (.string ⟨T1.toArray⟩)) (by kernel_rfl) (by kernel_rfl) (hS0.out w.drew HD.out HG.out) (fun hHeld => ?_)
  refine wpAnyH_take (i := 0) (v := ?va0) rfl (by kernel_rfl) (by kernel_rfl) (by kernel_rfl) (fun c a w h => hP c _ _ a w h) (Or.inl ⟨by rfl, ?ya0⟩) hHeld ?ra0
  case ya0 => intro w hSw; (try dsimp only at hSw); obtain ⟨hS0, hS1⟩ := hSw; go_simp; (try with_reducible rfl)
  try simp only [Act.put, List.setIfInBounds_toArray, List.set_cons_zero, List.set_cons_succ]
  refine wpAnyH_take (i := 1) (v := ?va1) rfl (by kernel_rfl) (by kernel_rfl) (by kernel_rfl) (fun c a w h => hP c _ _ a w h) (Or.inl ⟨by rfl, ?ya1⟩) hHeld ?ra1
  case ya1 => intro w hSw; (try dsimp only at hSw); obtain ⟨hS0, hS1⟩ := hSw; go_simp; (try with_reducible rfl)
  try simp only [Act.put, List.setIfInBounds_toArray, List.set_cons_zero, List.set_cons_succ]
  refine wpAnyH_take (i := 2) (v := ?va2) rfl (by kernel_rfl) (by kernel_rfl) (by kernel_rfl) (fun c a w h => hP c _ _ a w h) (Or.inl ⟨by rfl, ?ya2⟩) hHeld ?ra2
  case ya2 => intro w hSw; (try dsimp only at hSw); obtain ⟨hS0, hS1⟩ := hSw; go_simp; (try with_reducible rfl)
  try simp only [Act.put, List.setIfInBounds_toArray, List.set_cons_zero, List.set_cons_succ]
  refine wpAnyH_take (i := 3) (v := ?va3) rfl (by kernel_rfl) (by kernel_rfl) (by kernel_rfl) (fun c a w h => hP c _ _ a w h) (Or.inl ⟨by rfl, ?ya3⟩) hHeld ?ra3
  case ya3 => intro w hSw; (try dsimp only at hSw); obtain ⟨hS0, hS1⟩ := hSw; go_simp; (try with_reducible rfl)
  try simp only [Act.put, List.setIfInBounds_toArray, List.set_cons_zero, List.set_cons_succ]
  refine wpAnyH_take (i := 4) (v := ?va4) rfl (by kernel_rfl) (by kernel_rfl) (by kernel_rfl) (fun c a w h => hP c _ _ a w h) (Or.inl ⟨by rfl, ?ya4⟩) hHeld ?ra4
  case ya4 => intro w hSw; (try dsimp only at hSw); obtain ⟨hS0, hS1⟩ := hSw; go_simp; (try with_reducible rfl)
  try simp only [Act.put, List.setIfInBounds_toArray, List.set_cons_zero, List.set_cons_succ]
  refine wpAnyH_take (i := 5) (v := ?va5) rfl (by kernel_rfl) (by kernel_rfl) (by kernel_rfl) (fun c a w h => hP c _ _ a w h) (Or.inl ⟨by rfl, ?ya5⟩) hHeld ?ra5
  case ya5 => intro w hSw; (try dsimp only at hSw); obtain ⟨hS0, hS1⟩ := hSw; go_simp; (try with_reducible rfl)
  try simp only [Act.put, List.setIfInBounds_toArray, List.set_cons_zero, List.set_cons_succ]
  refine wpAnyH_ready (rs := [6]) (by kernel_rfl) (by simp) ?_
  refine AllReadyH.cons (i := 6) rfl (fun K hK => ?_) AllReadyH.nil
  go_simp
  have ba := ((Below.refl _ w).alloc (Nat.le_refl _) (.cells #[.string ⟨T1.toArray⟩, .slice none 0 0] 51)).drew
  have D3 := hideS (heap_on HD.out ba)
  have G3 := hideS (heap_on HG.out ba)
  have W3 : Hid (Below B w (w.alloc (.cells #[.string ⟨T1.toArray⟩, .slice none 0 0] 51)).drew) := ba.mono hB
  have O3 := hideS (own_on HO.out ba)
  have K3 : Hid (KT [51, 26] w (w.alloc (.cells #[.string ⟨T1.toArray⟩, .slice none 0 0] 51)).drew) := kt_on ba
  clear ba
  refine hK.out _ _ ?s6 (fun hHeld => ?_)
  case s6 => exact hS0.out _ D3.out G3.out
  clear hK K
  try simp only [Act.put, List.setIfInBounds_toArray, List.set_cons_zero, List.set_cons_succ]
  refine wpAnyH_ready (rs := [7]) (by kernel_rfl) (by simp) ?_
  refine AllReadyH.cons (i := 7) rfl (fun K hK => ?_) AllReadyH.nil
  refine more2 _ rfl _ _ 23 rfl B 51 i2 _ 40 Tryz.underlying23 hi2 hx0 hx1 hx2 (by decide) rfl _ n1 xs rfl O3.out _ (.string ⟨T1.toArray⟩) (.slice none 0 0) rfl (World.alloc_heap_new w _) rfl rfl hn (by simp; omega) ?_
  intro a2 c2 z4 O4 K4 B4
  have D4 : Hid (z4.heap[db]? = some (.cells #[v0, .slice s1 n1 c1, v2] 26)) := K4.out _ _ _ _ D3.out (by decide)
  have G4 : Hid (z4.heap[g]? = some (.cells cs 9)) := K4.out _ _ _ _ G3.out (by decide)
  have W4 := hideS (W3.out.trans B4.out)
  have K5 : Hid (KT [51, 26] w z4) := K3.out.trans (kt_b K4.out (by decide))
  refine hK.out _ _ ?s7 (fun hHeld => ?_)
  case s7 => exact hS0.out _ D4.out G4.out
  clear hK K
  try simp only [Act.put, List.setIfInBounds_toArray, List.set_cons_zero, List.set_cons_succ]
  refine wpAnyH_take (i := 8) (v := ?va8) rfl (by kernel_rfl) (by kernel_rfl) (by kernel_rfl) (fun c a w h => hP c _ _ a w h) (Or.inl ⟨by rfl, ?ya8⟩) hHeld ?ra8
  case ya8 => intro w hSw; (try dsimp only at hSw); obtain ⟨hS0, hS1⟩ := hSw; go_simp; (try with_reducible rfl)
  try simp only [Act.put, List.setIfInBounds_toArray, List.set_cons_zero, List.set_cons_succ]
  refine wpAnyH_done (by kernel_rfl) ?_ _
  have ow := (cells3 D4.out).2.1
  have of : z4.frozen? ⟨db, 1, none⟩ = false := by simp [World.frozen?, D4.out]
  refine qlast_n ?_
  refine wpOp_step rfl (fun K hK => ?_)
  go_simp
  refine hK _ _ ?_
  clear hK K
  have KD : KT [26] z4 (z4.setCell ⟨db, 1, none⟩ (.slice a2 (n1 + 1) c2)) := kt_set D4.out (by decide) _ _
  refine HQ.out a2 c2 _ _ _ _ _ _ _ _ _ _ ?_ (kt_own KD O4.out (by decide)) (W4.out.setCell (p := ⟨db, 1, none⟩) hBd _) (K5.out.trans (kt_set D4.out (by decide) _ _))
  simp [World.setCell, Array.getElem?_modify, D4.out]
end Go.Proofs.YtbpdbggojgijiaaGreatDoor.Src
