/- The contract of off.At, whole. -/
import Derived.Test.YtdffopkljomipaaGreatDoorOffC
namespace Go.Proofs.YtdffopkljomipaaGreatDoor
open Go Go.RowKit Go.Maps
set_option linter.unusedVariables false

set_option maxRecDepth 100000 in
set_option maxHeartbeats 4000000 in
theorem At_rule (D : Dt) (s : ByteArray) (t : Int) (k : Nat) (w : World) (hE : Env w D) (hF : D.fits) (hs : s.size ≤ maxLen) (h0 : zonE D s = 0) (hk : zonR D s = k) (hkz : k < D.nz) (hc : chkE D = 0) (t0 : 0 ≤ t) (t1 : t < 1893456000) (hset : 0 ≤ (offX D k t).set) :
    Calls Tryz.prog 13 #[D.v, .string s, .int .i64 t] w fun e w' => e = .returned (.tuple #[(offR D k t).v, .int .i64 0]) ∧ Below w.heap.size w w' := by
  have HE := hideH hE
  have HF := hideH hF
  have bx := two_boxes w (.cells (dC D) 26) (.cells #[.int .i64 0, .int .i64 0, .string ⟨#[]⟩] 32)
  obtain ⟨W0, hW0⟩ : ∃ W0, W0 = (w.alloc (.cells (dC D) 26)).alloc (.cells #[.int .i64 0, .int .i64 0, .string ⟨#[]⟩] 32) := ⟨_, rfl⟩
  rw [← hW0] at bx
  have HB := hideH bx.1
  have HC := hideH bx.2.1
  have HO := hideH bx.2.2
  have HEra : Hid (∀ v, Below w.heap.size w v → Calls Tryz.prog 24 #[.agg #[.string (D.zs k).nm, .slice (D.zs k).a (D.zs k).n (D.zs k).c], .int .i64 t] v fun e w' => e = .returned (offX D k t).v ∧ Below v.heap.size v w') := fun v hv =>
    eraAt_c (D.zs k) t v ((chk_all hc).1.2.2 k hkz).1 (HF.out.zn k hkz) ((HE.out.on hv).dat.eras k hkz)
  have hlt := eraI_lt (es := (D.zs k).es) t ((chk_all hc).1.2.2 k hkz).1
  have hbd := ebd (chk_era hc hkz hlt)
  have hfm := chk_fmt hc hkz hlt
  change -50400 ≤ (offX D k t).std ∧ (offX D k t).std ≤ 50400 ∧ -1 ≤ (offX D k t).set ∧ (offX D k t).set < D.ns ∧ 0 ≤ (offX D k t).sv ∧ (0 ≤ (offX D k t).set ∧ (offX D k t).sv ≤ 0 ∨ (offX D k t).set < 0 ∧ (offX D k t).sv ≤ 7200) at hbd
  change (offX D k t).fm.size ≤ 12 at hfm
  have HZ : Hid (∀ v, Below w.heap.size w v → Calls Tryz.prog 15 #[D.v, .string s] v fun e w' => e = .returned (.tuple #[.int .i64 k, .int .i64 0]) ∧ Below v.heap.size v w') := fun v hv => by
    have := DZone_c D s v (HE.out.on hv) HF.out hs
    rwa [hk, h0] at this
  obtain ⟨j, hj, hjs⟩ : ∃ j : Nat, (offX D k t).set = j ∧ j < D.ns := ⟨(offX D k t).set.toNat, by omega, by omega⟩
  have eL : offL D k t = rulL (D.ss j).rs (D.ss j).n (offX D k t).std t := by unfold offL; rw [if_pos hset, hj]; rfl
  have eS : offS D k t = rulS (D.ss j).rs (D.ss j).n (offX D k t).std t := by unfold offS; rw [if_pos hset, hj]; rfl
  have hL12 : (offL D k t).size ≤ 12 := by rw [eL]; exact rulL_in hc hjs _ _
  have hS := rulS_in hc hjs (offX D k t).std t
  rw [← eS] at hS
  have HRep : Hid (∀ v, Below w.heap.size w v → Calls Tryz.prog 26 #[.string (offX D k t).fm, .string ⟨#[37, 115]⟩, .string (offL D k t), .int .i64 1] v fun e w' => e = .returned (.string (offA D k t)) ∧ Below v.heap.size v w') := fun v hv => by
    obtain ⟨m, hm⟩ := (HE.out.on hv).mx
    exact Tryz.strings_Replace _ _ _ 1 m v (by omega) hm (by decide) (rep_room hfm hL12)
  have HRul : Hid (∀ v, Below w.heap.size w v → Calls Tryz.prog 25 #[.slice (D.ss j).a (D.ss j).n (D.ss j).c, .int .i64 (offX D k t).std, .int .i64 t] v fun e w' => e = .returned (.tuple #[.int .i64 (offS D k t), .string (offL D k t)]) ∧ Below v.heap.size v w') := fun v hv => by
    rw [eS, eL]
    have hv' := HE.out.on hv
    exact ruled_c _ _ _ _ _ _ v hv'.laid (hv'.dat.rules j hjs) (HF.out.sn j hjs) (HF.out.lt j hjs)
  have HV : Hid ((offR D k t).v = .agg #[.int .i64 ((offX D k t).std + offS D k t), .int .i64 (offS D k t), .string (offA D k t)]) := rfl
  rw [HV.out]
  clear eL eS hL12 hE hF hs h0 hk hc bx hlt hfm HV
  generalize offX D k t = x at *
  generalize offA D k t = A at *
  generalize offS D k t = S at *
  generalize offL D k t = L at *
  obtain ⟨b1, b2, b3, b4, b5, b6⟩ := hbd
  obtain ⟨s1, s2⟩ := hS
  clear b3 b4 b5 b6 hset
  obtain ⟨xstd, xset, xsv, xfm, xun⟩ := x
  simp only at b1 b2 hj HRep HRul
  subst hj
  go_enter Tryz.func13, Tryz.ntmps13
  go_wp2_with fail
  simp only [dC] at hW0
  simp only [← hW0]
  clear hW0
  refine (HZ.out _ HB.out).mono ?_
  rintro e w1 ⟨rfl, hw1⟩
  have H1 := hideH (bthen HB.out hw1)
  have C1 := hideH (heap_on HC.out hw1)
  have O1 := hideH (heap_on HO.out hw1)
  clear hw1 HB HC HO HZ
  obtain ⟨c0, c1, c2⟩ := cells3 C1.out
  rcases (HE.out.on H1.out).dat.zones with h0 | ⟨b, off, hsa, hcs⟩
  · omega
  obtain ⟨d0, d1⟩ := hcs k hkz
  have hk0 : decide ((k : Int) < 0) = false := by simp
  have hkn : decide (D.nz ≤ k) = false := by simp; omega
  clear hcs
  go_wp2_with fail
  clear c0 c1 c2 d0 d1 hk0 hkn
  refine (HEra.out _ H1.out).mono ?_
  rintro e w2 ⟨rfl, hw2⟩
  have H2 := hideH (bthen H1.out hw2)
  have C2 := hideH (heap_on C1.out hw2)
  have O2 := hideH (heap_on O1.out hw2)
  clear hw2 H1 C1 O1 HEra
  have hj0 : decide ((j : Int) < 0) = false := by simp
  have hjn : decide (D.ns ≤ j) = false := by simp; omega
  have hji : (0 : Int) ≤ (j : Int) := by omega
  rcases (HE.out.on H2.out).dat.sets with h0 | ⟨bs, offs, hss, hcs2⟩
  · omega
  obtain ⟨d0, d1⟩ := hcs2 j hjs
  obtain ⟨c0, c1, c2⟩ := cells3 C2.out
  have hl1 := cell_lt d1
  have hl2 := cell_lt c0
  clear hcs2 d0
  go_wp2_with fail
  go_region_with (first | (go_at_call 25; refine (HRul.out _ (((H2.out.alloc (by exact H2.out.size) _)).drew)).mono ?_; rintro e w4 ⟨rfl, hw4⟩))
  all_goals
    clear c0 c1 c2 d1 hj0 hjn hl1 hl2 HRul
    have hb3 := hideH ((Below.refl _ w2).alloc (Nat.le_refl _) (.cells #[.int .i64 xstd, .int .i64 j, .int .i64 xsv, .string xfm, .int .i64 xun] 50))
    have H3 : Hid (Below w.heap.size w w4) := bthen (w := w) (a := (w2.alloc (.cells #[.int .i64 xstd, .int .i64 j, .int .i64 xsv, .string xfm, .int .i64 xun] 50)).drew) ((bthen H2.out hb3.out).drew) hw4
    have X3 : Hid (w4.heap[w2.heap.size]? = some (.cells #[.int .i64 xstd, .int .i64 j, .int .i64 xsv, .string xfm, .int .i64 xun] 50)) := heap_on (w := (w2.alloc (.cells #[.int .i64 xstd, .int .i64 j, .int .i64 xsv, .string xfm, .int .i64 xun] 50)).drew) (World.alloc_heap_new w2 (.cells #[.int .i64 xstd, .int .i64 j, .int .i64 xsv, .string xfm, .int .i64 xun] 50)) hw4
    have O3 : Hid (w4.heap[w.heap.size + 1]? = some (.cells #[.int .i64 0, .int .i64 0, .string ⟨#[]⟩] 32)) := heap_on (w := (w2.alloc (.cells #[.int .i64 xstd, .int .i64 j, .int .i64 xsv, .string xfm, .int .i64 xun] 50)).drew) (heap_on O2.out hb3.out.drew) hw4
    clear hw4 hb3 H2 C2 O2
    obtain ⟨y0, y1, y2, y3, y4⟩ := cells5 X3.out
    go_wp2_with fail
    clear y0 y1 y2 y3 y4
    refine (HRep.out _ H3.out).mono ?_
    rintro e w5 ⟨rfl, hw5⟩
    have H4 := hideH (bthen H3.out hw5)
    obtain ⟨x0, x1, x2, x3, x4⟩ := cells5 (heap_on X3.out hw5)
    have o4 := heap_on O3.out hw5
    have O4 := hideH o4
    obtain ⟨p0, p1, p2⟩ := cells3 o4
    have g0 := frozen3 o4 0
    have g1 := frozen3 o4 1
    have g2 := frozen3 o4 2
    clear hw5 H3 X3 O3 HRep o4
    go_wp2_with fail
    refine bodyPost_ret (v := .tuple #[.agg #[.int .i64 (xstd + S), .int .i64 S, .string A], .int .i64 0]) ?_ rfl ⟨rfl, ?_⟩
    · have q0 := setCell_at (o := 2) (setCell_at (o := 1) (setCell_at (o := 0) O4.out (.int .i64 (xstd + S))) (.int .i64 S)) (.string A)
      obtain ⟨y0, y1, y2⟩ := cells3 q0
      simp [results, Tryz.results13, go_sem, y0, y1, y2]
    · exact ((H4.out.setCell (p := ⟨w.heap.size + 1, 0, none⟩) (by simp) _).setCell (p := ⟨w.heap.size + 1, 1, none⟩) (by simp) _).setCell (p := ⟨w.heap.size + 1, 2, none⟩) (by simp) _

end Go.Proofs.YtdffopkljomipaaGreatDoor
