/- The walk of the statement DataMore: it returns true, and nothing that lay in memory has turned. -/
import Derived.Test.YtcdokhjmpkcpnacDoorMoreA
import Derived.Deep.CutRange
namespace Go.Proofs.YtcdokhjmpkcpnacDoor
open Go Go.RowKit Go.Maps
set_option linter.unusedVariables false

theorem cells2 {w : World} {b : Nat} {x y : Value} {t : TypeId} (h : w.heap[b]? = some (.cells #[x, y] t)) : w.cell? ⟨b, 0, none⟩ = some x ∧ w.cell? ⟨b, 1, none⟩ = some y := by constructor <;> simp [World.cell?, h]
abbrev dC (D : Dt) : Array Value := #[.slice D.sa D.ns D.sc, .slice D.za D.nz D.zc, .slice D.la D.nl D.lc]
set_option maxRecDepth 100000 in
set_option maxHeartbeats 8000000 in
theorem DataMore_w (D : Dt) (s : ByteArray) (x : Lk) (w : World) (hL : Laid w) (hM : Mx w) (hD : DAt w D) (hF : D.fits) (hs : s.size ≤ maxLen) (hx1 : x.nm.size ≤ maxLen) (hx2 : x.to.size ≤ maxLen) (hn : (D.nl + 1) * 32 ≤ 140737488355328) :
    Calls Tryd.prog 3 #[D.v, .string s, .agg #[.string x.nm, .string x.to]] w fun e w' => e = .returned (.bool true) ∧ Below w.heap.size w w' := by
  have HL := hideH hL
  have HM := hideH hM
  have HD := hideH hD
  have HF := hideH hF
  have HS := hideH hs
  have HX1 := hideH hx1
  have HX2 := hideH hx2
  have HN := hideH hn
  clear hL hM hD hF hs hx1 hx2 hn
  go_enter Tryd.func3, Tryd.ntmps3
  go_upto_region 2 with fail
  obtain ⟨w0, hw0⟩ : ∃ w0, w0 = ((w.alloc (.cells (dC D) 26)).alloc (.cells #[.string x.nm, .string x.to] 28)).alloc (.cells (dC D) 26) := ⟨_, rfl⟩
  have hsz : Hid (w.heap.size + 3 = w0.heap.size) := by show _ = _; rw [hw0]; simp
  have HB0 : Hid (Below w.heap.size w w0) := by show Below _ _ _; rw [hw0]; exact (((Below.refl _ w).alloc (Nat.le_refl _) _).alloc (by simp) _).alloc (by simp; omega) _
  have HC0 : Hid (w0.heap[w.heap.size]? = some (.cells (dC D) 26)) := by
    show _ = _
    rw [hw0, Below.heap_alloc _ _ _ (by simp; omega), Below.heap_alloc _ _ _ (by simp)]; exact World.alloc_heap_new _ _
  have HX0 : Hid (w0.heap[w.heap.size + 1]? = some (.cells #[.string x.nm, .string x.to] 28)) := by
    show _ = _
    rw [hw0, Below.heap_alloc _ _ _ (by simp)]
    have := World.alloc_heap_new (w.alloc (.cells (dC D) 26)) (.cells #[.string x.nm, .string x.to] 28)
    rwa [World.size_alloc] at this
  have HM0 : Hid (w0.heap[w.heap.size + 2]? = some (.cells (dC D) 26)) := by
    show _ = _
    rw [hw0]
    have := World.alloc_heap_new ((w.alloc (.cells (dC D) 26)).alloc (.cells #[.string x.nm, .string x.to] 28)) (.cells (dC D) 26)
    rwa [World.size_alloc, World.size_alloc] at this
  simp only [← hw0]
  clear hw0
  have KS : Hid (∀ v : World, Below w0.heap.size w0 v → v.cell? ⟨w.heap.size, 2, none⟩ = some (.slice D.la D.nl D.lc) ∧ v.cell? ⟨w.heap.size + 1, 0, none⟩ = some (.string x.nm) ∧ v.cell? ⟨w.heap.size + 1, 1, none⟩ = some (.string x.to)) := fun v hv => ⟨(cells3 (heap_on HC0.out hv)).2.2, cells2 (heap_on HX0.out hv)⟩
  have KT : Hid (∀ (v : World) (u : Value), Below w0.heap.size w0 v → (v.setCell ⟨w.heap.size + 1 + 1, 2, none⟩ u).cell? ⟨w.heap.size, 2, none⟩ = some (.slice D.la D.nl D.lc) ∧ (v.setCell ⟨w.heap.size + 1 + 1, 2, none⟩ u).cell? ⟨w.heap.size + 1, 0, none⟩ = some (.string x.nm) ∧ (v.setCell ⟨w.heap.size + 1 + 1, 2, none⟩ u).cell? ⟨w.heap.size + 1, 1, none⟩ = some (.string x.to)) := fun v u hv =>
    ⟨(cells3 ((heap_setCell_other v ⟨w.heap.size + 1 + 1, 2, none⟩ w.heap.size u (by simp; omega)).trans (heap_on HC0.out hv))).2.2, cells2 ((heap_setCell_other v ⟨w.heap.size + 1 + 1, 2, none⟩ (w.heap.size + 1) u (by simp)).trans (heap_on HX0.out hv))⟩
  have HP : Hid (P2 w0 D.la D.nl (fun j => .string (D.ls j).nm) (fun j => .string (D.ls j).to)) := (HD.out.on HB0.out).links
  go_cut [] from 17 to 25 (fun wx => ∃ a c, Hid (Below w.heap.size w wx) ∧ Hid (wx.heap[w.heap.size]? = some (.cells (dC D) 26)) ∧ Hid (wx.heap[w.heap.size + 1]? = some (.cells #[.string x.nm, .string x.to] 28)) ∧ Hid (wx.heap[w.heap.size + 1 + 1]? = some (.cells #[.slice D.sa D.ns D.sc, .slice D.za D.nz D.zc, .slice a (D.nl + 1) c] 26)) ∧ Hid (P2 wx a (D.nl + 1) (fun j => .string ((mor D x a c).ls j).nm) (fun j => .string ((mor D x a c).ls j).to)))
  case first =>
    have c3 := KS.out _ (Below.refl _ w0)
    go_region_held_law (fun v => v.cell? ⟨w.heap.size, 2, none⟩ = some (.slice D.la D.nl D.lc) ∧ v.cell? ⟨w.heap.size + 1, 0, none⟩ = some (.string x.nm) ∧ v.cell? ⟨w.heap.size + 1, 1, none⟩ = some (.string x.to))
      (first | (exact c3) | (exact KS.out _ (Below.refl _ w0).drew) | (exact KS.out _ (bel_alloc _ (Below.refl _ w0)).drew) | (exact KS.out _ (bel_alloc _ (bel_alloc _ (Below.refl _ w0))).drew) | (exact KS.out _ B2.out) | (exact KS.out _ B2.out.drew) | (exact KS.out _ B1.out) | (exact KS.out _ B1.out.drew) | (exact KS.out _ (bel_alloc _ B1.out).drew) | (exact KS.out _ (bel_alloc _ B1.out)) | (exact KT.out _ _ B2.out) | (exact KT.out _ _ B2.out.drew))
      (first
        | (refine more_app1 D w0 _ rfl _ _ rfl _ rfl rfl (by first | exact (bel_alloc _ (Below.refl _ w0)).drew | exact (bel_alloc _ (bel_alloc _ (Below.refl _ w0))).drew) (by first | exact World.alloc_heap_new w0 _ | exact bx_alloc (World.alloc_heap_new w0 _) _ | (have := World.alloc_heap_new (w0.alloc (.cells #[.string x.nm, .string x.to] 28)) (.cells #[] 28); rw [World.size_alloc] at this; exact this)) (by first | exact Nat.le_refl _ | omega) HP.out HN.out ?_; intro v1 w1 O1 B1 K1)
        | (refine more_app2 D x w0 _ rfl _ _ rfl _ _ rfl rfl (by first | exact B1.out | exact B1.out.drew | exact (bel_alloc _ B1.out).drew | exact bel_alloc _ B1.out) (by first | exact O1.out | exact own_on O1.out ((Below.refl _ w1).alloc (Nat.le_refl _) _).drew | exact own_on O1.out ((Below.refl _ w1).alloc (Nat.le_refl _) _)) (by first | exact World.alloc_heap_new w1 _ | (have := World.alloc_heap_new (w0.alloc (.cells #[] 28)) (.cells #[.string x.nm, .string x.to] 28); rw [World.size_alloc] at this; exact K1.out _ _ (by omega) this) | exact K1.out _ _ (by omega) (bx_alloc (World.alloc_heap_new w0 _) _)) HN.out ?_; intro a2 c2 w2 O2 B2; have M2 : w2.cell? ⟨w.heap.size + 1 + 1, 2, none⟩ = some (.slice D.la D.nl D.lc) := (cells3 (heap_on HM0.out B2.out)).2.2; have F2 : w2.frozen? ⟨w.heap.size + 1 + 1, 2, none⟩ = false := by simp [World.frozen?, heap_on (show w0.heap[w.heap.size + 1 + 1]? = _ from HM0.out) B2.out]))
    all_goals
      go_wp2_with fail
      go_meet
      case rel =>
        obtain ⟨m1, m2⟩ := more_store (x := x) (H := w.heap.size) hsz.out B2.out O2.out HM0.out
        exact ⟨a2, c2, (bthen HB0.out B2.out).setCell (p := ⟨w.heap.size + 1 + 1, 2, none⟩) (show w.heap.size ≤ w.heap.size + 1 + 1 by omega) _, (heap_setCell_other w2 ⟨w.heap.size + 1 + 1, 2, none⟩ w.heap.size _ (by simp; omega)).trans (heap_on HC0.out B2.out), (heap_setCell_other w2 ⟨w.heap.size + 1 + 1, 2, none⟩ (w.heap.size + 1) _ (by simp)).trans (heap_on HX0.out B2.out), m1, m2⟩
  case rest =>
    obtain ⟨a, c, HW, HC, HX, HMB, HPL⟩ := hcut
    have ED : Hid (∀ v : World, Below w.heap.size w v → Env v D) := fun v h => ⟨HL.out.on h, HM.out.on h, HD.out.on h⟩
    have EM : Hid (∀ v : World, Below wc.heap.size wc v → Env v (mor D x a c)) := fun v h => ⟨(HL.out.on HW.out).on h, (HM.out.on HW.out).on h, (mor_at (w := w) (HD.out.on HW.out) HPL.out).on h⟩
    have FM : Hid (mor D x a c).fits := mor_fits HF.out (by have := HN.out; unfold maxLen; omega) HX1.out HX2.out
    have CD : Hid (∀ v, Below w.heap.size w v → Calls Tryd.prog 6 #[.agg #[.slice D.sa D.ns D.sc, .slice D.za D.nz D.zc, .slice D.la D.nl D.lc]] v fun e w' => e = .returned (.int .i64 (chkE D)) ∧ Below v.heap.size v w') := fun v hv => DCheck_c D v (ED.out v hv) HF.out
    have CM : Hid (∀ v, Below wc.heap.size wc v → Calls Tryd.prog 6 #[.agg #[.slice D.sa D.ns D.sc, .slice D.za D.nz D.zc, .slice a (D.nl + 1) c]] v fun e w' => e = .returned (.int .i64 (chkE (mor D x a c))) ∧ Below v.heap.size v w') := fun v hv => DCheck_c (mor D x a c) v (EM.out v hv) FM.out
    have ZD : Hid (∀ (v : World) (t : ByteArray), Below w.heap.size w v → t.size ≤ maxLen → Calls Tryd.prog 8 #[.agg #[.slice D.sa D.ns D.sc, .slice D.za D.nz D.zc, .slice D.la D.nl D.lc], .string t] v fun e w' => e = .returned (.tuple #[.int .i64 (zonR D t), .int .i64 (zonE D t)]) ∧ Below v.heap.size v w') := fun v t hv ht => DZone_c D t v (ED.out v hv) HF.out ht
    have ZM : Hid (∀ (v : World) (t : ByteArray), Below wc.heap.size wc v → t.size ≤ maxLen → Calls Tryd.prog 8 #[.agg #[.slice D.sa D.ns D.sc, .slice D.za D.nz D.zc, .slice a (D.nl + 1) c], .string t] v fun e w' => e = .returned (.tuple #[.int .i64 (zonR (mor D x a c) t), .int .i64 (zonE (mor D x a c) t)]) ∧ Below v.heap.size v w') := fun v t hv ht => DZone_c (mor D x a c) t v (EM.out v hv) FM.out ht
    have MT : Hid (chkE D = 0 → chkE (mor D x a c) = 0 → (∀ s : ByteArray, s.data.toList ≠ x.nm.data.toList → zonR (mor D x a c) s = zonR D s ∧ zonE (mor D x a c) s = zonE D s) ∧ zonE (mor D x a c) x.nm = 0 ∧ zonE D x.to = 0 ∧ zonR (mor D x a c) x.nm = zonR D x.to) := fun h1 h2 => mor_told h1 h2
    clear hsz HB0 HC0 HX0 HM0 KS KT HP EM FM HPL ED
    obtain ⟨M, hMM⟩ : ∃ M, M = mor D x a c := ⟨_, rfl⟩
    rw [← hMM] at CM ZM MT
    clear hMM
    have BEG : Hid (∀ v, Below w.heap.size w v → Calls Tryd.prog 7 #[] v fun e w' => e = .returned (.bool true) ∧ Below v.heap.size v w') := fun v hv => dataBegun_c v (HL.out.on hv) (HM.out.on hv)
    obtain ⟨c0, c1, c2⟩ := cells3 HC.out
    go_wp2_with fail
    clear c0 c1 c2
    refine (CD.out _ HW.out).mono ?_
    rintro e w1 ⟨rfl, hw1⟩
    have H1 := hideH (bthen HW.out hw1)
    have G1 : Hid (Below wc.heap.size wc w1) := hw1
    have C1 := hideH (heap_on HC.out hw1)
    have X1 := hideH (heap_on HX.out hw1)
    have M1 := hideH (heap_on HMB.out hw1)
    clear hw1 HC HX HMB HW
    rcases beq_cases (chkE D) 0 with ⟨q1, q2⟩ | ⟨q1, q2⟩
    · rw [q2]
      have Q := hideH q2
      clear q1 q2
      obtain ⟨c0, c1, c2⟩ := cells3 M1.out
      go_wp2_with fail
      clear c0 c1 c2
      refine (CM.out _ G1.out).mono ?_
      rintro e w2 ⟨rfl, hw2⟩
      have H2 := hideH (bthen H1.out hw2)
      have G2 := hideH (bthen G1.out hw2)
      have C2 := hideH (heap_on C1.out hw2)
      have X2 := hideH (heap_on X1.out hw2)
      have M2 := hideH (heap_on M1.out hw2)
      clear hw2 C1 X1 M1 H1 G1
      rcases beq_cases (chkE M) 0 with ⟨q1, q2⟩ | ⟨q1, q2⟩
      · rw [q2]
        obtain ⟨t1, t2, t3, t4⟩ := MT.out Q.out q2
        clear q1 q2
        have Z3 : Hid (∀ v, Below wc.heap.size wc v → Calls Tryd.prog 8 #[.agg #[.slice D.sa D.ns D.sc, .slice D.za D.nz D.zc, .slice a (D.nl + 1) c], .string x.nm] v fun e w' => e = .returned (.tuple #[.int .i64 (zonR D x.to), .int .i64 0]) ∧ Below v.heap.size v w') := fun v hv => by
          have := ZM.out v x.nm hv HX1.out
          rwa [t4, t2] at this
        have Z4 : Hid (∀ v, Below w.heap.size w v → Calls Tryd.prog 8 #[.agg #[.slice D.sa D.ns D.sc, .slice D.za D.nz D.zc, .slice D.la D.nl D.lc], .string x.to] v fun e w' => e = .returned (.tuple #[.int .i64 (zonR D x.to), .int .i64 0]) ∧ Below v.heap.size v w') := fun v hv => by
          have := ZD.out v x.to hv HX2.out
          rwa [t3] at this
        have Z1 : Hid (∀ v, Below w.heap.size w v → Calls Tryd.prog 8 #[.agg #[.slice D.sa D.ns D.sc, .slice D.za D.nz D.zc, .slice D.la D.nl D.lc], .string s] v fun e w' => e = .returned (.tuple #[.int .i64 (zonR D s), .int .i64 (zonE D s)]) ∧ Below v.heap.size v w') := fun v hv => ZD.out v s hv HS.out
        have Z2 : Hid (∀ v, Below wc.heap.size wc v → Calls Tryd.prog 8 #[.agg #[.slice D.sa D.ns D.sc, .slice D.za D.nz D.zc, .slice a (D.nl + 1) c], .string s] v fun e w' => e = .returned (.tuple #[.int .i64 (zonR M s), .int .i64 (zonE M s)]) ∧ Below v.heap.size v w') := fun v hv => ZM.out v s hv HS.out
        have T1 : Hid (s.data.toList ≠ x.nm.data.toList → zonR M s = zonR D s ∧ zonE M s = zonE D s) := t1 s
        clear t1 t2 t3 t4 ZM ZD CD CM MT HX1 HX2 HN HF HD
        by_cases hq : s.data.toList = x.nm.data.toList
        · obtain rfl := ba_same hq
          clear hq T1
          generalize zonR M x.nm = r1 at Z2
          generalize zonE M x.nm = r2 at Z2
          generalize zonR D x.nm = r3 at Z1
          generalize zonE D x.nm = r4 at Z1
          generalize zonR D x.to = r5 at Z3 Z4
          obtain ⟨c0, c1, c2⟩ := cells3 C2.out
          go_wp2_with fail
          clear c0 c1 c2
          refine (Z1.out _ H2.out).mono ?_
          rintro e w3 ⟨rfl, hw3⟩
          have H3 := hideH (bthen H2.out hw3)
          have G3 := hideH (bthen G2.out hw3)
          have C3 := hideH (heap_on C2.out hw3)
          have X3 := hideH (heap_on X2.out hw3)
          have M3 := hideH (heap_on M2.out hw3)
          clear hw3 H2 G2 C2 X2 M2 Z1
          obtain ⟨c0, c1, c2⟩ := cells3 M3.out
          go_wp2_with fail
          clear c0 c1 c2
          refine (Z2.out _ G3.out).mono ?_
          rintro e w4 ⟨rfl, hw4⟩
          have H4 := hideH (bthen H3.out hw4)
          have G4 := hideH (bthen G3.out hw4)
          have C4 := hideH (heap_on C3.out hw4)
          have X4 := hideH (heap_on X3.out hw4)
          have M4 := hideH (heap_on M3.out hw4)
          clear hw4 H3 G3 C3 X3 M3 Z2
          obtain ⟨c0, c1, c2⟩ := cells3 M4.out
          obtain ⟨y0, y1⟩ := cells2 X4.out
          go_wp2_with fail
          clear c0 c1 c2 y0 y1
          refine (Z3.out _ G4.out).mono ?_
          rintro e w5 ⟨rfl, hw5⟩
          have H5 := hideH (bthen H4.out hw5)
          have C5 := hideH (heap_on C4.out hw5)
          have X5 := hideH (heap_on X4.out hw5)
          clear hw5 H4 G4 C4 X4 M4 Z3
          obtain ⟨c0, c1, c2⟩ := cells3 C5.out
          obtain ⟨y0, y1⟩ := cells2 X5.out
          go_wp2_with fail
          clear c0 c1 c2 y0 y1
          refine (Z4.out _ H5.out).mono ?_
          rintro e w6 ⟨rfl, hw6⟩
          have H6 := hideH (bthen H5.out hw6)
          have X6 := hideH (heap_on X5.out hw6)
          clear hw6 H5 C5 X5 Z4
          go_wp2_with fail
          refine (BEG.out _ H6.out).mono ?_
          rintro e w7 ⟨rfl, hw7⟩
          have H7 := hideH (bthen H6.out hw7)
          obtain ⟨y0, y1⟩ := cells2 (heap_on X6.out hw7)
          clear hw7 H6 X6
          go_wp2_with fail
          go_ret
          exact ⟨rfl, H7.out⟩
        · obtain ⟨u1, u2⟩ := T1.out hq
          rw [u1, u2] at Z2
          clear T1 u1 u2
          generalize zonR D s = r3 at Z1 Z2
          generalize zonE D s = r4 at Z1 Z2
          generalize zonR D x.to = r5 at Z3 Z4
          have hq1 : ¬ s = x.nm := fun e => hq (by rw [e])
          have hq2 : ¬ s.data = x.nm.data := fun e => hq (by rw [e])
          have hq4 : (s.data == x.nm.data) = false := beq_eq_false_iff_ne.2 hq2
          have hq5 : (s.data.toList == x.nm.data.toList) = false := beq_eq_false_iff_ne.2 hq
          obtain ⟨c0, c1, c2⟩ := cells3 C2.out
          go_wp2_with fail
          clear c0 c1 c2
          refine (Z1.out _ H2.out).mono ?_
          rintro e w3 ⟨rfl, hw3⟩
          have H3 := hideH (bthen H2.out hw3)
          have G3 := hideH (bthen G2.out hw3)
          have C3 := hideH (heap_on C2.out hw3)
          have X3 := hideH (heap_on X2.out hw3)
          have M3 := hideH (heap_on M2.out hw3)
          clear hw3 H2 G2 C2 X2 M2 Z1
          obtain ⟨c0, c1, c2⟩ := cells3 M3.out
          go_wp2_with fail
          clear c0 c1 c2
          refine (Z2.out _ G3.out).mono ?_
          rintro e w4 ⟨rfl, hw4⟩
          have H4 := hideH (bthen H3.out hw4)
          have G4 := hideH (bthen G3.out hw4)
          have C4 := hideH (heap_on C3.out hw4)
          have X4 := hideH (heap_on X3.out hw4)
          have M4 := hideH (heap_on M3.out hw4)
          clear hw4 H3 G3 C3 X3 M3 Z2
          obtain ⟨c0, c1, c2⟩ := cells3 M4.out
          obtain ⟨y0, y1⟩ := cells2 X4.out
          go_wp2_with fail
          clear c0 c1 c2 y0 y1
          refine (Z3.out _ G4.out).mono ?_
          rintro e w5 ⟨rfl, hw5⟩
          have H5 := hideH (bthen H4.out hw5)
          have C5 := hideH (heap_on C4.out hw5)
          have X5 := hideH (heap_on X4.out hw5)
          clear hw5 H4 G4 C4 X4 M4 Z3
          obtain ⟨c0, c1, c2⟩ := cells3 C5.out
          obtain ⟨y0, y1⟩ := cells2 X5.out
          go_wp2_with fail
          clear c0 c1 c2 y0 y1
          refine (Z4.out _ H5.out).mono ?_
          rintro e w6 ⟨rfl, hw6⟩
          have H6 := hideH (bthen H5.out hw6)
          have X6 := hideH (heap_on X5.out hw6)
          clear hw6 H5 C5 X5 Z4
          go_wp2_with fail
          refine (BEG.out _ H6.out).mono ?_
          rintro e w7 ⟨rfl, hw7⟩
          have H7 := hideH (bthen H6.out hw7)
          obtain ⟨y0, y1⟩ := cells2 (heap_on X6.out hw7)
          clear hw7 H6 X6
          go_wp2_with fail
          all_goals
            go_ret
            exact ⟨rfl, H7.out⟩
      · have hne : (chkE M != 0) = true := by rw [bne_iff_ne]; exact q2
        clear q1 q2
        go_wp2_with fail
        refine (BEG.out _ H2.out).mono ?_
        rintro e w3 ⟨rfl, hw3⟩
        go_wp2_with fail
        go_ret
        exact ⟨rfl, bthen H2.out hw3⟩
    · have hne : (chkE D != 0) = true := by rw [bne_iff_ne]; exact q2
      clear q1 q2
      go_wp2_with fail
      refine (BEG.out _ H1.out).mono ?_
      rintro e w2 ⟨rfl, hw2⟩
      go_wp2_with fail
      go_ret
      exact ⟨rfl, bthen H1.out hw2⟩
end Go.Proofs.YtcdokhjmpkcpnacDoor
