/- The document's own times: the contract. -/
import Derived.Test.YtdffopkljomipaaGreatDoorTableQ
namespace Go.Proofs.YtdffopkljomipaaGreatDoor
open Go Go.RowKit Go.Maps
set_option linter.unusedVariables false

abbrev tmW (w v : World) (A : Array Value) (L : List Int) : Prop := Below w.heap.size w v ∧ v.heap[w.heap.size]? = some (.cells A 26) ∧ PB v w.heap.size (w.heap.size + 1) L
theorem tm_put {w v v' : World} {A : Array Value} {L L' : List Int} (h : tmW w v A L) (h1 : PB v' w.heap.size (w.heap.size + 1) L') (h2 : Below w.heap.size v v') (h3 : KeptI v v') : tmW w v' A L' :=
  ⟨h.1.trans h2, h3 _ _ _ _ h.2.1 (by decide) (by decide), h1⟩
theorem PB.on {v v' : World} {m pb : Nat} {L : List Int} (h : PB v m pb L) (hb : Below v.heap.size v v') : PB v' m pb L := by
  obtain ⟨x, h1, h2⟩ := h
  exact ⟨x, heap_on h1 hb, own_onT h2 hb⟩
theorem tm_on {w v v' : World} {A : Array Value} {L : List Int} (h : tmW w v A L) (hb : Below v.heap.size v v') : tmW w v' A L := ⟨bthen h.1 hb, heap_on h.2.1 hb, h.2.2.on hb⟩
set_option maxRecDepth 100000 in
set_option maxHeartbeats 8000000 in
theorem times_x (D : Dt) (k : Nat) (sa ea la : Option Addr) (b off ns sc nz zc nl lc n ec : Nat) (w : World) (hk : k < nz) (hnz : nz ≤ 1000) (hZ : w.cell? ⟨b, off + k * 2 + 1, none⟩ = some (.slice ea n ec)) (hE : ERow w ea n (D.zs k).es)
    (hS : P2 w sa ns (fun j => .string (D.ss j).nm) (fun j => .slice (D.ss j).a (D.ss j).n (D.ss j).c)) (hR : ∀ j, j < ns → ARow w (D.ss j).a (D.ss j).n (D.ss j).c (D.ss j).rs) (hns : ns ≤ 1000)
    (hn : n ≤ 4) (hb : ∀ i, i < n → -50400 ≤ ((D.zs k).es i).std ∧ ((D.zs k).es i).std ≤ 50400 ∧ -1 ≤ ((D.zs k).es i).set ∧ ((D.zs k).es i).set < ns) (hs4 : ∀ j, j < ns → (D.ss j).n ≤ 4) (hr : ∀ j, j < ns → ∀ i, i < (D.ss j).n → rchk ((D.ss j).rs i) = 0) :
    Calls Tryz.prog 20 #[.agg #[.slice sa ns sc, .slice (some ⟨b, off, none⟩) nz zc, .slice la nl lc], .int .i64 k] w fun e w' => riP (putsT (0 :: esN D k n) []) w e w' := by
  have HZ := hideH hZ
  have HE := hideH hE
  have HS := hideH hS
  have HR := hideH hR
  have HB := hideH hb
  have H4 := hideH hs4
  have Hr := hideH hr
  have bx := two_boxes w (.cells #[.slice sa ns sc, .slice (some ⟨b, off, none⟩) nz zc, .slice la nl lc] 26) (.cells #[.slice none 0 0] 62)
  obtain ⟨W0, hW0⟩ : ∃ W0, W0 = (w.alloc (.cells #[.slice sa ns sc, .slice (some ⟨b, off, none⟩) nz zc, .slice la nl lc] 26)).alloc (.cells #[.slice none 0 0] 62) := ⟨_, rfl⟩
  rw [← hW0] at bx
  have T0 : Hid (tmW w W0 #[.slice sa ns sc, .slice (some ⟨b, off, none⟩) nz zc, .slice la nl lc] []) := ⟨bx.1, bx.2.1, _, bx.2.2, World.ownsRow_nil _ _ _ _⟩
  have HP : Hid (∀ (t : Int) (L : List Int) (v : World), L.length ≤ 100000 → PB v w.heap.size (w.heap.size + 1) L → Calls Tryz.prog 36 #[.int .i64 t, .pointer (some ⟨w.heap.size + 1, 0, none⟩)] v fun e w' => putP t L w.heap.size (w.heap.size + 1) v e w') := fun t L v hl h => put_c t L w.heap.size (w.heap.size + 1) v h (by omega) hl
  have hmf : ∀ (fn : Fn) (first cap : Array Value) (w : World), (Instr.makeFunc fn first cap).run Tryz.prog w = .ok (.func fn first cap) w := fun _ _ _ _ => rfl
  clear hZ hE hS hR hb hs4 hr bx
  go_enter Tryz.func20, Tryz.ntmps20
  go_wp2_with fail
  simp only [← hW0]
  clear hW0
  refine (HP.out 0 [] W0 (by simp) T0.out.2.2).mono ?_
  rintro e w1 ⟨rfl, hp1, hb1, hk1⟩
  have T1 := hideH (tm_put T0.out hp1 hb1 hk1)
  have L1 : Hid (putT 0 [] = putsT (0 :: esN D k 0) []) := rfl
  have hl1 : (putT 0 []).length ≤ 1 := putT_len 0 []
  clear hp1 hb1 hk1 T0
  generalize putT 0 [] = Li at T1 L1 hl1
  go_wp2_with fail
  go_loopw [7] (fun x7 v => ∃ (i : Nat) (L : List Int), i ≤ n ∧ x7 = .int .i64 i ∧ L.length ≤ 1 + 300 * i ∧ Hid (tmW w v #[.slice sa ns sc, .slice (some ⟨b, off, none⟩) nz zc, .slice la nl lc] L) ∧ Hid (L = putsT (0 :: esN D k i) [])) (fun x7 _ => n - (intOf x7).toNat)
  case atStart => exact ⟨0, Li, Nat.zero_le _, rfl, by omega, T1, L1⟩
  case round =>
    obtain ⟨i, L, hi, rfl, hlL, T2, HL⟩ := hrel
    clear T1 L1 hl1
    obtain ⟨c0, c1, c2⟩ := cells3 T2.out.2.1
    have z0 := cell_on HZ.out T2.out.1
    have hk0 : decide ((k : Int) < 0) = false := by simp
    have hkn : decide (nz ≤ k) = false := by simp; omega
    have hki : (k : Int) < (nz : Int) := by omega
    by_cases hlt : i < n
    · rcases HE.out with h0 | ⟨eb, eo, hea, hes⟩
      · omega
      subst hea
      have hXb := HB.out i hlt
      have HEs := hideH (esN_succ D k i)
      obtain ⟨X, hX⟩ : ∃ X, X = (D.zs k).es i := ⟨_, rfl⟩
      have hE1 := hes i hlt
      rw [← hX] at hXb HEs hE1
      obtain ⟨e0, e1, e2, e3, e4⟩ := hE1
      have e0 := cell_on e0 T2.out.1
      have e1 := cell_on e1 T2.out.1
      have e2 := cell_on e2 T2.out.1
      have e3 := cell_on e3 T2.out.1
      have e4 := cell_on e4 T2.out.1
      obtain ⟨b1, b2, b3, b4⟩ := hXb
      clear hX hes
      obtain ⟨xs, xt, xv, xf, xu⟩ := X
      simp only at b1 b2 b3 b4 e0 e1 e2 e3 e4
      have bz := (Below.refl _ wr).alloc (Nat.le_refl _) (.cells #[.int .i64 xs, .int .i64 xt, .int .i64 xv, .string xf, .int .i64 xu] 50)
      have T3 := hideH (tm_on T2.out bz)
      have X3 := hideH (World.alloc_heap_new wr (.cells #[.int .i64 xs, .int .i64 xt, .int .i64 xv, .string xf, .int .i64 xu] 50))
      have hii : (i : Int) < (n : Int) := by omega
      obtain ⟨x0, x1, x2, x3, x4⟩ := ebox_of (x := ⟨xs, xt, xv, xf, xu⟩) X3.out
      simp only at x0 x1 x2 x3 x4
      clear bz
      go_wp2_with fail
      refine (HP.out xu L _ (by omega) T3.out.2.2).mono ?_
      rintro e w2 ⟨rfl, hp2, hb2, hk2⟩
      have T4 := hideH (tm_put T3.out hp2 hb2 hk2)
      have X4 : Hid (w2.heap[wr.heap.size]? = some (.cells #[.int .i64 xs, .int .i64 xt, .int .i64 xv, .string xf, .int .i64 xu] 50)) := hk2 _ _ _ _ X3.out (by decide) (by decide)
      have hl4 := putT_len xu L
      clear hp2 hb2 hk2 T3 X3 x0 x1 x2 x3 x4 e0 e1 e2 e3 e4 c0 c1 c2 z0
      obtain ⟨xb, hxb⟩ : ∃ xb, xb = wr.heap.size := ⟨_, rfl⟩
      rw [← hxb] at X4
      simp only [← hxb]
      clear hxb T2
      obtain ⟨M0, hM0⟩ : ∃ M0, M0 = putT xu L := ⟨_, rfl⟩
      rw [← hM0] at T4 hl4
      have HM0 := hideH hM0
      clear hM0
      go_wp2_with fail
      by_cases hset : 0 ≤ xt
      · obtain ⟨s, rfl⟩ : ∃ s : Nat, xt = s := ⟨xt.toNat, by omega⟩
        have hsn : s < ns := by omega
        rcases HS.out with h0 | ⟨sb, so, hsa, hss⟩
        · omega
        subst hsa
        have HC1 := hideH (hss s hsn).2
        have HRw := hideH (HR.out s hsn)
        have hZ4 := H4.out s hsn
        have HRc := hideH (Hr.out s hsn)
        have HAr : Hid (∀ j, arN D ⟨xs, s, xv, xf, xu⟩ (j + 1) = arN D ⟨xs, s, xv, xf, xu⟩ j ++ ylL ((D.ss s).rs j) xs) := fun j => by
          have := arN_succ D ⟨xs, s, xv, xf, xu⟩ j
          simpa using this
        have HEr : Hid (erT D ⟨xs, s, xv, xf, xu⟩ = xu :: arN D ⟨xs, s, xv, xf, xu⟩ (D.ss s).n) := by
          show _ = _
          unfold erT
          rw [if_pos (by simp)]
          simp
        have HA0 : Hid (arN D ⟨xs, s, xv, xf, xu⟩ 0 = []) := rfl
        obtain ⟨ar, har⟩ : ∃ ar : Nat → List Int, ar = arN D ⟨xs, s, xv, xf, xu⟩ := ⟨_, rfl⟩
        rw [← har] at HAr HEr HA0
        obtain ⟨Z, hZ⟩ : ∃ Z, Z = D.ss s := ⟨_, rfl⟩
        simp only [← hZ] at HC1 HRw hZ4 HRc HAr HEr
        clear hss hZ har
        have hsi : (s : Int) < (ns : Int) := by omega
        have hs0 : decide ((s : Int) < 0) = false := by simp
        have hs1 : decide (ns ≤ s) = false := by simp; omega
        go_loopw [9] (fun x9 v => ∃ (j : Nat) (M : List Int), j ≤ Z.n ∧ x9 = .int .i64 j ∧ M.length ≤ 2 + 300 * i + 60 * j ∧ Hid (tmW w v #[.slice (some ⟨sb, so, none⟩) ns sc, .slice (some ⟨b, off, none⟩) nz zc, .slice la nl lc] M) ∧ Hid (v.heap[xb]? = some (.cells #[.int .i64 xs, .int .i64 s, .int .i64 xv, .string xf, .int .i64 xu] 50)) ∧ Hid (M = putsT (ar j) M0)) (fun x9 _ => Z.n - (intOf x9).toNat)
        case atStart => exact ⟨0, M0, Nat.zero_le _, rfl, by omega, T4, X4, by show _ = _; rw [HA0.out]; rfl⟩
        case round =>
          obtain ⟨j, M, hj, rfl, hlM, T5, X5, HM⟩ := hrel
          clear T4 X4
          obtain ⟨c0, c1, c2⟩ := cells3 T5.out.2.1
          obtain ⟨x0, x1, x2, x3, x4⟩ := ebox_of (x := ⟨xs, s, xv, xf, xu⟩) X5.out
          simp only at x0 x1 x2 x3 x4
          have d1 := cell_on HC1.out T5.out.1
          by_cases hjl : j < Z.n
          · rcases HRw.out with h0 | ⟨rb, ro, hra, hrow⟩
            · omega
            have hrk := HRc.out j hjl
            have hbd := bnd_of (rchk_bnd hrk)
            obtain ⟨f0, f1, f2, f3, f4, f5, f6, f7, f8⟩ := (hrow j hjl).on T5.out.1
            have HSu := hideH (HAr.out j)
            obtain ⟨r, hrr⟩ : ∃ r, r = Z.rs j := ⟨_, rfl⟩
            simp only [← hrr] at f0 f1 f2 f3 f4 f5 f6 f7 f8 hbd HSu
            rename World => wq
            have bz := (Below.refl _ wq).alloc (Nat.le_refl _) (.cells r.cs 57)
            have T6 := hideH (tm_on T5.out bz)
            have X6 := hideH (heap_on X5.out bz)
            have R6 := hideH (World.alloc_heap_new wq (.cells r.cs 57))
            obtain ⟨y0, y1, y2, y3, y4, y5, y6, y7, y8⟩ := rbox_of R6.out
            have hjj : (j : Int) < (Z.n : Int) := by omega
            clear hrow hrk bz hrr
            obtain ⟨rf, rt, rm, rk, rw', rD, ra, rv, rs⟩ := r
            simp only at hbd f0 f1 f2 f3 f4 f5 f6 f7 f8 y0 y1 y2 y3 y4 y5 y6 y7 y8
            simp only [Rl.cs] at T6 X6 R6 y0 y1 y2 y3 y4 y5 y6 y7 y8
            obtain ⟨q1, q2, q3, q4, q5, q6, q7, q8, q9⟩ := hbd
            obtain ⟨N, hN⟩ : ∃ N, N = (rt - rf + 1).toNat := ⟨_, rfl⟩
            have hN60 : N ≤ 60 := by omega
            have hNt : rt = rf + (N : Int) - 1 := by omega
            have HNt := hideH hNt
            have HYL : Hid (ylL ⟨rf, rt, rm, rk, rw', rD, ra, rv, rs⟩ xs = ylN ⟨rf, rt, rm, rk, rw', rD, ra, rv, rs⟩ xs N) := by show _ = _; rw [hN]; rfl
            have HYs := hideH (fun m => ylN_succ ⟨rf, rt, rm, rk, rw', rD, ra, rv, rs⟩ xs m)
            have HBg : Hid (∀ (m : Nat) v, Calls Tryz.prog 37 #[.agg #[.int .i64 rf, .int .i64 rt, .int .i64 rm, .int .i64 rk, .int .i64 rw', .int .i64 rD, .int .i64 ra, .int .i64 rv, .string rs], .int .i64 (rf + (m : Int)), .int .i64 xs] v fun e w' => e = .returned (.int .i64 (begR ⟨rf, rt, rm, rk, rw', rD, ra, rv, rs⟩ (rf + (m : Int)) xs)) ∧ Below v.heap.size v w') := fun m v => begins_c ⟨rf, rt, rm, rk, rw', rD, ra, rv, rs⟩ (rf + (m : Int)) xs v q6 q7 b1 b2
            have HY0 : Hid (ylN ⟨rf, rt, rm, rk, rw', rD, ra, rv, rs⟩ xs 0 = []) := rfl
            clear hN hNt q4 q5 q8 q9
            obtain ⟨yl, hyl⟩ : ∃ yl : Nat → List Int, yl = ylN ⟨rf, rt, rm, rk, rw', rD, ra, rv, rs⟩ xs := ⟨_, rfl⟩
            simp only [← hyl] at HYL HYs HY0
            obtain ⟨bg, hbg⟩ : ∃ bg : Nat → Int, bg = fun (m : Nat) => begR ⟨rf, rt, rm, rk, rw', rD, ra, rv, rs⟩ (rf + (m : Int)) xs := ⟨_, rfl⟩
            have HYs2 : Hid (∀ m, yl (m + 1) = yl m ++ [bg m]) := fun m => by rw [hbg]; exact HYs.out m
            have HBg2 : Hid (∀ (m : Nat) v, Calls Tryz.prog 37 #[.agg #[.int .i64 rf, .int .i64 rt, .int .i64 rm, .int .i64 rk, .int .i64 rw', .int .i64 rD, .int .i64 ra, .int .i64 rv, .string rs], .int .i64 (rf + (m : Int)), .int .i64 xs] v fun e w' => e = .returned (.int .i64 (bg m)) ∧ Below v.heap.size v w') := fun m v => by rw [hbg]; exact HBg.out m v
            clear hyl hbg HYs HBg
            go_wp2_with fail
            obtain ⟨rx, hrx⟩ : ∃ rx, rx = wq.heap.size := ⟨_, rfl⟩
            rw [← hrx] at R6
            simp only [← hrx]
            clear hrx y0 y1 y2 y3 y4 y5 y6 y7 y8 f0 f1 f2 f3 f4 f5 f6 f7 f8 x0 x1 x2 x3 x4 c0 c1 c2 d1
            go_loopw [11] (fun x11 v => ∃ (m : Nat) (P : List Int), m ≤ N ∧ x11 = .int .i64 (rf + (m : Int)) ∧ P.length ≤ M.length + m ∧ Hid (tmW w v #[.slice (some ⟨sb, so, none⟩) ns sc, .slice (some ⟨b, off, none⟩) nz zc, .slice la nl lc] P) ∧ Hid (v.heap[xb]? = some (.cells #[.int .i64 xs, .int .i64 s, .int .i64 xv, .string xf, .int .i64 xu] 50)) ∧ Hid (v.heap[rx]? = some (.cells #[.int .i64 rf, .int .i64 rt, .int .i64 rm, .int .i64 rk, .int .i64 rw', .int .i64 rD, .int .i64 ra, .int .i64 rv, .string rs] 57)) ∧ Hid (P = putsT (yl m) M)) (fun x11 _ => (rf + (N : Int) - intOf x11).toNat)
            case atStart => exact ⟨0, M, Nat.zero_le _, by simp, by omega, T6, X6, R6, by show _ = _; rw [HY0.out]; rfl⟩
            case round =>
              obtain ⟨m, P, hm, rfl, hlP, T7, X7, R7, HPl⟩ := hrel
              clear T6 X6 R6 T5 X5
              obtain ⟨x0, x1, x2, x3, x4⟩ := ebox_of (x := ⟨xs, s, xv, xf, xu⟩) X7.out
              obtain ⟨y0, y1, y2, y3, y4, y5, y6, y7, y8⟩ := rbox_of (r := ⟨rf, rt, rm, rk, rw', rD, ra, rv, rs⟩) R7.out
              simp only at x0 x1 x2 x3 x4 y0 y1 y2 y3 y4 y5 y6 y7 y8
              by_cases hml : m < N
              · have hle : rf + (m : Int) ≤ rt := by have := HNt.out; omega
                go_wp2_with fail
                refine (HBg2.out m _).mono ?_
                rintro e w5 ⟨rfl, hw5⟩
                have T8 := hideH (tm_on T7.out hw5)
                have X8 := hideH (heap_on X7.out hw5)
                have R8 := hideH (heap_on R7.out hw5)
                clear hw5 T7 X7 R7 x0 x1 x2 x3 x4 y0 y1 y2 y3 y4 y5 y6 y7 y8
                go_wp2_with fail
                refine (HP.out (bg m) P _ (by omega) T8.out.2.2).mono ?_
                rintro e w6 ⟨rfl, hp2, hb2, hk2⟩
                have T9 := hideH (tm_put T8.out hp2 hb2 hk2)
                have X9 : Hid (w6.heap[xb]? = some (.cells #[.int .i64 xs, .int .i64 s, .int .i64 xv, .string xf, .int .i64 xu] 50)) := hk2 _ _ _ _ X8.out (by decide) (by decide)
                have R9 : Hid (w6.heap[rx]? = some (.cells #[.int .i64 rf, .int .i64 rt, .int .i64 rm, .int .i64 rk, .int .i64 rw', .int .i64 rD, .int .i64 ra, .int .i64 rv, .string rs] 57)) := hk2 _ _ _ _ R8.out (by decide) (by decide)
                have hl9 := putT_len (bg m) P
                have HP9 : Hid (putT (bg m) P = putsT (yl (m + 1)) M) := by
                  show _ = _
                  rw [HYs2.out, putsT_app, ← HPl.out]
                  rfl
                clear hp2 hb2 hk2 T8 X8 R8
                go_wp2_with fail
                go_roundw
                case rel => exact ⟨m + 1, _, by omega, by go_num, by omega, T9, X9, R9, HP9⟩
                case measure => simp [intOf]; omega
              · obtain rfl : m = N := by omega
                have hle : ¬ (rf + (m : Int) ≤ rt) := by have := HNt.out; omega
                have HP9 : Hid (P = putsT (ar (j + 1)) M0) := by
                  show _ = _
                  rw [HSu.out, HYL.out, putsT_app, ← HM.out]
                  exact HPl.out
                go_wp2_with fail
                try simp only [← hra]
                go_roundw
                case rel => exact ⟨j + 1, P, by omega, by go_num, by omega, T7, X7, HP9⟩
                case measure => simp [intOf]; omega
          · obtain rfl : j = Z.n := by omega
            have HP9 : Hid (M = putsT (0 :: esN D k (i + 1)) []) := by
              show _ = _
              rw [HEs.out, HEr.out, ← List.cons_append, putsT_app, ← HL.out]
              show _ = putsT (ar Z.n) (putT xu L)
              rw [← HM0.out]
              exact HM.out
            have hjj : ¬ ((Z.n : Int) < (Z.n : Int)) := by omega
            go_wp2_with fail
            go_roundw
            case rel => exact ⟨i + 1, M, by omega, by go_num, by omega, T5, HP9⟩
            case measure => simp [intOf]; omega
      · have HP9 : Hid (M0 = putsT (0 :: esN D k (i + 1)) []) := by
          show _ = _
          have : erT D ⟨xs, xt, xv, xf, xu⟩ = [xu] := by unfold erT; rw [if_neg hset]
          rw [HEs.out, this, ← List.cons_append, putsT_app, ← HL.out, HM0.out]
          rfl
        go_loopw [9] (fun x9 v => x9 = .int .i64 0 ∧ v = w2) (fun x9 _ => 0)
        case atStart => exact ⟨rfl, rfl⟩
        case round =>
          obtain ⟨rfl, rfl⟩ := hrel
          obtain ⟨x0, x1, x2, x3, x4⟩ := ebox_of (x := ⟨xs, xt, xv, xf, xu⟩) X4.out
          simp only at x0 x1 x2 x3 x4
          go_wp2_with fail
          go_roundw
          case rel => exact ⟨i + 1, M0, by omega, by go_num, by omega, T4, HP9⟩
          case measure => simp [intOf]; omega
    · obtain rfl : i = n := by omega
      have hii : ¬ ((i : Int) < (i : Int)) := by omega
      obtain ⟨v, hv, ho⟩ := T2.out.2.2
      have l0 := cell_of_one hv
      have HO := hideH ho
      clear hv ho
      go_wp2_with fail
      go_ret
      unfold riP
      rw [← HL.out]
      exact ⟨_, rfl, HO.out, T2.out.1⟩
theorem times_c (D : Dt) (k : Nat) (w : World) (hD : DAt w D) (hc : chkE D = 0) (hk : k < D.nz) : Calls Tryz.prog 20 #[D.v, .int .i64 k] w fun e w' => riP (timT D k) w e w' := by
  obtain ⟨⟨h1, h2, h3⟩, _⟩ := chk_all hc
  rcases hD.zones with h0 | ⟨b, off, hza, hcs⟩
  · omega
  have h := times_x D k D.sa (D.zs k).a D.la b off D.ns D.sc D.nz D.zc D.nl D.lc (D.zs k).n (D.zs k).c w hk (by omega) (hcs k hk).2 (hD.eras k hk) hD.sets hD.rules (by omega) (h3 k hk).2 (fun i hi => by have := ebd (chk_era hc hk hi); omega) (fun j hj => (h2 j hj).2) (fun j hj i hi => chk_rule hc hj hi)
  unfold Dt.v
  rw [hza]
  exact h
end Go.Proofs.YtdffopkljomipaaGreatDoor
