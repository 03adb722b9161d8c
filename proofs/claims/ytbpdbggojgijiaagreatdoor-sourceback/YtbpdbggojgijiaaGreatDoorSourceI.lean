/- A rule that a line tells. -/
import Derived.Test.YtbpdbggojgijiaaGreatDoorSourceH
namespace Go.Proofs.YtbpdbggojgijiaaGreatDoor.Src
open Go Go.RowKit
set_option linter.unusedVariables false

set_option maxHeartbeats 8000000 in
set_option maxRecDepth 100000 in
theorem rrule_c (B q : Nat) (l : By) (w : World) (h : RsA q l w) (hX : ∀ v : World, Below B w v → EVs v) (hB : B ≤ q) (hs : l.length < 4294967281) :
    Calls Tryz.prog 72 #[.pointer (some ⟨q, 0, none⟩)] w fun e w' => e = .returned (.agg #[.int .i64 (numA (wN 0 l)), .int .i64 (numA (wN 1 l)), .int .i64 (numA (wN 2 l)), .int .i64 (numA (wN 3 l)), .int .i64 (numA (wN 4 l)), .int .i64 (numA (wN 5 l)), .int .i64 (numA (wN 6 l)), .int .i64 (numA (wN 7 l)), .string ⟨(if wN 8 l = [45] then [] else wN 8 l).toArray⟩]) ∧ (∃ l', RsA q l' w') ∧ Bq q w w' := by
  obtain ⟨N, hN⟩ : ∃ N : Nat → Int, ∀ k, N k = numA (wN k l) := ⟨_, fun _ => rfl⟩
  obtain ⟨T, hTe⟩ : ∃ T : Nat → By, ∀ k, T k = wN k l := ⟨_, fun _ => rfl⟩
  simp only [← hN]
  simp only [← hTe]
  generalize hE : (if T 8 = [45] then [] else T 8) = E
  have HE := hideS hE
  clear hE
  have hq : q < w.heap.size := (Array.getElem?_eq_some_iff.1 h).1
  have hw0 := (Below.refl _ w).alloc (Nat.le_refl _) (.cells #[.int .i64 0, .int .i64 0, .int .i64 0, .int .i64 0, .int .i64 0, .int .i64 0, .int .i64 0, .int .i64 0, .string ⟨#[]⟩] 65)
  obtain ⟨w0, hw⟩ : ∃ w0, w0 = w.alloc (.cells #[.int .i64 0, .int .i64 0, .int .i64 0, .int .i64 0, .int .i64 0, .int .i64 0, .int .i64 0, .int .i64 0, .string ⟨#[]⟩] 65) := ⟨_, rfl⟩
  have hp0 : w0.heap[w.heap.size]? = some (.cells #[.int .i64 0, .int .i64 0, .int .i64 0, .int .i64 0, .int .i64 0, .int .i64 0, .int .i64 0, .int .i64 0, .string ⟨#[]⟩] 65) := by rw [hw]; exact World.alloc_heap_new _ _
  have hsz : w0.heap.size = w.heap.size + 1 := by rw [hw]; simp
  rw [← hw] at hw0
  have R0 : Hid (RsA q (tlN 0 l) w0) := RsA.on (l := l) h hw0
  have B0 := hideS (Bq.refl q w0)
  have HX : Hid (∀ v : World, Bq q w0 v → ∀ u : World, Below B v u → EVs u) := fun v hv u hu => hX u (((hw0.mono (by omega)).trans (hv.below hB (by omega))).trans hu)
  have HN : Hid (∀ (k : Nat) (v : World), Hid (RsA q (tlN k l) v) → Hid (Bq q w0 v) → Calls Tryz.prog 90 #[.pointer (some ⟨q, 0, none⟩)] v fun e w' => e = .returned (.int .i64 (N k)) ∧ RsA q (tlN (k + 1) l) w' ∧ Bq q v w') := fun k v hr hb => by
    rw [tlN_succ]
    rw [hN]
    exact rnum_c B q (tlN k l) v hr.out (HX.out v hb.out) hB (by have := tlN_len k l; omega)
  have HT : Hid (∀ (k : Nat) (v : World), Hid (RsA q (tlN k l) v) → Hid (Bq q w0 v) → Calls Tryz.prog 71 #[.pointer (some ⟨q, 0, none⟩)] v fun e w' => e = .returned (.string ⟨(T k).toArray⟩) ∧ RsA q (tlN (k + 1) l) w' ∧ Bq q v w') := fun k v hr hb => by
    rw [tlN_succ]
    rw [hTe]
    exact rtext_c q (tlN k l) v hr.out (HX.out v hb.out v (Below.refl _ _)).2.2 (by have := tlN_len k l; omega)
  have HP : Hid (∀ v : World, Bq q w0 v → v.heap[w.heap.size]? = some (.cells #[.int .i64 0, .int .i64 0, .int .i64 0, .int .i64 0, .int .i64 0, .int .i64 0, .int .i64 0, .int .i64 0, .string ⟨#[]⟩] 65)) := fun v hv => (hv.block _ (by omega) (by omega)).trans hp0
  have HW := hideS (bq_on q hw0)
  clear hX h hp0 hw0 hN hTe
  go_enter Tryz.func72, Tryz.ntmps72
  go_wp2_with (go_at_call 90; rw [← hw]; refine (HN.out 0 _ R0 B0).mono ?_; rintro e v1 ⟨rfl, r, b⟩; refine unhid ?_)
  have R1 := hideS r
  have B1 := hideS (B0.out.trans b)
  clear r b R0 B0
  refine hideS ?_
  go_wp2_with (go_at_call 90; refine (HN.out 1 _ R1 B1).mono ?_; rintro e v2 ⟨rfl, r, b⟩; refine unhid ?_)
  have R2 := hideS r
  have B2 := hideS (B1.out.trans b)
  clear r b R1 B1
  refine hideS ?_
  go_wp2_with (go_at_call 90; refine (HN.out 2 _ R2 B2).mono ?_; rintro e v3 ⟨rfl, r, b⟩; refine unhid ?_)
  have R3 := hideS r
  have B3 := hideS (B2.out.trans b)
  clear r b R2 B2
  refine hideS ?_
  go_wp2_with (go_at_call 90; refine (HN.out 3 _ R3 B3).mono ?_; rintro e v4 ⟨rfl, r, b⟩; refine unhid ?_)
  have R4 := hideS r
  have B4 := hideS (B3.out.trans b)
  clear r b R3 B3
  refine hideS ?_
  go_wp2_with (go_at_call 90; refine (HN.out 4 _ R4 B4).mono ?_; rintro e v5 ⟨rfl, r, b⟩; refine unhid ?_)
  have R5 := hideS r
  have B5 := hideS (B4.out.trans b)
  clear r b R4 B4
  refine hideS ?_
  go_wp2_with (go_at_call 90; refine (HN.out 5 _ R5 B5).mono ?_; rintro e v6 ⟨rfl, r, b⟩; refine unhid ?_)
  have R6 := hideS r
  have B6 := hideS (B5.out.trans b)
  clear r b R5 B5
  refine hideS ?_
  go_wp2_with (go_at_call 90; refine (HN.out 6 _ R6 B6).mono ?_; rintro e v7 ⟨rfl, r, b⟩; refine unhid ?_)
  have R7 := hideS r
  have B7 := hideS (B6.out.trans b)
  clear r b R6 B6
  refine hideS ?_
  go_wp2_with (go_at_call 90; refine (HN.out 7 _ R7 B7).mono ?_; rintro e v8 ⟨rfl, r, b⟩; refine unhid ?_)
  have R8 := hideS r
  have B8 := hideS (B7.out.trans b)
  clear r b R7 B7
  refine hideS ?_
  go_wp2_with (go_at_call 71; refine (HT.out 8 _ R8 B8).mono ?_; rintro e v9 ⟨rfl, r, b⟩; refine unhid ?_)
  have R9 := hideS r
  have B9 := hideS (B8.out.trans b)
  clear r b R8 B8
  refine hideS ?_
  have hp := HP.out v9 B9.out
  have c0 : v9.cell? ⟨w.heap.size, 0, none⟩ = some (.int .i64 0) := by rw [Lib.cell_of_heap hp]; rfl
  have f0 : v9.frozen? ⟨w.heap.size, 0, none⟩ = false := Lib.frozen_of_heap hp 0
  have c1 : v9.cell? ⟨w.heap.size, 1, none⟩ = some (.int .i64 0) := by rw [Lib.cell_of_heap hp]; rfl
  have f1 : v9.frozen? ⟨w.heap.size, 1, none⟩ = false := Lib.frozen_of_heap hp 1
  have c2 : v9.cell? ⟨w.heap.size, 2, none⟩ = some (.int .i64 0) := by rw [Lib.cell_of_heap hp]; rfl
  have f2 : v9.frozen? ⟨w.heap.size, 2, none⟩ = false := Lib.frozen_of_heap hp 2
  have c3 : v9.cell? ⟨w.heap.size, 3, none⟩ = some (.int .i64 0) := by rw [Lib.cell_of_heap hp]; rfl
  have f3 : v9.frozen? ⟨w.heap.size, 3, none⟩ = false := Lib.frozen_of_heap hp 3
  have c4 : v9.cell? ⟨w.heap.size, 4, none⟩ = some (.int .i64 0) := by rw [Lib.cell_of_heap hp]; rfl
  have f4 : v9.frozen? ⟨w.heap.size, 4, none⟩ = false := Lib.frozen_of_heap hp 4
  have c5 : v9.cell? ⟨w.heap.size, 5, none⟩ = some (.int .i64 0) := by rw [Lib.cell_of_heap hp]; rfl
  have f5 : v9.frozen? ⟨w.heap.size, 5, none⟩ = false := Lib.frozen_of_heap hp 5
  have c6 : v9.cell? ⟨w.heap.size, 6, none⟩ = some (.int .i64 0) := by rw [Lib.cell_of_heap hp]; rfl
  have f6 : v9.frozen? ⟨w.heap.size, 6, none⟩ = false := Lib.frozen_of_heap hp 6
  have c7 : v9.cell? ⟨w.heap.size, 7, none⟩ = some (.int .i64 0) := by rw [Lib.cell_of_heap hp]; rfl
  have f7 : v9.frozen? ⟨w.heap.size, 7, none⟩ = false := Lib.frozen_of_heap hp 7
  have c8 : v9.cell? ⟨w.heap.size, 8, none⟩ = some (.string ⟨#[]⟩) := by rw [Lib.cell_of_heap hp]; rfl
  have f8 : v9.frozen? ⟨w.heap.size, 8, none⟩ = false := Lib.frozen_of_heap hp 8
  have hsv : w.heap.size < v9.heap.size := (Array.getElem?_eq_some_iff.1 hp).1
  have hne : q ≠ w.heap.size := by omega
  go_upto_region 2 with fail
  have hbA := (Below.refl _ v9).alloc (Nat.le_refl _) (.cells #[.int .i64 (N 0), .int .i64 (N 1), .int .i64 (N 2), .int .i64 (N 3), .int .i64 (N 4), .int .i64 (N 5), .int .i64 (N 6), .int .i64 (N 7), .string ⟨(T 8).toArray⟩] 65)
  obtain ⟨W, hW⟩ : ∃ W, W = v9.alloc (.cells #[.int .i64 (N 0), .int .i64 (N 1), .int .i64 (N 2), .int .i64 (N 3), .int .i64 (N 4), .int .i64 (N 5), .int .i64 (N 6), .int .i64 (N 7), .string ⟨(T 8).toArray⟩] 65) := ⟨_, rfl⟩
  obtain ⟨r, hr⟩ : ∃ r, r = v9.heap.size := ⟨_, rfl⟩
  have hrW : W.heap[r]? = some (.cells #[.int .i64 (N 0), .int .i64 (N 1), .int .i64 (N 2), .int .i64 (N 3), .int .i64 (N 4), .int .i64 (N 5), .int .i64 (N 6), .int .i64 (N 7), .string ⟨(T 8).toArray⟩] 65) := by rw [hW, hr]; exact World.alloc_heap_new _ _
  rw [← hW] at hbA
  have hpW := heap_on hp hbA
  have RW := hideS (R9.out.on hbA)
  have BW := hideS (HW.out.trans (B9.out.trans (bq_on q hbA)))
  simp only [← hW, ← hr]
  have hnr : r ≠ w.heap.size := by omega
  have hqr : q ≠ r := by omega
  have hrp : w.heap.size ≤ r := by omega
  clear c0 f0 c1 f1 c2 f2 c3 f3 c4 f4 c5 f5 c6 f6 c7 f7 c8 f8 hp hbA hW hr B9 R9 hsv HP HN HT HX HW hw hsz
  have c0 : W.cell? ⟨w.heap.size, 0, none⟩ = some (.int .i64 0) := by rw [Lib.cell_of_heap hpW]; rfl
  have f0 : W.frozen? ⟨w.heap.size, 0, none⟩ = false := Lib.frozen_of_heap hpW 0
  have g0 : W.cell? ⟨r, 0, none⟩ = some (.int .i64 (N 0)) := by rw [Lib.cell_of_heap hrW]; rfl
  have c1 : W.cell? ⟨w.heap.size, 1, none⟩ = some (.int .i64 0) := by rw [Lib.cell_of_heap hpW]; rfl
  have f1 : W.frozen? ⟨w.heap.size, 1, none⟩ = false := Lib.frozen_of_heap hpW 1
  have g1 : W.cell? ⟨r, 1, none⟩ = some (.int .i64 (N 1)) := by rw [Lib.cell_of_heap hrW]; rfl
  have c2 : W.cell? ⟨w.heap.size, 2, none⟩ = some (.int .i64 0) := by rw [Lib.cell_of_heap hpW]; rfl
  have f2 : W.frozen? ⟨w.heap.size, 2, none⟩ = false := Lib.frozen_of_heap hpW 2
  have g2 : W.cell? ⟨r, 2, none⟩ = some (.int .i64 (N 2)) := by rw [Lib.cell_of_heap hrW]; rfl
  have c3 : W.cell? ⟨w.heap.size, 3, none⟩ = some (.int .i64 0) := by rw [Lib.cell_of_heap hpW]; rfl
  have f3 : W.frozen? ⟨w.heap.size, 3, none⟩ = false := Lib.frozen_of_heap hpW 3
  have g3 : W.cell? ⟨r, 3, none⟩ = some (.int .i64 (N 3)) := by rw [Lib.cell_of_heap hrW]; rfl
  have c4 : W.cell? ⟨w.heap.size, 4, none⟩ = some (.int .i64 0) := by rw [Lib.cell_of_heap hpW]; rfl
  have f4 : W.frozen? ⟨w.heap.size, 4, none⟩ = false := Lib.frozen_of_heap hpW 4
  have g4 : W.cell? ⟨r, 4, none⟩ = some (.int .i64 (N 4)) := by rw [Lib.cell_of_heap hrW]; rfl
  have c5 : W.cell? ⟨w.heap.size, 5, none⟩ = some (.int .i64 0) := by rw [Lib.cell_of_heap hpW]; rfl
  have f5 : W.frozen? ⟨w.heap.size, 5, none⟩ = false := Lib.frozen_of_heap hpW 5
  have g5 : W.cell? ⟨r, 5, none⟩ = some (.int .i64 (N 5)) := by rw [Lib.cell_of_heap hrW]; rfl
  have c6 : W.cell? ⟨w.heap.size, 6, none⟩ = some (.int .i64 0) := by rw [Lib.cell_of_heap hpW]; rfl
  have f6 : W.frozen? ⟨w.heap.size, 6, none⟩ = false := Lib.frozen_of_heap hpW 6
  have g6 : W.cell? ⟨r, 6, none⟩ = some (.int .i64 (N 6)) := by rw [Lib.cell_of_heap hrW]; rfl
  have c7 : W.cell? ⟨w.heap.size, 7, none⟩ = some (.int .i64 0) := by rw [Lib.cell_of_heap hpW]; rfl
  have f7 : W.frozen? ⟨w.heap.size, 7, none⟩ = false := Lib.frozen_of_heap hpW 7
  have g7 : W.cell? ⟨r, 7, none⟩ = some (.int .i64 (N 7)) := by rw [Lib.cell_of_heap hrW]; rfl
  have c8 : W.cell? ⟨w.heap.size, 8, none⟩ = some (.string ⟨#[]⟩) := by rw [Lib.cell_of_heap hpW]; rfl
  have f8 : W.frozen? ⟨w.heap.size, 8, none⟩ = false := Lib.frozen_of_heap hpW 8
  have g8 : W.cell? ⟨r, 8, none⟩ = some (.string ⟨(T 8).toArray⟩) := by rw [Lib.cell_of_heap hrW]; rfl
  have e8 : W.frozen? ⟨r, 8, none⟩ = false := Lib.frozen_of_heap hrW 8
  have hz := HE.out
  by_cases h45 : T 8 = [45]
  · rw [if_pos h45] at hz
    have hb : (T 8 == [45]) = true := by rw [h45]; rfl
    have HZ := hideS hz
    clear h45 hz HE
    go_upto_region 4 with fail
    go_wp2_with fail
    refine bodyPost_ret (v := .agg #[.int .i64 (N 0), .int .i64 (N 1), .int .i64 (N 2), .int .i64 (N 3), .int .i64 (N 4), .int .i64 (N 5), .int .i64 (N 6), .int .i64 (N 7), .string ⟨#[]⟩]) ?_ rfl ⟨by rw [← HZ.out], ⟨_, rsA_other (rsA_other (rsA_other (rsA_other (rsA_other (rsA_other (rsA_other (rsA_other (rsA_other (rsA_other RW.out hqr _) hne _) hne _) hne _) hne _) hne _) hne _) hne _) hne _) hne _⟩, Bq.set_new (Bq.set_new (Bq.set_new (Bq.set_new (Bq.set_new (Bq.set_new (Bq.set_new (Bq.set_new (Bq.set_new (Bq.set_new BW.out hrp _) (Nat.le_refl _) _) (Nat.le_refl _) _) (Nat.le_refl _) _) (Nat.le_refl _) _) (Nat.le_refl _) _) (Nat.le_refl _) _) (Nat.le_refl _) _) (Nat.le_refl _) _) (Nat.le_refl _) _⟩
    simp [results, Tryz.results72, go_sem, c0, c1, c2, c3, c4, c5, c6, c7, c8]
  · rw [if_neg h45] at hz
    have hb : (T 8 == [45]) = false := by rw [beq_eq_false_iff_ne]; exact h45
    have HZ := hideS hz
    clear h45 hz HE
    go_upto_region 4 with fail
    go_wp2_with fail
    refine bodyPost_ret (v := .agg #[.int .i64 (N 0), .int .i64 (N 1), .int .i64 (N 2), .int .i64 (N 3), .int .i64 (N 4), .int .i64 (N 5), .int .i64 (N 6), .int .i64 (N 7), .string ⟨(T 8).toArray⟩]) ?_ rfl ⟨by rw [← HZ.out], ⟨_, rsA_other (rsA_other (rsA_other (rsA_other (rsA_other (rsA_other (rsA_other (rsA_other (rsA_other (RW.out) hne _) hne _) hne _) hne _) hne _) hne _) hne _) hne _) hne _⟩, Bq.set_new (Bq.set_new (Bq.set_new (Bq.set_new (Bq.set_new (Bq.set_new (Bq.set_new (Bq.set_new (Bq.set_new (BW.out) (Nat.le_refl _) _) (Nat.le_refl _) _) (Nat.le_refl _) _) (Nat.le_refl _) _) (Nat.le_refl _) _) (Nat.le_refl _) _) (Nat.le_refl _) _) (Nat.le_refl _) _) (Nat.le_refl _) _⟩
    simp [results, Tryz.results72, go_sem, c0, c1, c2, c3, c4, c5, c6, c7, c8]
end Go.Proofs.YtbpdbggojgijiaaGreatDoor.Src
