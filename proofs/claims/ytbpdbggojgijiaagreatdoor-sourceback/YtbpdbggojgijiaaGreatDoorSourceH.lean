/- A rule and an era that a line tells. -/
import Derived.Test.YtbpdbggojgijiaaGreatDoorSourceG
namespace Go.Proofs.YtbpdbggojgijiaaGreatDoor.Src
open Go Go.RowKit
set_option linter.unusedVariables false

theorem Bq.set_new {q p o : Nat} {w v : World} (h : Bq q w v) (hp : w.heap.size ≤ p) (u : Value) : Bq q w (v.setCell ⟨p, o, none⟩ u) := by
  have k := (Below.refl p v).setCell (p := ⟨p, o, none⟩) (Nat.le_refl _) u
  exact ⟨k.os.trans h.os, k.tape.trans h.tape, k.output.trans h.output, Nat.le_trans h.size k.size, fun i hi hq => (heap_setCell_other v ⟨p, o, none⟩ i u (by show i ≠ p; omega)).trans (h.block i hi hq)⟩
theorem rsA_other {q p o : Nat} {l : By} {v : World} (h : RsA q l v) (hp : q ≠ p) (u : Value) : RsA q l (v.setCell ⟨p, o, none⟩ u) := by
  unfold RsA at *
  exact (heap_setCell_other v ⟨p, o, none⟩ q u hp).trans h
theorem unhid {p : Prop} (h : Hid p) : p := h.out
/-- behind k words -/
def tlN : Nat → By → By
  | 0, l => l
  | k + 1, l => tlN k (tlW l)
theorem tlN_len : ∀ (k : Nat) (l : By), (tlN k l).length ≤ l.length
  | 0, l => Nat.le_refl _
  | k + 1, l => Nat.le_trans (tlN_len k (tlW l)) (tlW_len l)
theorem tlN_succ : ∀ (k : Nat) (l : By), tlN (k + 1) l = tlW (tlN k l)
  | 0, l => rfl
  | k + 1, l => tlN_succ k (tlW l)
/-- the k-th word -/
def wN (k : Nat) (l : By) : By := hdW (tlN k l)
set_option maxHeartbeats 8000000 in
set_option maxRecDepth 100000 in
theorem rera_c (B q : Nat) (l : By) (w : World) (h : RsA q l w) (hX : ∀ v : World, Below B w v → EVs v) (hB : B ≤ q) (hs : l.length < 4294967281) :
    Calls Tryz.prog 73 #[.pointer (some ⟨q, 0, none⟩)] w fun e w' => e = .returned (.agg #[.int .i64 (numA (wN 0 l)), .int .i64 (numA (wN 1 l)), .int .i64 (numA (wN 2 l)), .string ⟨(wN 3 l).toArray⟩, .int .i64 (numA (wN 4 l))]) ∧ (∃ l', RsA q l' w') ∧ Bq q w w' := by
  have hq : q < w.heap.size := (Array.getElem?_eq_some_iff.1 h).1
  have hw0 := (Below.refl _ w).alloc (Nat.le_refl _) (.cells #[.int .i64 0, .int .i64 0, .int .i64 0, .string ⟨#[]⟩, .int .i64 0] 67)
  obtain ⟨w0, hw⟩ : ∃ w0, w0 = w.alloc (.cells #[.int .i64 0, .int .i64 0, .int .i64 0, .string ⟨#[]⟩, .int .i64 0] 67) := ⟨_, rfl⟩
  have hp0 : w0.heap[w.heap.size]? = some (.cells #[.int .i64 0, .int .i64 0, .int .i64 0, .string ⟨#[]⟩, .int .i64 0] 67) := by rw [hw]; exact World.alloc_heap_new _ _
  have hsz : w0.heap.size = w.heap.size + 1 := by rw [hw]; simp
  rw [← hw] at hw0
  have R0 : Hid (RsA q (tlN 0 l) w0) := RsA.on (l := l) h hw0
  have B0 := hideS (Bq.refl q w0)
  have HX : Hid (∀ v : World, Bq q w0 v → ∀ u : World, Below B v u → EVs u) := fun v hv u hu => hX u (((hw0.mono (by omega)).trans (hv.below hB (by omega))).trans hu)
  have HN : Hid (∀ (k : Nat) (v : World), Hid (RsA q (tlN k l) v) → Hid (Bq q w0 v) → Calls Tryz.prog 90 #[.pointer (some ⟨q, 0, none⟩)] v fun e w' => e = .returned (.int .i64 (numA (wN k l))) ∧ RsA q (tlN (k + 1) l) w' ∧ Bq q v w') := fun k v hr hb => by
    rw [tlN_succ]
    exact rnum_c B q (tlN k l) v hr.out (HX.out v hb.out) hB (by have := tlN_len k l; omega)
  have HT : Hid (∀ (k : Nat) (v : World), Hid (RsA q (tlN k l) v) → Hid (Bq q w0 v) → Calls Tryz.prog 71 #[.pointer (some ⟨q, 0, none⟩)] v fun e w' => e = .returned (.string ⟨(wN k l).toArray⟩) ∧ RsA q (tlN (k + 1) l) w' ∧ Bq q v w') := fun k v hr hb => by
    rw [tlN_succ]
    exact rtext_c q (tlN k l) v hr.out (HX.out v hb.out v (Below.refl _ _)).2.2 (by have := tlN_len k l; omega)
  have HP : Hid (∀ v : World, Bq q w0 v → v.heap[w.heap.size]? = some (.cells #[.int .i64 0, .int .i64 0, .int .i64 0, .string ⟨#[]⟩, .int .i64 0] 67)) := fun v hv => (hv.block _ (by omega) (by omega)).trans hp0
  have HW := hideS (bq_on q hw0)
  clear hX h hp0 hw0
  go_enter Tryz.func73, Tryz.ntmps73
  go_wp2_with (go_at_call 90; rw [← hw]; refine (HN.out 0 _ R0 B0).mono ?_; rintro e v1 ⟨rfl, r, b⟩; refine unhid ?_)
  have R1 := hideS r
  have B1 := hideS (B0.out.trans b)
  clear r b R0 B0
  refine hideS ?_
  go_wp2_with (go_at_call 90; refine (HN.out 1 _ R1 B1).mono ?_; rintro e v2 ⟨rfl, r, b⟩; refine unhid ?_)
  have R2 := hideS r
  have B2 := hideS (B1.out.trans b)
  clear r b R1 B1
  refine hideS ?_
  go_wp2_with (go_at_call 90; refine (HN.out 2 _ R2 B2).mono ?_; rintro e v3 ⟨rfl, r, b⟩; refine unhid ?_)
  have R3 := hideS r
  have B3 := hideS (B2.out.trans b)
  clear r b R2 B2
  refine hideS ?_
  go_wp2_with (go_at_call 71; refine (HT.out 3 _ R3 B3).mono ?_; rintro e v4 ⟨rfl, r, b⟩; refine unhid ?_)
  have R4 := hideS r
  have B4 := hideS (B3.out.trans b)
  clear r b R3 B3
  refine hideS ?_
  go_wp2_with (go_at_call 90; refine (HN.out 4 _ R4 B4).mono ?_; rintro e v5 ⟨rfl, r, b⟩; refine unhid ?_)
  have R5 := hideS r
  have B5 := hideS (B4.out.trans b)
  clear r b R4 B4
  refine hideS ?_
  have hp := HP.out v5 B5.out
  have c0 : v5.cell? ⟨w.heap.size, 0, none⟩ = some (.int .i64 0) := by rw [Lib.cell_of_heap hp]; rfl
  have f0 : v5.frozen? ⟨w.heap.size, 0, none⟩ = false := Lib.frozen_of_heap hp 0
  have c1 : v5.cell? ⟨w.heap.size, 1, none⟩ = some (.int .i64 0) := by rw [Lib.cell_of_heap hp]; rfl
  have f1 : v5.frozen? ⟨w.heap.size, 1, none⟩ = false := Lib.frozen_of_heap hp 1
  have c2 : v5.cell? ⟨w.heap.size, 2, none⟩ = some (.int .i64 0) := by rw [Lib.cell_of_heap hp]; rfl
  have f2 : v5.frozen? ⟨w.heap.size, 2, none⟩ = false := Lib.frozen_of_heap hp 2
  have c3 : v5.cell? ⟨w.heap.size, 3, none⟩ = some (.string ⟨#[]⟩) := by rw [Lib.cell_of_heap hp]; rfl
  have f3 : v5.frozen? ⟨w.heap.size, 3, none⟩ = false := Lib.frozen_of_heap hp 3
  have c4 : v5.cell? ⟨w.heap.size, 4, none⟩ = some (.int .i64 0) := by rw [Lib.cell_of_heap hp]; rfl
  have f4 : v5.frozen? ⟨w.heap.size, 4, none⟩ = false := Lib.frozen_of_heap hp 4
  go_wp2_with fail
  have hne : q ≠ w.heap.size := by omega
  refine bodyPost_ret (v := .agg #[.int .i64 (numA (wN 0 l)), .int .i64 (numA (wN 1 l)), .int .i64 (numA (wN 2 l)), .string ⟨(wN 3 l).toArray⟩, .int .i64 (numA (wN 4 l))]) ?_ rfl ⟨rfl, ⟨_, rsA_other (rsA_other (rsA_other (rsA_other (rsA_other R5.out hne _) hne _) hne _) hne _) hne _⟩, (((((HW.out.trans B5.out).set_new (Nat.le_refl _) _).set_new (Nat.le_refl _) _).set_new (Nat.le_refl _) _).set_new (Nat.le_refl _) _).set_new (Nat.le_refl _) _⟩
  simp [results, Tryz.results73, go_sem, c0, c1, c2, c3, c4]
end Go.Proofs.YtbpdbggojgijiaaGreatDoor.Src
