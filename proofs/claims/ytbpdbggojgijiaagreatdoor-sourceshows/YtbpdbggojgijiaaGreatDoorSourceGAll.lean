/- What is taken of a line: words, numbers. -/
import Derived.Lib.AtoiErrMem
import Derived.Lib.AtoiAllCases
import Derived.Lib.IndexLaws
import Derived.Shelf.Strings.Cut
import Derived.Test.YtbpdbggojgijiaaGreatDoorSourceAAll
import Derived.Lib.ItoaLen
import Derived.Test.YtbpdbggojgijiaaGreatDoorOffCAll
namespace Go.Proofs.YtbpdbggojgijiaaGreatDoor.Src
open Go Go.RowKit
set_option linter.unusedVariables false

theorem gErrS : Tryz.prog.globalNamed "strconv.ErrSyntax" = some 7 := by kernel_rfl
theorem gErrR : Tryz.prog.globalNamed "strconv.ErrRange" = some 8 := by kernel_rfl
/-- the variables of strconv's errors hold something -/
def EVs (w : World) : Prop := (∃ tp p, w.var? Tryz.prog "strconv.ErrSyntax" = some #[.iface tp p]) ∧ (∃ tp p, w.var? Tryz.prog "strconv.ErrRange" = some #[.iface tp p]) ∧ Mx w
theorem varS_on {w w' : World} {n : String} {g : Nat} {cs : Array Value} (hg : Tryz.prog.globalNamed n = some g) (hv : w.var? Tryz.prog n = some cs) (hb : Below w.heap.size w w') : w'.var? Tryz.prog n = some cs := by
  refine var?_below hb hg ?_ hv
  unfold World.var? at hv
  rw [hg] at hv
  simp only [Option.bind_some] at hv
  rcases Nat.lt_or_ge g w.heap.size with h | h
  · exact h
  · rw [Array.getElem?_eq_none h] at hv; cases hv
theorem EVs.on {w w' : World} (h : EVs w) (hb : Below w.heap.size w w') : EVs w' := by
  obtain ⟨⟨t1, p1, a1⟩, ⟨t2, p2, a2⟩, hm⟩ := h
  exact ⟨⟨t1, p1, varS_on gErrS a1 hb⟩, ⟨t2, p2, varS_on gErrR a2 hb⟩, hm.on hb⟩
/-- the number that Atoi tells beside whatever error -/
def numA (l : By) : Int := match Lib.atoiAll l with
  | .ok v => v
  | .range => Lib.atoiSat l
  | _ => 0
theorem atoiS_c (s : ByteArray) (w : World) (hE : EVs w) (hs : s.size ≤ 281474976710656) : Calls Tryz.prog 107 #[.string s] w fun e w' => ∃ x, e = .returned (.tuple #[.int .i64 (numA s.data.toList), x]) ∧ Below w.heap.size w w' := by
  obtain ⟨⟨t1, p1, a1⟩, ⟨t2, p2, a2⟩, _⟩ := hE
  rcases h : Lib.atoiAll s.data.toList with v | _ | _
  · refine (Tryz.strconv_Atoi_ok s (by omega) v h w).mono ?_
    rintro e w' ⟨rfl, hw⟩
    refine ⟨.nilIface, by unfold numA; rw [h], ?_⟩
    rcases hw with rfl | ⟨t, rfl⟩
    · exact Below.refl _ _
    · exact Lib.bytesWorld_below _ _ _
  · refine (Tryz.strconv_Atoi_syntax_var s hs h t1 p1 w a1).mono ?_
    rintro e w' ⟨N, rfl, _, _, hw⟩
    exact ⟨_, by unfold numA; rw [h], hw⟩
  · refine (Tryz.strconv_Atoi_range_var s hs h t2 p2 w a2).mono ?_
    rintro e w' ⟨N, rfl, _, _, hw⟩
    exact ⟨_, by unfold numA; rw [h], hw⟩
/-- a line's first word, and what is behind it -/
def hdW (l : By) : By := (Lib.cut l [32]).1
def tlW (l : By) : By := (Lib.cut l [32]).2.1
theorem cut32_c (l : By) (w : World) (hM : Mx w) (hs : l.length < 4294967281) : Calls Tryz.prog 89 #[.string ⟨l.toArray⟩, .string ⟨#[32]⟩] w fun e w' => ∃ b, e = .returned (.tuple #[.string ⟨(hdW l).toArray⟩, .string ⟨(tlW l).toArray⟩, .bool b]) ∧ ∃ n, w' = w.drewN n := by
  obtain ⟨m, hm⟩ := hM
  refine (Any.strings_Cut { Tryz.laysM145 with } ⟨l.toArray⟩ ⟨#[32]⟩ m w (by show l.toArray.size < _; simpa using hs) hm).mono ?_
  rintro e w' ⟨rfl, hw⟩
  exact ⟨_, rfl, hw⟩
theorem tlW_len (l : By) : (tlW l).length ≤ l.length := by
  unfold tlW Lib.cut
  split
  · simp
  · simp
/-- all blocks that there were are as they were, but for one -/
structure Bq (q : Nat) (w w' : World) : Prop where
  os : w'.os = w.os
  tape : w'.tape = w.tape
  output : w'.output = w.output
  size : w.heap.size ≤ w'.heap.size
  block : ∀ k, k < w.heap.size → k ≠ q → w'.heap[k]? = w.heap[k]?
theorem Bq.trans {q : Nat} {a b c : World} (h : Bq q a b) (k : Bq q b c) : Bq q a c :=
  ⟨k.os.trans h.os, k.tape.trans h.tape, k.output.trans h.output, Nat.le_trans h.size k.size, fun i hi hq => (k.block i (Nat.lt_of_lt_of_le hi h.size) hq).trans (h.block i hi hq)⟩
theorem Bq.refl (q : Nat) (w : World) : Bq q w w := ⟨rfl, rfl, rfl, Nat.le_refl _, fun _ _ _ => rfl⟩
theorem bq_on (q : Nat) {w w' : World} (h : Below w.heap.size w w') : Bq q w w' := ⟨h.os, h.tape, h.output, h.size, fun k hk _ => h.block k hk⟩
theorem Bq.below {q B : Nat} {w w' : World} (h : Bq q w w') (hB : B ≤ q) (hw : B ≤ w.heap.size) : Below B w w' := ⟨h.os, h.tape, h.output, h.size, fun k hk => h.block k (by omega) (by omega)⟩
theorem bq_set {q o : Nat} {w : World} (u : Value) : Bq q w (w.setCell ⟨q, o, none⟩ u) := by
  have h := (Below.refl q w).setCell (p := ⟨q, o, none⟩) (Nat.le_refl _) u
  exact ⟨h.os, h.tape, h.output, h.size, fun k _ hk => heap_setCell_other w ⟨q, o, none⟩ k u hk⟩
/-- what is not taken yet -/
def RsA (q : Nat) (l : By) (w : World) : Prop := w.heap[q]? = some (.cells #[.string ⟨l.toArray⟩] 96)
theorem RsA.on {q : Nat} {l : By} {w w' : World} (h : RsA q l w) (hb : Below w.heap.size w w') : RsA q l w' := heap_on h hb
theorem rsA_set {q : Nat} {l m : By} {w : World} (h : RsA q l w) : RsA q m (w.setCell ⟨q, 0, none⟩ (.string ⟨m.toArray⟩)) := by
  unfold RsA at *
  simp [World.setCell, Array.getElem?_modify, h]
set_option maxHeartbeats 2000000 in
set_option maxRecDepth 100000 in
theorem rtext_c (q : Nat) (l : By) (w : World) (h : RsA q l w) (hM : Mx w) (hs : l.length < 4294967281) :
    Calls Tryz.prog 71 #[.pointer (some ⟨q, 0, none⟩)] w fun e w' => e = .returned (.string ⟨(hdW l).toArray⟩) ∧ RsA q (tlW l) w' ∧ Bq q w w' := by
  have c0 : w.cell? ⟨q, 0, none⟩ = some (.string ⟨l.toArray⟩) := by rw [Lib.cell_of_heap h]; rfl
  have HC := hideS (cut32_c l w hM hs)
  have HR := hideS h
  clear hM h
  go_enter Tryz.func71, Tryz.ntmps71
  go_wp2_with (go_at_call 89; refine HC.out.mono ?_; rintro e w1 ⟨bb, rfl, n, rfl⟩; have f0 : (w.drewN n).frozen? ⟨q, 0, none⟩ = false := Lib.frozen_of_heap HR.out 0)
  go_ret
  exact ⟨rfl, rsA_set (w := w.drewN n) HR.out, Bq.trans (b := w.drewN n) ⟨rfl, rfl, rfl, Nat.le_refl _, fun _ _ _ => rfl⟩ (bq_set _)⟩
theorem hdW_len (l : By) : (hdW l).length ≤ l.length := by
  unfold hdW Lib.cut
  split
  · simp; omega
  · simp
set_option maxHeartbeats 2000000 in
set_option maxRecDepth 100000 in
theorem rnum_c (B q : Nat) (l : By) (w : World) (h : RsA q l w) (hX : ∀ v : World, Below B w v → EVs v) (hB : B ≤ q) (hs : l.length < 4294967281) :
    Calls Tryz.prog 90 #[.pointer (some ⟨q, 0, none⟩)] w fun e w' => e = .returned (.int .i64 (numA (hdW l))) ∧ RsA q (tlW l) w' ∧ Bq q w w' := by
  have hq : q < w.heap.size := (Array.getElem?_eq_some_iff.1 h).1
  have HC := hideS (rtext_c q l w h (hX w (Below.refl _ _)).2.2 hs)
  have HX := hideS hX
  have hl := hdW_len l
  have HA : Hid (∀ v : World, EVs v → Calls Tryz.prog 107 #[.string ⟨(hdW l).toArray⟩] v fun e w' => ∃ x, e = .returned (.tuple #[.int .i64 (numA (hdW l)), x]) ∧ Below v.heap.size v w') := fun v hv => atoiS_c ⟨(hdW l).toArray⟩ v hv (by show (hdW l).toArray.size ≤ _; simp; omega)
  clear hX h
  go_enter Tryz.func90, Tryz.ntmps90
  go_wp2_with (first
    | (go_at_call 71; refine HC.out.mono ?_; rintro e w1 ⟨rfl, r1, b1⟩; have R1 := hideS r1; have B1 := hideS b1; clear r1 b1)
    | (go_at_call 107; refine (HA.out _ (HX.out _ (B1.out.below hB (by omega)))).mono ?_; rintro e w2 ⟨x, rfl, b2⟩))
  go_ret
  exact ⟨rfl, R1.out.on b2, B1.out.trans (bq_on q b2)⟩
end Go.Proofs.YtbpdbggojgijiaaGreatDoor.Src

/- A rule and an era that a line tells. -/
namespace Go.Proofs.YtbpdbggojgijiaaGreatDoor.Src
open Go Go.RowKit
set_option linter.unusedVariables false

theorem Bq.set_new {q p o : Nat} {w v : World} (h : Bq q w v) (hp : w.heap.size ≤ p) (u : Value) : Bq q w (v.setCell ⟨p, o, none⟩ u) := by
  have k := (Below.refl p v).setCell (p := ⟨p, o, none⟩) (Nat.le_refl _) u
  exact ⟨k.os.trans h.os, k.tape.trans h.tape, k.output.trans h.output, Nat.le_trans h.size k.size, fun i hi hq => (heap_setCell_other v ⟨p, o, none⟩ i u (by show i ≠ p; omega)).trans (h.block i hi hq)⟩
theorem rsA_other {q p o : Nat} {l : By} {v : World} (h : RsA q l v) (hp : q ≠ p) (u : Value) : RsA q l (v.setCell ⟨p, o, none⟩ u) := by
  unfold RsA at *
  exact (heap_setCell_other v ⟨p, o, none⟩ q u hp).trans h
theorem unhid {p : Prop} (h : Hid p) : p := h.out
/-- behind k words -/
def tlN : Nat → By → By
  | 0, l => l
  | k + 1, l => tlN k (tlW l)
theorem tlN_len : ∀ (k : Nat) (l : By), (tlN k l).length ≤ l.length
  | 0, l => Nat.le_refl _
  | k + 1, l => Nat.le_trans (tlN_len k (tlW l)) (tlW_len l)
theorem tlN_succ : ∀ (k : Nat) (l : By), tlN (k + 1) l = tlW (tlN k l)
  | 0, l => rfl
  | k + 1, l => tlN_succ k (tlW l)
/-- the k-th word -/
def wN (k : Nat) (l : By) : By := hdW (tlN k l)
set_option maxHeartbeats 8000000 in
set_option maxRecDepth 100000 in
theorem rera_c (B q : Nat) (l : By) (w : World) (h : RsA q l w) (hX : ∀ v : World, Below B w v → EVs v) (hB : B ≤ q) (hs : l.length < 4294967281) :
    Calls Tryz.prog 73 #[.pointer (some ⟨q, 0, none⟩)] w fun e w' => e = .returned (.agg #[.int .i64 (numA (wN 0 l)), .int .i64 (numA (wN 1 l)), .int .i64 (numA (wN 2 l)), .string ⟨(wN 3 l).toArray⟩, .int .i64 (numA (wN 4 l))]) ∧ (∃ l', RsA q l' w') ∧ Bq q w w' := by
  have hq : q < w.heap.size := (Array.getElem?_eq_some_iff.1 h).1
  have hw0 := (Below.refl _ w).alloc (Nat.le_refl _) (.cells #[.int .i64 0, .int .i64 0, .int .i64 0, .string ⟨#[]⟩, .int .i64 0] 67)
  obtain ⟨w0, hw⟩ : ∃ w0, w0 = w.alloc (.cells #[.int .i64 0, .int .i64 0, .int .i64 0, .string ⟨#[]⟩, .int .i64 0] 67) := ⟨_, rfl⟩
  have hp0 : w0.heap[w.heap.size]? = some (.cells #[.int .i64 0, .int .i64 0, .int .i64 0, .string ⟨#[]⟩, .int .i64 0] 67) := by rw [hw]; exact World.alloc_heap_new _ _
  have hsz : w0.heap.size = w.heap.size + 1 := by rw [hw]; simp
  rw [← hw] at hw0
  have R0 : Hid (RsA q (tlN 0 l) w0) := RsA.on (l := l) h hw0
  have B0 := hideS (Bq.refl q w0)
  have HX : Hid (∀ v : World, Bq q w0 v → ∀ u : World, Below B v u → EVs u) := fun v hv u hu => hX u (((hw0.mono (by omega)).trans (hv.below hB (by omega))).trans hu)
  have HN : Hid (∀ (k : Nat) (v : World), Hid (RsA q (tlN k l) v) → Hid (Bq q w0 v) → Calls Tryz.prog 90 #[.pointer (some ⟨q, 0, none⟩)] v fun e w' => e = .returned (.int .i64 (numA (wN k l))) ∧ RsA q (tlN (k + 1) l) w' ∧ Bq q v w') := fun k v hr hb => by
    rw [tlN_succ]
    exact rnum_c B q (tlN k l) v hr.out (HX.out v hb.out) hB (by have := tlN_len k l; omega)
  have HT : Hid (∀ (k : Nat) (v : World), Hid (RsA q (tlN k l) v) → Hid (Bq q w0 v) → Calls Tryz.prog 71 #[.pointer (some ⟨q, 0, none⟩)] v fun e w' => e = .returned (.string ⟨(wN k l).toArray⟩) ∧ RsA q (tlN (k + 1) l) w' ∧ Bq q v w') := fun k v hr hb => by
    rw [tlN_succ]
    exact rtext_c q (tlN k l) v hr.out (HX.out v hb.out v (Below.refl _ _)).2.2 (by have := tlN_len k l; omega)
  have HP : Hid (∀ v : World, Bq q w0 v → v.heap[w.heap.size]? = some (.cells #[.int .i64 0, .int .i64 0, .int .i64 0, .string ⟨#[]⟩, .int .i64 0] 67)) := fun v hv => (hv.block _ (by omega) (by omega)).trans hp0
  have HW := hideS (bq_on q hw0)
  clear hX h hp0 hw0
  go_enter Tryz.func73, Tryz.ntmps73
  go_wp2_with (go_at_call 90; rw [← hw]; refine (HN.out 0 _ R0 B0).mono ?_; rintro e v1 ⟨rfl, r, b⟩; refine unhid ?_)
  have R1 := hideS r
  have B1 := hideS (B0.out.trans b)
  clear r b R0 B0
  refine hideS ?_
  go_wp2_with (go_at_call 90; refine (HN.out 1 _ R1 B1).mono ?_; rintro e v2 ⟨rfl, r, b⟩; refine unhid ?_)
  have R2 := hideS r
  have B2 := hideS (B1.out.trans b)
  clear r b R1 B1
  refine hideS ?_
  go_wp2_with (go_at_call 90; refine (HN.out 2 _ R2 B2).mono ?_; rintro e v3 ⟨rfl, r, b⟩; refine unhid ?_)
  have R3 := hideS r
  have B3 := hideS (B2.out.trans b)
  clear r b R2 B2
  refine hideS ?_
  go_wp2_with (go_at_call 71; refine (HT.out 3 _ R3 B3).mono ?_; rintro e v4 ⟨rfl, r, b⟩; refine unhid ?_)
  have R4 := hideS r
  have B4 := hideS (B3.out.trans b)
  clear r b R3 B3
  refine hideS ?_
  go_wp2_with (go_at_call 90; refine (HN.out 4 _ R4 B4).mono ?_; rintro e v5 ⟨rfl, r, b⟩; refine unhid ?_)
  have R5 := hideS r
  have B5 := hideS (B4.out.trans b)
  clear r b R4 B4
  refine hideS ?_
  have hp := HP.out v5 B5.out
  have c0 : v5.cell? ⟨w.heap.size, 0, none⟩ = some (.int .i64 0) := by rw [Lib.cell_of_heap hp]; rfl
  have f0 : v5.frozen? ⟨w.heap.size, 0, none⟩ = false := Lib.frozen_of_heap hp 0
  have c1 : v5.cell? ⟨w.heap.size, 1, none⟩ = some (.int .i64 0) := by rw [Lib.cell_of_heap hp]; rfl
  have f1 : v5.frozen? ⟨w.heap.size, 1, none⟩ = false := Lib.frozen_of_heap hp 1
  have c2 : v5.cell? ⟨w.heap.size, 2, none⟩ = some (.int .i64 0) := by rw [Lib.cell_of_heap hp]; rfl
  have f2 : v5.frozen? ⟨w.heap.size, 2, none⟩ = false := Lib.frozen_of_heap hp 2
  have c3 : v5.cell? ⟨w.heap.size, 3, none⟩ = some (.string ⟨#[]⟩) := by rw [Lib.cell_of_heap hp]; rfl
  have f3 : v5.frozen? ⟨w.heap.size, 3, none⟩ = false := Lib.frozen_of_heap hp 3
  have c4 : v5.cell? ⟨w.heap.size, 4, none⟩ = some (.int .i64 0) := by rw [Lib.cell_of_heap hp]; rfl
  have f4 : v5.frozen? ⟨w.heap.size, 4, none⟩ = false := Lib.frozen_of_heap hp 4
  go_wp2_with fail
  have hne : q ≠ w.heap.size := by omega
  refine bodyPost_ret (v := .agg #[.int .i64 (numA (wN 0 l)), .int .i64 (numA (wN 1 l)), .int .i64 (numA (wN 2 l)), .string ⟨(wN 3 l).toArray⟩, .int .i64 (numA (wN 4 l))]) ?_ rfl ⟨rfl, ⟨_, rsA_other (rsA_other (rsA_other (rsA_other (rsA_other R5.out hne _) hne _) hne _) hne _) hne _⟩, (((((HW.out.trans B5.out).set_new (Nat.le_refl _) _).set_new (Nat.le_refl _) _).set_new (Nat.le_refl _) _).set_new (Nat.le_refl _) _).set_new (Nat.le_refl _) _⟩
  simp [results, Tryz.results73, go_sem, c0, c1, c2, c3, c4]
end Go.Proofs.YtbpdbggojgijiaaGreatDoor.Src

/- A rule that a line tells. -/
namespace Go.Proofs.YtbpdbggojgijiaaGreatDoor.Src
open Go Go.RowKit
set_option linter.unusedVariables false

set_option maxHeartbeats 8000000 in
set_option maxRecDepth 100000 in
theorem rrule_c (B q : Nat) (l : By) (w : World) (h : RsA q l w) (hX : ∀ v : World, Below B w v → EVs v) (hB : B ≤ q) (hs : l.length < 4294967281) :
    Calls Tryz.prog 72 #[.pointer (some ⟨q, 0, none⟩)] w fun e w' => e = .returned (.agg #[.int .i64 (numA (wN 0 l)), .int .i64 (numA (wN 1 l)), .int .i64 (numA (wN 2 l)), .int .i64 (numA (wN 3 l)), .int .i64 (numA (wN 4 l)), .int .i64 (numA (wN 5 l)), .int .i64 (numA (wN 6 l)), .int .i64 (numA (wN 7 l)), .string ⟨(if wN 8 l = [45] then [] else wN 8 l).toArray⟩]) ∧ (∃ l', RsA q l' w') ∧ Bq q w w' := by
  obtain ⟨N, hN⟩ : ∃ N : Nat → Int, ∀ k, N k = numA (wN k l) := ⟨_, fun _ => rfl⟩
  obtain ⟨T, hTe⟩ : ∃ T : Nat → By, ∀ k, T k = wN k l := ⟨_, fun _ => rfl⟩
  simp only [← hN]
  simp only [← hTe]
  generalize hE : (if T 8 = [45] then [] else T 8) = E
  have HE := hideS hE
  clear hE
  have hq : q < w.heap.size := (Array.getElem?_eq_some_iff.1 h).1
  have hw0 := (Below.refl _ w).alloc (Nat.le_refl _) (.cells #[.int .i64 0, .int .i64 0, .int .i64 0, .int .i64 0, .int .i64 0, .int .i64 0, .int .i64 0, .int .i64 0, .string ⟨#[]⟩] 65)
  obtain ⟨w0, hw⟩ : ∃ w0, w0 = w.alloc (.cells #[.int .i64 0, .int .i64 0, .int .i64 0, .int .i64 0, .int .i64 0, .int .i64 0, .int .i64 0, .int .i64 0, .string ⟨#[]⟩] 65) := ⟨_, rfl⟩
  have hp0 : w0.heap[w.heap.size]? = some (.cells #[.int .i64 0, .int .i64 0, .int .i64 0, .int .i64 0, .int .i64 0, .int .i64 0, .int .i64 0, .int .i64 0, .string ⟨#[]⟩] 65) := by rw [hw]; exact World.alloc_heap_new _ _
  have hsz : w0.heap.size = w.heap.size + 1 := by rw [hw]; simp
  rw [← hw] at hw0
  have R0 : Hid (RsA q (tlN 0 l) w0) := RsA.on (l := l) h hw0
  have B0 := hideS (Bq.refl q w0)
  have HX : Hid (∀ v : World, Bq q w0 v → ∀ u : World, Below B v u → EVs u) := fun v hv u hu => hX u (((hw0.mono (by omega)).trans (hv.below hB (by omega))).trans hu)
  have HN : Hid (∀ (k : Nat) (v : World), Hid (RsA q (tlN k l) v) → Hid (Bq q w0 v) → Calls Tryz.prog 90 #[.pointer (some ⟨q, 0, none⟩)] v fun e w' => e = .returned (.int .i64 (N k)) ∧ RsA q (tlN (k + 1) l) w' ∧ Bq q v w') := fun k v hr hb => by
    rw [tlN_succ]
    rw [hN]
    exact rnum_c B q (tlN k l) v hr.out (HX.out v hb.out) hB (by have := tlN_len k l; omega)
  have HT : Hid (∀ (k : Nat) (v : World), Hid (RsA q (tlN k l) v) → Hid (Bq q w0 v) → Calls Tryz.prog 71 #[.pointer (some ⟨q, 0, none⟩)] v fun e w' => e = .returned (.string ⟨(T k).toArray⟩) ∧ RsA q (tlN (k + 1) l) w' ∧ Bq q v w') := fun k v hr hb => by
    rw [tlN_succ]
    rw [hTe]
    exact rtext_c q (tlN k l) v hr.out (HX.out v hb.out v (Below.refl _ _)).2.2 (by have := tlN_len k l; omega)
  have HP : Hid (∀ v : World, Bq q w0 v → v.heap[w.heap.size]? = some (.cells #[.int .i64 0, .int .i64 0, .int .i64 0, .int .i64 0, .int .i64 0, .int .i64 0, .int .i64 0, .int .i64 0, .string ⟨#[]⟩] 65)) := fun v hv => (hv.block _ (by omega) (by omega)).trans hp0
  have HW := hideS (bq_on q hw0)
  clear hX h hp0 hw0 hN hTe
  go_enter Tryz.func72, Tryz.ntmps72
  go_wp2_with (go_at_call 90; rw [← hw]; refine (HN.out 0 _ R0 B0).mono ?_; rintro e v1 ⟨rfl, r, b⟩; refine unhid ?_)
  have R1 := hideS r
  have B1 := hideS (B0.out.trans b)
  clear r b R0 B0
  refine hideS ?_
  go_wp2_with (go_at_call 90; refine (HN.out 1 _ R1 B1).mono ?_; rintro e v2 ⟨rfl, r, b⟩; refine unhid ?_)
  have R2 := hideS r
  have B2 := hideS (B1.out.trans b)
  clear r b R1 B1
  refine hideS ?_
  go_wp2_with (go_at_call 90; refine (HN.out 2 _ R2 B2).mono ?_; rintro e v3 ⟨rfl, r, b⟩; refine unhid ?_)
  have R3 := hideS r
  have B3 := hideS (B2.out.trans b)
  clear r b R2 B2
  refine hideS ?_
  go_wp2_with (go_at_call 90; refine (HN.out 3 _ R3 B3).mono ?_; rintro e v4 ⟨rfl, r, b⟩; refine unhid ?_)
  have R4 := hideS r
  have B4 := hideS (B3.out.trans b)
  clear r b R3 B3
  refine hideS ?_
  go_wp2_with (go_at_call 90; refine (HN.out 4 _ R4 B4).mono ?_; rintro e v5 ⟨rfl, r, b⟩; refine unhid ?_)
  have R5 := hideS r
  have B5 := hideS (B4.out.trans b)
  clear r b R4 B4
  refine hideS ?_
  go_wp2_with (go_at_call 90; refine (HN.out 5 _ R5 B5).mono ?_; rintro e v6 ⟨rfl, r, b⟩; refine unhid ?_)
  have R6 := hideS r
  have B6 := hideS (B5.out.trans b)
  clear r b R5 B5
  refine hideS ?_
  go_wp2_with (go_at_call 90; refine (HN.out 6 _ R6 B6).mono ?_; rintro e v7 ⟨rfl, r, b⟩; refine unhid ?_)
  have R7 := hideS r
  have B7 := hideS (B6.out.trans b)
  clear r b R6 B6
  refine hideS ?_
  go_wp2_with (go_at_call 90; refine (HN.out 7 _ R7 B7).mono ?_; rintro e v8 ⟨rfl, r, b⟩; refine unhid ?_)
  have R8 := hideS r
  have B8 := hideS (B7.out.trans b)
  clear r b R7 B7
  refine hideS ?_
  go_wp2_with (go_at_call 71; refine (HT.out 8 _ R8 B8).mono ?_; rintro e v9 ⟨rfl, r, b⟩; refine unhid ?_)
  have R9 := hideS r
  have B9 := hideS (B8.out.trans b)
  clear r b R8 B8
  refine hideS ?_
  have hp := HP.out v9 B9.out
  have c0 : v9.cell? ⟨w.heap.size, 0, none⟩ = some (.int .i64 0) := by rw [Lib.cell_of_heap hp]; rfl
  have f0 : v9.frozen? ⟨w.heap.size, 0, none⟩ = false := Lib.frozen_of_heap hp 0
  have c1 : v9.cell? ⟨w.heap.size, 1, none⟩ = some (.int .i64 0) := by rw [Lib.cell_of_heap hp]; rfl
  have f1 : v9.frozen? ⟨w.heap.size, 1, none⟩ = false := Lib.frozen_of_heap hp 1
  have c2 : v9.cell? ⟨w.heap.size, 2, none⟩ = some (.int .i64 0) := by rw [Lib.cell_of_heap hp]; rfl
  have f2 : v9.frozen? ⟨w.heap.size, 2, none⟩ = false := Lib.frozen_of_heap hp 2
  have c3 : v9.cell? ⟨w.heap.size, 3, none⟩ = some (.int .i64 0) := by rw [Lib.cell_of_heap hp]; rfl
  have f3 : v9.frozen? ⟨w.heap.size, 3, none⟩ = false := Lib.frozen_of_heap hp 3
  have c4 : v9.cell? ⟨w.heap.size, 4, none⟩ = some (.int .i64 0) := by rw [Lib.cell_of_heap hp]; rfl
  have f4 : v9.frozen? ⟨w.heap.size, 4, none⟩ = false := Lib.frozen_of_heap hp 4
  have c5 : v9.cell? ⟨w.heap.size, 5, none⟩ = some (.int .i64 0) := by rw [Lib.cell_of_heap hp]; rfl
  have f5 : v9.frozen? ⟨w.heap.size, 5, none⟩ = false := Lib.frozen_of_heap hp 5
  have c6 : v9.cell? ⟨w.heap.size, 6, none⟩ = some (.int .i64 0) := by rw [Lib.cell_of_heap hp]; rfl
  have f6 : v9.frozen? ⟨w.heap.size, 6, none⟩ = false := Lib.frozen_of_heap hp 6
  have c7 : v9.cell? ⟨w.heap.size, 7, none⟩ = some (.int .i64 0) := by rw [Lib.cell_of_heap hp]; rfl
  have f7 : v9.frozen? ⟨w.heap.size, 7, none⟩ = false := Lib.frozen_of_heap hp 7
  have c8 : v9.cell? ⟨w.heap.size, 8, none⟩ = some (.string ⟨#[]⟩) := by rw [Lib.cell_of_heap hp]; rfl
  have f8 : v9.frozen? ⟨w.heap.size, 8, none⟩ = false := Lib.frozen_of_heap hp 8
  have hsv : w.heap.size < v9.heap.size := (Array.getElem?_eq_some_iff.1 hp).1
  have hne : q ≠ w.heap.size := by omega
  go_upto_region 2 with fail
  have hbA := (Below.refl _ v9).alloc (Nat.le_refl _) (.cells #[.int .i64 (N 0), .int .i64 (N 1), .int .i64 (N 2), .int .i64 (N 3), .int .i64 (N 4), .int .i64 (N 5), .int .i64 (N 6), .int .i64 (N 7), .string ⟨(T 8).toArray⟩] 65)
  obtain ⟨W, hW⟩ : ∃ W, W = v9.alloc (.cells #[.int .i64 (N 0), .int .i64 (N 1), .int .i64 (N 2), .int .i64 (N 3), .int .i64 (N 4), .int .i64 (N 5), .int .i64 (N 6), .int .i64 (N 7), .string ⟨(T 8).toArray⟩] 65) := ⟨_, rfl⟩
  obtain ⟨r, hr⟩ : ∃ r, r = v9.heap.size := ⟨_, rfl⟩
  have hrW : W.heap[r]? = some (.cells #[.int .i64 (N 0), .int .i64 (N 1), .int .i64 (N 2), .int .i64 (N 3), .int .i64 (N 4), .int .i64 (N 5), .int .i64 (N 6), .int .i64 (N 7), .string ⟨(T 8).toArray⟩] 65) := by rw [hW, hr]; exact World.alloc_heap_new _ _
  rw [← hW] at hbA
  have hpW := heap_on hp hbA
  have RW := hideS (R9.out.on hbA)
  have BW := hideS (HW.out.trans (B9.out.trans (bq_on q hbA)))
  simp only [← hW, ← hr]
  have hnr : r ≠ w.heap.size := by omega
  have hqr : q ≠ r := by omega
  have hrp : w.heap.size ≤ r := by omega
  clear c0 f0 c1 f1 c2 f2 c3 f3 c4 f4 c5 f5 c6 f6 c7 f7 c8 f8 hp hbA hW hr B9 R9 hsv HP HN HT HX HW hw hsz
  have c0 : W.cell? ⟨w.heap.size, 0, none⟩ = some (.int .i64 0) := by rw [Lib.cell_of_heap hpW]; rfl
  have f0 : W.frozen? ⟨w.heap.size, 0, none⟩ = false := Lib.frozen_of_heap hpW 0
  have g0 : W.cell? ⟨r, 0, none⟩ = some (.int .i64 (N 0)) := by rw [Lib.cell_of_heap hrW]; rfl
  have c1 : W.cell? ⟨w.heap.size, 1, none⟩ = some (.int .i64 0) := by rw [Lib.cell_of_heap hpW]; rfl
  have f1 : W.frozen? ⟨w.heap.size, 1, none⟩ = false := Lib.frozen_of_heap hpW 1
  have g1 : W.cell? ⟨r, 1, none⟩ = some (.int .i64 (N 1)) := by rw [Lib.cell_of_heap hrW]; rfl
  have c2 : W.cell? ⟨w.heap.size, 2, none⟩ = some (.int .i64 0) := by rw [Lib.cell_of_heap hpW]; rfl
  have f2 : W.frozen? ⟨w.heap.size, 2, none⟩ = false := Lib.frozen_of_heap hpW 2
  have g2 : W.cell? ⟨r, 2, none⟩ = some (.int .i64 (N 2)) := by rw [Lib.cell_of_heap hrW]; rfl
  have c3 : W.cell? ⟨w.heap.size, 3, none⟩ = some (.int .i64 0) := by rw [Lib.cell_of_heap hpW]; rfl
  have f3 : W.frozen? ⟨w.heap.size, 3, none⟩ = false := Lib.frozen_of_heap hpW 3
  have g3 : W.cell? ⟨r, 3, none⟩ = some (.int .i64 (N 3)) := by rw [Lib.cell_of_heap hrW]; rfl
  have c4 : W.cell? ⟨w.heap.size, 4, none⟩ = some (.int .i64 0) := by rw [Lib.cell_of_heap hpW]; rfl
  have f4 : W.frozen? ⟨w.heap.size, 4, none⟩ = false := Lib.frozen_of_heap hpW 4
  have g4 : W.cell? ⟨r, 4, none⟩ = some (.int .i64 (N 4)) := by rw [Lib.cell_of_heap hrW]; rfl
  have c5 : W.cell? ⟨w.heap.size, 5, none⟩ = some (.int .i64 0) := by rw [Lib.cell_of_heap hpW]; rfl
  have f5 : W.frozen? ⟨w.heap.size, 5, none⟩ = false := Lib.frozen_of_heap hpW 5
  have g5 : W.cell? ⟨r, 5, none⟩ = some (.int .i64 (N 5)) := by rw [Lib.cell_of_heap hrW]; rfl
  have c6 : W.cell? ⟨w.heap.size, 6, none⟩ = some (.int .i64 0) := by rw [Lib.cell_of_heap hpW]; rfl
  have f6 : W.frozen? ⟨w.heap.size, 6, none⟩ = false := Lib.frozen_of_heap hpW 6
  have g6 : W.cell? ⟨r, 6, none⟩ = some (.int .i64 (N 6)) := by rw [Lib.cell_of_heap hrW]; rfl
  have c7 : W.cell? ⟨w.heap.size, 7, none⟩ = some (.int .i64 0) := by rw [Lib.cell_of_heap hpW]; rfl
  have f7 : W.frozen? ⟨w.heap.size, 7, none⟩ = false := Lib.frozen_of_heap hpW 7
  have g7 : W.cell? ⟨r, 7, none⟩ = some (.int .i64 (N 7)) := by rw [Lib.cell_of_heap hrW]; rfl
  have c8 : W.cell? ⟨w.heap.size, 8, none⟩ = some (.string ⟨#[]⟩) := by rw [Lib.cell_of_heap hpW]; rfl
  have f8 : W.frozen? ⟨w.heap.size, 8, none⟩ = false := Lib.frozen_of_heap hpW 8
  have g8 : W.cell? ⟨r, 8, none⟩ = some (.string ⟨(T 8).toArray⟩) := by rw [Lib.cell_of_heap hrW]; rfl
  have e8 : W.frozen? ⟨r, 8, none⟩ = false := Lib.frozen_of_heap hrW 8
  have hz := HE.out
  by_cases h45 : T 8 = [45]
  · rw [if_pos h45] at hz
    have hb : (T 8 == [45]) = true := by rw [h45]; rfl
    have HZ := hideS hz
    clear h45 hz HE
    go_upto_region 4 with fail
    go_wp2_with fail
    refine bodyPost_ret (v := .agg #[.int .i64 (N 0), .int .i64 (N 1), .int .i64 (N 2), .int .i64 (N 3), .int .i64 (N 4), .int .i64 (N 5), .int .i64 (N 6), .int .i64 (N 7), .string ⟨#[]⟩]) ?_ rfl ⟨by rw [← HZ.out], ⟨_, rsA_other (rsA_other (rsA_other (rsA_other (rsA_other (rsA_other (rsA_other (rsA_other (rsA_other (rsA_other RW.out hqr _) hne _) hne _) hne _) hne _) hne _) hne _) hne _) hne _) hne _⟩, Bq.set_new (Bq.set_new (Bq.set_new (Bq.set_new (Bq.set_new (Bq.set_new (Bq.set_new (Bq.set_new (Bq.set_new (Bq.set_new BW.out hrp _) (Nat.le_refl _) _) (Nat.le_refl _) _) (Nat.le_refl _) _) (Nat.le_refl _) _) (Nat.le_refl _) _) (Nat.le_refl _) _) (Nat.le_refl _) _) (Nat.le_refl _) _) (Nat.le_refl _) _⟩
    simp [results, Tryz.results72, go_sem, c0, c1, c2, c3, c4, c5, c6, c7, c8]
  · rw [if_neg h45] at hz
    have hb : (T 8 == [45]) = false := by rw [beq_eq_false_iff_ne]; exact h45
    have HZ := hideS hz
    clear h45 hz HE
    go_upto_region 4 with fail
    go_wp2_with fail
    refine bodyPost_ret (v := .agg #[.int .i64 (N 0), .int .i64 (N 1), .int .i64 (N 2), .int .i64 (N 3), .int .i64 (N 4), .int .i64 (N 5), .int .i64 (N 6), .int .i64 (N 7), .string ⟨(T 8).toArray⟩]) ?_ rfl ⟨by rw [← HZ.out], ⟨_, rsA_other (rsA_other (rsA_other (rsA_other (rsA_other (rsA_other (rsA_other (rsA_other (rsA_other (RW.out) hne _) hne _) hne _) hne _) hne _) hne _) hne _) hne _) hne _⟩, Bq.set_new (Bq.set_new (Bq.set_new (Bq.set_new (Bq.set_new (Bq.set_new (Bq.set_new (Bq.set_new (Bq.set_new (BW.out) (Nat.le_refl _) _) (Nat.le_refl _) _) (Nat.le_refl _) _) (Nat.le_refl _) _) (Nat.le_refl _) _) (Nat.le_refl _) _) (Nat.le_refl _) _) (Nat.le_refl _) _) (Nat.le_refl _) _⟩
    simp [results, Tryz.results72, go_sem, c0, c1, c2, c3, c4, c5, c6, c7, c8]
end Go.Proofs.YtbpdbggojgijiaaGreatDoor.Src

/- Plain: the words that are taken are those of the line; what is written is data as text. -/
namespace Go.Proofs.YtbpdbggojgijiaaGreatDoor.Src
open Go
set_option linter.unusedVariables false

theorem cutB_first {c : UInt8} : ∀ {l : By} {o : Nat}, Lib.indexByte l c = o → cutB c l = l.take o :: cutB c (l.drop (o + 1))
  | [], o, h => by
    simp only [Lib.indexByte] at h
    omega
  | a :: l, o, h => by
    unfold Lib.indexByte at h
    by_cases e : a = c
    · subst e
      rw [if_pos (beq_self_eq_true _)] at h
      obtain rfl : o = 0 := by omega
      show (if a = a then [] :: cutB a l else match cutB a l with | [] => [[a]] | h :: t => (a :: h) :: t) = _
      rw [if_pos rfl]
      rfl
    · rw [if_neg (by simpa using e)] at h
      by_cases e2 : Lib.indexByte l c = -1
      · rw [if_pos (by simpa using e2)] at h
        omega
      · rw [if_neg (by simpa using e2)] at h
        have hge := Lib.indexByte_ge l c
        obtain ⟨p, hp⟩ : ∃ p : Nat, Lib.indexByte l c = p := ⟨(Lib.indexByte l c).toNat, by omega⟩
        obtain rfl : o = p + 1 := by omega
        show (if a = c then [] :: cutB c l else match cutB c l with | [] => [[a]] | h :: t => (a :: h) :: t) = _
        rw [if_neg e, cutB_first hp]
        rfl
theorem cut32_hit {l : By} {o : Nat} (h : Lib.indexByte l 32 = o) : hdW l = l.take o ∧ tlW l = l.drop (o + 1) := by
  have e : Lib.index l [32] = o := by rw [Lib.index_one]; exact h
  constructor
  · unfold hdW Lib.cut
    rw [e, if_pos (by omega)]
    rfl
  · unfold tlW Lib.cut
    rw [e, if_pos (by omega)]
    rfl
theorem cut32_miss {l : By} (h : Lib.indexByte l 32 = -1) : hdW l = l ∧ tlW l = [] := by
  have e : Lib.index l [32] = -1 := by rw [Lib.index_one]; exact h
  constructor
  · unfold hdW Lib.cut
    rw [e, if_neg (by decide)]
  · unfold tlW Lib.cut
    rw [e, if_neg (by decide)]
theorem cutB_miss {c : UInt8} {l : By} (h : Lib.indexByte l c = -1) : cutB c l = [l] := cutB_none fun hm => by
  obtain ⟨k, hk⟩ := List.mem_iff_getElem?.1 hm
  exact Lib.indexByte_none h k hk
theorem idx_two (l : By) : Lib.indexByte l 32 = -1 ∨ ∃ o : Nat, Lib.indexByte l 32 = o := by
  have := Lib.indexByte_ge l 32
  by_cases e : Lib.indexByte l 32 = -1
  · exact .inl e
  · exact .inr ⟨(Lib.indexByte l 32).toNat, by omega⟩
theorem tlN_nil : ∀ k, tlN k [] = []
  | 0 => rfl
  | k + 1 => by
    show tlN k (tlW []) = []
    rw [show tlW [] = [] from (cut32_miss rfl).2]
    exact tlN_nil k
/-- the k-th word that is taken is the line's k-th one -/
theorem wN_wd : ∀ (k : Nat) (l : By), wN k l = wd (cutB 32 l) k
  | 0, l => by
    show hdW l = _
    rcases idx_two l with h | ⟨o, h⟩
    · rw [(cut32_miss h).1, cutB_miss h]
      rfl
    · rw [(cut32_hit h).1, cutB_first h]
      rfl
  | k + 1, l => by
    show wN k (tlW l) = _
    rcases idx_two l with h | ⟨o, h⟩
    · rw [(cut32_miss h).2, cutB_miss h, wN_wd k []]
      show (cutB 32 []).getD k [] = [l].getD (k + 1) []
      cases k <;> rfl
    · rw [(cut32_hit h).2, cutB_first h, wN_wd k]
      rfl
theorem tlN_wN (k j : Nat) (l : By) : wN k (tlN j l) = wN (j + k) l := by
  unfold wN
  congr 1
  induction j generalizing l with
  | zero => rw [Nat.zero_add]; rfl
  | succ j ih =>
    rw [Nat.succ_add]
    exact ih (tlW l)
/-- data, as lists -/
def pdOf (D : Dt) : PD := ⟨(List.range D.ns).map fun j => ((D.ss j).nm.data.toList, (List.range (D.ss j).n).map (D.ss j).rs), (List.range D.nz).map fun j => ((D.zs j).nm.data.toList, (List.range (D.zs j).n).map (D.zs j).es), (List.range D.nl).map fun j => ((D.ls j).nm.data.toList, (D.ls j).tgt.data.toList)⟩
theorem linesB_flat {α : Type} (f : α → List (List By)) : ∀ l : List α, linesB ((l.flatMap f).map joinW) = l.flatMap fun x => linesB ((f x).map joinW)
  | [] => rfl
  | x :: l => by rw [List.flatMap_cons, List.map_append, lines_app, linesB_flat f l, List.flatMap_cons]
theorem linesB_map {α : Type} (f : α → List By) : ∀ l : List α, linesB ((l.map f).map joinW) = l.flatMap fun x => joinW (f x) ++ [10]
  | [] => rfl
  | x :: l => by
    rw [List.map_cons, List.map_cons, List.flatMap_cons, ← linesB_map f l]
    rfl
theorem show_eq (D : Dt) : showD D = showP Lib.itoa (pdOf D) := by
  unfold showD showP lnAll pdOf
  rw [List.map_append, List.map_append, lines_app, lines_app]
  congr 1
  · rw [linesB_flat, List.flatMap_map]
    unfold catJ
    congr 1
    funext j
    show setJ _ _ = _
    unfold setJ lnSet
    simp [Function.comp_def]
  · congr 1
    · rw [linesB_flat, List.flatMap_map]
      unfold catJ
      congr 1
      funext j
      show zoneJ _ _ = _
      unfold zoneJ lnZone
      simp [Function.comp_def]
    · rw [linesB_map, List.flatMap_map]
      rfl
end Go.Proofs.YtbpdbggojgijiaaGreatDoor.Src

/- Plain: a number that is told is read as it was. -/
namespace Go.Proofs.YtbpdbggojgijiaaGreatDoor.Src
open Go
set_option linter.unusedVariables false

theorem pu_app (c : UInt8) : ∀ (a : By) (acc v : Nat), Lib.parseUint10 acc a = .ok v → Lib.parseUint10 acc (a ++ [c]) = Lib.parseUint10 v [c]
  | [], acc, v, h => by
    simp only [Lib.parseUint10] at h
    injection h with h
    subst h
    rfl
  | x :: a, acc, v, h => by
    simp only [Lib.parseUint10] at h
    by_cases h1 : 48 ≤ x.toNat ∧ x.toNat ≤ 57
    · rw [if_pos h1] at h
      by_cases h2 : 1844674407370955162 ≤ acc
      · rw [if_pos h2] at h; cases h
      · rw [if_neg h2] at h
        by_cases h3 : 18446744073709551616 ≤ acc * 10 + (x.toNat - 48)
        · rw [if_pos h3] at h; cases h
        · rw [if_neg h3] at h
          show Lib.parseUint10 acc (x :: (a ++ [c])) = _
          rw [Lib.parseUint10, if_pos h1, if_neg h2, if_neg h3]
          exact pu_app c a _ v h
    · rw [if_neg h1] at h; cases h
theorem dgt {d : Nat} (h : d < 10) : (UInt8.ofNat (48 + d)).toNat = 48 + d := by
  rw [UInt8.toNat_ofNat']
  exact Nat.mod_eq_of_lt (by omega)
theorem dec_ok (u : Nat) (h : u < 18446744073709551616) : Lib.parseUint10 0 (Lib.decDigits u) = .ok u := by
  induction u using Nat.strongRecOn with
  | _ u ih =>
    by_cases e : u < 10
    · rw [Lib.decDigits, dif_pos e, Lib.parseUint10, dgt e, if_pos (by omega), if_neg (by decide), if_neg (by omega), Lib.parseUint10]
      congr 1
      omega
    · rw [Lib.decDigits, dif_neg e, pu_app _ _ _ _ (ih (u / 10) (by omega) (by omega)), Lib.parseUint10, dgt (by omega), if_pos (by omega), if_neg (by omega), if_neg (by omega), Lib.parseUint10]
      congr 1
      omega
theorem dec_dig (u : Nat) : ∀ c ∈ Lib.decDigits u, 48 ≤ c.toNat ∧ c.toNat ≤ 57 := by
  induction u using Nat.strongRecOn with
  | _ u ih =>
    intro c hc
    by_cases e : u < 10
    · rw [Lib.decDigits, dif_pos e] at hc
      have : c = UInt8.ofNat (48 + u) := by simpa using hc
      rw [this, dgt e]
      omega
    · rw [Lib.decDigits, dif_neg e] at hc
      rcases List.mem_append.1 hc with hc | hc
      · exact ih (u / 10) (by omega) c hc
      · have : c = UInt8.ofNat (48 + u % 10) := by simpa using hc
        rw [this, dgt (by omega)]
        omega
theorem dec_ne (u : Nat) : Lib.decDigits u ≠ [] := by
  rw [Lib.decDigits]
  split <;> simp
theorem itoa_clean (n : Int) : (32 : UInt8) ∉ Lib.itoa n ∧ (10 : UInt8) ∉ Lib.itoa n := by
  have key : ∀ c : UInt8, c ∈ Lib.itoa n → c = 45 ∨ (48 ≤ c.toNat ∧ c.toNat ≤ 57) := fun c hc => by
    unfold Lib.itoa at hc
    split at hc
    · rcases List.mem_cons.1 hc with h | h
      · exact .inl h
      · exact .inr (dec_dig _ c h)
    · exact .inr (dec_dig _ c hc)
  constructor
  · intro h
    rcases key _ h with h | h
    · exact absurd h (by decide)
    · exact absurd h.1 (by decide)
  · intro h
    rcases key _ h with h | h
    · exact absurd h (by decide)
    · exact absurd h.1 (by decide)
/-- a number that Go bears is read as it was -/
theorem num_itoa {n : Int} (h : (Wo.n n).ok) : numA (Lib.itoa n) = n := by
  obtain ⟨h1, h2⟩ : -9223372036854775808 ≤ n ∧ n ≤ 9223372036854775807 := h
  have key : Lib.atoiAll (Lib.itoa n) = .ok n := by
    unfold Lib.itoa
    by_cases hn : n < 0
    · rw [if_pos hn]
      unfold Lib.atoiAll
      have hm : Lib.parseMag (Lib.decDigits n.natAbs) = .ok n.natAbs := by
        unfold Lib.parseMag
        rw [if_neg (dec_ne _)]
        exact dec_ok _ (by omega)
      simp only [show ((45 : UInt8).toNat = 43 ∨ (45 : UInt8).toNat = 45) = True by decide, if_true, hm]
      rw [if_neg (by simp), if_neg (by simp; omega)]
      simp
      omega
    · rw [if_neg hn]
      have hm : Lib.parseMag (Lib.decDigits n.toNat) = .ok n.toNat := by
        unfold Lib.parseMag
        rw [if_neg (dec_ne _)]
        exact dec_ok _ (by omega)
      cases hd : Lib.decDigits n.toNat with
      | nil => exact absurd hd (dec_ne _)
      | cons c r =>
        have hc := dec_dig n.toNat c (by rw [hd]; simp)
        rw [hd] at hm
        unfold Lib.atoiAll
        have e1 : ¬ c.toNat = 43 := by omega
        have e2 : ¬ c.toNat = 45 := by omega
        simp only [e1, e2, or_self, if_false]
        rw [hm]
        show (if ¬ False ∧ 9223372036854775808 ≤ n.toNat then Lib.NumEnd.range else if False ∧ 9223372036854775808 < n.toNat then Lib.NumEnd.range else Lib.NumEnd.ok ((n.toNat : Nat) : Int)) = _
        rw [if_neg (fun h => by omega), if_neg (fun h => h.1)]
        congr 1
        omega
  unfold numA
  rw [key]
end Go.Proofs.YtbpdbggojgijiaaGreatDoor.Src

/- Plain: what right data are shown as is read as it was. -/
namespace Go.Proofs.YtbpdbggojgijiaaGreatDoor.Src
open Go
set_option linter.unusedVariables false

theorem chk_names {D : Dt} (h : chkE D = 0) : namesOK D := by
  unfold chkE at h
  split at h
  · split at h
    · assumption
    · omega
  · omega
theorem catL_in {n : Nat → Nat} {f : Nat → Nat → ByteArray} : ∀ {k i j : Nat}, i < k → j < n i → f i j ∈ catL n f k
  | 0, i, j, h, _ => by omega
  | k + 1, i, j, h, hj => by
    unfold catL
    by_cases e : i = k
    · subst e
      exact List.mem_append.2 (.inr (List.mem_map.2 ⟨j, List.mem_range.2 hj, rfl⟩))
    · exact List.mem_append.2 (.inl (catL_in (by omega) hj))
/-- a word that may stand in a line -/
def fine (w : By) : Prop := w.length ≤ 21 ∧ (32 : UInt8) ∉ w ∧ (10 : UInt8) ∉ w
theorem name_fine {s : ByteArray} (h : nameB s = true) : fine s.data.toList := by
  unfold nameB at h
  simp only [Bool.and_eq_true, decide_eq_true_eq] at h
  obtain ⟨⟨h1, h2⟩, h3, _⟩ := h
  unfold allOk at h3
  rw [List.all_eq_true] at h3
  refine ⟨?_, fun hm => ?_, fun hm => ?_⟩
  · have := Lib.size_eq s
    omega
  · exact absurd (h3 _ hm) (by decide)
  · exact absurd (h3 _ hm) (by decide)
theorem let_fine {l : By} (h : allLet l = true) (hl : l.length ≤ 12) : fine l := by
  unfold allLet at h
  rw [List.all_eq_true] at h
  exact ⟨by omega, fun hm => absurd (h _ hm) (by decide), fun hm => absurd (h _ hm) (by decide)⟩
theorem mem_repK {old : By} {c : UInt8} (hc : c ∉ old) : ∀ (k : Nat) (s : By), c ∈ s → c ∈ Lib.replaceK old [] k s
  | 0, s, h => h
  | k + 1, s, h => by
    rcases Lib.index_spec s old with ⟨h1, _⟩ | ⟨i, h1, h2, h3, _⟩
    · unfold Lib.replaceK
      rw [if_pos (by rw [h1]; rfl)]
      exact h
    · rw [Lib.replaceK_hit old [] k s i h1, List.append_nil]
      rw [← List.take_append_drop i s] at h
      rcases List.mem_append.1 h with h | h
      · exact List.mem_append.2 (.inl h)
      · refine List.mem_append.2 (.inr (mem_repK hc k _ ?_))
        unfold Lib.occAt at h3
        obtain ⟨t, ht⟩ := List.isPrefixOf_iff_prefix.1 h3
        rw [← ht] at h
        have e : s.drop (i + old.length) = t := by
          rw [← List.drop_drop, ← ht, List.drop_left]
        rw [e]
        rcases List.mem_append.1 h with h | h
        · exact absurd h hc
        · exact h
theorem fmt_fine {s : ByteArray} (h : fmtB s = true) : fine s.data.toList := by
  unfold fmtB at h
  simp only [Bool.and_eq_true, decide_eq_true_eq] at h
  obtain ⟨⟨h1, h2⟩, h3⟩ := h
  unfold allLet at h3
  rw [List.all_eq_true] at h3
  have key : ∀ c : UInt8, c ∉ pct → ltrB c.toNat = false → c ∉ s.data.toList := fun c hc hf hm => by
    have : c ∈ Lib.replace s.data.toList pct [] 1 := by
      unfold Lib.replace
      rw [if_neg (by decide)]
      exact mem_repK hc _ _ hm
    have := h3 c this
    rw [hf] at this
    cases this
  refine ⟨?_, key 32 (by decide) (by decide), key 10 (by decide) (by decide)⟩
  have := Lib.size_eq s
  omega
theorem rule_parts {r : Rl} (h : rchk r = 0) : bnd r = true ∧ chk r.k r.wk r.D = 0 ∧ letS r.s = true := by
  rcases rchk_cases r with ⟨_, h1⟩ | ⟨a, h'⟩
  · omega
  · rcases h' with ⟨h1, h2⟩ | ⟨b, h'⟩
    · omega
    · rcases h' with ⟨_, h2⟩ | ⟨c, _⟩
      · omega
      · exact ⟨a, b, c⟩
theorem chk_bd {k wk d : Int} (h : chk k wk d = 0) : 1 ≤ k ∧ k ≤ 3 ∧ 0 ≤ wk ∧ wk ≤ 6 ∧ 0 ≤ d ∧ d ≤ 31 := by
  unfold chk at h
  split at h
  · omega
  · split at h
    · omega
    · omega
theorem rule_num {r : Rl} (h : rchk r = 0) : Rl.numOk r := by
  obtain ⟨h1, h2, _⟩ := rule_parts h
  have a := bnd_of h1
  have b := chk_bd h2
  refine ⟨?_, ?_, ?_, ?_, ?_, ?_, ?_, ?_⟩ <;> (constructor <;> omega)
theorem un_hi {es : Nat → Er} : ∀ (d i n : Nat), i + d + 1 = n → (∀ j, j < n → frm es j < (es j).un) → frm es n = 1893456000 → (es i).un ≤ 1893456000
  | 0, i, n, hn, h, he => by
    subst hn
    have : frm es (i + 0 + 1) = (es i).un := rfl
    omega
  | d + 1, i, n, hn, h, he => by
    have h1 := un_hi d (i + 1) n (by omega) h he
    have h2 := h (i + 1) (by omega)
    have : frm es (i + 1) = (es i).un := rfl
    omega
theorem un_lo {es : Nat → Er} : ∀ (i n : Nat), i < n → (∀ j, j < n → frm es j < (es j).un) → 0 ≤ (es i).un
  | 0, n, hi, h => by
    have h1 := h 0 hi
    have : frm es 0 = 0 := rfl
    omega
  | i + 1, n, hi, h => by
    have h1 := un_lo i n (by omega) h
    have h2 := h (i + 1) hi
    have : frm es (i + 1) = (es i).un := rfl
    omega
theorem era_num {D : Dt} (h : chkE D = 0) {j i : Nat} (hj : j < D.nz) (hi : i < (D.zs j).n) : Er.numOk ((D.zs j).es i) := by
  have h1 := ebnd_of (chk_era h hj hi)
  obtain ⟨h2, h3⟩ := (chk_all h).2.2.1 j hj
  have h4 := un_hi ((D.zs j).n - i - 1) i (D.zs j).n (by omega) (fun k hk => (h2 k hk).2) h3
  have h5 := un_lo i (D.zs j).n hi (fun k hk => (h2 k hk).2)
  have h6 := (chk_all h).1.1.1
  refine ⟨?_, ?_, ?_, ?_⟩ <;> (constructor <;> omega)
theorem itoa_fine {n : Int} (h : (Wo.n n).ok) : fine (Lib.itoa n) := ⟨Lib.itoa_length_le n h.1 h.2, itoa_clean n⟩
/-- a line's words are fine, and few -/
def fineL (ws : List By) : Prop := ws ≠ [] ∧ ws.length ≤ 10 ∧ ∀ w ∈ ws, fine w
theorem fine_set : fine wSet := ⟨by decide, by decide, by decide⟩
theorem fine_rule : fine wRule := ⟨by decide, by decide, by decide⟩
theorem fine_zone : fine wZone := ⟨by decide, by decide, by decide⟩
theorem fine_era : fine wEra := ⟨by decide, by decide, by decide⟩
theorem fine_link : fine wLink := ⟨by decide, by decide, by decide⟩
theorem line_rule {r : Rl} (h : rchk r = 0) : fineL (lnRule Lib.itoa r) := by
  obtain ⟨h1, h2, h3, h4, h5, h6, h7, h8⟩ := rule_num h
  have hl := (rule_parts h).2.2
  unfold letS at hl
  simp only [Bool.and_eq_true, decide_eq_true_eq] at hl
  have hw : fine (letW r) := by
    unfold letW
    split
    · exact ⟨by decide, by decide, by decide⟩
    · exact let_fine hl.2 (by have := Lib.size_eq r.s; omega)
  refine ⟨by simp [lnRule], by simp [lnRule], ?_⟩
  intro w hw2
  simp only [lnRule, List.mem_cons, List.not_mem_nil, or_false] at hw2
  rcases hw2 with rfl | rfl | rfl | rfl | rfl | rfl | rfl | rfl | rfl | rfl
  · exact fine_rule
  · exact itoa_fine h1
  · exact itoa_fine h2
  · exact itoa_fine h3
  · exact itoa_fine h4
  · exact itoa_fine h5
  · exact itoa_fine h6
  · exact itoa_fine h7
  · exact itoa_fine h8
  · exact hw
theorem line_era {x : Er} (h : Er.numOk x) (hf : fmtB x.fm = true) : fineL (lnEra Lib.itoa x) := by
  obtain ⟨h1, h2, h3, h4⟩ := h
  refine ⟨by simp [lnEra], by simp [lnEra], ?_⟩
  intro w hw2
  simp only [lnEra, List.mem_cons, List.not_mem_nil, or_false] at hw2
  rcases hw2 with rfl | rfl | rfl | rfl | rfl | rfl
  · exact fine_era
  · exact itoa_fine h1
  · exact itoa_fine h2
  · exact itoa_fine h3
  · exact fmt_fine hf
  · exact itoa_fine h4
theorem line_two {a b : By} (ha : fine a) (hb : fine b) : fineL [a, b] := by
  refine ⟨by simp, by simp, ?_⟩
  intro w hw
  simp only [List.mem_cons, List.not_mem_nil, or_false] at hw
  rcases hw with rfl | rfl
  · exact ha
  · exact hb
theorem line_three {a b c : By} (ha : fine a) (hb : fine b) (hc : fine c) : fineL [a, b, c] := by
  refine ⟨by simp, by simp, ?_⟩
  intro w hw
  simp only [List.mem_cons, List.not_mem_nil, or_false] at hw
  rcases hw with rfl | rfl | rfl
  · exact ha
  · exact hb
  · exact hc
theorem name_set {D : Dt} (h : chkE D = 0) {j : Nat} (hj : j < D.ns) : nameB (D.ss j).nm = true := chk_names h _ (catL_in (n := n4 D) (f := f4 D) (k := 4) (i := 0) (j := j) (by omega) hj)
theorem name_zone {D : Dt} (h : chkE D = 0) {j : Nat} (hj : j < D.nz) : nameB (D.zs j).nm = true := chk_names h _ (catL_in (n := n4 D) (f := f4 D) (k := 4) (i := 1) (j := j) (by omega) hj)
theorem name_link {D : Dt} (h : chkE D = 0) {j : Nat} (hj : j < D.nl) : nameB (D.ls j).nm = true := chk_names h _ (catL_in (n := n4 D) (f := f4 D) (k := 4) (i := 2) (j := j) (by omega) hj)
theorem name_to {D : Dt} (h : chkE D = 0) {j : Nat} (hj : j < D.nl) : nameB (D.ls j).tgt = true := chk_names h _ (catL_in (n := n4 D) (f := f4 D) (k := 4) (i := 3) (j := j) (by omega) hj)
theorem lines_fine {D : Dt} (h : chkE D = 0) : ∀ ws ∈ lnAll Lib.itoa (pdOf D), fineL ws := by
  intro ws hw
  unfold lnAll pdOf at hw
  rcases List.mem_append.1 hw with hw | hw
  · obtain ⟨s, hs, hw⟩ := List.mem_flatMap.1 hw
    obtain ⟨j, hj, rfl⟩ := List.mem_map.1 hs
    have hj := List.mem_range.1 hj
    unfold lnSet at hw
    rcases List.mem_cons.1 hw with rfl | hw
    · exact line_two fine_set (name_fine (name_set h hj))
    · obtain ⟨r, hr, rfl⟩ := List.mem_map.1 hw
      obtain ⟨i, hi, rfl⟩ := List.mem_map.1 hr
      exact line_rule (chk_rule h hj (List.mem_range.1 hi))
  · rcases List.mem_append.1 hw with hw | hw
    · obtain ⟨s, hs, hw⟩ := List.mem_flatMap.1 hw
      obtain ⟨j, hj, rfl⟩ := List.mem_map.1 hs
      have hj := List.mem_range.1 hj
      unfold lnZone at hw
      rcases List.mem_cons.1 hw with rfl | hw
      · exact line_two fine_zone (name_fine (name_zone h hj))
      · obtain ⟨r, hr, rfl⟩ := List.mem_map.1 hw
        obtain ⟨i, hi, rfl⟩ := List.mem_map.1 hr
        exact line_era (era_num h hj (List.mem_range.1 hi)) ((chk_all h).2.2.2 j hj i (List.mem_range.1 hi))
    · obtain ⟨l, hl, rfl⟩ := List.mem_map.1 hw
      obtain ⟨j, hj, rfl⟩ := List.mem_map.1 hl
      have hj := List.mem_range.1 hj
      exact line_three fine_link (name_fine (name_link h hj)) (name_fine (name_to h hj))
theorem join_len : ∀ (ws : List By), (∀ w ∈ ws, w.length ≤ 21) → (joinW ws).length ≤ ws.length * 22
  | [], _ => by simp [joinW]
  | [w], h => by
    have := h w (by simp)
    simp [joinW]
    omega
  | w :: v :: ws, h => by
    have h1 := h w (by simp)
    have h2 := join_len (v :: ws) (fun x hx => h x (List.mem_cons_of_mem _ hx))
    unfold joinW
    simp only [List.length_append, List.length_cons] at h2 ⊢
    omega
theorem lines_len {n : Nat} : ∀ (ls : List By), (∀ l ∈ ls, l.length ≤ n) → (linesB ls).length ≤ ls.length * (n + 1)
  | [], _ => by simp [linesB]
  | l :: ls, h => by
    have h1 := h l (by simp)
    have h2 := lines_len ls (fun x hx => h x (List.mem_cons_of_mem _ hx))
    have e : linesB (l :: ls) = l ++ [10] ++ linesB ls := by simp [linesB]
    have e2 : (l :: ls).length * (n + 1) = ls.length * (n + 1) + (n + 1) := by rw [List.length_cons, Nat.succ_mul]
    rw [e, e2, List.length_append, List.length_append]
    simp only [List.length_cons, List.length_nil]
    omega
theorem flat_len {α β : Type} {f : α → List β} {m : Nat} : ∀ (l : List α), (∀ x ∈ l, (f x).length ≤ m) → (l.flatMap f).length ≤ l.length * m
  | [], _ => by simp
  | x :: l, h => by
    have h1 := h x (by simp)
    have h2 := flat_len l (fun y hy => h y (List.mem_cons_of_mem _ hy))
    rw [List.flatMap_cons, List.length_append, List.length_cons, Nat.succ_mul]
    omega
theorem show_len {D : Dt} (h : chkE D = 0) : (showD D).length ≤ 1000000 := by
  rw [show_eq]
  unfold showP
  have h1 := lines_len (n := 220) ((lnAll Lib.itoa (pdOf D)).map joinW) (fun l hl => by
    obtain ⟨ws, hw, rfl⟩ := List.mem_map.1 hl
    have hf := lines_fine h ws hw
    have := join_len ws (fun w hw => (hf.2.2 w hw).1)
    have := hf.2.1
    omega)
  rw [List.length_map] at h1
  have hc := (chk_all h).1
  have h2 : (lnAll Lib.itoa (pdOf D)).length ≤ 3 * 5 + (5 * 5 + 4) := by
    unfold lnAll
    rw [List.length_append, List.length_append, List.length_map]
    have a := flat_len (f := lnSet Lib.itoa) (m := 5) (pdOf D).sets (fun s hs => by
      obtain ⟨j, hj, rfl⟩ := List.mem_map.1 hs
      have := hc.2.1 j (List.mem_range.1 hj)
      simp [lnSet]
      omega)
    have b := flat_len (f := lnZone Lib.itoa) (m := 5) (pdOf D).zones (fun s hs => by
      obtain ⟨j, hj, rfl⟩ := List.mem_map.1 hs
      have := hc.2.2 j (List.mem_range.1 hj)
      simp [lnZone]
      omega)
    have c1 : (pdOf D).sets.length = D.ns := by simp [pdOf]
    have c2 : (pdOf D).zones.length = D.nz := by simp [pdOf]
    have c3 : (pdOf D).links.length = D.nl := by simp [pdOf]
    rw [c1] at a
    rw [c2] at b
    rw [c3]
    have := hc.1
    omega
  omega
theorem sh_ok {D : Dt} (h : chkE D = 0) : ShOk D := by
  have hc := (chk_all h).1
  exact ⟨by have := hc.1; omega, by have := hc.1; omega, by have := hc.1; omega, fun j hj => by have := hc.2.1 j hj; omega, fun j hj => by have := hc.2.2 j hj; omega, fun j hj i hi => rule_num (chk_rule h hj hi), fun j hj i hi => era_num h hj hi, show_len h⟩
/-- what right data are shown as is read as it was -/
theorem back_D {D : Dt} (h : chkE D = 0) : guessP numA (showD D) = pdOf D := by
  rw [show_eq]
  refine guess_show ⟨fun s hs r hr => ?_, fun z hz x hx => ?_⟩ (fun ws hw => ?_)
  · obtain ⟨j, hj, rfl⟩ := List.mem_map.1 hs
    obtain ⟨i, hi, rfl⟩ := List.mem_map.1 hr
    have hr0 := chk_rule h (List.mem_range.1 hj) (List.mem_range.1 hi)
    obtain ⟨h1, h2, h3, h4, h5, h6, h7, h8⟩ := rule_num hr0
    refine ⟨num_itoa h1, num_itoa h2, num_itoa h3, num_itoa h4, num_itoa h5, num_itoa h6, num_itoa h7, num_itoa h8, fun e => ?_⟩
    have hl := (rule_parts hr0).2.2
    unfold letS allLet at hl
    rw [e] at hl
    simp only [Bool.and_eq_true, decide_eq_true_eq] at hl
    exact absurd hl.2 (by decide)
  · obtain ⟨j, hj, rfl⟩ := List.mem_map.1 hz
    obtain ⟨i, hi, rfl⟩ := List.mem_map.1 hx
    obtain ⟨h1, h2, h3, h4⟩ := era_num h (List.mem_range.1 hj) (List.mem_range.1 hi)
    exact ⟨num_itoa h1, num_itoa h2, num_itoa h3, num_itoa h4⟩
  · have := lines_fine h ws hw
    exact ⟨this.1, fun w hw => (this.2.2 w hw).2⟩
end Go.Proofs.YtbpdbggojgijiaaGreatDoor.Src
