/- What is taken of a line: words, numbers. -/
import Derived.Lib.AtoiErrMem
import Derived.Lib.AtoiAllCases
import Derived.Lib.IndexLaws
import Derived.Shelf.Strings.Cut
import Derived.Test.YtbpdbggojgijiaaGreatDoorSourceF
namespace Go.Proofs.YtbpdbggojgijiaaGreatDoor.Src
open Go Go.RowKit
set_option linter.unusedVariables false

theorem gErrS : Tryz.prog.globalNamed "strconv.ErrSyntax" = some 7 := by kernel_rfl
theorem gErrR : Tryz.prog.globalNamed "strconv.ErrRange" = some 8 := by kernel_rfl
/-- the variables of strconv's errors hold something -/
def EVs (w : World) : Prop := (∃ tp p, w.var? Tryz.prog "strconv.ErrSyntax" = some #[.iface tp p]) ∧ (∃ tp p, w.var? Tryz.prog "strconv.ErrRange" = some #[.iface tp p]) ∧ Mx w
theorem varS_on {w w' : World} {n : String} {g : Nat} {cs : Array Value} (hg : Tryz.prog.globalNamed n = some g) (hv : w.var? Tryz.prog n = some cs) (hb : Below w.heap.size w w') : w'.var? Tryz.prog n = some cs := by
  refine var?_below hb hg ?_ hv
  unfold World.var? at hv
  rw [hg] at hv
  simp only [Option.bind_some] at hv
  rcases Nat.lt_or_ge g w.heap.size with h | h
  · exact h
  · rw [Array.getElem?_eq_none h] at hv; cases hv
theorem EVs.on {w w' : World} (h : EVs w) (hb : Below w.heap.size w w') : EVs w' := by
  obtain ⟨⟨t1, p1, a1⟩, ⟨t2, p2, a2⟩, hm⟩ := h
  exact ⟨⟨t1, p1, varS_on gErrS a1 hb⟩, ⟨t2, p2, varS_on gErrR a2 hb⟩, hm.on hb⟩
/-- the number that Atoi tells beside whatever error -/
def numA (l : By) : Int := match Lib.atoiAll l with
  | .ok v => v
  | .range => Lib.atoiSat l
  | _ => 0
theorem atoiS_c (s : ByteArray) (w : World) (hE : EVs w) (hs : s.size ≤ 281474976710656) : Calls Tryz.prog 107 #[.string s] w fun e w' => ∃ x, e = .returned (.tuple #[.int .i64 (numA s.data.toList), x]) ∧ Below w.heap.size w w' := by
  obtain ⟨⟨t1, p1, a1⟩, ⟨t2, p2, a2⟩, _⟩ := hE
  rcases h : Lib.atoiAll s.data.toList with v | _ | _
  · refine (Tryz.strconv_Atoi_ok s (by omega) v h w).mono ?_
    rintro e w' ⟨rfl, hw⟩
    refine ⟨.nilIface, by unfold numA; rw [h], ?_⟩
    rcases hw with rfl | ⟨t, rfl⟩
    · exact Below.refl _ _
    · exact Lib.bytesWorld_below _ _ _
  · refine (Tryz.strconv_Atoi_syntax_var s hs h t1 p1 w a1).mono ?_
    rintro e w' ⟨N, rfl, _, _, hw⟩
    exact ⟨_, by unfold numA; rw [h], hw⟩
  · refine (Tryz.strconv_Atoi_range_var s hs h t2 p2 w a2).mono ?_
    rintro e w' ⟨N, rfl, _, _, hw⟩
    exact ⟨_, by unfold numA; rw [h], hw⟩
/-- a line's first word, and what is behind it -/
def hdW (l : By) : By := (Lib.cut l [32]).1
def tlW (l : By) : By := (Lib.cut l [32]).2.1
theorem cut32_c (l : By) (w : World) (hM : Mx w) (hs : l.length < 4294967281) : Calls Tryz.prog 89 #[.string ⟨l.toArray⟩, .string ⟨#[32]⟩] w fun e w' => ∃ b, e = .returned (.tuple #[.string ⟨(hdW l).toArray⟩, .string ⟨(tlW l).toArray⟩, .bool b]) ∧ ∃ n, w' = w.drewN n := by
  obtain ⟨m, hm⟩ := hM
  refine (Any.strings_Cut { Tryz.laysM145 with } ⟨l.toArray⟩ ⟨#[32]⟩ m w (by show l.toArray.size < _; simpa using hs) hm).mono ?_
  rintro e w' ⟨rfl, hw⟩
  exact ⟨_, rfl, hw⟩
theorem tlW_len (l : By) : (tlW l).length ≤ l.length := by
  unfold tlW Lib.cut
  split
  · simp
  · simp
/-- all blocks that there were are as they were, but for one -/
structure Bq (q : Nat) (w w' : World) : Prop where
  os : w'.os = w.os
  tape : w'.tape = w.tape
  output : w'.output = w.output
  size : w.heap.size ≤ w'.heap.size
  block : ∀ k, k < w.heap.size → k ≠ q → w'.heap[k]? = w.heap[k]?
theorem Bq.trans {q : Nat} {a b c : World} (h : Bq q a b) (k : Bq q b c) : Bq q a c :=
  ⟨k.os.trans h.os, k.tape.trans h.tape, k.output.trans h.output, Nat.le_trans h.size k.size, fun i hi hq => (k.block i (Nat.lt_of_lt_of_le hi h.size) hq).trans (h.block i hi hq)⟩
theorem Bq.refl (q : Nat) (w : World) : Bq q w w := ⟨rfl, rfl, rfl, Nat.le_refl _, fun _ _ _ => rfl⟩
theorem bq_on (q : Nat) {w w' : World} (h : Below w.heap.size w w') : Bq q w w' := ⟨h.os, h.tape, h.output, h.size, fun k hk _ => h.block k hk⟩
theorem Bq.below {q B : Nat} {w w' : World} (h : Bq q w w') (hB : B ≤ q) (hw : B ≤ w.heap.size) : Below B w w' := ⟨h.os, h.tape, h.output, h.size, fun k hk => h.block k (by omega) (by omega)⟩
theorem bq_set {q o : Nat} {w : World} (u : Value) : Bq q w (w.setCell ⟨q, o, none⟩ u) := by
  have h := (Below.refl q w).setCell (p := ⟨q, o, none⟩) (Nat.le_refl _) u
  exact ⟨h.os, h.tape, h.output, h.size, fun k _ hk => heap_setCell_other w ⟨q, o, none⟩ k u hk⟩
/-- what is not taken yet -/
def RsA (q : Nat) (l : By) (w : World) : Prop := w.heap[q]? = some (.cells #[.string ⟨l.toArray⟩] 96)
theorem RsA.on {q : Nat} {l : By} {w w' : World} (h : RsA q l w) (hb : Below w.heap.size w w') : RsA q l w' := heap_on h hb
theorem rsA_set {q : Nat} {l m : By} {w : World} (h : RsA q l w) : RsA q m (w.setCell ⟨q, 0, none⟩ (.string ⟨m.toArray⟩)) := by
  unfold RsA at *
  simp [World.setCell, Array.getElem?_modify, h]
set_option maxHeartbeats 2000000 in
set_option maxRecDepth 100000 in
theorem rtext_c (q : Nat) (l : By) (w : World) (h : RsA q l w) (hM : Mx w) (hs : l.length < 4294967281) :
    Calls Tryz.prog 71 #[.pointer (some ⟨q, 0, none⟩)] w fun e w' => e = .returned (.string ⟨(hdW l).toArray⟩) ∧ RsA q (tlW l) w' ∧ Bq q w w' := by
  have c0 : w.cell? ⟨q, 0, none⟩ = some (.string ⟨l.toArray⟩) := by rw [Lib.cell_of_heap h]; rfl
  have HC := hideS (cut32_c l w hM hs)
  have HR := hideS h
  clear hM h
  go_enter Tryz.func71, Tryz.ntmps71
  go_wp2_with (go_at_call 89; refine HC.out.mono ?_; rintro e w1 ⟨bb, rfl, n, rfl⟩; have f0 : (w.drewN n).frozen? ⟨q, 0, none⟩ = false := Lib.frozen_of_heap HR.out 0)
  go_ret
  exact ⟨rfl, rsA_set (w := w.drewN n) HR.out, Bq.trans (b := w.drewN n) ⟨rfl, rfl, rfl, Nat.le_refl _, fun _ _ _ => rfl⟩ (bq_set _)⟩
theorem hdW_len (l : By) : (hdW l).length ≤ l.length := by
  unfold hdW Lib.cut
  split
  · simp; omega
  · simp
set_option maxHeartbeats 2000000 in
set_option maxRecDepth 100000 in
theorem rnum_c (B q : Nat) (l : By) (w : World) (h : RsA q l w) (hX : ∀ v : World, Below B w v → EVs v) (hB : B ≤ q) (hs : l.length < 4294967281) :
    Calls Tryz.prog 90 #[.pointer (some ⟨q, 0, none⟩)] w fun e w' => e = .returned (.int .i64 (numA (hdW l))) ∧ RsA q (tlW l) w' ∧ Bq q w w' := by
  have hq : q < w.heap.size := (Array.getElem?_eq_some_iff.1 h).1
  have HC := hideS (rtext_c q l w h (hX w (Below.refl _ _)).2.2 hs)
  have HX := hideS hX
  have hl := hdW_len l
  have HA : Hid (∀ v : World, EVs v → Calls Tryz.prog 107 #[.string ⟨(hdW l).toArray⟩] v fun e w' => ∃ x, e = .returned (.tuple #[.int .i64 (numA (hdW l)), x]) ∧ Below v.heap.size v w') := fun v hv => atoiS_c ⟨(hdW l).toArray⟩ v hv (by show (hdW l).toArray.size ≤ _; simp; omega)
  clear hX h
  go_enter Tryz.func90, Tryz.ntmps90
  go_wp2_with (first
    | (go_at_call 71; refine HC.out.mono ?_; rintro e w1 ⟨rfl, r1, b1⟩; have R1 := hideS r1; have B1 := hideS b1; clear r1 b1)
    | (go_at_call 107; refine (HA.out _ (HX.out _ (B1.out.below hB (by omega)))).mono ?_; rintro e w2 ⟨x, rfl, b2⟩))
  go_ret
  exact ⟨rfl, R1.out.on b2, B1.out.trans (bq_on q b2)⟩
end Go.Proofs.YtbpdbggojgijiaaGreatDoor.Src
