/- How a world (data, uses, books) that is handed in lies in memory. -/
import Derived.Test.YtfjjdicgekgbeaaGreatDoorOpenAll
import Derived.Test.YtfjjdicgekgbeaaGreatDoorNamesAAll
import Derived.Test.YtfjjdicgekgbeaaGreatDoorOffsAAll
import Derived.Stop.LaidErr
namespace Go.Proofs.YtfjjdicgekgbeaaGreatDoor
open Go Go.ChangeShapes Go.WideShapes Go.ChangeAt Go.RowKit Go.Deep
set_option maxRecDepth 100000
set_option linter.unusedVariables false
set_option linter.unnecessarySimpa false

theorem cellsPairN : Tryz.prog.cellsOf 89 = 2 := by kernel_rfl
theorem cellsBookN : Tryz.prog.cellsOf 87 = 3 := by kernel_rfl
theorem cellsPairsN : Tryz.prog.cellsOf 85 = 1 := by kernel_rfl
theorem cellsUsesN : Tryz.prog.cellsOf 27 = 1 := by kernel_rfl
theorem cellsBooksN : Tryz.prog.cellsOf 28 = 1 := by kernel_rfl
theorem cellsWorldN : Tryz.prog.cellsOf 30 = 5 := by kernel_rfl
variable {H : Type} {enc : TypeId × Value → H} {w : World} {sp : Nat → Bool} {hd : Bool}
theorem pair_ofN {fuel : Nat} {cs : List Value} {y : DataW H × List MemPlace} (h : DataW.trod enc Tryz.prog w 0 sp hd fuel 89 cs = some y) : ∃ x : ByteArray × ByteArray, cs = [.string x.1, .string x.2] ∧ x.1.size ≤ maxLen ∧ x.2.size ≤ maxLen := by
  obtain ⟨y0, y1, n, _, hl, f0, f1⟩ := trod_struct2 Tryz.underlying89 h
  rw [cellsPairN] at hl
  match cs, hl with
  | [c0, c1], _ =>
    have f0' : DataW.trod enc Tryz.prog w 0 sp hd n 9 [c0] = some y0 := by simpa [cellsStrU] using f0
    have f1' : DataW.trod enc Tryz.prog w 0 sp hd n 9 [c1] = some y1 := by simpa [cellsStrU] using f1
    obtain ⟨s, g0, _, hs⟩ := DataW.trod_string Tryz.underlying9 f0'
    obtain ⟨t, g1, _, ht⟩ := DataW.trod_string Tryz.underlying9 f1'
    simp at g0 g1
    exact ⟨(s, t), by simp [g0, g1], hs, ht⟩
theorem book_ofN {fuel : Nat} {cs : List Value} {y : DataW H × List MemPlace} (h : DataW.trod enc Tryz.prog w 0 sp hd fuel 87 cs = some y) : ∃ x : Bk, cs = [.string x.lc, .int .i64 x.pa, x.sl] ∧ x.row w ∧ x.fits := by
  obtain ⟨y0, y1, y2, n, _, hl, f0, f1, f2⟩ := trod_struct3 Tryz.underlying87 h
  rw [cellsBookN] at hl
  match cs, hl with
  | [c0, c1, c2], _ =>
    have f0' : DataW.trod enc Tryz.prog w 0 sp hd n 9 [c0] = some y0 := by simpa [cellsStrU] using f0
    have f1' : DataW.trod enc Tryz.prog w 0 sp hd n 3 [c1] = some y1 := by simpa [cellsIntU] using f1
    have f2' : DataW.trod enc Tryz.prog w 0 sp hd n 85 [c2] = some y2 := by simpa [cellsPairsN] using f2
    obtain ⟨s, g0, _, hs⟩ := DataW.trod_string Tryz.underlying9 f0'
    obtain ⟨p, g1, _, hp⟩ := DataW.trod_int Tryz.underlying3 f1'
    obtain ⟨a, m, cap, g2, hm, _, hr⟩ := slice_ofU Tryz.underlying85 cellsPairN (by omega) f2'
    simp at g0 g1 g2
    have hpb := bounds_i64 hp
    rcases hr with rfl | ⟨b, off, rfl, k, hj⟩
    · exact ⟨⟨s, p, a, 0, cap, fun _ => ⟨#[]⟩, fun _ => ⟨#[]⟩⟩, by simp [g0, g1, g2], .inl rfl, ⟨hs, hm, fun i hi => absurd hi (Nat.not_lt_zero _), fun i hi => absurd hi (Nat.not_lt_zero _), hpb⟩⟩
    · obtain ⟨xs, hxs⟩ := choose_lt (α := ByteArray × ByteArray) (n := m) (p := fun j x => (w.cell? ⟨b, off + j * 2, none⟩ = some (.string x.1) ∧ w.cell? ⟨b, off + j * 2 + 1, none⟩ = some (.string x.2)) ∧ x.1.size ≤ maxLen ∧ x.2.size ≤ maxLen) (fun j hlt => by
        obtain ⟨cs', y', hlen, hcell, ht⟩ := hj j hlt
        obtain ⟨x, rfl, hx⟩ := pair_ofN ht
        exact ⟨x, ⟨by simpa using hcell 0 (by omega), by simpa using hcell 1 (by omega)⟩, hx⟩)
      exact ⟨⟨s, p, some ⟨b, off, none⟩, m, cap, fun i => (xs i).1, fun i => (xs i).2⟩, by simp [g0, g1, g2], .inr ⟨b, off, rfl, fun j hlt => (hxs j hlt).1⟩, ⟨hs, hm, fun i hi => (hxs i hi).2.1, fun i hi => (hxs i hi).2.2, hpb⟩⟩
theorem books_ofN {fuel : Nat} {cs : List Value} {y : DataW H × List MemPlace} (h : DataW.trod enc Tryz.prog w 0 sp hd fuel 28 cs = some y) : ∃ (a : Option Addr) (n c : Nat) (bs : Nat → Bk), cs = [.slice a n c] ∧ n ≤ maxLen ∧ n ≤ c ∧ BAt w a n bs ∧ ∀ j, j < n → (bs j).fits := by
  obtain ⟨a, m, cap, e, hm, hc, hr⟩ := slice_ofU Tryz.underlying28 cellsBookN (by omega) h
  rcases hr with rfl | ⟨b, off, rfl, k, hj⟩
  · exact ⟨a, 0, cap, fun _ => ⟨⟨#[]⟩, 0, none, 0, 0, fun _ => ⟨#[]⟩, fun _ => ⟨#[]⟩⟩, e, hm, hc, ⟨.inl rfl, fun j hj => absurd hj (Nat.not_lt_zero _)⟩, fun j hj => absurd hj (Nat.not_lt_zero _)⟩
  · haveI : Inhabited Bk := ⟨⟨⟨#[]⟩, 0, none, 0, 0, fun _ => ⟨#[]⟩, fun _ => ⟨#[]⟩⟩⟩
    obtain ⟨xs, hxs⟩ := choose_lt (α := Bk) (n := m) (p := fun j x => (w.cell? ⟨b, off + j * 3, none⟩ = some (.string x.lc) ∧ w.cell? ⟨b, off + j * 3 + 1, none⟩ = some (.int .i64 x.pa) ∧ w.cell? ⟨b, off + j * 3 + 2, none⟩ = some x.sl) ∧ x.row w ∧ x.fits) (fun j hlt => by
      obtain ⟨cs', y', hlen, hcell, ht⟩ := hj j hlt
      obtain ⟨x, rfl, hx⟩ := book_ofN ht
      exact ⟨x, ⟨by simpa using hcell 0 (by omega), by simpa using hcell 1 (by omega), by simpa using hcell 2 (by omega)⟩, hx⟩)
    exact ⟨_, m, cap, xs, e, hm, hc, ⟨.inr ⟨b, off, rfl, fun j hlt => (hxs j hlt).1⟩, fun j hlt => (hxs j hlt).2.1⟩, fun j hlt => (hxs j hlt).2.2⟩
theorem uses_ofN {fuel : Nat} {cs : List Value} {y : DataW H × List MemPlace} (h : DataW.trod enc Tryz.prog w 0 sp hd fuel 27 cs = some y) : ∃ (a : Option Addr) (n c : Nat) (us : Nat → Us), cs = [.slice a n c] ∧ n ≤ maxLen ∧ n ≤ c ∧ UAt w a n us ∧ ∀ j, j < n → (us j).fits := by
  obtain ⟨a, m, cap, e, hm, hc, hr⟩ := slice_ofU Tryz.underlying27 cellsUse (by omega) h
  rcases hr with rfl | ⟨b, off, rfl, k, hj⟩
  · exact ⟨a, 0, cap, fun _ => ⟨⟨#[]⟩, 0, 0, ⟨#[]⟩⟩, e, hm, hc, .inl rfl, fun j hj => absurd hj (Nat.not_lt_zero _)⟩
  · haveI : Inhabited Us := ⟨⟨⟨#[]⟩, 0, 0, ⟨#[]⟩⟩⟩
    obtain ⟨xs, hxs⟩ := choose_lt (α := Us) (n := m) (p := fun j x => (w.cell? ⟨b, off + j * 4, none⟩ = some (.string x.zn) ∧ w.cell? ⟨b, off + j * 4 + 1, none⟩ = some (.int .i64 x.fr) ∧ w.cell? ⟨b, off + j * 4 + 2, none⟩ = some (.int .i64 x.to) ∧ w.cell? ⟨b, off + j * 4 + 3, none⟩ = some (.string x.mt)) ∧ x.fits) (fun j hlt => by
      obtain ⟨cs', y', hlen, hcell, ht⟩ := hj j hlt
      obtain ⟨x, rfl, hx⟩ := use_of ht
      exact ⟨x, ⟨by simpa using hcell 0 (by omega), by simpa using hcell 1 (by omega), by simpa using hcell 2 (by omega), by simpa using hcell 3 (by omega)⟩, hx⟩)
    exact ⟨_, m, cap, xs, e, hm, hc, .inr ⟨b, off, rfl, fun j hlt => (hxs j hlt).1⟩, fun j hlt => (hxs j hlt).2⟩
/-- a world that is handed in -/
theorem open_world {r0 : Reach} {b0 : Nat} {v : Value} {d : DataW H} {p : List MemPlace}
    (hv : Value.okWide Tryz.prog w r0 b0 30 v) (h : DataW.Trod enc Tryz.prog w 0 sp hd 30 v d p) (hL : Laid w) (hM : Mx w) : ∃ X : Wd, v = X.v ∧ NEnv w X := by
  obtain ⟨cs, rfl, _⟩ := okWide_struct Tryz.underlying30 hv
  obtain ⟨fuel, hf⟩ := h
  obtain ⟨y0, y1, y2, n, _, hl, f0, f1, f2⟩ := trod_struct3 Tryz.underlying30 hf
  rw [cellsWorldN] at hl
  obtain ⟨l, hl'⟩ : ∃ l, l = (Value.agg cs).cells.toList := ⟨_, rfl⟩
  rw [← hl'] at hl f0 f1 f2
  clear hf
  match l, hl, hl', f0, f1, f2 with
  | [c0, c1, c2, c3, c4], _, hl', f0, f1, f2 =>
    have f0' : DataW.trod enc Tryz.prog w 0 sp hd n 26 [c0, c1, c2] = some y0 := by simpa [cellsData, cellsUsesN, cellsBooksN] using f0
    have f1' : DataW.trod enc Tryz.prog w 0 sp hd n 27 [c3] = some y1 := by simpa [cellsData, cellsUsesN, cellsBooksN] using f1
    have f2' : DataW.trod enc Tryz.prog w 0 sp hd n 28 [c4] = some y2 := by simpa [cellsData, cellsUsesN, cellsBooksN] using f2
    obtain ⟨D, g0, hD, hF⟩ := data_of_trod f0'
    obtain ⟨ua, un, uc, us, g1, hu1, hu2, hU, hUf⟩ := uses_ofN f1'
    obtain ⟨ba, bn, bc, bs, g2, hb1, hb2, hB, hBf⟩ := books_ofN f2'
    simp at g0 g1 g2
    refine ⟨⟨D, ua, un, uc, us, ba, bn, bc, bs⟩, ?_, ⟨⟨⟨hL, hM, hD⟩, hF, hu1, hu2, hU, hUf⟩, hb1, hb2, hB, hBf⟩⟩
    have e1 : cs.toList = [c0, c1, c2, c3, c4] := by simpa [Value.cells] using hl'.symm
    have e : cs = #[c0, c1, c2, c3, c4] := by cases cs; simpa using e1
    rw [e, g0.1, g0.2.1, g0.2.2, g1, g2]
end Go.Proofs.YtfjjdicgekgbeaaGreatDoor

/- What the tied tables and variables give the walks over worlds. -/
namespace Go.Proofs.YtfjjdicgekgbeaaGreatDoor
open Go Go.ChangeShapes Go.WideShapes Go.ChangeAt Go.WideMaps Go.WideElems Go.RowKit
set_option maxRecDepth 100000

abbrev laid6 : List (String × DataW Unit) := [("gnomon/days.monthDays", Rows.laid_gnomon_days_monthDays), ("math/bits.deBruijn32tab", Rows.laid_math_bits_deBruijn32tab), ("math/bits.deBruijn64tab", Rows.laid_math_bits_deBruijn64tab), ("internal/strconv.uint64pow10", Rows.laid_internal_strconv_uint64pow10), ("unicode/utf8.acceptRanges", Rows.laid_unicode_utf8_acceptRanges), ("unicode/utf8.first", Rows.laid_unicode_utf8_first)]
theorem all_met6 (os : Os) (args : Array Value) : laidMetH Tryz.prog laid6 ((World.laidAll Tryz.prog os laid6).forCall (fun _ _ => 0) ⟨#[], args, []⟩).memory := by
  rw [MakeChecks.laidMetH_plain _ _ _ (by kernel_rfl)]
  exact laidMet_laidAll _ (by kernel_rfl) (by kernel_rfl)
theorem all_shaped6 (os : Os) : (World.laidAll Tryz.prog os laid6).Shaped Tryz.prog := World.shaped_of_ZipB (by kernel_rfl) (by kernel_rfl)
theorem of_laid6 {W : World} (h : laidMetH Tryz.prog laid6 W) : Laid W := by
  rw [MakeChecks.laidMetH_plain _ _ _ (by kernel_rfl)] at h
  exact laid_head h
end Go.Proofs.YtfjjdicgekgbeaaGreatDoor
