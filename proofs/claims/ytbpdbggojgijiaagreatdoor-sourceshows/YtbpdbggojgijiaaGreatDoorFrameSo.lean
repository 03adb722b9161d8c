/- What the tied tables and variables give the walks over zones as text. -/
import Derived.Test.YtbpdbggojgijiaaGreatDoorOpenAll
import Derived.Test.YtbpdbggojgijiaaGreatDoorSourceUAll
import Derived.Stop.LaidErr
import Derived.Lib.LaidTab
namespace Go.Proofs.YtbpdbggojgijiaaGreatDoor
open Go Go.ChangeShapes Go.WideShapes Go.ChangeAt Go.WideMaps Go.WideElems Go.RowKit
set_option maxRecDepth 100000

abbrev laid8 : List (String × DataW Unit) := [("gnomon/days.monthDays", Rows.laid_gnomon_days_monthDays), ("math/bits.deBruijn32tab", Rows.laid_math_bits_deBruijn32tab), ("math/bits.deBruijn64tab", Rows.laid_math_bits_deBruijn64tab), ("internal/strconv.uint64pow10", Rows.laid_internal_strconv_uint64pow10), ("unicode/utf8.acceptRanges", Rows.laid_unicode_utf8_acceptRanges), ("strconv.ErrRange", Rows.laid_strconv_ErrRange), ("strconv.ErrSyntax", Rows.laid_strconv_ErrSyntax), ("unicode/utf8.first", Rows.laid_unicode_utf8_first)]
theorem all_met8 (os : Os) (args : Array Value) : laidMetH Tryz.prog laid8 ((World.laidAll Tryz.prog os laid8).forCall (fun _ _ => 0) ⟨#[], args, []⟩).memory := by
  rw [MakeChecks.laidMetH_plain _ _ _ (by kernel_rfl)]
  exact laidMet_laidAll _ (by kernel_rfl) (by kernel_rfl)
theorem all_shaped8 (os : Os) : (World.laidAll Tryz.prog os laid8).Shaped Tryz.prog := World.shaped_of_ZipB (by kernel_rfl) (by kernel_rfl)
theorem of_laid8 {W : World} (h : laidMetH Tryz.prog laid8 W) : Laid W := by
  rw [MakeChecks.laidMetH_plain _ _ _ (by kernel_rfl)] at h
  exact laid_head h
theorem typS : (Tryz.prog.globals[7]?).map (·.type) = some 82 := by kernel_rfl
theorem typR : (Tryz.prog.globals[8]?).map (·.type) = some 82 := by kernel_rfl
theorem cellsErrS : Tryz.prog.cellsOf 183 = 1 := by kernel_rfl
theorem cellsTxtS : Tryz.prog.cellsOf 9 = 1 := by kernel_rfl
theorem starS : "*" ++ "errors.errorString" = "*errors.errorString" := by decide
theorem rowS (u : TypeId) (h : Tryz.prog.typeName? 3 u = some "*errors.errorString") : u = 181 :=
  typeName_ptr_named (nm := "errors.errorString") (by rw [starS]; kernel_rfl) (by kernel_rfl) (by decide) u (by rw [starS]; exact h)
theorem SrE_of8 {W : World} (h : laidMetH Tryz.prog laid8 W) (hS : W.ShapedOpen Tryz.prog) : Src.SrE W := by
  have hl := of_laid8 h
  rw [MakeChecks.laidMetH_plain _ _ _ (by kernel_rfl)] at h
  have h3 := h.tail.tail.tail
  have h5 := h3.tail.tail
  obtain ⟨a1, s1, hv1, -, -, -⟩ := laid_sentinel h5 Src.gErrR typR Tryz.underlying82 rowS Tryz.underlying181 Tryz.underlying183 rfl rfl Tryz.underlying9 cellsErrS cellsTxtS
  obtain ⟨a0, s0, hv0, -, -, -⟩ := laid_sentinel h5.tail Src.gErrS typS Tryz.underlying82 rowS Tryz.underlying181 Tryz.underlying183 rfl rfl Tryz.underlying9 cellsErrS cellsTxtS
  refine ⟨hl, ⟨⟨_, _, hv0⟩, ⟨_, _, hv1⟩, of_shape hS⟩, ?_⟩
  exact Lib.tabIs_of_head Src.gTab (by kernel_rfl) Tryz.underlying151 Tryz.underlying140 (by kernel_rfl) (by kernel_rfl) h3
end Go.Proofs.YtbpdbggojgijiaaGreatDoor
