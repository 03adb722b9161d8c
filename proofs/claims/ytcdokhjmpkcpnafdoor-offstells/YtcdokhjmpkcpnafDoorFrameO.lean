/- What the tied variables give the walks over offsets: strconv's two errors hold something; a number lies in bytealg.MaxLen. -/
import Derived.Test.YtcdokhjmpkcpnafDoorFrameH
import Derived.Test.YtcdokhjmpkcpnafDoorOffsB
import Derived.Stop.LaidErr
namespace Go.Proofs.YtcdokhjmpkcpnafDoor
open Go Go.ChangeShapes Go.WideShapes Go.ChangeAt Go.WideMaps Go.WideElems Go.RowKit
set_option maxRecDepth 100000

abbrev laid7 : List (String × DataW Unit) := [("math/bits.deBruijn32tab", Rows.laid_math_bits_deBruijn32tab), ("math/bits.deBruijn64tab", Rows.laid_math_bits_deBruijn64tab), ("internal/strconv.uint64pow10", Rows.laid_internal_strconv_uint64pow10), ("unicode/utf8.acceptRanges", Rows.laid_unicode_utf8_acceptRanges), ("strconv.ErrRange", Rows.laid_strconv_ErrRange), ("strconv.ErrSyntax", Rows.laid_strconv_ErrSyntax), ("unicode/utf8.first", Rows.laid_unicode_utf8_first)]
theorem all_met (os : Os) (args : Array Value) : laidMetH Tryd.prog laid7 ((World.laidAll Tryd.prog os laid7).forCall (fun _ _ => 0) ⟨#[], args, []⟩).memory := by
  rw [MakeChecks.laidMetH_plain _ _ _ (by kernel_rfl)]
  exact laidMet_laidAll _ (by kernel_rfl) (by kernel_rfl)
theorem all_shaped (os : Os) : (World.laidAll Tryd.prog os laid7).Shaped Tryd.prog := World.shaped_of_ZipB (by kernel_rfl) (by kernel_rfl)
theorem gESType : (Tryd.prog.globals[1]?).map (·.type) = some 44 := by kernel_rfl
theorem gERType : (Tryd.prog.globals[2]?).map (·.type) = some 44 := by kernel_rfl
theorem cellsEs : Tryd.prog.cellsOf 95 = 1 := by kernel_rfl
theorem cells9 : Tryd.prog.cellsOf 9 = 1 := by kernel_rfl
theorem starE : "*" ++ "errors.errorString" = "*errors.errorString" := by decide
theorem rowE (u : TypeId) (h : Tryd.prog.typeName? 3 u = some "*errors.errorString") : u = 93 :=
  typeName_ptr_named (nm := "errors.errorString") (by rw [starE]; kernel_rfl) (by kernel_rfl) (by decide) u (by rw [starE]; exact h)
theorem EV_of {W : World} (h : laidMetH Tryd.prog laid7 W) (hS : W.ShapedOpen Tryd.prog) : EV W := by
  rw [MakeChecks.laidMetH_plain _ _ _ (by kernel_rfl)] at h
  have h5 := h.tail.tail.tail.tail
  obtain ⟨a1, s1, hv1, -, -, -⟩ := laid_sentinel h5 gER gERType Tryd.underlying44 rowE Tryd.underlying93 Tryd.underlying95 rfl rfl Tryd.underlying9 cellsEs cells9
  obtain ⟨a0, s0, hv0, -, -, -⟩ := laid_sentinel h5.tail gES gESType Tryd.underlying44 rowE Tryd.underlying93 Tryd.underlying95 rfl rfl Tryd.underlying9 cellsEs cells9
  refine ⟨⟨_, _, hv0⟩, ⟨_, _, hv1⟩, ?_⟩
  exact cell_of_shapedOpen_int (g := 0) (t := 3) (zero := #[.int .i64 0]) (k := .i64) hS (of_decide_eq_true (by kernel_rfl)) (by kernel_rfl) rfl (by kernel_rfl) (by kernel_rfl) Tryd.underlying3
end Go.Proofs.YtcdokhjmpkcpnafDoor
