/- Both tables lie in memory, wherever the row's listed variables read as listed. -/
import Derived.Test.YtijjghlfamebaacDoorCTab
import Derived.Test.YtijjghlfamebaacDoorFTab
namespace Go.Proofs.YtijjghlfamebaacDoor
open Go.ChangeShapes Go.WideShapes Go.ChangeAt Go.RowKit
theorem tabs_of_laid {W : World} (h : laidMetH Tryd.prog [("math/bits.deBruijn32tab", Rows.laid_math_bits_deBruijn32tab), ("math/bits.deBruijn64tab", Rows.laid_math_bits_deBruijn64tab), ("internal/strconv.uint64pow10", Rows.laid_internal_strconv_uint64pow10), ("tiller/curve.steps", Rows.laid_tiller_curve_steps)] W) : Tab W ∧ Pw W := by
  rw [MakeChecks.laidMetH_plain _ _ _ (by kernel_rfl)] at h
  have h2 := laidMet.tail (laidMet.tail h)
  have h3 := laidMet.tail h2
  have h' : laidMet Tryd.prog (("internal/strconv.uint64pow10", Lib.tabData .u64 Lib.pow10Tab) :: [("tiller/curve.steps", Rows.laid_tiller_curve_steps)]) W := h2
  refine ⟨tab_of_laid ?_, Lib.tabIs_of_head (g := 1) (t := 75) (e := 34) (n := 20) (by kernel_rfl) (by kernel_rfl) Tryd.underlying75 Tryd.underlying34 (by kernel_rfl) (by kernel_rfl) h'⟩
  rw [MakeChecks.laidMetH_plain _ _ _ (by kernel_rfl)]
  exact h3
end Go.Proofs.YtijjghlfamebaacDoor
