/- What the row's listed variable holds, as the statement's walk wants it. -/
import Derived.Test.YtdopcagikcdfcaaDoorKUnpack
import Derived.LaidMore
import Derived.LaidHandle
import Derived.Lib.LaidTab
import Derived.Stop.Joined
namespace Go.Proofs.YtdopcagikcdfcaaDoor
open Go.ChangeShapes Go.WideShapes Go.ChangeAt Go.RowKit
theorem gSums : Tryd.prog.globalNamed "tiller/frame.sums" = some 0 := by kernel_rfl
theorem tSums : (Tryd.prog.globals[0]?).map (·.type) = some 94 := by kernel_rfl
theorem cSums : Tryd.prog.cellsOf 94 = 16 := by kernel_rfl
theorem cU32 : Tryd.prog.cellsOf 41 = 1 := by kernel_rfl
theorem tab_of_laid {W : World} (h : laidMetH Tryd.prog [("tiller/frame.sums", Rows.laid_tiller_frame_sums)] W) : Env W := by
  have h' : laidMet Tryd.prog [("tiller/frame.sums", Rows.laid_tiller_frame_sums)] W := h
  have h2 : laidMet Tryd.prog [("tiller/frame.sums", Lib.tabData .u32 (fourL.map fun (n : Nat) => (n : Int)))] W := h'
  have ht := Lib.tabIs_of_head gSums tSums Tryd.underlying94 Tryd.underlying41 cU32 cSums h2
  unfold Lib.TabIs World.var? at ht
  rw [gSums] at ht
  simp only [Option.bind_some] at ht
  split at ht
  · rename_i cs t fr hc
    refine ⟨⟨t, fr, ?_⟩⟩
    rw [hc]
    simp only [Option.some.injEq] at ht
    rw [ht]
    simp [sumCells]
  · cases ht
end Go.Proofs.YtdopcagikcdfcaaDoor
