/- What the row's listed variables hold, as the statements' walks want it. -/
import Derived.Test.YtmcjcmddijikbaaDoorFAwake
import Derived.LaidMore
import Derived.LaidHandle
import Derived.Lib.LaidTab
import Derived.Stop.Joined
namespace Go.Proofs.YtmcjcmddijikbaaDoor
open Go.ChangeShapes Go.WideShapes Go.ChangeAt Go.RowKit
theorem gSums : Tryd.prog.globalNamed "tiller/frame.sums" = some 1 := by kernel_rfl
theorem tSums : (Tryd.prog.globals[1]?).map (·.type) = some 111 := by kernel_rfl
theorem cSums : Tryd.prog.cellsOf 111 = 16 := by kernel_rfl
theorem cU32 : Tryd.prog.cellsOf 52 = 1 := by kernel_rfl
theorem gErr : Tryd.prog.globalNamed "errors.errorType" = some 0 := by kernel_rfl
theorem rtErr : (Tryd.prog.cutTypes.find? (·.1 == "internal/reflectlite.rtype")).map (·.2) = some 113 := by kernel_rfl
theorem oneErr : ((List.range 155).filter fun t => Tryd.prog.rowNamed t [101, 114, 114, 111, 114]) = [27] := by kernel_rfl
theorem sizeT : Tryd.prog.types.size = 155 := by kernel_rfl
theorem hdErr : typeHandle Tryd.prog 27 = hd 27 := by kernel_rfl
theorem env_of_laid {W : World} (h : laidMetH Tryd.prog [("errors.errorType", Rows.laid_errors_errorType), ("tiller/frame.sums", Rows.laid_tiller_frame_sums)] W) : Env W := by
  have h' : laidMet Tryd.prog [("tiller/frame.sums", Rows.laid_tiller_frame_sums)] W ∧ handlesMet Tryd.prog [("errors.errorType", Rows.laid_errors_errorType)] W := h
  refine ⟨?_, ?_⟩
  · have h2 : laidMet Tryd.prog [("tiller/frame.sums", Lib.tabData .u32 (fourL.map fun (n : Nat) => (n : Int)))] W := h'.1
    have ht := Lib.tabIs_of_head gSums tSums Tryd.underlying111 Tryd.underlying52 cU32 cSums h2
    unfold Lib.TabIs World.var? at ht
    rw [gSums] at ht
    simp only [Option.bind_some] at ht
    split at ht
    · rename_i cs t fr hc
      refine ⟨t, fr, ?_⟩
      rw [hc]
      simp only [Option.some.injEq] at ht
      rw [ht]
      simp [sumCells]
    · cases ht
  · obtain ⟨name, u, ty, e1, e2, e3, e4, e5⟩ := h'.2 _ (List.mem_singleton.2 rfl)
    have en : name = [101, 114, 114, 111, 114] := (Option.some.inj e1).symm
    subst en
    obtain rfl := Option.some.inj (rtErr.symm.trans e2)
    have hm : ty ∈ (List.range 155).filter fun t => Tryd.prog.rowNamed t [101, 114, 114, 111, 114] := List.mem_filter.2 ⟨List.mem_range.2 (by rw [← sizeT]; exact e3), e4⟩
    rw [oneErr] at hm
    obtain rfl := List.mem_singleton.1 hm
    rw [hdErr] at e5
    have := World.var?_cell gErr e5 0
    simpa [Hand] using this
end Go.Proofs.YtmcjcmddijikbaaDoor
