/- The Go text of SoftWeights returns true at every input, where the table of steps lies as the program's text lays it. -/
import Derived.Test.YtmocofkcaamnoaaDoorSoftRW
namespace Go.Proofs.YtmocofkcaamnoaaDoor
open Go.ChangeShapes Go.WideShapes Go.ChangeAt Go.RowKit
set_option maxHeartbeats 1600000 in
theorem softWeights_walk (ao : Option Addr) (n ca : Nat) (Z : List Int) (w : World) (hA : Arg w ao n ca Z) (hT : Tab w) :
    Calls Tryd.prog 4 #[.slice ao n ca] w fun e w' => e = .returned (.bool true) ∧ Below w.heap.size w w' := by
  go_enter Tryd.func4, Tryd.ntmps4
  go_wp2_with fail
  refine (few_any _ _ _ _ 5000 _ _ rfl hA (by omega)).mono ?_
  rintro e w1 ⟨g, m, cap, rfl, hm, F1, B1⟩
  replace hT := hT.next B1
  clear hA
  generalize Z.take 5000 = A at *
  by_cases hs : sizeN m = 0
  · obtain ⟨h1, h4⟩ := sizeN_ok hs
    go_wp2_with fail
    refine (weights_any _ _ _ _ _ hT F1.rowAt hs).mono ?_
    rintro e w2 ⟨g2, rfl, F2, B2⟩
    replace hT := hT.next B2
    replace F1 := F1.below B2
    replace B2 := below_then B1 B2
    clear B1
    go_wp2_with fail
    refine (refSize_any _ _ _ _ (by omega)).mono ?_
    rintro e w2 ⟨rfl, rfl⟩
    rw [hs]
    go_wp2_with fail
    refine (sawake_any _ hT).mono ?_
    rintro e w3 ⟨rfl, B3⟩
    replace F1 := F1.below B3
    replace F2 := F2.below B3
    replace B3 := below_then B2 B3
    clear hT B2
    go_wp2_with (first | (go_at_call 18; refine (refWeights_any _ _ _ _ _ F1.rowAt h1 (by omega)).mono ?_; rintro e w4 ⟨g4, cap4, rfl, F4, B4⟩; have F5 := F2.below B4; have B5 := below_then B3 B4) | (go_at_call 15; refine (same_any _ _ _ _ _ _ _ (by exact F5.rowAt) (by exact F4.rowAt)).mono ?_; rintro e w6 ⟨rfl, m6, hw6⟩; have B6 : Below w.heap.size w w6 := hw6 ▸ below_drewN B5 m6; clear hw6))
    go_ret
    exact ⟨rfl, B6⟩
  · have hs' : (sizeN m == 0) = false := by simpa using hs
    go_wp2_with fail
    refine (weights_bad _ _ _ _ (by omega) hs).mono ?_
    rintro e w1 ⟨rfl, rfl⟩
    go_wp2_with fail
    refine (refSize_any _ _ _ _ (by omega)).mono ?_
    rintro e w1 ⟨rfl, rfl⟩
    generalize sizeN m = q at *
    go_wp2_with (go_at_call 13; refine (sawake_any _ hT).mono ?_; rintro e w3 ⟨rfl, B3⟩)
    go_ret
    exact ⟨rfl, below_then B1 B3⟩
end Go.Proofs.YtmocofkcaamnoaaDoor
