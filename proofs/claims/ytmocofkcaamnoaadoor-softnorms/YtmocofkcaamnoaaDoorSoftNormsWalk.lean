/- The Go text of SoftNorms returns true at every input, where the table of steps lies as the program's text lays it. -/
import Derived.Test.YtmocofkcaamnoaaDoorSoftR
namespace Go.Proofs.YtmocofkcaamnoaaDoor
open Go.ChangeShapes Go.WideShapes Go.ChangeAt Go.RowKit
set_option maxHeartbeats 1600000 in
theorem softNorms_walk (ao : Option Addr) (n ca : Nat) (Z : List Int) (bo : Option Addr) (k cb : Nat) (Y : List Int) (w : World) (hA : Arg w ao n ca Z) (hB : Arg w bo k cb Y) (hT : Tab w) :
    Calls Tryd.prog 3 #[.slice ao n ca, .slice bo k cb] w fun e w' => e = .returned (.bool true) ∧ Below w.heap.size w w' := by
  go_enter Tryd.func3, Tryd.ntmps3
  go_wp2_with fail
  refine (few_any _ _ _ _ 5000 _ _ rfl hA (by omega)).mono ?_
  rintro e w0 ⟨g, m, cap, rfl, hm, F1, B1⟩
  replace hT := hT.next B1
  replace hB := hB.below B1
  clear hA
  go_wp2_with fail
  refine (few_any _ _ _ _ 5000 _ _ rfl hB (by omega)).mono ?_
  rintro e w1 ⟨g', p, cap', rfl, hp, G1, B2⟩
  replace hT := hT.next B2
  replace F1 := F1.below B2
  replace B1 := below_then B1 B2
  clear hB B2
  generalize Z.take 5000 = A at *
  generalize Y.take 5000 = G at *
  by_cases hs : sizeN m = 0
  · obtain ⟨h1, h4⟩ := sizeN_ok hs
    go_wp2_with fail
    refine (mean_any _ _ _ _ _ F1.rowAt hs).mono ?_
    rintro e w1 ⟨rfl, rfl⟩
    by_cases hl : p = m
    · subst hl
      go_wp2_with fail
      refine (norm_any _ _ _ _ _ _ _ _ F1.rowAt G1.rowAt hs).mono ?_
      rintro e w2 ⟨g2, rfl, F2, B2⟩
      replace hT := hT.next B2
      replace F1 := F1.below B2
      replace G1 := G1.below B2
      replace B2 := below_then B1 B2
      clear B1
      go_wp2_with fail
      refine (refSize_any _ _ _ _ (by omega)).mono ?_
      rintro e w2 ⟨rfl, rfl⟩
      rw [hs]
      go_wp2_with fail
      refine (sawake_any _ hT).mono ?_
      rintro e w3 ⟨rfl, B3⟩
      replace F1 := F1.below B3
      replace G1 := G1.below B3
      replace F2 := F2.below B3
      replace B3 := below_then B2 B3
      clear hT B2 hs
      go_wp2_with fail
      refine (refMean_any _ _ _ _ _ F1.rowAt h1).mono ?_
      rintro e w4 ⟨rfl, m4, hw4⟩
      have B4 : Below w3.heap.size w3 w4 := hw4 ▸ below_drewN (Below.refl _ _) m4
      replace F1 := F1.below B4
      replace G1 := G1.below B4
      replace F2 := F2.below B4
      replace B4 := below_then B3 B4
      clear hw4 B3
      generalize meanN A p = mm at *
      go_wp2_with (first | (go_at_call 16; refine (refNorm_any _ _ _ _ _ _ _ _ F1.rowAt G1.rowAt h1 (by omega)).mono ?_; rintro e w5 ⟨g5, cap5, rfl, F5, B5⟩; have F6 := F2.below B5; have B6 := below_then B4 B5) | (go_at_call 15; refine (same_any _ _ _ _ _ _ _ (by exact F6.rowAt) (by exact F5.rowAt)).mono ?_; rintro e w7 ⟨rfl, m7, hw7⟩; have B7 : Below w.heap.size w w7 := hw7 ▸ below_drewN B6 m7; clear hw7))
      go_ret
      exact ⟨rfl, B7⟩
    · go_wp2_with fail
      refine (norm_len _ _ _ _ _ _ _ _ F1.rowAt hs hl).mono ?_
      rintro e w1 ⟨rfl, rfl⟩
      go_wp2_with fail
      refine (refSize_any _ _ _ _ (by omega)).mono ?_
      rintro e w1 ⟨rfl, rfl⟩
      rw [hs]
      go_wp2_with fail
      refine (sawake_any _ hT).mono ?_
      rintro e w3 ⟨rfl, B3⟩
      replace F1 := F1.below B3
      replace B3 := below_then B1 B3
      clear hT B1 hs
      have hl' : ((m : Int) == (p : Int)) = false := by simp; omega
      go_wp2_with fail
      refine (refMean_any _ _ _ _ _ F1.rowAt h1).mono ?_
      rintro e w4 ⟨rfl, m4, hw4⟩
      have B4 : Below w.heap.size w w4 := hw4 ▸ below_drewN B3 m4
      clear hw4 F1 G1
      generalize meanN A m = mm at *
      go_wp2
      go_ret
      exact ⟨rfl, B4⟩
  · have hs' : (sizeN m == 0) = false := by simpa using hs
    go_wp2_with fail
    refine (mean_bad _ _ _ _ (by omega) hs).mono ?_
    rintro e w1 ⟨rfl, rfl⟩
    go_wp2_with fail
    refine (norm_bad _ _ _ _ _ _ _ (by omega) hs).mono ?_
    rintro e w1 ⟨rfl, rfl⟩
    go_wp2_with fail
    refine (refSize_any _ _ _ _ (by omega)).mono ?_
    rintro e w1 ⟨rfl, rfl⟩
    generalize sizeN m = q at *
    go_wp2_with (go_at_call 13; refine (sawake_any _ hT).mono ?_; rintro e w3 ⟨rfl, B3⟩)
    go_ret
    exact ⟨rfl, below_then B1 B3⟩
end Go.Proofs.YtmocofkcaamnoaaDoor
