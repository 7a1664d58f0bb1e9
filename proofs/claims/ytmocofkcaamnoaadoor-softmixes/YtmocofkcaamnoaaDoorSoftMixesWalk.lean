/- The Go text of SoftMixes returns true at every input, where the table of steps lies as the program's text lays it. -/
import Derived.Test.YtmocofkcaamnoaaDoorSoftMR
import Derived.Test.YtmocofkcaamnoaaDoorSoftA
namespace Go.Proofs.YtmocofkcaamnoaaDoor
open Go.ChangeShapes Go.WideShapes Go.ChangeAt Go.RowKit
theorem row0_le (R : List (List Int)) : (rowOf ((R.take 60).map (List.take 40)) 0).length ≤ 4096 := by
  unfold rowOf
  rw [List.getD_eq_getElem?_getD]
  cases e : ((R.take 60).map (List.take 40))[0]? with
  | none => simp
  | some x =>
    obtain ⟨y, _, rfl⟩ := List.mem_map.1 (List.mem_of_getElem? e)
    simp
    omega
set_option maxHeartbeats 1600000 in
theorem softMixes_walk (ao : Option Addr) (n ca : Nat) (Z : List Int) (bo : Option Addr) (k cb : Nat) (Y : List (List Int)) (w : World) (hA : Arg w ao n ca Z) (hB : GridAt w bo k Y) (hT : Tab w) :
    Calls Tryd.prog 5 #[.slice ao n ca, .slice bo k cb] w fun e w' => e = .returned (.bool true) ∧ Below w.heap.size w w' := by
  go_enter Tryd.func5, Tryd.ntmps5
  go_wp2_with fail
  refine (few_any _ _ _ _ 5000 _ _ rfl hA (by omega)).mono ?_
  rintro e w0 ⟨g, m, cap, rfl, hm, F1, B1⟩
  replace hT := hT.next B1
  replace hB := hB.below B1
  clear hA
  go_wp2_with fail
  refine (rows_any _ _ _ _ _ hB).mono ?_
  rintro e w1 ⟨g', p, cap', rfl, hp, G1, B2⟩
  replace hT := hT.next B2
  replace F1 := F1.below B2
  replace B1 := below_then B1 B2
  have hr0 := row0_le Y
  clear hB B2
  generalize Z.take 5000 = A at *
  generalize (Y.take 60).map (List.take 40) = R at *
  by_cases hs : mixedN m R = 0
  · go_wp2_with fail
    refine (mix_any _ _ _ _ _ _ _ _ _ F1.rowAt G1 hs hr0).mono ?_
    rintro e w2 ⟨g2, rfl, F2, B2⟩
    replace hT := hT.next B2
    replace F1 := F1.below B2
    replace G1 := G1.below B2
    replace B2 := below_then B1 B2
    clear B1
    go_wp2_with fail
    refine (refMixed_any _ _ _ _ _ _ _ _ (by omega) G1).mono ?_
    rintro e w2 ⟨rfl, rfl⟩
    rw [hs]
    go_wp2_with fail
    refine (sawake_any _ hT).mono ?_
    rintro e w3 ⟨rfl, B3⟩
    replace F1 := F1.below B3
    replace G1 := G1.below B3
    replace F2 := F2.below B3
    replace B3 := below_then B2 B3
    clear hT B2
    go_wp2_with (first | (go_at_call 22; refine (refMix_any _ _ _ _ _ _ _ _ _ F1.rowAt G1 hs hr0).mono ?_; rintro e w5 ⟨g5, cap5, rfl, F5, B5⟩; have F6 := F2.below B5; have B6 := below_then B3 B5) | (go_at_call 15; refine (same_any _ _ _ _ _ _ _ (by exact F6.rowAt) (by exact F5.rowAt)).mono ?_; rintro e w7 ⟨rfl, m7, hw7⟩; have B7 : Below w.heap.size w w7 := hw7 ▸ below_drewN B6 m7; clear hw7))
    go_ret
    exact ⟨rfl, B7⟩
  · have hs' : (mixedN m R == 0) = false := by simpa using hs
    go_wp2_with fail
    refine (mix_bad _ _ _ _ _ _ _ _ (by omega) G1 hs).mono ?_
    rintro e w1 ⟨rfl, rfl⟩
    go_wp2_with fail
    refine (refMixed_any _ _ _ _ _ _ _ _ (by omega) G1).mono ?_
    rintro e w1 ⟨rfl, rfl⟩
    generalize mixedN m R = q at *
    go_wp2_with (go_at_call 13; refine (sawake_any _ hT).mono ?_; rintro e w3 ⟨rfl, B3⟩)
    go_ret
    exact ⟨rfl, below_then B1 B3⟩
end Go.Proofs.YtmocofkcaamnoaaDoor
