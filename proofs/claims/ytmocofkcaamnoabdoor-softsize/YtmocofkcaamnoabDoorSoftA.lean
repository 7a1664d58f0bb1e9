/- The awake check of the laws of layer 5 is true, and the document's error of a row, where the table of steps lies as the program's text lays it. -/
import Derived.Test.YtmocofkcaamnoabDoorSoftW
import Derived.Test.YtmocofkcaamnoabDoorVecL
namespace Go.Proofs.YtmocofkcaamnoabDoor
open Go.ChangeShapes Go.WideShapes Go.ChangeAt Go.RowKit
theorem wgt_lit0 : wgt [0, -65536] 2 0 = 43690 := by decide
theorem wgt_lit1 : wgt [0, -65536] 2 1 = 21845 := by decide
theorem mean_lit : meanN [65536, 65536] 2 = 65536 := by decide
set_option maxHeartbeats 800000 in
theorem sawake_any (w : World) (hT : Tab w) : Calls Tryd.prog 5 #[] w fun e w' => e = .returned (.bool true) ∧ Below w.heap.size w w' := by
  have F1 : Fresh (w.alloc (.cells #[.int .i32 0, .int .i32 (-65536)] 23)) w.heap.size w.heap.size 2 2 [0, -65536] := fresh_lit w [0, -65536] (by unfold Small; decide) (by decide)
  have B1 : Below w.heap.size w (w.alloc (.cells #[.int .i32 0, .int .i32 (-65536)] 23)) := (Below.refl _ _).alloc (Nat.le_refl _) _
  have T1 := hT.next B1
  go_enter Tryd.func5, Tryd.ntmps5
  generalize hw1 : w.alloc (.cells #[.int .i32 0, .int .i32 (-65536)] 23) = w1 at F1 B1 T1
  go_wp2_with fail
  refine (weights_any _ 2 2 _ _ T1 F1.rowAt (by decide)).mono ?_
  rintro e w2 ⟨g2, rfl, F2, B2⟩
  replace B2 := below_then B1 B2
  clear F1 T1 hw1 B1 hT
  have k0 := F2.cell (t := 0) (by omega)
  have k1 := F2.cell (t := 1) (by omega)
  rw [el_tab (by omega), wgt_lit0] at k0
  rw [el_tab (by omega), wgt_lit1] at k1
  have hg2 := F2.lt
  have F3 : Fresh (w2.alloc (.cells #[.int .i32 65536, .int .i32 65536] 23)) w2.heap.size w2.heap.size 2 2 [65536, 65536] := fresh_lit w2 [65536, 65536] (by unfold Small; decide) (by decide)
  have B3 : Below w2.heap.size w2 (w2.alloc (.cells #[.int .i32 65536, .int .i32 65536] 23)) := (Below.refl _ _).alloc (Nat.le_refl _) _
  have q0 := (B3.cell (p := ⟨g2, 0, none⟩) hg2).trans k0
  have q1 := (B3.cell (p := ⟨g2, 1, none⟩) hg2).trans k1
  replace B3 := below_then B2 B3
  clear F2 B2 k0 k1
  generalize hw3 : w2.alloc (.cells #[.int .i32 65536, .int .i32 65536] 23) = w3 at *
  go_wp2_with (go_at_call 6; refine (mean_any _ 2 2 _ _ F3.rowAt (by decide)).mono ?_; rintro e w' ⟨rfl, rfl⟩; rw [mean_lit])
  go_ret
  exact ⟨rfl, B3⟩
end Go.Proofs.YtmocofkcaamnoabDoor
