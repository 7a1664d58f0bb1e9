/- The Go text of CurveRoots returns true at every input, where the table of steps lies as the program's text lays it. -/
import Derived.Test.YtijjghlfamebaabDoorCAwake
namespace Go.Proofs.YtijjghlfamebaabDoor
open Go.ChangeShapes Go.WideShapes Go.ChangeAt Go.RowKit
set_option maxHeartbeats 1600000 in
theorem curveRoots_walk (x y : Int) (x1 : 0 ≤ x) (x2 : x ≤ 18446744073709551615) (y1 : -2147483648 ≤ y) (y2 : y ≤ 2147483647) (w : World) (h : Tab w) :
    Calls Tryd.prog 5 #[.int .u64 x, .int .i32 y] w fun e w' => e = .returned (.bool true) ∧ Below w.heap.size w w' := by
  obtain ⟨n, rfl⟩ : ∃ n : Nat, x = n := ⟨x.toNat, by omega⟩
  go_enter Tryd.func5, Tryd.ntmps5
  go_wp2_with (first | (go_at_call 12; refine (awake2_any _ (by first | assumption | exact HT.out _)).mono ?_; rintro e w1 ⟨rfl, hb⟩) | (go_at_call 17; refine (root_any (n) _).mono ?_; rintro e w2 ⟨rfl, rfl⟩) | (go_at_call 18; refine (refRoot_any (n) _).mono ?_; rintro e w2 ⟨rfl, rfl⟩) | (go_at_call 19; refine (inv_any _ _ (by omega) (by omega)).mono ?_; rintro e w3 ⟨rfl, rfl⟩) | (go_at_call 20; refine (refInv_any _ _ (by omega) (by omega)).mono ?_; rintro e w3 ⟨rfl, rfl⟩))
  all_goals
    go_ret
    exact ⟨by first | rfl | exact ret_true (by omega), by first | assumption | exact below_then (below_drewN (Below.refl _ _) _) (by assumption) | exact below_drewN (below_then (below_drewN (Below.refl _ _) _) (by assumption)) _ | exact below_drewN (by assumption) _⟩
end Go.Proofs.YtijjghlfamebaabDoor
