/- The Go text of FixRing returns true at every three numbers; no condition. -/
import Derived.Test.YtijjghlfamebaaaDoorNum2
import Derived.Test.YtijjghlfamebaaaDoorFixN
import Derived.Test.YtijjghlfamebaaaDoorFix
import Derived.Test.YtijjghlfamebaaaDoorRef
namespace Go.Proofs.YtijjghlfamebaaaDoor
open Go.ChangeShapes Go.WideShapes Go.ChangeAt Go.RowKit
set_option maxHeartbeats 3200000 in
theorem fixRing_walk (a b c : Int) (a1 : -2147483648 ≤ a) (a2 : a ≤ 2147483647) (b1 : -2147483648 ≤ b) (b2 : b ≤ 2147483647) (c1 : -2147483648 ≤ c) (c2 : c ≤ 2147483647) (w : World) :
    Calls Tryd.prog 6 #[.int .i32 a, .int .i32 b, .int .i32 c] w fun e w' => e = .returned (.bool true) ∧ Below w.heap.size w w' := by
  have F1 := addN_comm a b
  have F2 := mulN_comm a b
  have F3 := addN_zero a
  have F4 := mulN_one a
  have F5 := subN_self a
  have F6 := mulN_opp a b
  have B1 := subN_bd 0 a
  have B2 := mulN_bd (sat a) b
  have B3 := sat_bd a
  by_cases hab : b < a
  · skip
    go_enter Tryd.func6, Tryd.ntmps6
    go_wp2_with (first | (go_at_call 9; refine (awake_any _).mono ?_; rintro e w1 ⟨rfl, hb⟩) | (go_at_call 10; refine (sat_any _ _ (by omega) (by omega)).mono ?_; rintro e w' ⟨rfl, rfl⟩) | (go_at_call 12; refine (addN_any _ _ _ (by omega) (by omega) (by omega) (by omega)).mono ?_; rintro e w' ⟨rfl, rfl⟩) | (go_at_call 13; refine (subN_any _ _ _ (by omega) (by omega) (by omega) (by omega)).mono ?_; rintro e w' ⟨rfl, rfl⟩) | (go_at_call 17; refine (mulN_any _ _ _ (by omega) (by omega) (by omega) (by omega)).mono ?_; rintro e w' ⟨rfl, n, rfl⟩))
    all_goals
      go_ret
      exact ⟨rfl, by first | assumption | exact below_then (below_drewN (Below.refl _ _) _) (by assumption) | exact below_drewN (below_then (below_drewN (Below.refl _ _) _) (by assumption)) _ | exact below_drewN (by assumption) _⟩
  · have G1 := addN_mono a b c (by omega)
    by_cases hc : c < 0
    · skip
      go_enter Tryd.func6, Tryd.ntmps6
      go_wp2_with (first | (go_at_call 9; refine (awake_any _).mono ?_; rintro e w1 ⟨rfl, hb⟩) | (go_at_call 10; refine (sat_any _ _ (by omega) (by omega)).mono ?_; rintro e w' ⟨rfl, rfl⟩) | (go_at_call 12; refine (addN_any _ _ _ (by omega) (by omega) (by omega) (by omega)).mono ?_; rintro e w' ⟨rfl, rfl⟩) | (go_at_call 13; refine (subN_any _ _ _ (by omega) (by omega) (by omega) (by omega)).mono ?_; rintro e w' ⟨rfl, rfl⟩) | (go_at_call 17; refine (mulN_any _ _ _ (by omega) (by omega) (by omega) (by omega)).mono ?_; rintro e w' ⟨rfl, n, rfl⟩))
      all_goals
        go_ret
        exact ⟨rfl, by first | assumption | exact below_then (below_drewN (Below.refl _ _) _) (by assumption) | exact below_drewN (below_then (below_drewN (Below.refl _ _) _) (by assumption)) _ | exact below_drewN (by assumption) _⟩
    · have G2 := mulN_mono a b c (by omega) (by omega)
      go_enter Tryd.func6, Tryd.ntmps6
      go_wp2_with (first | (go_at_call 9; refine (awake_any _).mono ?_; rintro e w1 ⟨rfl, hb⟩) | (go_at_call 10; refine (sat_any _ _ (by omega) (by omega)).mono ?_; rintro e w' ⟨rfl, rfl⟩) | (go_at_call 12; refine (addN_any _ _ _ (by omega) (by omega) (by omega) (by omega)).mono ?_; rintro e w' ⟨rfl, rfl⟩) | (go_at_call 13; refine (subN_any _ _ _ (by omega) (by omega) (by omega) (by omega)).mono ?_; rintro e w' ⟨rfl, rfl⟩) | (go_at_call 17; refine (mulN_any _ _ _ (by omega) (by omega) (by omega) (by omega)).mono ?_; rintro e w' ⟨rfl, n, rfl⟩))
      all_goals
        go_ret
        exact ⟨rfl, by first | assumption | exact below_then (below_drewN (Below.refl _ _) _) (by assumption) | exact below_drewN (below_then (below_drewN (Below.refl _ _) _) (by assumption)) _ | exact below_drewN (by assumption) _⟩
end Go.Proofs.YtijjghlfamebaaaDoor
