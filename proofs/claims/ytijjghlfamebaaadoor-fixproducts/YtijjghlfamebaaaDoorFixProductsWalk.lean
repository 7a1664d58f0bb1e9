/- The Go text of FixProducts returns true at every four numbers; no condition. -/
import Derived.Test.YtijjghlfamebaaaDoorNum2
import Derived.Test.YtijjghlfamebaaaDoorFixN
import Derived.Test.YtijjghlfamebaaaDoorFix
import Derived.Test.YtijjghlfamebaaaDoorRef
namespace Go.Proofs.YtijjghlfamebaaaDoor
open Go.ChangeShapes Go.WideShapes Go.ChangeAt Go.RowKit
set_option maxHeartbeats 3200000 in
theorem fixProducts_walk (a b x d : Int) (a1 : -2147483648 ≤ a) (a2 : a ≤ 2147483647) (b1 : -2147483648 ≤ b) (b2 : b ≤ 2147483647) (x1 : -9223372036854775808 ≤ x) (x2 : x ≤ 9223372036854775807) (d1 : -9223372036854775808 ≤ d) (d2 : d ≤ 9223372036854775807) (w : World) :
    Calls Tryd.prog 4 #[.int .i32 a, .int .i32 b, .int .i64 x, .int .i64 d] w fun e w' => e = .returned (.bool true) ∧ Below w.heap.size w w' := by
  by_cases hb : b = 0
  · subst hb
    by_cases hd : d < 1
    · skip
      go_enter Tryd.func4, Tryd.ntmps4
      go_wp2_with (first | (go_at_call 9; refine (awake_any _).mono ?_; rintro e w1 ⟨rfl, hb⟩) | (go_at_call 17; refine (mulN_any _ _ _ (by omega) (by omega) (by omega) (by omega)).mono ?_; rintro e w' ⟨rfl, n, rfl⟩) | (go_at_call 18; refine (refMulN_any _ _ _ (by omega) (by omega) (by omega) (by omega)).mono ?_; rintro e w' ⟨rfl, n, rfl⟩) | (go_at_call 16; refine (div_zero _ _).mono ?_; rintro e w' ⟨rfl, n, rfl⟩) | (go_at_call 20; refine (round_any _ _ _ (by omega) (by omega) (by omega) (by omega)).mono ?_; rintro e w' ⟨rfl, n, rfl⟩) | (go_at_call 21; refine (refRound_any _ _ _ (by omega) (by omega) (by omega) (by omega)).mono ?_; rintro e w' ⟨rfl, n, rfl⟩))
      all_goals
        go_ret
        exact ⟨rfl, by first | assumption | exact below_then (below_drewN (Below.refl _ _) _) (by assumption) | exact below_drewN (below_then (below_drewN (Below.refl _ _) _) (by assumption)) _ | exact below_drewN (by assumption) _⟩
    · by_cases hd2 : 4611686018427387904 < d
      · skip
        go_enter Tryd.func4, Tryd.ntmps4
        go_wp2_with (first | (go_at_call 9; refine (awake_any _).mono ?_; rintro e w1 ⟨rfl, hb⟩) | (go_at_call 17; refine (mulN_any _ _ _ (by omega) (by omega) (by omega) (by omega)).mono ?_; rintro e w' ⟨rfl, n, rfl⟩) | (go_at_call 18; refine (refMulN_any _ _ _ (by omega) (by omega) (by omega) (by omega)).mono ?_; rintro e w' ⟨rfl, n, rfl⟩) | (go_at_call 16; refine (div_zero _ _).mono ?_; rintro e w' ⟨rfl, n, rfl⟩) | (go_at_call 20; refine (round_any _ _ _ (by omega) (by omega) (by omega) (by omega)).mono ?_; rintro e w' ⟨rfl, n, rfl⟩) | (go_at_call 21; refine (refRound_any _ _ _ (by omega) (by omega) (by omega) (by omega)).mono ?_; rintro e w' ⟨rfl, n, rfl⟩))
        all_goals
          go_ret
          exact ⟨rfl, by first | assumption | exact below_then (below_drewN (Below.refl _ _) _) (by assumption) | exact below_drewN (below_then (below_drewN (Below.refl _ _) _) (by assumption)) _ | exact below_drewN (by assumption) _⟩
      · by_cases hx : x = -9223372036854775808
        · subst hx
          go_enter Tryd.func4, Tryd.ntmps4
          go_wp2_with (first | (go_at_call 9; refine (awake_any _).mono ?_; rintro e w1 ⟨rfl, hb⟩) | (go_at_call 17; refine (mulN_any _ _ _ (by omega) (by omega) (by omega) (by omega)).mono ?_; rintro e w' ⟨rfl, n, rfl⟩) | (go_at_call 18; refine (refMulN_any _ _ _ (by omega) (by omega) (by omega) (by omega)).mono ?_; rintro e w' ⟨rfl, n, rfl⟩) | (go_at_call 16; refine (div_zero _ _).mono ?_; rintro e w' ⟨rfl, n, rfl⟩) | (go_at_call 20; refine (round_any _ _ _ (by omega) (by omega) (by omega) (by omega)).mono ?_; rintro e w' ⟨rfl, n, rfl⟩) | (go_at_call 21; refine (refRound_any _ _ _ (by omega) (by omega) (by omega) (by omega)).mono ?_; rintro e w' ⟨rfl, n, rfl⟩))
          all_goals
            go_ret
            exact ⟨rfl, by first | assumption | exact below_then (below_drewN (Below.refl _ _) _) (by assumption) | exact below_drewN (below_then (below_drewN (Below.refl _ _) _) (by assumption)) _ | exact below_drewN (by assumption) _⟩
        · have hxn : (x == -9223372036854775808) = false := by simpa using hx
          go_enter Tryd.func4, Tryd.ntmps4
          go_wp2_with (first | (go_at_call 9; refine (awake_any _).mono ?_; rintro e w1 ⟨rfl, hb⟩) | (go_at_call 17; refine (mulN_any _ _ _ (by omega) (by omega) (by omega) (by omega)).mono ?_; rintro e w' ⟨rfl, n, rfl⟩) | (go_at_call 18; refine (refMulN_any _ _ _ (by omega) (by omega) (by omega) (by omega)).mono ?_; rintro e w' ⟨rfl, n, rfl⟩) | (go_at_call 16; refine (div_zero _ _).mono ?_; rintro e w' ⟨rfl, n, rfl⟩) | (go_at_call 20; refine (round_any _ _ _ (by omega) (by omega) (by omega) (by omega)).mono ?_; rintro e w' ⟨rfl, n, rfl⟩) | (go_at_call 21; refine (refRound_any _ _ _ (by omega) (by omega) (by omega) (by omega)).mono ?_; rintro e w' ⟨rfl, n, rfl⟩))
          all_goals
            go_ret
            exact ⟨rfl, by first | assumption | exact below_then (below_drewN (Below.refl _ _) _) (by assumption) | exact below_drewN (below_then (below_drewN (Below.refl _ _) _) (by assumption)) _ | exact below_drewN (by assumption) _⟩
  · have hbn : (b == 0) = false := by simpa using hb
    by_cases hd : d < 1
    · skip
      go_enter Tryd.func4, Tryd.ntmps4
      go_wp2_with (first | (go_at_call 9; refine (awake_any _).mono ?_; rintro e w1 ⟨rfl, hb⟩) | (go_at_call 17; refine (mulN_any _ _ _ (by omega) (by omega) (by omega) (by omega)).mono ?_; rintro e w' ⟨rfl, n, rfl⟩) | (go_at_call 18; refine (refMulN_any _ _ _ (by omega) (by omega) (by omega) (by omega)).mono ?_; rintro e w' ⟨rfl, n, rfl⟩) | (go_at_call 16; refine (div_any _ _ _ (by omega) (by omega) (by omega) (by omega) (by omega)).mono ?_; rintro e w' ⟨rfl, n, rfl⟩) | (go_at_call 19; refine (refDiv_any _ _ _ (by omega) (by omega) (by omega) (by omega) (by omega)).mono ?_; rintro e w' ⟨rfl, n, rfl⟩) | (go_at_call 20; refine (round_any _ _ _ (by omega) (by omega) (by omega) (by omega)).mono ?_; rintro e w' ⟨rfl, n, rfl⟩) | (go_at_call 21; refine (refRound_any _ _ _ (by omega) (by omega) (by omega) (by omega)).mono ?_; rintro e w' ⟨rfl, n, rfl⟩))
      all_goals
        go_ret
        exact ⟨rfl, by first | assumption | exact below_then (below_drewN (Below.refl _ _) _) (by assumption) | exact below_drewN (below_then (below_drewN (Below.refl _ _) _) (by assumption)) _ | exact below_drewN (by assumption) _⟩
    · by_cases hd2 : 4611686018427387904 < d
      · skip
        go_enter Tryd.func4, Tryd.ntmps4
        go_wp2_with (first | (go_at_call 9; refine (awake_any _).mono ?_; rintro e w1 ⟨rfl, hb⟩) | (go_at_call 17; refine (mulN_any _ _ _ (by omega) (by omega) (by omega) (by omega)).mono ?_; rintro e w' ⟨rfl, n, rfl⟩) | (go_at_call 18; refine (refMulN_any _ _ _ (by omega) (by omega) (by omega) (by omega)).mono ?_; rintro e w' ⟨rfl, n, rfl⟩) | (go_at_call 16; refine (div_any _ _ _ (by omega) (by omega) (by omega) (by omega) (by omega)).mono ?_; rintro e w' ⟨rfl, n, rfl⟩) | (go_at_call 19; refine (refDiv_any _ _ _ (by omega) (by omega) (by omega) (by omega) (by omega)).mono ?_; rintro e w' ⟨rfl, n, rfl⟩) | (go_at_call 20; refine (round_any _ _ _ (by omega) (by omega) (by omega) (by omega)).mono ?_; rintro e w' ⟨rfl, n, rfl⟩) | (go_at_call 21; refine (refRound_any _ _ _ (by omega) (by omega) (by omega) (by omega)).mono ?_; rintro e w' ⟨rfl, n, rfl⟩))
        all_goals
          go_ret
          exact ⟨rfl, by first | assumption | exact below_then (below_drewN (Below.refl _ _) _) (by assumption) | exact below_drewN (below_then (below_drewN (Below.refl _ _) _) (by assumption)) _ | exact below_drewN (by assumption) _⟩
      · by_cases hx : x = -9223372036854775808
        · subst hx
          go_enter Tryd.func4, Tryd.ntmps4
          go_wp2_with (first | (go_at_call 9; refine (awake_any _).mono ?_; rintro e w1 ⟨rfl, hb⟩) | (go_at_call 17; refine (mulN_any _ _ _ (by omega) (by omega) (by omega) (by omega)).mono ?_; rintro e w' ⟨rfl, n, rfl⟩) | (go_at_call 18; refine (refMulN_any _ _ _ (by omega) (by omega) (by omega) (by omega)).mono ?_; rintro e w' ⟨rfl, n, rfl⟩) | (go_at_call 16; refine (div_any _ _ _ (by omega) (by omega) (by omega) (by omega) (by omega)).mono ?_; rintro e w' ⟨rfl, n, rfl⟩) | (go_at_call 19; refine (refDiv_any _ _ _ (by omega) (by omega) (by omega) (by omega) (by omega)).mono ?_; rintro e w' ⟨rfl, n, rfl⟩) | (go_at_call 20; refine (round_any _ _ _ (by omega) (by omega) (by omega) (by omega)).mono ?_; rintro e w' ⟨rfl, n, rfl⟩) | (go_at_call 21; refine (refRound_any _ _ _ (by omega) (by omega) (by omega) (by omega)).mono ?_; rintro e w' ⟨rfl, n, rfl⟩))
          all_goals
            go_ret
            exact ⟨rfl, by first | assumption | exact below_then (below_drewN (Below.refl _ _) _) (by assumption) | exact below_drewN (below_then (below_drewN (Below.refl _ _) _) (by assumption)) _ | exact below_drewN (by assumption) _⟩
        · have hxn : (x == -9223372036854775808) = false := by simpa using hx
          go_enter Tryd.func4, Tryd.ntmps4
          go_wp2_with (first | (go_at_call 9; refine (awake_any _).mono ?_; rintro e w1 ⟨rfl, hb⟩) | (go_at_call 17; refine (mulN_any _ _ _ (by omega) (by omega) (by omega) (by omega)).mono ?_; rintro e w' ⟨rfl, n, rfl⟩) | (go_at_call 18; refine (refMulN_any _ _ _ (by omega) (by omega) (by omega) (by omega)).mono ?_; rintro e w' ⟨rfl, n, rfl⟩) | (go_at_call 16; refine (div_any _ _ _ (by omega) (by omega) (by omega) (by omega) (by omega)).mono ?_; rintro e w' ⟨rfl, n, rfl⟩) | (go_at_call 19; refine (refDiv_any _ _ _ (by omega) (by omega) (by omega) (by omega) (by omega)).mono ?_; rintro e w' ⟨rfl, n, rfl⟩) | (go_at_call 20; refine (round_any _ _ _ (by omega) (by omega) (by omega) (by omega)).mono ?_; rintro e w' ⟨rfl, n, rfl⟩) | (go_at_call 21; refine (refRound_any _ _ _ (by omega) (by omega) (by omega) (by omega)).mono ?_; rintro e w' ⟨rfl, n, rfl⟩))
          all_goals
            go_ret
            exact ⟨rfl, by first | assumption | exact below_then (below_drewN (Below.refl _ _) _) (by assumption) | exact below_drewN (below_then (below_drewN (Below.refl _ _) _) (by assumption)) _ | exact below_drewN (by assumption) _⟩
end Go.Proofs.YtijjghlfamebaaaDoor
