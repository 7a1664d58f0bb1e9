/- The Go text of FixOrder returns true at every three numbers; no condition. -/
import Derived.Test.YtijjghlfamebaaaDoorNum2
import Derived.Test.YtijjghlfamebaaaDoorFixN
import Derived.Test.YtijjghlfamebaaaDoorFix
import Derived.Test.YtijjghlfamebaaaDoorRef
namespace Go.Proofs.YtijjghlfamebaaaDoor
open Go.ChangeShapes Go.WideShapes Go.ChangeAt Go.RowKit
set_option maxHeartbeats 3200000 in
theorem fixOrder_walk (a b n : Int) (a1 : -2147483648 ≤ a) (a2 : a ≤ 2147483647) (b1 : -2147483648 ≤ b) (b2 : b ≤ 2147483647) (n1 : -9223372036854775808 ≤ n) (n2 : n ≤ 9223372036854775807) (w : World) :
    Calls Tryd.prog 8 #[.int .i32 a, .int .i32 b, .int .i64 n] w fun e w' => e = .returned (.bool true) ∧ Below w.heap.size w w' := by
  have F6 := mulN_opp a b
  have B1 := subN_bd 0 a
  have B2 := mulN_bd (sat a) b
  have B3 := sat_bd a
  have B4 := sat_bd (clip n * 65536)
  have B5 := quo_bd a b
  have B6 := quo_bd (subN 0 a) b
  have HO : (-32767 ≤ n ∧ n ≤ 32767) → sat (clip n * 65536) / 65536 = n := fun h => of_floor n h.1 h.2
  by_cases hn : n < -32767
  · clear HO
    by_cases hb : b = 0
    · subst hb
      go_enter Tryd.func8, Tryd.ntmps8
      go_wp2_with (first | (go_at_call 9; refine (awake_any _).mono ?_; rintro e w1 ⟨rfl, hb⟩) | (go_at_call 10; refine (sat_any _ _ (by omega) (by omega)).mono ?_; rintro e w' ⟨rfl, rfl⟩) | (go_at_call 13; refine (subN_any _ _ _ (by omega) (by omega) (by omega) (by omega)).mono ?_; rintro e w' ⟨rfl, rfl⟩) | (go_at_call 17; refine (mulN_any _ _ _ (by omega) (by omega) (by omega) (by omega)).mono ?_; rintro e w' ⟨rfl, n, rfl⟩) | (go_at_call 14; refine (floor_any _ _ (by omega) (by omega)).mono ?_; rintro e w' ⟨rfl, rfl⟩) | (go_at_call 15; refine (of_any _ _ (by omega) (by omega)).mono ?_; rintro e w' ⟨rfl, rfl⟩) | (go_at_call 16; refine (div_zero _ _).mono ?_; rintro e w' ⟨rfl, n, rfl⟩))
      all_goals
        go_ret
        exact ⟨rfl, by first | assumption | exact below_then (below_drewN (Below.refl _ _) _) (by assumption) | exact below_drewN (below_then (below_drewN (Below.refl _ _) _) (by assumption)) _ | exact below_drewN (by assumption) _⟩
    · have hbn : (b == 0) = false := by simpa using hb
      by_cases ha : a = -2147483648
      · subst ha
        go_enter Tryd.func8, Tryd.ntmps8
        go_wp2_with (first | (go_at_call 9; refine (awake_any _).mono ?_; rintro e w1 ⟨rfl, hb⟩) | (go_at_call 10; refine (sat_any _ _ (by omega) (by omega)).mono ?_; rintro e w' ⟨rfl, rfl⟩) | (go_at_call 13; refine (subN_any _ _ _ (by omega) (by omega) (by omega) (by omega)).mono ?_; rintro e w' ⟨rfl, rfl⟩) | (go_at_call 17; refine (mulN_any _ _ _ (by omega) (by omega) (by omega) (by omega)).mono ?_; rintro e w' ⟨rfl, n, rfl⟩) | (go_at_call 14; refine (floor_any _ _ (by omega) (by omega)).mono ?_; rintro e w' ⟨rfl, rfl⟩) | (go_at_call 15; refine (of_any _ _ (by omega) (by omega)).mono ?_; rintro e w' ⟨rfl, rfl⟩) | (go_at_call 16; refine (div_any _ _ _ (by omega) (by omega) (by omega) (by omega) (by omega)).mono ?_; rintro e w' ⟨rfl, n, rfl⟩))
        all_goals
          go_ret
          exact ⟨rfl, by first | assumption | exact below_then (below_drewN (Below.refl _ _) _) (by assumption) | exact below_drewN (below_then (below_drewN (Below.refl _ _) _) (by assumption)) _ | exact below_drewN (by assumption) _⟩
      · have Q := quo_opp a b (by omega) (by omega) hb
        go_enter Tryd.func8, Tryd.ntmps8
        go_wp2_with (first | (go_at_call 9; refine (awake_any _).mono ?_; rintro e w1 ⟨rfl, hb⟩) | (go_at_call 10; refine (sat_any _ _ (by omega) (by omega)).mono ?_; rintro e w' ⟨rfl, rfl⟩) | (go_at_call 13; refine (subN_any _ _ _ (by omega) (by omega) (by omega) (by omega)).mono ?_; rintro e w' ⟨rfl, rfl⟩) | (go_at_call 17; refine (mulN_any _ _ _ (by omega) (by omega) (by omega) (by omega)).mono ?_; rintro e w' ⟨rfl, n, rfl⟩) | (go_at_call 14; refine (floor_any _ _ (by omega) (by omega)).mono ?_; rintro e w' ⟨rfl, rfl⟩) | (go_at_call 15; refine (of_any _ _ (by omega) (by omega)).mono ?_; rintro e w' ⟨rfl, rfl⟩) | (go_at_call 16; refine (div_any _ _ _ (by omega) (by omega) (by omega) (by omega) (by omega)).mono ?_; rintro e w' ⟨rfl, n, rfl⟩))
        all_goals
          go_ret
          exact ⟨rfl, by first | assumption | exact below_then (below_drewN (Below.refl _ _) _) (by assumption) | exact below_drewN (below_then (below_drewN (Below.refl _ _) _) (by assumption)) _ | exact below_drewN (by assumption) _⟩
  · by_cases hn' : 32767 < n
    · clear HO
      by_cases hb : b = 0
      · subst hb
        go_enter Tryd.func8, Tryd.ntmps8
        go_wp2_with (first | (go_at_call 9; refine (awake_any _).mono ?_; rintro e w1 ⟨rfl, hb⟩) | (go_at_call 10; refine (sat_any _ _ (by omega) (by omega)).mono ?_; rintro e w' ⟨rfl, rfl⟩) | (go_at_call 13; refine (subN_any _ _ _ (by omega) (by omega) (by omega) (by omega)).mono ?_; rintro e w' ⟨rfl, rfl⟩) | (go_at_call 17; refine (mulN_any _ _ _ (by omega) (by omega) (by omega) (by omega)).mono ?_; rintro e w' ⟨rfl, n, rfl⟩) | (go_at_call 14; refine (floor_any _ _ (by omega) (by omega)).mono ?_; rintro e w' ⟨rfl, rfl⟩) | (go_at_call 15; refine (of_any _ _ (by omega) (by omega)).mono ?_; rintro e w' ⟨rfl, rfl⟩) | (go_at_call 16; refine (div_zero _ _).mono ?_; rintro e w' ⟨rfl, n, rfl⟩))
        all_goals
          go_ret
          exact ⟨rfl, by first | assumption | exact below_then (below_drewN (Below.refl _ _) _) (by assumption) | exact below_drewN (below_then (below_drewN (Below.refl _ _) _) (by assumption)) _ | exact below_drewN (by assumption) _⟩
      · have hbn : (b == 0) = false := by simpa using hb
        by_cases ha : a = -2147483648
        · subst ha
          go_enter Tryd.func8, Tryd.ntmps8
          go_wp2_with (first | (go_at_call 9; refine (awake_any _).mono ?_; rintro e w1 ⟨rfl, hb⟩) | (go_at_call 10; refine (sat_any _ _ (by omega) (by omega)).mono ?_; rintro e w' ⟨rfl, rfl⟩) | (go_at_call 13; refine (subN_any _ _ _ (by omega) (by omega) (by omega) (by omega)).mono ?_; rintro e w' ⟨rfl, rfl⟩) | (go_at_call 17; refine (mulN_any _ _ _ (by omega) (by omega) (by omega) (by omega)).mono ?_; rintro e w' ⟨rfl, n, rfl⟩) | (go_at_call 14; refine (floor_any _ _ (by omega) (by omega)).mono ?_; rintro e w' ⟨rfl, rfl⟩) | (go_at_call 15; refine (of_any _ _ (by omega) (by omega)).mono ?_; rintro e w' ⟨rfl, rfl⟩) | (go_at_call 16; refine (div_any _ _ _ (by omega) (by omega) (by omega) (by omega) (by omega)).mono ?_; rintro e w' ⟨rfl, n, rfl⟩))
          all_goals
            go_ret
            exact ⟨rfl, by first | assumption | exact below_then (below_drewN (Below.refl _ _) _) (by assumption) | exact below_drewN (below_then (below_drewN (Below.refl _ _) _) (by assumption)) _ | exact below_drewN (by assumption) _⟩
        · have Q := quo_opp a b (by omega) (by omega) hb
          go_enter Tryd.func8, Tryd.ntmps8
          go_wp2_with (first | (go_at_call 9; refine (awake_any _).mono ?_; rintro e w1 ⟨rfl, hb⟩) | (go_at_call 10; refine (sat_any _ _ (by omega) (by omega)).mono ?_; rintro e w' ⟨rfl, rfl⟩) | (go_at_call 13; refine (subN_any _ _ _ (by omega) (by omega) (by omega) (by omega)).mono ?_; rintro e w' ⟨rfl, rfl⟩) | (go_at_call 17; refine (mulN_any _ _ _ (by omega) (by omega) (by omega) (by omega)).mono ?_; rintro e w' ⟨rfl, n, rfl⟩) | (go_at_call 14; refine (floor_any _ _ (by omega) (by omega)).mono ?_; rintro e w' ⟨rfl, rfl⟩) | (go_at_call 15; refine (of_any _ _ (by omega) (by omega)).mono ?_; rintro e w' ⟨rfl, rfl⟩) | (go_at_call 16; refine (div_any _ _ _ (by omega) (by omega) (by omega) (by omega) (by omega)).mono ?_; rintro e w' ⟨rfl, n, rfl⟩))
          all_goals
            go_ret
            exact ⟨rfl, by first | assumption | exact below_then (below_drewN (Below.refl _ _) _) (by assumption) | exact below_drewN (below_then (below_drewN (Below.refl _ _) _) (by assumption)) _ | exact below_drewN (by assumption) _⟩
    · have H1 := HO ⟨by omega, by omega⟩
      clear HO
      by_cases hb : b = 0
      · subst hb
        go_enter Tryd.func8, Tryd.ntmps8
        go_wp2_with (first | (go_at_call 9; refine (awake_any _).mono ?_; rintro e w1 ⟨rfl, hb⟩) | (go_at_call 10; refine (sat_any _ _ (by omega) (by omega)).mono ?_; rintro e w' ⟨rfl, rfl⟩) | (go_at_call 13; refine (subN_any _ _ _ (by omega) (by omega) (by omega) (by omega)).mono ?_; rintro e w' ⟨rfl, rfl⟩) | (go_at_call 17; refine (mulN_any _ _ _ (by omega) (by omega) (by omega) (by omega)).mono ?_; rintro e w' ⟨rfl, n, rfl⟩) | (go_at_call 14; refine (floor_any _ _ (by omega) (by omega)).mono ?_; rintro e w' ⟨rfl, rfl⟩) | (go_at_call 15; refine (of_any _ _ (by omega) (by omega)).mono ?_; rintro e w' ⟨rfl, rfl⟩) | (go_at_call 16; refine (div_zero _ _).mono ?_; rintro e w' ⟨rfl, n, rfl⟩))
        all_goals
          go_ret
          exact ⟨rfl, by first | assumption | exact below_then (below_drewN (Below.refl _ _) _) (by assumption) | exact below_drewN (below_then (below_drewN (Below.refl _ _) _) (by assumption)) _ | exact below_drewN (by assumption) _⟩
      · have hbn : (b == 0) = false := by simpa using hb
        by_cases ha : a = -2147483648
        · subst ha
          go_enter Tryd.func8, Tryd.ntmps8
          go_wp2_with (first | (go_at_call 9; refine (awake_any _).mono ?_; rintro e w1 ⟨rfl, hb⟩) | (go_at_call 10; refine (sat_any _ _ (by omega) (by omega)).mono ?_; rintro e w' ⟨rfl, rfl⟩) | (go_at_call 13; refine (subN_any _ _ _ (by omega) (by omega) (by omega) (by omega)).mono ?_; rintro e w' ⟨rfl, rfl⟩) | (go_at_call 17; refine (mulN_any _ _ _ (by omega) (by omega) (by omega) (by omega)).mono ?_; rintro e w' ⟨rfl, n, rfl⟩) | (go_at_call 14; refine (floor_any _ _ (by omega) (by omega)).mono ?_; rintro e w' ⟨rfl, rfl⟩) | (go_at_call 15; refine (of_any _ _ (by omega) (by omega)).mono ?_; rintro e w' ⟨rfl, rfl⟩) | (go_at_call 16; refine (div_any _ _ _ (by omega) (by omega) (by omega) (by omega) (by omega)).mono ?_; rintro e w' ⟨rfl, n, rfl⟩))
          all_goals
            go_ret
            exact ⟨rfl, by first | assumption | exact below_then (below_drewN (Below.refl _ _) _) (by assumption) | exact below_drewN (below_then (below_drewN (Below.refl _ _) _) (by assumption)) _ | exact below_drewN (by assumption) _⟩
        · have Q := quo_opp a b (by omega) (by omega) hb
          go_enter Tryd.func8, Tryd.ntmps8
          go_wp2_with (first | (go_at_call 9; refine (awake_any _).mono ?_; rintro e w1 ⟨rfl, hb⟩) | (go_at_call 10; refine (sat_any _ _ (by omega) (by omega)).mono ?_; rintro e w' ⟨rfl, rfl⟩) | (go_at_call 13; refine (subN_any _ _ _ (by omega) (by omega) (by omega) (by omega)).mono ?_; rintro e w' ⟨rfl, rfl⟩) | (go_at_call 17; refine (mulN_any _ _ _ (by omega) (by omega) (by omega) (by omega)).mono ?_; rintro e w' ⟨rfl, n, rfl⟩) | (go_at_call 14; refine (floor_any _ _ (by omega) (by omega)).mono ?_; rintro e w' ⟨rfl, rfl⟩) | (go_at_call 15; refine (of_any _ _ (by omega) (by omega)).mono ?_; rintro e w' ⟨rfl, rfl⟩) | (go_at_call 16; refine (div_any _ _ _ (by omega) (by omega) (by omega) (by omega) (by omega)).mono ?_; rintro e w' ⟨rfl, n, rfl⟩))
          all_goals
            go_ret
            exact ⟨rfl, by first | assumption | exact below_then (below_drewN (Below.refl _ _) _) (by assumption) | exact below_drewN (below_then (below_drewN (Below.refl _ _) _) (by assumption)) _ | exact below_drewN (by assumption) _⟩
end Go.Proofs.YtijjghlfamebaaaDoor
