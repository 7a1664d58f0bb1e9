/- The Go text of FixNear returns true at every four numbers; no condition. -/
import Derived.Test.YtijjghlfamebaaaDoorNum2
import Derived.Test.YtijjghlfamebaaaDoorFixN
import Derived.Test.YtijjghlfamebaaaDoorFix
import Derived.Test.YtijjghlfamebaaaDoorRef
namespace Go.Proofs.YtijjghlfamebaaaDoor
open Go.ChangeShapes Go.WideShapes Go.ChangeAt Go.RowKit
set_option linter.unusedVariables false
set_option maxHeartbeats 3200000 in
theorem near1 (x d a b : Int) (x1 : -9223372036854775808 ≤ x) (x2 : x ≤ 9223372036854775807) (d1 : -9223372036854775808 ≤ d) (d2 : d ≤ 9223372036854775807) (a1 : -2147483648 ≤ a) (a2 : a ≤ 2147483647) (b1 : -2147483648 ≤ b) (b2 : b ≤ 2147483647) (c1 : d < 1) (w : World) :
    Calls Tryd.prog 7 #[.int .i64 x, .int .i64 d, .int .i32 a, .int .i32 b] w fun e w' => e = .returned (.bool true) ∧ Below w.heap.size w w' := by
  by_cases hb : b = 0
  · subst hb
    go_enter Tryd.func7, Tryd.ntmps7
    go_wp2_with (first | (go_at_call 9; refine (awake_any _).mono ?_; rintro e w1 ⟨rfl, hb⟩) | (go_at_call 20; refine (round_any _ _ _ (by omega) (by omega) (by omega) (by omega)).mono ?_; rintro e w' ⟨rfl, n, rfl⟩) | (go_at_call 16; refine (div_zero _ _).mono ?_; rintro e w' ⟨rfl, n, rfl⟩))
    all_goals
      go_ret
      exact ⟨by first | rfl | exact ret_true (by omega), by first | assumption | exact below_then (below_drewN (Below.refl _ _) _) (by assumption) | exact below_drewN (below_then (below_drewN (Below.refl _ _) _) (by assumption)) _ | exact below_drewN (by assumption) _⟩
  · have hbn : (b == 0) = false := by simpa using hb
    have QB := quo_bd a b
    by_cases g1 : quo a b = 2147483647
    · skip
      go_enter Tryd.func7, Tryd.ntmps7
      go_wp2_with (first | (go_at_call 9; refine (awake_any _).mono ?_; rintro e w1 ⟨rfl, hb⟩) | (go_at_call 20; refine (round_any _ _ _ (by omega) (by omega) (by omega) (by omega)).mono ?_; rintro e w' ⟨rfl, n, rfl⟩) | (go_at_call 16; refine (div_any _ _ _ (by omega) (by omega) (by omega) (by omega) (by omega)).mono ?_; rintro e w' ⟨rfl, n, rfl⟩))
      all_goals
        go_ret
        exact ⟨by first | rfl | exact ret_true (by omega), by first | assumption | exact below_then (below_drewN (Below.refl _ _) _) (by assumption) | exact below_drewN (below_then (below_drewN (Below.refl _ _) _) (by assumption)) _ | exact below_drewN (by assumption) _⟩
    · have g1' : (quo a b == 2147483647) = false := by simpa using g1
      by_cases g2 : quo a b = -2147483647
      · clear g1 g1'
        go_enter Tryd.func7, Tryd.ntmps7
        go_wp2_with (first | (go_at_call 9; refine (awake_any _).mono ?_; rintro e w1 ⟨rfl, hb⟩) | (go_at_call 20; refine (round_any _ _ _ (by omega) (by omega) (by omega) (by omega)).mono ?_; rintro e w' ⟨rfl, n, rfl⟩) | (go_at_call 16; refine (div_any _ _ _ (by omega) (by omega) (by omega) (by omega) (by omega)).mono ?_; rintro e w' ⟨rfl, n, rfl⟩))
        all_goals
          go_ret
          exact ⟨by first | rfl | exact ret_true (by omega), by first | assumption | exact below_then (below_drewN (Below.refl _ _) _) (by assumption) | exact below_drewN (below_then (below_drewN (Below.refl _ _) _) (by assumption)) _ | exact below_drewN (by assumption) _⟩
      · have g2' : (quo a b == -2147483647) = false := by simpa using g2
        by_cases g3 : quo a b = 0
        · clear g1 g1' g2 g2'
          go_enter Tryd.func7, Tryd.ntmps7
          go_wp2_with (first | (go_at_call 9; refine (awake_any _).mono ?_; rintro e w1 ⟨rfl, hb⟩) | (go_at_call 20; refine (round_any _ _ _ (by omega) (by omega) (by omega) (by omega)).mono ?_; rintro e w' ⟨rfl, n, rfl⟩) | (go_at_call 16; refine (div_any _ _ _ (by omega) (by omega) (by omega) (by omega) (by omega)).mono ?_; rintro e w' ⟨rfl, n, rfl⟩))
          all_goals
            go_ret
            exact ⟨by first | rfl | exact ret_true (by omega), by first | assumption | exact below_then (below_drewN (Below.refl _ _) _) (by assumption) | exact below_drewN (below_then (below_drewN (Below.refl _ _) _) (by assumption)) _ | exact below_drewN (by assumption) _⟩
        · have g3' : (quo a b == 0) = false := by simpa using g3
          have QN := quo_near a b g1 g2
          have PB := prod_bd (a := quo a b) (b := b) (A := 2147483647) (B := 2147483648) QB.1 QB.2 (by omega) (by omega)
          by_cases hs : b < 0
          · have QN1 := QN.1 hs
            clear QN g1 g2 g3
            by_cases hm : quo a b * b - a * 65536 < 0
            · skip
              go_enter Tryd.func7, Tryd.ntmps7
              go_wp2_with (first | (go_at_call 9; refine (awake_any _).mono ?_; rintro e w1 ⟨rfl, hb⟩) | (go_at_call 20; refine (round_any _ _ _ (by omega) (by omega) (by omega) (by omega)).mono ?_; rintro e w' ⟨rfl, n, rfl⟩) | (go_at_call 16; refine (div_any _ _ _ (by omega) (by omega) (by omega) (by omega) (by omega)).mono ?_; rintro e w' ⟨rfl, n, rfl⟩))
              all_goals
                go_ret
                exact ⟨by first | rfl | exact ret_true (by omega), by first | assumption | exact below_then (below_drewN (Below.refl _ _) _) (by assumption) | exact below_drewN (below_then (below_drewN (Below.refl _ _) _) (by assumption)) _ | exact below_drewN (by assumption) _⟩
            · skip
              go_enter Tryd.func7, Tryd.ntmps7
              go_wp2_with (first | (go_at_call 9; refine (awake_any _).mono ?_; rintro e w1 ⟨rfl, hb⟩) | (go_at_call 20; refine (round_any _ _ _ (by omega) (by omega) (by omega) (by omega)).mono ?_; rintro e w' ⟨rfl, n, rfl⟩) | (go_at_call 16; refine (div_any _ _ _ (by omega) (by omega) (by omega) (by omega) (by omega)).mono ?_; rintro e w' ⟨rfl, n, rfl⟩))
              all_goals
                go_ret
                exact ⟨by first | rfl | exact ret_true (by omega), by first | assumption | exact below_then (below_drewN (Below.refl _ _) _) (by assumption) | exact below_drewN (below_then (below_drewN (Below.refl _ _) _) (by assumption)) _ | exact below_drewN (by assumption) _⟩
          · have QN1 := QN.2 (by omega)
            clear QN g1 g2 g3
            by_cases hm : quo a b * b - a * 65536 < 0
            · skip
              go_enter Tryd.func7, Tryd.ntmps7
              go_wp2_with (first | (go_at_call 9; refine (awake_any _).mono ?_; rintro e w1 ⟨rfl, hb⟩) | (go_at_call 20; refine (round_any _ _ _ (by omega) (by omega) (by omega) (by omega)).mono ?_; rintro e w' ⟨rfl, n, rfl⟩) | (go_at_call 16; refine (div_any _ _ _ (by omega) (by omega) (by omega) (by omega) (by omega)).mono ?_; rintro e w' ⟨rfl, n, rfl⟩))
              all_goals
                go_ret
                exact ⟨by first | rfl | exact ret_true (by omega), by first | assumption | exact below_then (below_drewN (Below.refl _ _) _) (by assumption) | exact below_drewN (below_then (below_drewN (Below.refl _ _) _) (by assumption)) _ | exact below_drewN (by assumption) _⟩
            · skip
              go_enter Tryd.func7, Tryd.ntmps7
              go_wp2_with (first | (go_at_call 9; refine (awake_any _).mono ?_; rintro e w1 ⟨rfl, hb⟩) | (go_at_call 20; refine (round_any _ _ _ (by omega) (by omega) (by omega) (by omega)).mono ?_; rintro e w' ⟨rfl, n, rfl⟩) | (go_at_call 16; refine (div_any _ _ _ (by omega) (by omega) (by omega) (by omega) (by omega)).mono ?_; rintro e w' ⟨rfl, n, rfl⟩))
              all_goals
                go_ret
                exact ⟨by first | rfl | exact ret_true (by omega), by first | assumption | exact below_then (below_drewN (Below.refl _ _) _) (by assumption) | exact below_drewN (below_then (below_drewN (Below.refl _ _) _) (by assumption)) _ | exact below_drewN (by assumption) _⟩
set_option maxHeartbeats 3200000 in
theorem near2 (x d a b : Int) (x1 : -9223372036854775808 ≤ x) (x2 : x ≤ 9223372036854775807) (d1 : -9223372036854775808 ≤ d) (d2 : d ≤ 9223372036854775807) (a1 : -2147483648 ≤ a) (a2 : a ≤ 2147483647) (b1 : -2147483648 ≤ b) (b2 : b ≤ 2147483647) (c1 : ¬ d < 1) (c2 : 2147483648 < d) (w : World) :
    Calls Tryd.prog 7 #[.int .i64 x, .int .i64 d, .int .i32 a, .int .i32 b] w fun e w' => e = .returned (.bool true) ∧ Below w.heap.size w w' := by
  by_cases hb : b = 0
  · subst hb
    go_enter Tryd.func7, Tryd.ntmps7
    go_wp2_with (first | (go_at_call 9; refine (awake_any _).mono ?_; rintro e w1 ⟨rfl, hb⟩) | (go_at_call 20; refine (round_any _ _ _ (by omega) (by omega) (by omega) (by omega)).mono ?_; rintro e w' ⟨rfl, n, rfl⟩) | (go_at_call 16; refine (div_zero _ _).mono ?_; rintro e w' ⟨rfl, n, rfl⟩))
    all_goals
      go_ret
      exact ⟨by first | rfl | exact ret_true (by omega), by first | assumption | exact below_then (below_drewN (Below.refl _ _) _) (by assumption) | exact below_drewN (below_then (below_drewN (Below.refl _ _) _) (by assumption)) _ | exact below_drewN (by assumption) _⟩
  · have hbn : (b == 0) = false := by simpa using hb
    have QB := quo_bd a b
    by_cases g1 : quo a b = 2147483647
    · skip
      go_enter Tryd.func7, Tryd.ntmps7
      go_wp2_with (first | (go_at_call 9; refine (awake_any _).mono ?_; rintro e w1 ⟨rfl, hb⟩) | (go_at_call 20; refine (round_any _ _ _ (by omega) (by omega) (by omega) (by omega)).mono ?_; rintro e w' ⟨rfl, n, rfl⟩) | (go_at_call 16; refine (div_any _ _ _ (by omega) (by omega) (by omega) (by omega) (by omega)).mono ?_; rintro e w' ⟨rfl, n, rfl⟩))
      all_goals
        go_ret
        exact ⟨by first | rfl | exact ret_true (by omega), by first | assumption | exact below_then (below_drewN (Below.refl _ _) _) (by assumption) | exact below_drewN (below_then (below_drewN (Below.refl _ _) _) (by assumption)) _ | exact below_drewN (by assumption) _⟩
    · have g1' : (quo a b == 2147483647) = false := by simpa using g1
      by_cases g2 : quo a b = -2147483647
      · clear g1 g1'
        go_enter Tryd.func7, Tryd.ntmps7
        go_wp2_with (first | (go_at_call 9; refine (awake_any _).mono ?_; rintro e w1 ⟨rfl, hb⟩) | (go_at_call 20; refine (round_any _ _ _ (by omega) (by omega) (by omega) (by omega)).mono ?_; rintro e w' ⟨rfl, n, rfl⟩) | (go_at_call 16; refine (div_any _ _ _ (by omega) (by omega) (by omega) (by omega) (by omega)).mono ?_; rintro e w' ⟨rfl, n, rfl⟩))
        all_goals
          go_ret
          exact ⟨by first | rfl | exact ret_true (by omega), by first | assumption | exact below_then (below_drewN (Below.refl _ _) _) (by assumption) | exact below_drewN (below_then (below_drewN (Below.refl _ _) _) (by assumption)) _ | exact below_drewN (by assumption) _⟩
      · have g2' : (quo a b == -2147483647) = false := by simpa using g2
        by_cases g3 : quo a b = 0
        · clear g1 g1' g2 g2'
          go_enter Tryd.func7, Tryd.ntmps7
          go_wp2_with (first | (go_at_call 9; refine (awake_any _).mono ?_; rintro e w1 ⟨rfl, hb⟩) | (go_at_call 20; refine (round_any _ _ _ (by omega) (by omega) (by omega) (by omega)).mono ?_; rintro e w' ⟨rfl, n, rfl⟩) | (go_at_call 16; refine (div_any _ _ _ (by omega) (by omega) (by omega) (by omega) (by omega)).mono ?_; rintro e w' ⟨rfl, n, rfl⟩))
          all_goals
            go_ret
            exact ⟨by first | rfl | exact ret_true (by omega), by first | assumption | exact below_then (below_drewN (Below.refl _ _) _) (by assumption) | exact below_drewN (below_then (below_drewN (Below.refl _ _) _) (by assumption)) _ | exact below_drewN (by assumption) _⟩
        · have g3' : (quo a b == 0) = false := by simpa using g3
          have QN := quo_near a b g1 g2
          have PB := prod_bd (a := quo a b) (b := b) (A := 2147483647) (B := 2147483648) QB.1 QB.2 (by omega) (by omega)
          by_cases hs : b < 0
          · have QN1 := QN.1 hs
            clear QN g1 g2 g3
            by_cases hm : quo a b * b - a * 65536 < 0
            · skip
              go_enter Tryd.func7, Tryd.ntmps7
              go_wp2_with (first | (go_at_call 9; refine (awake_any _).mono ?_; rintro e w1 ⟨rfl, hb⟩) | (go_at_call 20; refine (round_any _ _ _ (by omega) (by omega) (by omega) (by omega)).mono ?_; rintro e w' ⟨rfl, n, rfl⟩) | (go_at_call 16; refine (div_any _ _ _ (by omega) (by omega) (by omega) (by omega) (by omega)).mono ?_; rintro e w' ⟨rfl, n, rfl⟩))
              all_goals
                go_ret
                exact ⟨by first | rfl | exact ret_true (by omega), by first | assumption | exact below_then (below_drewN (Below.refl _ _) _) (by assumption) | exact below_drewN (below_then (below_drewN (Below.refl _ _) _) (by assumption)) _ | exact below_drewN (by assumption) _⟩
            · skip
              go_enter Tryd.func7, Tryd.ntmps7
              go_wp2_with (first | (go_at_call 9; refine (awake_any _).mono ?_; rintro e w1 ⟨rfl, hb⟩) | (go_at_call 20; refine (round_any _ _ _ (by omega) (by omega) (by omega) (by omega)).mono ?_; rintro e w' ⟨rfl, n, rfl⟩) | (go_at_call 16; refine (div_any _ _ _ (by omega) (by omega) (by omega) (by omega) (by omega)).mono ?_; rintro e w' ⟨rfl, n, rfl⟩))
              all_goals
                go_ret
                exact ⟨by first | rfl | exact ret_true (by omega), by first | assumption | exact below_then (below_drewN (Below.refl _ _) _) (by assumption) | exact below_drewN (below_then (below_drewN (Below.refl _ _) _) (by assumption)) _ | exact below_drewN (by assumption) _⟩
          · have QN1 := QN.2 (by omega)
            clear QN g1 g2 g3
            by_cases hm : quo a b * b - a * 65536 < 0
            · skip
              go_enter Tryd.func7, Tryd.ntmps7
              go_wp2_with (first | (go_at_call 9; refine (awake_any _).mono ?_; rintro e w1 ⟨rfl, hb⟩) | (go_at_call 20; refine (round_any _ _ _ (by omega) (by omega) (by omega) (by omega)).mono ?_; rintro e w' ⟨rfl, n, rfl⟩) | (go_at_call 16; refine (div_any _ _ _ (by omega) (by omega) (by omega) (by omega) (by omega)).mono ?_; rintro e w' ⟨rfl, n, rfl⟩))
              all_goals
                go_ret
                exact ⟨by first | rfl | exact ret_true (by omega), by first | assumption | exact below_then (below_drewN (Below.refl _ _) _) (by assumption) | exact below_drewN (below_then (below_drewN (Below.refl _ _) _) (by assumption)) _ | exact below_drewN (by assumption) _⟩
            · skip
              go_enter Tryd.func7, Tryd.ntmps7
              go_wp2_with (first | (go_at_call 9; refine (awake_any _).mono ?_; rintro e w1 ⟨rfl, hb⟩) | (go_at_call 20; refine (round_any _ _ _ (by omega) (by omega) (by omega) (by omega)).mono ?_; rintro e w' ⟨rfl, n, rfl⟩) | (go_at_call 16; refine (div_any _ _ _ (by omega) (by omega) (by omega) (by omega) (by omega)).mono ?_; rintro e w' ⟨rfl, n, rfl⟩))
              all_goals
                go_ret
                exact ⟨by first | rfl | exact ret_true (by omega), by first | assumption | exact below_then (below_drewN (Below.refl _ _) _) (by assumption) | exact below_drewN (below_then (below_drewN (Below.refl _ _) _) (by assumption)) _ | exact below_drewN (by assumption) _⟩
set_option maxHeartbeats 3200000 in
theorem near3 (x d a b : Int) (x1 : -9223372036854775808 ≤ x) (x2 : x ≤ 9223372036854775807) (d1 : -9223372036854775808 ≤ d) (d2 : d ≤ 9223372036854775807) (a1 : -2147483648 ≤ a) (a2 : a ≤ 2147483647) (b1 : -2147483648 ≤ b) (b2 : b ≤ 2147483647) (c1 : ¬ d < 1) (c2 : ¬ 2147483648 < d) (c3 : x ≤ -2305843009213693952) (w : World) :
    Calls Tryd.prog 7 #[.int .i64 x, .int .i64 d, .int .i32 a, .int .i32 b] w fun e w' => e = .returned (.bool true) ∧ Below w.heap.size w w' := by
  by_cases hb : b = 0
  · subst hb
    go_enter Tryd.func7, Tryd.ntmps7
    go_wp2_with (first | (go_at_call 9; refine (awake_any _).mono ?_; rintro e w1 ⟨rfl, hb⟩) | (go_at_call 20; refine (round_any _ _ _ (by omega) (by omega) (by omega) (by omega)).mono ?_; rintro e w' ⟨rfl, n, rfl⟩) | (go_at_call 16; refine (div_zero _ _).mono ?_; rintro e w' ⟨rfl, n, rfl⟩))
    all_goals
      go_ret
      exact ⟨by first | rfl | exact ret_true (by omega), by first | assumption | exact below_then (below_drewN (Below.refl _ _) _) (by assumption) | exact below_drewN (below_then (below_drewN (Below.refl _ _) _) (by assumption)) _ | exact below_drewN (by assumption) _⟩
  · have hbn : (b == 0) = false := by simpa using hb
    have QB := quo_bd a b
    by_cases g1 : quo a b = 2147483647
    · skip
      go_enter Tryd.func7, Tryd.ntmps7
      go_wp2_with (first | (go_at_call 9; refine (awake_any _).mono ?_; rintro e w1 ⟨rfl, hb⟩) | (go_at_call 20; refine (round_any _ _ _ (by omega) (by omega) (by omega) (by omega)).mono ?_; rintro e w' ⟨rfl, n, rfl⟩) | (go_at_call 16; refine (div_any _ _ _ (by omega) (by omega) (by omega) (by omega) (by omega)).mono ?_; rintro e w' ⟨rfl, n, rfl⟩))
      all_goals
        go_ret
        exact ⟨by first | rfl | exact ret_true (by omega), by first | assumption | exact below_then (below_drewN (Below.refl _ _) _) (by assumption) | exact below_drewN (below_then (below_drewN (Below.refl _ _) _) (by assumption)) _ | exact below_drewN (by assumption) _⟩
    · have g1' : (quo a b == 2147483647) = false := by simpa using g1
      by_cases g2 : quo a b = -2147483647
      · clear g1 g1'
        go_enter Tryd.func7, Tryd.ntmps7
        go_wp2_with (first | (go_at_call 9; refine (awake_any _).mono ?_; rintro e w1 ⟨rfl, hb⟩) | (go_at_call 20; refine (round_any _ _ _ (by omega) (by omega) (by omega) (by omega)).mono ?_; rintro e w' ⟨rfl, n, rfl⟩) | (go_at_call 16; refine (div_any _ _ _ (by omega) (by omega) (by omega) (by omega) (by omega)).mono ?_; rintro e w' ⟨rfl, n, rfl⟩))
        all_goals
          go_ret
          exact ⟨by first | rfl | exact ret_true (by omega), by first | assumption | exact below_then (below_drewN (Below.refl _ _) _) (by assumption) | exact below_drewN (below_then (below_drewN (Below.refl _ _) _) (by assumption)) _ | exact below_drewN (by assumption) _⟩
      · have g2' : (quo a b == -2147483647) = false := by simpa using g2
        by_cases g3 : quo a b = 0
        · clear g1 g1' g2 g2'
          go_enter Tryd.func7, Tryd.ntmps7
          go_wp2_with (first | (go_at_call 9; refine (awake_any _).mono ?_; rintro e w1 ⟨rfl, hb⟩) | (go_at_call 20; refine (round_any _ _ _ (by omega) (by omega) (by omega) (by omega)).mono ?_; rintro e w' ⟨rfl, n, rfl⟩) | (go_at_call 16; refine (div_any _ _ _ (by omega) (by omega) (by omega) (by omega) (by omega)).mono ?_; rintro e w' ⟨rfl, n, rfl⟩))
          all_goals
            go_ret
            exact ⟨by first | rfl | exact ret_true (by omega), by first | assumption | exact below_then (below_drewN (Below.refl _ _) _) (by assumption) | exact below_drewN (below_then (below_drewN (Below.refl _ _) _) (by assumption)) _ | exact below_drewN (by assumption) _⟩
        · have g3' : (quo a b == 0) = false := by simpa using g3
          have QN := quo_near a b g1 g2
          have PB := prod_bd (a := quo a b) (b := b) (A := 2147483647) (B := 2147483648) QB.1 QB.2 (by omega) (by omega)
          by_cases hs : b < 0
          · have QN1 := QN.1 hs
            clear QN g1 g2 g3
            by_cases hm : quo a b * b - a * 65536 < 0
            · skip
              go_enter Tryd.func7, Tryd.ntmps7
              go_wp2_with (first | (go_at_call 9; refine (awake_any _).mono ?_; rintro e w1 ⟨rfl, hb⟩) | (go_at_call 20; refine (round_any _ _ _ (by omega) (by omega) (by omega) (by omega)).mono ?_; rintro e w' ⟨rfl, n, rfl⟩) | (go_at_call 16; refine (div_any _ _ _ (by omega) (by omega) (by omega) (by omega) (by omega)).mono ?_; rintro e w' ⟨rfl, n, rfl⟩))
              all_goals
                go_ret
                exact ⟨by first | rfl | exact ret_true (by omega), by first | assumption | exact below_then (below_drewN (Below.refl _ _) _) (by assumption) | exact below_drewN (below_then (below_drewN (Below.refl _ _) _) (by assumption)) _ | exact below_drewN (by assumption) _⟩
            · skip
              go_enter Tryd.func7, Tryd.ntmps7
              go_wp2_with (first | (go_at_call 9; refine (awake_any _).mono ?_; rintro e w1 ⟨rfl, hb⟩) | (go_at_call 20; refine (round_any _ _ _ (by omega) (by omega) (by omega) (by omega)).mono ?_; rintro e w' ⟨rfl, n, rfl⟩) | (go_at_call 16; refine (div_any _ _ _ (by omega) (by omega) (by omega) (by omega) (by omega)).mono ?_; rintro e w' ⟨rfl, n, rfl⟩))
              all_goals
                go_ret
                exact ⟨by first | rfl | exact ret_true (by omega), by first | assumption | exact below_then (below_drewN (Below.refl _ _) _) (by assumption) | exact below_drewN (below_then (below_drewN (Below.refl _ _) _) (by assumption)) _ | exact below_drewN (by assumption) _⟩
          · have QN1 := QN.2 (by omega)
            clear QN g1 g2 g3
            by_cases hm : quo a b * b - a * 65536 < 0
            · skip
              go_enter Tryd.func7, Tryd.ntmps7
              go_wp2_with (first | (go_at_call 9; refine (awake_any _).mono ?_; rintro e w1 ⟨rfl, hb⟩) | (go_at_call 20; refine (round_any _ _ _ (by omega) (by omega) (by omega) (by omega)).mono ?_; rintro e w' ⟨rfl, n, rfl⟩) | (go_at_call 16; refine (div_any _ _ _ (by omega) (by omega) (by omega) (by omega) (by omega)).mono ?_; rintro e w' ⟨rfl, n, rfl⟩))
              all_goals
                go_ret
                exact ⟨by first | rfl | exact ret_true (by omega), by first | assumption | exact below_then (below_drewN (Below.refl _ _) _) (by assumption) | exact below_drewN (below_then (below_drewN (Below.refl _ _) _) (by assumption)) _ | exact below_drewN (by assumption) _⟩
            · skip
              go_enter Tryd.func7, Tryd.ntmps7
              go_wp2_with (first | (go_at_call 9; refine (awake_any _).mono ?_; rintro e w1 ⟨rfl, hb⟩) | (go_at_call 20; refine (round_any _ _ _ (by omega) (by omega) (by omega) (by omega)).mono ?_; rintro e w' ⟨rfl, n, rfl⟩) | (go_at_call 16; refine (div_any _ _ _ (by omega) (by omega) (by omega) (by omega) (by omega)).mono ?_; rintro e w' ⟨rfl, n, rfl⟩))
              all_goals
                go_ret
                exact ⟨by first | rfl | exact ret_true (by omega), by first | assumption | exact below_then (below_drewN (Below.refl _ _) _) (by assumption) | exact below_drewN (below_then (below_drewN (Below.refl _ _) _) (by assumption)) _ | exact below_drewN (by assumption) _⟩
set_option maxHeartbeats 3200000 in
theorem near4 (x d a b : Int) (x1 : -9223372036854775808 ≤ x) (x2 : x ≤ 9223372036854775807) (d1 : -9223372036854775808 ≤ d) (d2 : d ≤ 9223372036854775807) (a1 : -2147483648 ≤ a) (a2 : a ≤ 2147483647) (b1 : -2147483648 ≤ b) (b2 : b ≤ 2147483647) (c1 : ¬ d < 1) (c2 : ¬ 2147483648 < d) (c3 : ¬ x ≤ -2305843009213693952) (c4 : 2305843009213693952 ≤ x) (w : World) :
    Calls Tryd.prog 7 #[.int .i64 x, .int .i64 d, .int .i32 a, .int .i32 b] w fun e w' => e = .returned (.bool true) ∧ Below w.heap.size w w' := by
  by_cases hb : b = 0
  · subst hb
    go_enter Tryd.func7, Tryd.ntmps7
    go_wp2_with (first | (go_at_call 9; refine (awake_any _).mono ?_; rintro e w1 ⟨rfl, hb⟩) | (go_at_call 20; refine (round_any _ _ _ (by omega) (by omega) (by omega) (by omega)).mono ?_; rintro e w' ⟨rfl, n, rfl⟩) | (go_at_call 16; refine (div_zero _ _).mono ?_; rintro e w' ⟨rfl, n, rfl⟩))
    all_goals
      go_ret
      exact ⟨by first | rfl | exact ret_true (by omega), by first | assumption | exact below_then (below_drewN (Below.refl _ _) _) (by assumption) | exact below_drewN (below_then (below_drewN (Below.refl _ _) _) (by assumption)) _ | exact below_drewN (by assumption) _⟩
  · have hbn : (b == 0) = false := by simpa using hb
    have QB := quo_bd a b
    by_cases g1 : quo a b = 2147483647
    · skip
      go_enter Tryd.func7, Tryd.ntmps7
      go_wp2_with (first | (go_at_call 9; refine (awake_any _).mono ?_; rintro e w1 ⟨rfl, hb⟩) | (go_at_call 20; refine (round_any _ _ _ (by omega) (by omega) (by omega) (by omega)).mono ?_; rintro e w' ⟨rfl, n, rfl⟩) | (go_at_call 16; refine (div_any _ _ _ (by omega) (by omega) (by omega) (by omega) (by omega)).mono ?_; rintro e w' ⟨rfl, n, rfl⟩))
      all_goals
        go_ret
        exact ⟨by first | rfl | exact ret_true (by omega), by first | assumption | exact below_then (below_drewN (Below.refl _ _) _) (by assumption) | exact below_drewN (below_then (below_drewN (Below.refl _ _) _) (by assumption)) _ | exact below_drewN (by assumption) _⟩
    · have g1' : (quo a b == 2147483647) = false := by simpa using g1
      by_cases g2 : quo a b = -2147483647
      · clear g1 g1'
        go_enter Tryd.func7, Tryd.ntmps7
        go_wp2_with (first | (go_at_call 9; refine (awake_any _).mono ?_; rintro e w1 ⟨rfl, hb⟩) | (go_at_call 20; refine (round_any _ _ _ (by omega) (by omega) (by omega) (by omega)).mono ?_; rintro e w' ⟨rfl, n, rfl⟩) | (go_at_call 16; refine (div_any _ _ _ (by omega) (by omega) (by omega) (by omega) (by omega)).mono ?_; rintro e w' ⟨rfl, n, rfl⟩))
        all_goals
          go_ret
          exact ⟨by first | rfl | exact ret_true (by omega), by first | assumption | exact below_then (below_drewN (Below.refl _ _) _) (by assumption) | exact below_drewN (below_then (below_drewN (Below.refl _ _) _) (by assumption)) _ | exact below_drewN (by assumption) _⟩
      · have g2' : (quo a b == -2147483647) = false := by simpa using g2
        by_cases g3 : quo a b = 0
        · clear g1 g1' g2 g2'
          go_enter Tryd.func7, Tryd.ntmps7
          go_wp2_with (first | (go_at_call 9; refine (awake_any _).mono ?_; rintro e w1 ⟨rfl, hb⟩) | (go_at_call 20; refine (round_any _ _ _ (by omega) (by omega) (by omega) (by omega)).mono ?_; rintro e w' ⟨rfl, n, rfl⟩) | (go_at_call 16; refine (div_any _ _ _ (by omega) (by omega) (by omega) (by omega) (by omega)).mono ?_; rintro e w' ⟨rfl, n, rfl⟩))
          all_goals
            go_ret
            exact ⟨by first | rfl | exact ret_true (by omega), by first | assumption | exact below_then (below_drewN (Below.refl _ _) _) (by assumption) | exact below_drewN (below_then (below_drewN (Below.refl _ _) _) (by assumption)) _ | exact below_drewN (by assumption) _⟩
        · have g3' : (quo a b == 0) = false := by simpa using g3
          have QN := quo_near a b g1 g2
          have PB := prod_bd (a := quo a b) (b := b) (A := 2147483647) (B := 2147483648) QB.1 QB.2 (by omega) (by omega)
          by_cases hs : b < 0
          · have QN1 := QN.1 hs
            clear QN g1 g2 g3
            by_cases hm : quo a b * b - a * 65536 < 0
            · skip
              go_enter Tryd.func7, Tryd.ntmps7
              go_wp2_with (first | (go_at_call 9; refine (awake_any _).mono ?_; rintro e w1 ⟨rfl, hb⟩) | (go_at_call 20; refine (round_any _ _ _ (by omega) (by omega) (by omega) (by omega)).mono ?_; rintro e w' ⟨rfl, n, rfl⟩) | (go_at_call 16; refine (div_any _ _ _ (by omega) (by omega) (by omega) (by omega) (by omega)).mono ?_; rintro e w' ⟨rfl, n, rfl⟩))
              all_goals
                go_ret
                exact ⟨by first | rfl | exact ret_true (by omega), by first | assumption | exact below_then (below_drewN (Below.refl _ _) _) (by assumption) | exact below_drewN (below_then (below_drewN (Below.refl _ _) _) (by assumption)) _ | exact below_drewN (by assumption) _⟩
            · skip
              go_enter Tryd.func7, Tryd.ntmps7
              go_wp2_with (first | (go_at_call 9; refine (awake_any _).mono ?_; rintro e w1 ⟨rfl, hb⟩) | (go_at_call 20; refine (round_any _ _ _ (by omega) (by omega) (by omega) (by omega)).mono ?_; rintro e w' ⟨rfl, n, rfl⟩) | (go_at_call 16; refine (div_any _ _ _ (by omega) (by omega) (by omega) (by omega) (by omega)).mono ?_; rintro e w' ⟨rfl, n, rfl⟩))
              all_goals
                go_ret
                exact ⟨by first | rfl | exact ret_true (by omega), by first | assumption | exact below_then (below_drewN (Below.refl _ _) _) (by assumption) | exact below_drewN (below_then (below_drewN (Below.refl _ _) _) (by assumption)) _ | exact below_drewN (by assumption) _⟩
          · have QN1 := QN.2 (by omega)
            clear QN g1 g2 g3
            by_cases hm : quo a b * b - a * 65536 < 0
            · skip
              go_enter Tryd.func7, Tryd.ntmps7
              go_wp2_with (first | (go_at_call 9; refine (awake_any _).mono ?_; rintro e w1 ⟨rfl, hb⟩) | (go_at_call 20; refine (round_any _ _ _ (by omega) (by omega) (by omega) (by omega)).mono ?_; rintro e w' ⟨rfl, n, rfl⟩) | (go_at_call 16; refine (div_any _ _ _ (by omega) (by omega) (by omega) (by omega) (by omega)).mono ?_; rintro e w' ⟨rfl, n, rfl⟩))
              all_goals
                go_ret
                exact ⟨by first | rfl | exact ret_true (by omega), by first | assumption | exact below_then (below_drewN (Below.refl _ _) _) (by assumption) | exact below_drewN (below_then (below_drewN (Below.refl _ _) _) (by assumption)) _ | exact below_drewN (by assumption) _⟩
            · skip
              go_enter Tryd.func7, Tryd.ntmps7
              go_wp2_with (first | (go_at_call 9; refine (awake_any _).mono ?_; rintro e w1 ⟨rfl, hb⟩) | (go_at_call 20; refine (round_any _ _ _ (by omega) (by omega) (by omega) (by omega)).mono ?_; rintro e w' ⟨rfl, n, rfl⟩) | (go_at_call 16; refine (div_any _ _ _ (by omega) (by omega) (by omega) (by omega) (by omega)).mono ?_; rintro e w' ⟨rfl, n, rfl⟩))
              all_goals
                go_ret
                exact ⟨by first | rfl | exact ret_true (by omega), by first | assumption | exact below_then (below_drewN (Below.refl _ _) _) (by assumption) | exact below_drewN (below_then (below_drewN (Below.refl _ _) _) (by assumption)) _ | exact below_drewN (by assumption) _⟩
set_option maxHeartbeats 3200000 in
theorem near5 (x d a b : Int) (x1 : -9223372036854775808 ≤ x) (x2 : x ≤ 9223372036854775807) (d1 : -9223372036854775808 ≤ d) (d2 : d ≤ 9223372036854775807) (a1 : -2147483648 ≤ a) (a2 : a ≤ 2147483647) (b1 : -2147483648 ≤ b) (b2 : b ≤ 2147483647) (c1 : ¬ d < 1) (c2 : ¬ 2147483648 < d) (c3 : ¬ x ≤ -2305843009213693952) (c4 : ¬ 2305843009213693952 ≤ x) (n1 : -d ≤ 2 * (x - rnd x d * d)) (n2 : 2 * (x - rnd x d * d) ≤ d) (n3 : d ≤ 2 * x - 2 * (rnd x d * d)) (n4 : x ≤ 0) (w : World) :
    Calls Tryd.prog 7 #[.int .i64 x, .int .i64 d, .int .i32 a, .int .i32 b] w fun e w' => e = .returned (.bool true) ∧ Below w.heap.size w w' := by
  have t1 : ((x - rnd x d * d) == (d - (x - rnd x d * d))) = true := by rw [beq_iff_eq]; omega
  by_cases hb : b = 0
  · subst hb
    go_enter Tryd.func7, Tryd.ntmps7
    go_wp2_with (first | (go_at_call 9; refine (awake_any _).mono ?_; rintro e w1 ⟨rfl, hb⟩) | (go_at_call 20; refine (round_any _ _ _ (by omega) (by omega) (by omega) (by omega)).mono ?_; rintro e w' ⟨rfl, n, rfl⟩) | (go_at_call 16; refine (div_zero _ _).mono ?_; rintro e w' ⟨rfl, n, rfl⟩))
    all_goals
      go_ret
      exact ⟨by first | rfl | exact ret_true (by omega), by first | assumption | exact below_then (below_drewN (Below.refl _ _) _) (by assumption) | exact below_drewN (below_then (below_drewN (Below.refl _ _) _) (by assumption)) _ | exact below_drewN (by assumption) _⟩
  · have hbn : (b == 0) = false := by simpa using hb
    have QB := quo_bd a b
    by_cases g1 : quo a b = 2147483647
    · skip
      go_enter Tryd.func7, Tryd.ntmps7
      go_wp2_with (first | (go_at_call 9; refine (awake_any _).mono ?_; rintro e w1 ⟨rfl, hb⟩) | (go_at_call 20; refine (round_any _ _ _ (by omega) (by omega) (by omega) (by omega)).mono ?_; rintro e w' ⟨rfl, n, rfl⟩) | (go_at_call 16; refine (div_any _ _ _ (by omega) (by omega) (by omega) (by omega) (by omega)).mono ?_; rintro e w' ⟨rfl, n, rfl⟩))
      all_goals
        go_ret
        exact ⟨by first | rfl | exact ret_true (by omega), by first | assumption | exact below_then (below_drewN (Below.refl _ _) _) (by assumption) | exact below_drewN (below_then (below_drewN (Below.refl _ _) _) (by assumption)) _ | exact below_drewN (by assumption) _⟩
    · have g1' : (quo a b == 2147483647) = false := by simpa using g1
      by_cases g2 : quo a b = -2147483647
      · clear g1 g1'
        go_enter Tryd.func7, Tryd.ntmps7
        go_wp2_with (first | (go_at_call 9; refine (awake_any _).mono ?_; rintro e w1 ⟨rfl, hb⟩) | (go_at_call 20; refine (round_any _ _ _ (by omega) (by omega) (by omega) (by omega)).mono ?_; rintro e w' ⟨rfl, n, rfl⟩) | (go_at_call 16; refine (div_any _ _ _ (by omega) (by omega) (by omega) (by omega) (by omega)).mono ?_; rintro e w' ⟨rfl, n, rfl⟩))
        all_goals
          go_ret
          exact ⟨by first | rfl | exact ret_true (by omega), by first | assumption | exact below_then (below_drewN (Below.refl _ _) _) (by assumption) | exact below_drewN (below_then (below_drewN (Below.refl _ _) _) (by assumption)) _ | exact below_drewN (by assumption) _⟩
      · have g2' : (quo a b == -2147483647) = false := by simpa using g2
        by_cases g3 : quo a b = 0
        · clear g1 g1' g2 g2'
          go_enter Tryd.func7, Tryd.ntmps7
          go_wp2_with (first | (go_at_call 9; refine (awake_any _).mono ?_; rintro e w1 ⟨rfl, hb⟩) | (go_at_call 20; refine (round_any _ _ _ (by omega) (by omega) (by omega) (by omega)).mono ?_; rintro e w' ⟨rfl, n, rfl⟩) | (go_at_call 16; refine (div_any _ _ _ (by omega) (by omega) (by omega) (by omega) (by omega)).mono ?_; rintro e w' ⟨rfl, n, rfl⟩))
          all_goals
            go_ret
            exact ⟨by first | rfl | exact ret_true (by omega), by first | assumption | exact below_then (below_drewN (Below.refl _ _) _) (by assumption) | exact below_drewN (below_then (below_drewN (Below.refl _ _) _) (by assumption)) _ | exact below_drewN (by assumption) _⟩
        · have g3' : (quo a b == 0) = false := by simpa using g3
          have QN := quo_near a b g1 g2
          have PB := prod_bd (a := quo a b) (b := b) (A := 2147483647) (B := 2147483648) QB.1 QB.2 (by omega) (by omega)
          by_cases hs : b < 0
          · have QN1 := QN.1 hs
            clear QN g1 g2 g3
            by_cases hm : quo a b * b - a * 65536 < 0
            · skip
              go_enter Tryd.func7, Tryd.ntmps7
              go_wp2_with (first | (go_at_call 9; refine (awake_any _).mono ?_; rintro e w1 ⟨rfl, hb⟩) | (go_at_call 20; refine (round_any _ _ _ (by omega) (by omega) (by omega) (by omega)).mono ?_; rintro e w' ⟨rfl, n, rfl⟩) | (go_at_call 16; refine (div_any _ _ _ (by omega) (by omega) (by omega) (by omega) (by omega)).mono ?_; rintro e w' ⟨rfl, n, rfl⟩))
              all_goals
                go_ret
                exact ⟨by first | rfl | exact ret_true (by omega), by first | assumption | exact below_then (below_drewN (Below.refl _ _) _) (by assumption) | exact below_drewN (below_then (below_drewN (Below.refl _ _) _) (by assumption)) _ | exact below_drewN (by assumption) _⟩
            · skip
              go_enter Tryd.func7, Tryd.ntmps7
              go_wp2_with (first | (go_at_call 9; refine (awake_any _).mono ?_; rintro e w1 ⟨rfl, hb⟩) | (go_at_call 20; refine (round_any _ _ _ (by omega) (by omega) (by omega) (by omega)).mono ?_; rintro e w' ⟨rfl, n, rfl⟩) | (go_at_call 16; refine (div_any _ _ _ (by omega) (by omega) (by omega) (by omega) (by omega)).mono ?_; rintro e w' ⟨rfl, n, rfl⟩))
              all_goals
                go_ret
                exact ⟨by first | rfl | exact ret_true (by omega), by first | assumption | exact below_then (below_drewN (Below.refl _ _) _) (by assumption) | exact below_drewN (below_then (below_drewN (Below.refl _ _) _) (by assumption)) _ | exact below_drewN (by assumption) _⟩
          · have QN1 := QN.2 (by omega)
            clear QN g1 g2 g3
            by_cases hm : quo a b * b - a * 65536 < 0
            · skip
              go_enter Tryd.func7, Tryd.ntmps7
              go_wp2_with (first | (go_at_call 9; refine (awake_any _).mono ?_; rintro e w1 ⟨rfl, hb⟩) | (go_at_call 20; refine (round_any _ _ _ (by omega) (by omega) (by omega) (by omega)).mono ?_; rintro e w' ⟨rfl, n, rfl⟩) | (go_at_call 16; refine (div_any _ _ _ (by omega) (by omega) (by omega) (by omega) (by omega)).mono ?_; rintro e w' ⟨rfl, n, rfl⟩))
              all_goals
                go_ret
                exact ⟨by first | rfl | exact ret_true (by omega), by first | assumption | exact below_then (below_drewN (Below.refl _ _) _) (by assumption) | exact below_drewN (below_then (below_drewN (Below.refl _ _) _) (by assumption)) _ | exact below_drewN (by assumption) _⟩
            · skip
              go_enter Tryd.func7, Tryd.ntmps7
              go_wp2_with (first | (go_at_call 9; refine (awake_any _).mono ?_; rintro e w1 ⟨rfl, hb⟩) | (go_at_call 20; refine (round_any _ _ _ (by omega) (by omega) (by omega) (by omega)).mono ?_; rintro e w' ⟨rfl, n, rfl⟩) | (go_at_call 16; refine (div_any _ _ _ (by omega) (by omega) (by omega) (by omega) (by omega)).mono ?_; rintro e w' ⟨rfl, n, rfl⟩))
              all_goals
                go_ret
                exact ⟨by first | rfl | exact ret_true (by omega), by first | assumption | exact below_then (below_drewN (Below.refl _ _) _) (by assumption) | exact below_drewN (below_then (below_drewN (Below.refl _ _) _) (by assumption)) _ | exact below_drewN (by assumption) _⟩
set_option maxHeartbeats 3200000 in
theorem near6 (x d a b : Int) (x1 : -9223372036854775808 ≤ x) (x2 : x ≤ 9223372036854775807) (d1 : -9223372036854775808 ≤ d) (d2 : d ≤ 9223372036854775807) (a1 : -2147483648 ≤ a) (a2 : a ≤ 2147483647) (b1 : -2147483648 ≤ b) (b2 : b ≤ 2147483647) (c1 : ¬ d < 1) (c2 : ¬ 2147483648 < d) (c3 : ¬ x ≤ -2305843009213693952) (c4 : ¬ 2305843009213693952 ≤ x) (n1 : -d ≤ 2 * (x - rnd x d * d)) (n2 : 2 * (x - rnd x d * d) ≤ d) (n3 : 2 * x - 2 * (rnd x d * d) < d) (n5 : d ≤ 2 * (rnd x d * d) - 2 * x) (n4 : 0 ≤ x) (w : World) :
    Calls Tryd.prog 7 #[.int .i64 x, .int .i64 d, .int .i32 a, .int .i32 b] w fun e w' => e = .returned (.bool true) ∧ Below w.heap.size w w' := by
  have t1 : (-(x - rnd x d * d) == (d + (x - rnd x d * d))) = true := by rw [beq_iff_eq]; omega
  have t2 : ((rnd x d * d - x) == (d + (x - rnd x d * d))) = true := by rw [beq_iff_eq]; omega
  by_cases hb : b = 0
  · subst hb
    go_enter Tryd.func7, Tryd.ntmps7
    go_wp2_with (first | (go_at_call 9; refine (awake_any _).mono ?_; rintro e w1 ⟨rfl, hb⟩) | (go_at_call 20; refine (round_any _ _ _ (by omega) (by omega) (by omega) (by omega)).mono ?_; rintro e w' ⟨rfl, n, rfl⟩) | (go_at_call 16; refine (div_zero _ _).mono ?_; rintro e w' ⟨rfl, n, rfl⟩))
    all_goals
      go_ret
      exact ⟨by first | rfl | exact ret_true (by omega), by first | assumption | exact below_then (below_drewN (Below.refl _ _) _) (by assumption) | exact below_drewN (below_then (below_drewN (Below.refl _ _) _) (by assumption)) _ | exact below_drewN (by assumption) _⟩
  · have hbn : (b == 0) = false := by simpa using hb
    have QB := quo_bd a b
    by_cases g1 : quo a b = 2147483647
    · skip
      go_enter Tryd.func7, Tryd.ntmps7
      go_wp2_with (first | (go_at_call 9; refine (awake_any _).mono ?_; rintro e w1 ⟨rfl, hb⟩) | (go_at_call 20; refine (round_any _ _ _ (by omega) (by omega) (by omega) (by omega)).mono ?_; rintro e w' ⟨rfl, n, rfl⟩) | (go_at_call 16; refine (div_any _ _ _ (by omega) (by omega) (by omega) (by omega) (by omega)).mono ?_; rintro e w' ⟨rfl, n, rfl⟩))
      all_goals
        go_ret
        exact ⟨by first | rfl | exact ret_true (by omega), by first | assumption | exact below_then (below_drewN (Below.refl _ _) _) (by assumption) | exact below_drewN (below_then (below_drewN (Below.refl _ _) _) (by assumption)) _ | exact below_drewN (by assumption) _⟩
    · have g1' : (quo a b == 2147483647) = false := by simpa using g1
      by_cases g2 : quo a b = -2147483647
      · clear g1 g1'
        go_enter Tryd.func7, Tryd.ntmps7
        go_wp2_with (first | (go_at_call 9; refine (awake_any _).mono ?_; rintro e w1 ⟨rfl, hb⟩) | (go_at_call 20; refine (round_any _ _ _ (by omega) (by omega) (by omega) (by omega)).mono ?_; rintro e w' ⟨rfl, n, rfl⟩) | (go_at_call 16; refine (div_any _ _ _ (by omega) (by omega) (by omega) (by omega) (by omega)).mono ?_; rintro e w' ⟨rfl, n, rfl⟩))
        all_goals
          go_ret
          exact ⟨by first | rfl | exact ret_true (by omega), by first | assumption | exact below_then (below_drewN (Below.refl _ _) _) (by assumption) | exact below_drewN (below_then (below_drewN (Below.refl _ _) _) (by assumption)) _ | exact below_drewN (by assumption) _⟩
      · have g2' : (quo a b == -2147483647) = false := by simpa using g2
        by_cases g3 : quo a b = 0
        · clear g1 g1' g2 g2'
          go_enter Tryd.func7, Tryd.ntmps7
          go_wp2_with (first | (go_at_call 9; refine (awake_any _).mono ?_; rintro e w1 ⟨rfl, hb⟩) | (go_at_call 20; refine (round_any _ _ _ (by omega) (by omega) (by omega) (by omega)).mono ?_; rintro e w' ⟨rfl, n, rfl⟩) | (go_at_call 16; refine (div_any _ _ _ (by omega) (by omega) (by omega) (by omega) (by omega)).mono ?_; rintro e w' ⟨rfl, n, rfl⟩))
          all_goals
            go_ret
            exact ⟨by first | rfl | exact ret_true (by omega), by first | assumption | exact below_then (below_drewN (Below.refl _ _) _) (by assumption) | exact below_drewN (below_then (below_drewN (Below.refl _ _) _) (by assumption)) _ | exact below_drewN (by assumption) _⟩
        · have g3' : (quo a b == 0) = false := by simpa using g3
          have QN := quo_near a b g1 g2
          have PB := prod_bd (a := quo a b) (b := b) (A := 2147483647) (B := 2147483648) QB.1 QB.2 (by omega) (by omega)
          by_cases hs : b < 0
          · have QN1 := QN.1 hs
            clear QN g1 g2 g3
            by_cases hm : quo a b * b - a * 65536 < 0
            · skip
              go_enter Tryd.func7, Tryd.ntmps7
              go_wp2_with (first | (go_at_call 9; refine (awake_any _).mono ?_; rintro e w1 ⟨rfl, hb⟩) | (go_at_call 20; refine (round_any _ _ _ (by omega) (by omega) (by omega) (by omega)).mono ?_; rintro e w' ⟨rfl, n, rfl⟩) | (go_at_call 16; refine (div_any _ _ _ (by omega) (by omega) (by omega) (by omega) (by omega)).mono ?_; rintro e w' ⟨rfl, n, rfl⟩))
              all_goals
                go_ret
                exact ⟨by first | rfl | exact ret_true (by omega), by first | assumption | exact below_then (below_drewN (Below.refl _ _) _) (by assumption) | exact below_drewN (below_then (below_drewN (Below.refl _ _) _) (by assumption)) _ | exact below_drewN (by assumption) _⟩
            · skip
              go_enter Tryd.func7, Tryd.ntmps7
              go_wp2_with (first | (go_at_call 9; refine (awake_any _).mono ?_; rintro e w1 ⟨rfl, hb⟩) | (go_at_call 20; refine (round_any _ _ _ (by omega) (by omega) (by omega) (by omega)).mono ?_; rintro e w' ⟨rfl, n, rfl⟩) | (go_at_call 16; refine (div_any _ _ _ (by omega) (by omega) (by omega) (by omega) (by omega)).mono ?_; rintro e w' ⟨rfl, n, rfl⟩))
              all_goals
                go_ret
                exact ⟨by first | rfl | exact ret_true (by omega), by first | assumption | exact below_then (below_drewN (Below.refl _ _) _) (by assumption) | exact below_drewN (below_then (below_drewN (Below.refl _ _) _) (by assumption)) _ | exact below_drewN (by assumption) _⟩
          · have QN1 := QN.2 (by omega)
            clear QN g1 g2 g3
            by_cases hm : quo a b * b - a * 65536 < 0
            · skip
              go_enter Tryd.func7, Tryd.ntmps7
              go_wp2_with (first | (go_at_call 9; refine (awake_any _).mono ?_; rintro e w1 ⟨rfl, hb⟩) | (go_at_call 20; refine (round_any _ _ _ (by omega) (by omega) (by omega) (by omega)).mono ?_; rintro e w' ⟨rfl, n, rfl⟩) | (go_at_call 16; refine (div_any _ _ _ (by omega) (by omega) (by omega) (by omega) (by omega)).mono ?_; rintro e w' ⟨rfl, n, rfl⟩))
              all_goals
                go_ret
                exact ⟨by first | rfl | exact ret_true (by omega), by first | assumption | exact below_then (below_drewN (Below.refl _ _) _) (by assumption) | exact below_drewN (below_then (below_drewN (Below.refl _ _) _) (by assumption)) _ | exact below_drewN (by assumption) _⟩
            · skip
              go_enter Tryd.func7, Tryd.ntmps7
              go_wp2_with (first | (go_at_call 9; refine (awake_any _).mono ?_; rintro e w1 ⟨rfl, hb⟩) | (go_at_call 20; refine (round_any _ _ _ (by omega) (by omega) (by omega) (by omega)).mono ?_; rintro e w' ⟨rfl, n, rfl⟩) | (go_at_call 16; refine (div_any _ _ _ (by omega) (by omega) (by omega) (by omega) (by omega)).mono ?_; rintro e w' ⟨rfl, n, rfl⟩))
              all_goals
                go_ret
                exact ⟨by first | rfl | exact ret_true (by omega), by first | assumption | exact below_then (below_drewN (Below.refl _ _) _) (by assumption) | exact below_drewN (below_then (below_drewN (Below.refl _ _) _) (by assumption)) _ | exact below_drewN (by assumption) _⟩
set_option maxHeartbeats 3200000 in
theorem near7 (x d a b : Int) (x1 : -9223372036854775808 ≤ x) (x2 : x ≤ 9223372036854775807) (d1 : -9223372036854775808 ≤ d) (d2 : d ≤ 9223372036854775807) (a1 : -2147483648 ≤ a) (a2 : a ≤ 2147483647) (b1 : -2147483648 ≤ b) (b2 : b ≤ 2147483647) (c1 : ¬ d < 1) (c2 : ¬ 2147483648 < d) (c3 : ¬ x ≤ -2305843009213693952) (c4 : ¬ 2305843009213693952 ≤ x) (n1 : -d ≤ 2 * (x - rnd x d * d)) (n2 : 2 * (x - rnd x d * d) ≤ d) (n3 : 2 * x - 2 * (rnd x d * d) < d) (n5 : 2 * (rnd x d * d) - 2 * x < d) (w : World) :
    Calls Tryd.prog 7 #[.int .i64 x, .int .i64 d, .int .i32 a, .int .i32 b] w fun e w' => e = .returned (.bool true) ∧ Below w.heap.size w w' := by
  by_cases hb : b = 0
  · subst hb
    go_enter Tryd.func7, Tryd.ntmps7
    go_wp2_with (first | (go_at_call 9; refine (awake_any _).mono ?_; rintro e w1 ⟨rfl, hb⟩) | (go_at_call 20; refine (round_any _ _ _ (by omega) (by omega) (by omega) (by omega)).mono ?_; rintro e w' ⟨rfl, n, rfl⟩) | (go_at_call 16; refine (div_zero _ _).mono ?_; rintro e w' ⟨rfl, n, rfl⟩))
    all_goals
      go_ret
      exact ⟨by first | rfl | exact ret_true (by omega), by first | assumption | exact below_then (below_drewN (Below.refl _ _) _) (by assumption) | exact below_drewN (below_then (below_drewN (Below.refl _ _) _) (by assumption)) _ | exact below_drewN (by assumption) _⟩
  · have hbn : (b == 0) = false := by simpa using hb
    have QB := quo_bd a b
    by_cases g1 : quo a b = 2147483647
    · skip
      go_enter Tryd.func7, Tryd.ntmps7
      go_wp2_with (first | (go_at_call 9; refine (awake_any _).mono ?_; rintro e w1 ⟨rfl, hb⟩) | (go_at_call 20; refine (round_any _ _ _ (by omega) (by omega) (by omega) (by omega)).mono ?_; rintro e w' ⟨rfl, n, rfl⟩) | (go_at_call 16; refine (div_any _ _ _ (by omega) (by omega) (by omega) (by omega) (by omega)).mono ?_; rintro e w' ⟨rfl, n, rfl⟩))
      all_goals
        go_ret
        exact ⟨by first | rfl | exact ret_true (by omega), by first | assumption | exact below_then (below_drewN (Below.refl _ _) _) (by assumption) | exact below_drewN (below_then (below_drewN (Below.refl _ _) _) (by assumption)) _ | exact below_drewN (by assumption) _⟩
    · have g1' : (quo a b == 2147483647) = false := by simpa using g1
      by_cases g2 : quo a b = -2147483647
      · clear g1 g1'
        go_enter Tryd.func7, Tryd.ntmps7
        go_wp2_with (first | (go_at_call 9; refine (awake_any _).mono ?_; rintro e w1 ⟨rfl, hb⟩) | (go_at_call 20; refine (round_any _ _ _ (by omega) (by omega) (by omega) (by omega)).mono ?_; rintro e w' ⟨rfl, n, rfl⟩) | (go_at_call 16; refine (div_any _ _ _ (by omega) (by omega) (by omega) (by omega) (by omega)).mono ?_; rintro e w' ⟨rfl, n, rfl⟩))
        all_goals
          go_ret
          exact ⟨by first | rfl | exact ret_true (by omega), by first | assumption | exact below_then (below_drewN (Below.refl _ _) _) (by assumption) | exact below_drewN (below_then (below_drewN (Below.refl _ _) _) (by assumption)) _ | exact below_drewN (by assumption) _⟩
      · have g2' : (quo a b == -2147483647) = false := by simpa using g2
        by_cases g3 : quo a b = 0
        · clear g1 g1' g2 g2'
          go_enter Tryd.func7, Tryd.ntmps7
          go_wp2_with (first | (go_at_call 9; refine (awake_any _).mono ?_; rintro e w1 ⟨rfl, hb⟩) | (go_at_call 20; refine (round_any _ _ _ (by omega) (by omega) (by omega) (by omega)).mono ?_; rintro e w' ⟨rfl, n, rfl⟩) | (go_at_call 16; refine (div_any _ _ _ (by omega) (by omega) (by omega) (by omega) (by omega)).mono ?_; rintro e w' ⟨rfl, n, rfl⟩))
          all_goals
            go_ret
            exact ⟨by first | rfl | exact ret_true (by omega), by first | assumption | exact below_then (below_drewN (Below.refl _ _) _) (by assumption) | exact below_drewN (below_then (below_drewN (Below.refl _ _) _) (by assumption)) _ | exact below_drewN (by assumption) _⟩
        · have g3' : (quo a b == 0) = false := by simpa using g3
          have QN := quo_near a b g1 g2
          have PB := prod_bd (a := quo a b) (b := b) (A := 2147483647) (B := 2147483648) QB.1 QB.2 (by omega) (by omega)
          by_cases hs : b < 0
          · have QN1 := QN.1 hs
            clear QN g1 g2 g3
            by_cases hm : quo a b * b - a * 65536 < 0
            · skip
              go_enter Tryd.func7, Tryd.ntmps7
              go_wp2_with (first | (go_at_call 9; refine (awake_any _).mono ?_; rintro e w1 ⟨rfl, hb⟩) | (go_at_call 20; refine (round_any _ _ _ (by omega) (by omega) (by omega) (by omega)).mono ?_; rintro e w' ⟨rfl, n, rfl⟩) | (go_at_call 16; refine (div_any _ _ _ (by omega) (by omega) (by omega) (by omega) (by omega)).mono ?_; rintro e w' ⟨rfl, n, rfl⟩))
              all_goals
                go_ret
                exact ⟨by first | rfl | exact ret_true (by omega), by first | assumption | exact below_then (below_drewN (Below.refl _ _) _) (by assumption) | exact below_drewN (below_then (below_drewN (Below.refl _ _) _) (by assumption)) _ | exact below_drewN (by assumption) _⟩
            · skip
              go_enter Tryd.func7, Tryd.ntmps7
              go_wp2_with (first | (go_at_call 9; refine (awake_any _).mono ?_; rintro e w1 ⟨rfl, hb⟩) | (go_at_call 20; refine (round_any _ _ _ (by omega) (by omega) (by omega) (by omega)).mono ?_; rintro e w' ⟨rfl, n, rfl⟩) | (go_at_call 16; refine (div_any _ _ _ (by omega) (by omega) (by omega) (by omega) (by omega)).mono ?_; rintro e w' ⟨rfl, n, rfl⟩))
              all_goals
                go_ret
                exact ⟨by first | rfl | exact ret_true (by omega), by first | assumption | exact below_then (below_drewN (Below.refl _ _) _) (by assumption) | exact below_drewN (below_then (below_drewN (Below.refl _ _) _) (by assumption)) _ | exact below_drewN (by assumption) _⟩
          · have QN1 := QN.2 (by omega)
            clear QN g1 g2 g3
            by_cases hm : quo a b * b - a * 65536 < 0
            · skip
              go_enter Tryd.func7, Tryd.ntmps7
              go_wp2_with (first | (go_at_call 9; refine (awake_any _).mono ?_; rintro e w1 ⟨rfl, hb⟩) | (go_at_call 20; refine (round_any _ _ _ (by omega) (by omega) (by omega) (by omega)).mono ?_; rintro e w' ⟨rfl, n, rfl⟩) | (go_at_call 16; refine (div_any _ _ _ (by omega) (by omega) (by omega) (by omega) (by omega)).mono ?_; rintro e w' ⟨rfl, n, rfl⟩))
              all_goals
                go_ret
                exact ⟨by first | rfl | exact ret_true (by omega), by first | assumption | exact below_then (below_drewN (Below.refl _ _) _) (by assumption) | exact below_drewN (below_then (below_drewN (Below.refl _ _) _) (by assumption)) _ | exact below_drewN (by assumption) _⟩
            · skip
              go_enter Tryd.func7, Tryd.ntmps7
              go_wp2_with (first | (go_at_call 9; refine (awake_any _).mono ?_; rintro e w1 ⟨rfl, hb⟩) | (go_at_call 20; refine (round_any _ _ _ (by omega) (by omega) (by omega) (by omega)).mono ?_; rintro e w' ⟨rfl, n, rfl⟩) | (go_at_call 16; refine (div_any _ _ _ (by omega) (by omega) (by omega) (by omega) (by omega)).mono ?_; rintro e w' ⟨rfl, n, rfl⟩))
              all_goals
                go_ret
                exact ⟨by first | rfl | exact ret_true (by omega), by first | assumption | exact below_then (below_drewN (Below.refl _ _) _) (by assumption) | exact below_drewN (below_then (below_drewN (Below.refl _ _) _) (by assumption)) _ | exact below_drewN (by assumption) _⟩
set_option maxHeartbeats 3200000 in
theorem fixNear_walk (x d a b : Int) (x1 : -9223372036854775808 ≤ x) (x2 : x ≤ 9223372036854775807) (d1 : -9223372036854775808 ≤ d) (d2 : d ≤ 9223372036854775807) (a1 : -2147483648 ≤ a) (a2 : a ≤ 2147483647) (b1 : -2147483648 ≤ b) (b2 : b ≤ 2147483647) (w : World) :
    Calls Tryd.prog 7 #[.int .i64 x, .int .i64 d, .int .i32 a, .int .i32 b] w fun e w' => e = .returned (.bool true) ∧ Below w.heap.size w w' := by
  by_cases c1 : d < 1
  · exact near1 x d a b x1 x2 d1 d2 a1 a2 b1 b2 c1 w
  by_cases c2 : 2147483648 < d
  · exact near2 x d a b x1 x2 d1 d2 a1 a2 b1 b2 c1 c2 w
  by_cases c3 : x ≤ -2305843009213693952
  · exact near3 x d a b x1 x2 d1 d2 a1 a2 b1 b2 c1 c2 c3 w
  by_cases c4 : 2305843009213693952 ≤ x
  · exact near4 x d a b x1 x2 d1 d2 a1 a2 b1 b2 c1 c2 c3 c4 w
  obtain ⟨n1, n2, n3, n4⟩ := rnd_near x d (by omega)
  by_cases e3 : 2 * x - 2 * (rnd x d * d) = d
  · exact near5 x d a b x1 x2 d1 d2 a1 a2 b1 b2 c1 c2 c3 c4 n1 n2 (by omega) (n3 (by omega)) w
  by_cases e4 : 2 * (rnd x d * d) - 2 * x = d
  · exact near6 x d a b x1 x2 d1 d2 a1 a2 b1 b2 c1 c2 c3 c4 n1 n2 (by omega) (by omega) (n4 (by omega)) w
  exact near7 x d a b x1 x2 d1 d2 a1 a2 b1 b2 c1 c2 c3 c4 n1 n2 (by omega) (by omega) w
end Go.Proofs.YtijjghlfamebaaaDoor
