/- The Go text of CurveNear returns true at every input, where the table of steps lies as the program's text lays it. -/
import Derived.Test.YtijjghlfamebaabDoorCAwake
namespace Go.Proofs.YtijjghlfamebaabDoor
open Go.ChangeShapes Go.WideShapes Go.ChangeAt Go.RowKit
set_option maxHeartbeats 1600000 in
theorem curveNear_walk (x : Int) (x1 : -2147483648 ≤ x) (x2 : x ≤ 2147483647) (w : World) (h : Tab w) :
    Calls Tryd.prog 8 #[.int .i32 x] w fun e w' => e = .returned (.bool true) ∧ Below w.heap.size w w' := by
  by_cases c1 : x < 256
  · skip
    go_enter Tryd.func8, Tryd.ntmps8
    go_wp2_with (first | (go_at_call 12; refine (awake2_any _ (by first | assumption | exact HT.out _)).mono ?_; rintro e w1 ⟨rfl, hb⟩))
    all_goals
      go_ret
      exact ⟨by first | rfl | exact ret_true (by omega), by first | assumption | exact below_then (below_drewN (Below.refl _ _) _) (by assumption) | exact below_drewN (below_then (below_drewN (Below.refl _ _) _) (by assumption)) _ | exact below_drewN (by assumption) _⟩
  by_cases c2 : 16777216 < x
  · skip
    go_enter Tryd.func8, Tryd.ntmps8
    go_wp2_with (first | (go_at_call 12; refine (awake2_any _ (by first | assumption | exact HT.out _)).mono ?_; rintro e w1 ⟨rfl, hb⟩))
    all_goals
      go_ret
      exact ⟨by first | rfl | exact ret_true (by omega), by first | assumption | exact below_then (below_drewN (Below.refl _ _) _) (by assumption) | exact below_drewN (below_then (below_drewN (Below.refl _ _) _) (by assumption)) _ | exact below_drewN (by assumption) _⟩
  obtain ⟨n, rfl⟩ : ∃ n : Nat, x = n := ⟨x.toNat, by omega⟩
  obtain ⟨g1, g2, g3, g4⟩ := inv_near n (by omega) (by omega)
  have gi := inv_int n (by omega) (by omega)
  obtain ⟨y, hy⟩ : ∃ y, rt (281474976710656 / n) = y := ⟨_, rfl⟩
  rw [hy] at g1 g2 g3 g4 gi
  clear hy
  obtain ⟨e1, e2, e3, e4⟩ := cast_near n y
  have b1 : n * y ≤ n * y * y := Nat.le_mul_of_pos_right _ g3
  have f1 : n * (y + 1) = n * y + n := Nat.mul_succ n y
  have f2 : n * (y + 1) * (y + 1) = n * y * y + n * y + (n * y + n) := by rw [f1, Nat.mul_succ, Nat.add_mul, Nat.mul_right_comm]
  have i1 : (0 : Int) ≤ (n : Int) * (y : Int) ∧ (n : Int) * (y : Int) ≤ 281474976710656 := by rw [e1]; omega
  have i2 : (0 : Int) ≤ (n : Int) * (y : Int) * (y : Int) ∧ (n : Int) * (y : Int) * (y : Int) ≤ 281474976710656 := by rw [e2]; omega
  have i3 : (0 : Int) ≤ (n : Int) * ((y : Int) + 1) ∧ (n : Int) * ((y : Int) + 1) ≤ 562949953421312 := by rw [e3]; omega
  have i4 : (281474976710656 : Int) < (n : Int) * ((y : Int) + 1) * ((y : Int) + 1) ∧ (n : Int) * ((y : Int) + 1) * ((y : Int) + 1) ≤ 1125899906842624 := by rw [e4]; omega
  clear e1 e2 e3 e4 b1 f1 f2 g1 g2
  go_enter Tryd.func8, Tryd.ntmps8
  go_wp2_with (first | (go_at_call 12; refine (awake2_any _ (by first | assumption | exact HT.out _)).mono ?_; rintro e w1 ⟨rfl, hb⟩) | (go_at_call 19; refine (inv_any _ _ (by omega) (by omega)).mono ?_; rintro e w3 ⟨rfl, rfl⟩))
  all_goals
    go_ret
    exact ⟨by first | rfl | exact ret_true (by omega), by first | assumption | exact below_then (below_drewN (Below.refl _ _) _) (by assumption) | exact below_drewN (below_then (below_drewN (Below.refl _ _) _) (by assumption)) _ | exact below_drewN (by assumption) _⟩
end Go.Proofs.YtijjghlfamebaabDoor
