/- The Go text of CurveShapes returns true at every input, where the table of steps lies as the program's text lays it. -/
import Derived.Test.YtijjghlfamebaabDoorCAwake
namespace Go.Proofs.YtijjghlfamebaabDoor
set_option linter.unusedVariables false
open Go.ChangeShapes Go.WideShapes Go.ChangeAt Go.RowKit
set_option maxHeartbeats 3200000 in
theorem shapes_le (x y z : Int) (x1 : -2147483648 ≤ x) (x2 : x ≤ 2147483647) (y1 : -2147483648 ≤ y) (y2 : y ≤ 2147483647) (z1 : 0 ≤ z) (z2 : z ≤ 18446744073709551615) (hxy : x ≤ y) (w : World) (h : Tab w) :
    Calls Tryd.prog 6 #[.int .i32 x, .int .i32 y, .int .u64 z] w fun e w' => e = .returned (.bool true) ∧ Below w.heap.size w w' := by
  obtain ⟨m, rfl⟩ : ∃ n : Nat, z = n := ⟨z.toNat, by omega⟩
  have HT : Hid (∀ n, Tab (w.drewN n)) := fun n => h.next (below_drewN (Below.refl _ _) n)
  obtain ⟨r1, r2, r3⟩ := rt_spec m (by omega)
  obtain ⟨t0, t1, t2, t3⟩ : (0 : Int) ≤ (rt m : Int) ∧ ((rt m : Int) * (rt m : Int) ≤ (m : Int) ∧ 0 ≤ (rt m : Int) * (rt m : Int)) ∧ (m : Int) < ((rt m : Int) + 1) * ((rt m : Int) + 1) ∧ ((rt m : Int) ≠ 4294967295 → ((rt m : Int) + 1) * ((rt m : Int) + 1) ≤ 18446744073709551615) := by
    have s := cast_sq (rt m)
    refine ⟨by omega, by omega, by omega, fun hne => ?_⟩
    have := Nat.mul_le_mul (show rt m + 1 ≤ 4294967295 by omega) (show rt m + 1 ≤ 4294967295 by omega)
    omega
  have t4 : (rt m : Int) < 4294967296 := by omega
  clear r1 r2 r3
  obtain ⟨r, hr⟩ : ∃ r : Int, (rt m : Int) = r := ⟨_, rfl⟩
  rw [hr] at t0 t1 t2 t3 t4
  have P0 := powI_bd x
  have P1 : x ≤ y → powI x ≤ powI y ∧ invN y ≤ invN x := fun hh => ⟨powI_mono x y hh, invN_anti x y hh⟩
  have P2 : x ≤ 0 → powI (x - 65536) = powI x / 2 := powI_half x
  have P1' := P1 hxy
  clear P1
  obtain ⟨ix, hix⟩ : ∃ v, invN x = v := ⟨_, rfl⟩
  obtain ⟨iy, hiy⟩ : ∃ v, invN y = v := ⟨_, rfl⟩
  obtain ⟨px, hpx⟩ : ∃ v, powI x = v := ⟨_, rfl⟩
  obtain ⟨py, hpy⟩ : ∃ v, powI y = v := ⟨_, rfl⟩
  rw [hix, hiy, hpx, hpy] at P1'
  rw [hpx] at P0 P2
  by_cases hx0 : x ≤ 0
  · have P2' := P2 hx0
    clear P2
    by_cases hx3 : -1073741824 < x
    · skip
      by_cases hrr : r = 4294967295
      · clear t3
        have hrb : (r == 4294967295) = true := by rw [beq_iff_eq]; omega
        clear hrr
        go_enter Tryd.func6, Tryd.ntmps6
        go_wp2_with (first | (go_at_call 12; refine (awake2_any _ (by first | assumption | exact HT.out _)).mono ?_; rintro e w1 ⟨rfl, hb⟩) | (go_at_call 13; refine (pow_any _ _ (by first | assumption | exact HT.out _) (by omega) (by omega)).mono ?_; rintro e w1 ⟨rfl, n1, rfl⟩) | (go_at_call 19; refine (inv_any _ _ (by omega) (by omega)).mono ?_; rintro e w3 ⟨rfl, rfl⟩) | (go_at_call 17; refine (root_any (m) _).mono ?_; rintro e w2 ⟨rfl, rfl⟩))
        all_goals
          go_ret
          exact ⟨by first | rfl | exact ret_true (by omega), by first | assumption | exact below_then (below_drewN (Below.refl _ _) _) (by assumption) | exact below_drewN (below_then (below_drewN (Below.refl _ _) _) (by assumption)) _ | exact below_drewN (by assumption) _⟩
      · have t3' := t3 hrr
        have hrb : (r == 4294967295) = false := by rw [beq_eq_false_iff_ne]; omega
        clear t3 hrr
        go_enter Tryd.func6, Tryd.ntmps6
        go_wp2_with (first | (go_at_call 12; refine (awake2_any _ (by first | assumption | exact HT.out _)).mono ?_; rintro e w1 ⟨rfl, hb⟩) | (go_at_call 13; refine (pow_any _ _ (by first | assumption | exact HT.out _) (by omega) (by omega)).mono ?_; rintro e w1 ⟨rfl, n1, rfl⟩) | (go_at_call 19; refine (inv_any _ _ (by omega) (by omega)).mono ?_; rintro e w3 ⟨rfl, rfl⟩) | (go_at_call 17; refine (root_any (m) _).mono ?_; rintro e w2 ⟨rfl, rfl⟩))
        all_goals
          go_ret
          exact ⟨by first | rfl | exact ret_true (by omega), by first | assumption | exact below_then (below_drewN (Below.refl _ _) _) (by assumption) | exact below_drewN (below_then (below_drewN (Below.refl _ _) _) (by assumption)) _ | exact below_drewN (by assumption) _⟩
    · clear P2'
      by_cases hrr : r = 4294967295
      · clear t3
        have hrb : (r == 4294967295) = true := by rw [beq_iff_eq]; omega
        clear hrr
        go_enter Tryd.func6, Tryd.ntmps6
        go_wp2_with (first | (go_at_call 12; refine (awake2_any _ (by first | assumption | exact HT.out _)).mono ?_; rintro e w1 ⟨rfl, hb⟩) | (go_at_call 13; refine (pow_any _ _ (by first | assumption | exact HT.out _) (by omega) (by omega)).mono ?_; rintro e w1 ⟨rfl, n1, rfl⟩) | (go_at_call 19; refine (inv_any _ _ (by omega) (by omega)).mono ?_; rintro e w3 ⟨rfl, rfl⟩) | (go_at_call 17; refine (root_any (m) _).mono ?_; rintro e w2 ⟨rfl, rfl⟩))
        all_goals
          go_ret
          exact ⟨by first | rfl | exact ret_true (by omega), by first | assumption | exact below_then (below_drewN (Below.refl _ _) _) (by assumption) | exact below_drewN (below_then (below_drewN (Below.refl _ _) _) (by assumption)) _ | exact below_drewN (by assumption) _⟩
      · have t3' := t3 hrr
        have hrb : (r == 4294967295) = false := by rw [beq_eq_false_iff_ne]; omega
        clear t3 hrr
        go_enter Tryd.func6, Tryd.ntmps6
        go_wp2_with (first | (go_at_call 12; refine (awake2_any _ (by first | assumption | exact HT.out _)).mono ?_; rintro e w1 ⟨rfl, hb⟩) | (go_at_call 13; refine (pow_any _ _ (by first | assumption | exact HT.out _) (by omega) (by omega)).mono ?_; rintro e w1 ⟨rfl, n1, rfl⟩) | (go_at_call 19; refine (inv_any _ _ (by omega) (by omega)).mono ?_; rintro e w3 ⟨rfl, rfl⟩) | (go_at_call 17; refine (root_any (m) _).mono ?_; rintro e w2 ⟨rfl, rfl⟩))
        all_goals
          go_ret
          exact ⟨by first | rfl | exact ret_true (by omega), by first | assumption | exact below_then (below_drewN (Below.refl _ _) _) (by assumption) | exact below_drewN (below_then (below_drewN (Below.refl _ _) _) (by assumption)) _ | exact below_drewN (by assumption) _⟩
  · clear P2
    by_cases hrr : r = 4294967295
    · clear t3
      have hrb : (r == 4294967295) = true := by rw [beq_iff_eq]; omega
      clear hrr
      go_enter Tryd.func6, Tryd.ntmps6
      go_wp2_with (first | (go_at_call 12; refine (awake2_any _ (by first | assumption | exact HT.out _)).mono ?_; rintro e w1 ⟨rfl, hb⟩) | (go_at_call 13; refine (pow_any _ _ (by first | assumption | exact HT.out _) (by omega) (by omega)).mono ?_; rintro e w1 ⟨rfl, n1, rfl⟩) | (go_at_call 19; refine (inv_any _ _ (by omega) (by omega)).mono ?_; rintro e w3 ⟨rfl, rfl⟩) | (go_at_call 17; refine (root_any (m) _).mono ?_; rintro e w2 ⟨rfl, rfl⟩))
      all_goals
        go_ret
        exact ⟨by first | rfl | exact ret_true (by omega), by first | assumption | exact below_then (below_drewN (Below.refl _ _) _) (by assumption) | exact below_drewN (below_then (below_drewN (Below.refl _ _) _) (by assumption)) _ | exact below_drewN (by assumption) _⟩
    · have t3' := t3 hrr
      have hrb : (r == 4294967295) = false := by rw [beq_eq_false_iff_ne]; omega
      clear t3 hrr
      go_enter Tryd.func6, Tryd.ntmps6
      go_wp2_with (first | (go_at_call 12; refine (awake2_any _ (by first | assumption | exact HT.out _)).mono ?_; rintro e w1 ⟨rfl, hb⟩) | (go_at_call 13; refine (pow_any _ _ (by first | assumption | exact HT.out _) (by omega) (by omega)).mono ?_; rintro e w1 ⟨rfl, n1, rfl⟩) | (go_at_call 19; refine (inv_any _ _ (by omega) (by omega)).mono ?_; rintro e w3 ⟨rfl, rfl⟩) | (go_at_call 17; refine (root_any (m) _).mono ?_; rintro e w2 ⟨rfl, rfl⟩))
      all_goals
        go_ret
        exact ⟨by first | rfl | exact ret_true (by omega), by first | assumption | exact below_then (below_drewN (Below.refl _ _) _) (by assumption) | exact below_drewN (below_then (below_drewN (Below.refl _ _) _) (by assumption)) _ | exact below_drewN (by assumption) _⟩
set_option maxHeartbeats 3200000 in
theorem shapes_gt (x y z : Int) (x1 : -2147483648 ≤ x) (x2 : x ≤ 2147483647) (y1 : -2147483648 ≤ y) (y2 : y ≤ 2147483647) (z1 : 0 ≤ z) (z2 : z ≤ 18446744073709551615) (hxy : ¬ x ≤ y) (w : World) (h : Tab w) :
    Calls Tryd.prog 6 #[.int .i32 x, .int .i32 y, .int .u64 z] w fun e w' => e = .returned (.bool true) ∧ Below w.heap.size w w' := by
  obtain ⟨m, rfl⟩ : ∃ n : Nat, z = n := ⟨z.toNat, by omega⟩
  have HT : Hid (∀ n, Tab (w.drewN n)) := fun n => h.next (below_drewN (Below.refl _ _) n)
  obtain ⟨r1, r2, r3⟩ := rt_spec m (by omega)
  obtain ⟨t0, t1, t2, t3⟩ : (0 : Int) ≤ (rt m : Int) ∧ ((rt m : Int) * (rt m : Int) ≤ (m : Int) ∧ 0 ≤ (rt m : Int) * (rt m : Int)) ∧ (m : Int) < ((rt m : Int) + 1) * ((rt m : Int) + 1) ∧ ((rt m : Int) ≠ 4294967295 → ((rt m : Int) + 1) * ((rt m : Int) + 1) ≤ 18446744073709551615) := by
    have s := cast_sq (rt m)
    refine ⟨by omega, by omega, by omega, fun hne => ?_⟩
    have := Nat.mul_le_mul (show rt m + 1 ≤ 4294967295 by omega) (show rt m + 1 ≤ 4294967295 by omega)
    omega
  have t4 : (rt m : Int) < 4294967296 := by omega
  clear r1 r2 r3
  obtain ⟨r, hr⟩ : ∃ r : Int, (rt m : Int) = r := ⟨_, rfl⟩
  rw [hr] at t0 t1 t2 t3 t4
  have P0 := powI_bd x
  have P1 : x ≤ y → powI x ≤ powI y ∧ invN y ≤ invN x := fun hh => ⟨powI_mono x y hh, invN_anti x y hh⟩
  have P2 : x ≤ 0 → powI (x - 65536) = powI x / 2 := powI_half x
  clear P1
  obtain ⟨px, hpx⟩ : ∃ v, powI x = v := ⟨_, rfl⟩
  rw [hpx] at P0 P2
  by_cases hx0 : x ≤ 0
  · have P2' := P2 hx0
    clear P2
    by_cases hx3 : -1073741824 < x
    · skip
      by_cases hrr : r = 4294967295
      · clear t3
        have hrb : (r == 4294967295) = true := by rw [beq_iff_eq]; omega
        clear hrr
        go_enter Tryd.func6, Tryd.ntmps6
        go_wp2_with (first | (go_at_call 12; refine (awake2_any _ (by first | assumption | exact HT.out _)).mono ?_; rintro e w1 ⟨rfl, hb⟩) | (go_at_call 13; refine (pow_any _ _ (by first | assumption | exact HT.out _) (by omega) (by omega)).mono ?_; rintro e w1 ⟨rfl, n1, rfl⟩) | (go_at_call 19; refine (inv_any _ _ (by omega) (by omega)).mono ?_; rintro e w3 ⟨rfl, rfl⟩) | (go_at_call 17; refine (root_any (m) _).mono ?_; rintro e w2 ⟨rfl, rfl⟩))
        all_goals
          go_ret
          exact ⟨by first | rfl | exact ret_true (by omega), by first | assumption | exact below_then (below_drewN (Below.refl _ _) _) (by assumption) | exact below_drewN (below_then (below_drewN (Below.refl _ _) _) (by assumption)) _ | exact below_drewN (by assumption) _⟩
      · have t3' := t3 hrr
        have hrb : (r == 4294967295) = false := by rw [beq_eq_false_iff_ne]; omega
        clear t3 hrr
        go_enter Tryd.func6, Tryd.ntmps6
        go_wp2_with (first | (go_at_call 12; refine (awake2_any _ (by first | assumption | exact HT.out _)).mono ?_; rintro e w1 ⟨rfl, hb⟩) | (go_at_call 13; refine (pow_any _ _ (by first | assumption | exact HT.out _) (by omega) (by omega)).mono ?_; rintro e w1 ⟨rfl, n1, rfl⟩) | (go_at_call 19; refine (inv_any _ _ (by omega) (by omega)).mono ?_; rintro e w3 ⟨rfl, rfl⟩) | (go_at_call 17; refine (root_any (m) _).mono ?_; rintro e w2 ⟨rfl, rfl⟩))
        all_goals
          go_ret
          exact ⟨by first | rfl | exact ret_true (by omega), by first | assumption | exact below_then (below_drewN (Below.refl _ _) _) (by assumption) | exact below_drewN (below_then (below_drewN (Below.refl _ _) _) (by assumption)) _ | exact below_drewN (by assumption) _⟩
    · clear P2'
      by_cases hrr : r = 4294967295
      · clear t3
        have hrb : (r == 4294967295) = true := by rw [beq_iff_eq]; omega
        clear hrr
        go_enter Tryd.func6, Tryd.ntmps6
        go_wp2_with (first | (go_at_call 12; refine (awake2_any _ (by first | assumption | exact HT.out _)).mono ?_; rintro e w1 ⟨rfl, hb⟩) | (go_at_call 13; refine (pow_any _ _ (by first | assumption | exact HT.out _) (by omega) (by omega)).mono ?_; rintro e w1 ⟨rfl, n1, rfl⟩) | (go_at_call 19; refine (inv_any _ _ (by omega) (by omega)).mono ?_; rintro e w3 ⟨rfl, rfl⟩) | (go_at_call 17; refine (root_any (m) _).mono ?_; rintro e w2 ⟨rfl, rfl⟩))
        all_goals
          go_ret
          exact ⟨by first | rfl | exact ret_true (by omega), by first | assumption | exact below_then (below_drewN (Below.refl _ _) _) (by assumption) | exact below_drewN (below_then (below_drewN (Below.refl _ _) _) (by assumption)) _ | exact below_drewN (by assumption) _⟩
      · have t3' := t3 hrr
        have hrb : (r == 4294967295) = false := by rw [beq_eq_false_iff_ne]; omega
        clear t3 hrr
        go_enter Tryd.func6, Tryd.ntmps6
        go_wp2_with (first | (go_at_call 12; refine (awake2_any _ (by first | assumption | exact HT.out _)).mono ?_; rintro e w1 ⟨rfl, hb⟩) | (go_at_call 13; refine (pow_any _ _ (by first | assumption | exact HT.out _) (by omega) (by omega)).mono ?_; rintro e w1 ⟨rfl, n1, rfl⟩) | (go_at_call 19; refine (inv_any _ _ (by omega) (by omega)).mono ?_; rintro e w3 ⟨rfl, rfl⟩) | (go_at_call 17; refine (root_any (m) _).mono ?_; rintro e w2 ⟨rfl, rfl⟩))
        all_goals
          go_ret
          exact ⟨by first | rfl | exact ret_true (by omega), by first | assumption | exact below_then (below_drewN (Below.refl _ _) _) (by assumption) | exact below_drewN (below_then (below_drewN (Below.refl _ _) _) (by assumption)) _ | exact below_drewN (by assumption) _⟩
  · clear P2
    by_cases hrr : r = 4294967295
    · clear t3
      have hrb : (r == 4294967295) = true := by rw [beq_iff_eq]; omega
      clear hrr
      go_enter Tryd.func6, Tryd.ntmps6
      go_wp2_with (first | (go_at_call 12; refine (awake2_any _ (by first | assumption | exact HT.out _)).mono ?_; rintro e w1 ⟨rfl, hb⟩) | (go_at_call 13; refine (pow_any _ _ (by first | assumption | exact HT.out _) (by omega) (by omega)).mono ?_; rintro e w1 ⟨rfl, n1, rfl⟩) | (go_at_call 19; refine (inv_any _ _ (by omega) (by omega)).mono ?_; rintro e w3 ⟨rfl, rfl⟩) | (go_at_call 17; refine (root_any (m) _).mono ?_; rintro e w2 ⟨rfl, rfl⟩))
      all_goals
        go_ret
        exact ⟨by first | rfl | exact ret_true (by omega), by first | assumption | exact below_then (below_drewN (Below.refl _ _) _) (by assumption) | exact below_drewN (below_then (below_drewN (Below.refl _ _) _) (by assumption)) _ | exact below_drewN (by assumption) _⟩
    · have t3' := t3 hrr
      have hrb : (r == 4294967295) = false := by rw [beq_eq_false_iff_ne]; omega
      clear t3 hrr
      go_enter Tryd.func6, Tryd.ntmps6
      go_wp2_with (first | (go_at_call 12; refine (awake2_any _ (by first | assumption | exact HT.out _)).mono ?_; rintro e w1 ⟨rfl, hb⟩) | (go_at_call 13; refine (pow_any _ _ (by first | assumption | exact HT.out _) (by omega) (by omega)).mono ?_; rintro e w1 ⟨rfl, n1, rfl⟩) | (go_at_call 19; refine (inv_any _ _ (by omega) (by omega)).mono ?_; rintro e w3 ⟨rfl, rfl⟩) | (go_at_call 17; refine (root_any (m) _).mono ?_; rintro e w2 ⟨rfl, rfl⟩))
      all_goals
        go_ret
        exact ⟨by first | rfl | exact ret_true (by omega), by first | assumption | exact below_then (below_drewN (Below.refl _ _) _) (by assumption) | exact below_drewN (below_then (below_drewN (Below.refl _ _) _) (by assumption)) _ | exact below_drewN (by assumption) _⟩
set_option maxHeartbeats 3200000 in
theorem curveShapes_walk (x y z : Int) (x1 : -2147483648 ≤ x) (x2 : x ≤ 2147483647) (y1 : -2147483648 ≤ y) (y2 : y ≤ 2147483647) (z1 : 0 ≤ z) (z2 : z ≤ 18446744073709551615) (w : World) (h : Tab w) :
    Calls Tryd.prog 6 #[.int .i32 x, .int .i32 y, .int .u64 z] w fun e w' => e = .returned (.bool true) ∧ Below w.heap.size w w' := by
  by_cases hxy : x ≤ y
  · exact shapes_le x y z x1 x2 y1 y2 z1 z2 hxy w h
  · exact shapes_gt x y z x1 x2 y1 y2 z1 z2 hxy w h
end Go.Proofs.YtijjghlfamebaabDoor
