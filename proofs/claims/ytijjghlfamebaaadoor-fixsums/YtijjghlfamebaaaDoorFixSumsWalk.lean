/- The Go text of FixSums returns true at every four numbers; no condition. -/
import Derived.Test.YtijjghlfamebaaaDoorFix
import Derived.Test.YtijjghlfamebaaaDoorRef
namespace Go.Proofs.YtijjghlfamebaaaDoor
open Go.ChangeShapes Go.WideShapes Go.ChangeAt Go.RowKit
set_option maxHeartbeats 1600000 in
theorem fixSums_walk (a b x n : Int) (a1 : -2147483648 ≤ a) (a2 : a ≤ 2147483647) (b1 : -2147483648 ≤ b) (b2 : b ≤ 2147483647) (x1 : -9223372036854775808 ≤ x) (x2 : x ≤ 9223372036854775807) (n1 : -9223372036854775808 ≤ n) (n2 : n ≤ 9223372036854775807) (w : World) :
    Calls Tryd.prog 3 #[.int .i32 a, .int .i32 b, .int .i64 x, .int .i64 n] w fun e w' => e = .returned (.bool true) ∧ Below w.heap.size w w' := by
  have key : ∀ (c : Int), (c = n ∧ -65536 ≤ n ∧ n ≤ 65536) ∨ (c = 65536 ∧ 65536 < n) ∨ (c = -65536 ∧ n < -65536) → clip n = c := by intro c h; unfold clip; omega
  have HK : Hid (∀ (c : Int), (c = n ∧ -65536 ≤ n ∧ n ≤ 65536) ∨ (c = 65536 ∧ 65536 < n) ∨ (c = -65536 ∧ n < -65536) → clip n = c) := key
  clear key
  go_enter Tryd.func3, Tryd.ntmps3
  go_wp2
  go_loop [9] (fun v => ∃ i : Int, v = .int .i64 i ∧ -32768 ≤ i ∧ i ≤ 0 ∧ (i = 0 ∨ a / 65536 ≤ i)) (fun v => (intOf v + 40000).toNat)
  case atStart => exact ⟨0, rfl, by omega, by omega, .inl rfl⟩
  case round =>
    obtain ⟨i, rfl, hi1, hi2, hi3⟩ := hrel
    by_cases ht : a < i * 65536
    · go_wp2
      go_round
      case rel => exact ⟨i - 1, by go_num, by omega, by omega, by omega⟩
      case measure => simp [intOf]; omega
    · have hif : i ≤ a / 65536 := by omega
      clear hi3
      go_wp2
      go_loop [9] (fun v => ∃ i : Int, v = .int .i64 i ∧ -32768 ≤ i ∧ i ≤ a / 65536) (fun v => (40000 - intOf v).toNat)
      case atStart => exact ⟨i, rfl, by omega, by omega⟩
      case round =>
        clear hif ht hi1 hi2
        obtain ⟨j, rfl, hj1, hj2⟩ := hrel
        by_cases ht : (j + 1) * 65536 ≤ a
        · go_wp2
          go_round
          case rel => exact ⟨j + 1, by go_num, by omega, by omega⟩
          case measure => simp [intOf]; omega
        · have hj : a / 65536 = j := by omega
          have sb := sat_bd x
          clear ht
          rcases (show (-65536 ≤ n ∧ n ≤ 65536) ∨ 65536 < n ∨ n < -65536 by omega) with ⟨hn, hn'⟩ | hn | hn
          · have hc := HK.out n (by omega)
            go_wp2_with (first | (go_at_call 9; refine (awake_any _).mono ?_; rintro e w1 ⟨rfl, hb⟩) | (go_at_call 10; refine (sat_any _ _ (by omega) (by omega)).mono ?_; rintro e w' ⟨rfl, rfl⟩) | (go_at_call 11; refine (refSat_any _ _ (by omega) (by omega)).mono ?_; rintro e w' ⟨rfl, rfl⟩) | (go_at_call 12; refine (add_any _ _ _ (by omega) (by omega) (by omega) (by omega)).mono ?_; rintro e w' ⟨rfl, rfl⟩) | (go_at_call 13; refine (sub_any _ _ _ (by omega) (by omega) (by omega) (by omega)).mono ?_; rintro e w' ⟨rfl, rfl⟩) | (go_at_call 14; refine (floor_any _ _ (by omega) (by omega)).mono ?_; rintro e w' ⟨rfl, rfl⟩) | (go_at_call 15; refine (of_any _ _ (by omega) (by omega)).mono ?_; rintro e w' ⟨rfl, rfl⟩))
            go_ret
            exact ⟨rfl, by assumption⟩
          · have hc := HK.out 65536 (by omega)
            go_wp2_with (first | (go_at_call 9; refine (awake_any _).mono ?_; rintro e w1 ⟨rfl, hb⟩) | (go_at_call 10; refine (sat_any _ _ (by omega) (by omega)).mono ?_; rintro e w' ⟨rfl, rfl⟩) | (go_at_call 11; refine (refSat_any _ _ (by omega) (by omega)).mono ?_; rintro e w' ⟨rfl, rfl⟩) | (go_at_call 12; refine (add_any _ _ _ (by omega) (by omega) (by omega) (by omega)).mono ?_; rintro e w' ⟨rfl, rfl⟩) | (go_at_call 13; refine (sub_any _ _ _ (by omega) (by omega) (by omega) (by omega)).mono ?_; rintro e w' ⟨rfl, rfl⟩) | (go_at_call 14; refine (floor_any _ _ (by omega) (by omega)).mono ?_; rintro e w' ⟨rfl, rfl⟩) | (go_at_call 15; refine (of_any _ _ (by omega) (by omega)).mono ?_; rintro e w' ⟨rfl, rfl⟩))
            go_ret
            exact ⟨rfl, by assumption⟩
          · have hc := HK.out (-65536) (by omega)
            go_wp2_with (first | (go_at_call 9; refine (awake_any _).mono ?_; rintro e w1 ⟨rfl, hb⟩) | (go_at_call 10; refine (sat_any _ _ (by omega) (by omega)).mono ?_; rintro e w' ⟨rfl, rfl⟩) | (go_at_call 11; refine (refSat_any _ _ (by omega) (by omega)).mono ?_; rintro e w' ⟨rfl, rfl⟩) | (go_at_call 12; refine (add_any _ _ _ (by omega) (by omega) (by omega) (by omega)).mono ?_; rintro e w' ⟨rfl, rfl⟩) | (go_at_call 13; refine (sub_any _ _ _ (by omega) (by omega) (by omega) (by omega)).mono ?_; rintro e w' ⟨rfl, rfl⟩) | (go_at_call 14; refine (floor_any _ _ (by omega) (by omega)).mono ?_; rintro e w' ⟨rfl, rfl⟩) | (go_at_call 15; refine (of_any _ _ (by omega) (by omega)).mono ?_; rintro e w' ⟨rfl, rfl⟩))
            go_ret
            exact ⟨rfl, by assumption⟩
end Go.Proofs.YtijjghlfamebaaaDoor
