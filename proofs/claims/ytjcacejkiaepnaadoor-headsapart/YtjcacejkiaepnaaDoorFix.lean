/- What each call of package fix answers, and that the awake check of the laws of layer 1 is true, of every input in range. -/
import Derived.Test.YtjcacejkiaepnaaDoorRows
import Derived.Test.YtjcacejkiaepnaaDoorNum
import Derived.Test.YtjcacejkiaepnaaDoorKin
import Derived.WalkKit
import Derived.ProofKit
import Derived.OpenShut
import Derived.WalkLawsBesides
import Derived.BigQuiet
import Derived.WalkSmall
import Derived.Laws.IdiomStrings
import Derived.Lib.UnsafeStr
import Derived.OwnWalk
namespace Go.Proofs.YtjcacejkiaepnaaDoor
open Go.ChangeShapes Go.WideShapes Go.ChangeAt Go.RowKit
open Go.Lib (byteCells)
theorem sat_any (x : Int) (w : World) (h1 : -9223372036854775808 ≤ x) (h2 : x ≤ 9223372036854775807) :
   Calls Tryd.prog 38 #[.int .i64 x] w fun e w' => e = .returned (.int .i32 (sat x)) ∧ w' = w := by
  go_enter Tryd.func38, Tryd.ntmps38
  go_wp2
  all_goals
    go_ret
    exact ⟨ret_int (by unfold sat; omega), rfl⟩
theorem sub_any (x y : Int) (w : World) (h1 : -2147483648 ≤ x) (h2 : x ≤ 2147483647) (h3 : -2147483648 ≤ y) (h4 : y ≤ 2147483647) :
   Calls Tryd.prog 49 #[.int .i32 x, .int .i32 y] w fun e w' => e = .returned (.int .i32 (sat (x - y))) ∧ w' = w := by
  go_enter Tryd.func49, Tryd.ntmps49
  go_wp2_with (go_at_call 38; refine (sat_any _ _ (by omega) (by omega)).mono ?_; rintro e w' ⟨rfl, rfl⟩)
  go_ret
  exact ⟨rfl, rfl⟩
theorem of_any (x : Int) (w : World) (h1 : -9223372036854775808 ≤ x) (h2 : x ≤ 9223372036854775807) :
   Calls Tryd.prog 24 #[.int .i64 x] w fun e w' => e = .returned (.int .i32 (sat (clip x * 65536))) ∧ w' = w := by
  go_enter Tryd.func24, Tryd.ntmps24
  go_wp2_with (go_at_call 38; refine (sat_any _ _ (by omega) (by omega)).mono ?_; rintro e w' ⟨rfl, rfl⟩)
  all_goals
    go_ret
    exact ⟨ret_int (by unfold clip; congr 1; omega), rfl⟩
theorem round_any (x d : Int) (w : World) (h1 : -9223372036854775808 ≤ x) (h2 : x ≤ 9223372036854775807) (h3 : 1 ≤ d) (h4 : d ≤ 9223372036854775807) :
   Calls Tryd.prog 41 #[.int .i64 x, .int .i64 d] w fun e w' => e = .returned (.int .i64 (rnd x d)) ∧ ∃ n, w' = w.drewN n := by
  have hd : d ≠ 0 := by omega
  by_cases hx : 0 ≤ x
  · obtain ⟨e, r0, r1, q0, q1⟩ := parts_pos x d hx h3
    by_cases hr : 0 < x % d
    · by_cases hh : d - x % d ≤ x % d
      · have ha := rnd_pos_up x d _ _ h3 e hx r1 hh
        have HA : Hid (rnd x d = x / d + 1) := ha
        have hq : x / d + 1 ≤ 9223372036854775807 := by have := Int.mul_le_mul_of_nonneg_left (show 2 ≤ d by omega) q0; omega
        clear ha e
        go_enter Tryd.func41, Tryd.ntmps41
        go_wp2_with fail
        go_quiet (fail)
        go_wp2
        go_ret
        exact ⟨ret_int (by rw [HA.out]), _, rfl⟩
      · have ha := rnd_pos_dn x d _ _ h3 e hx r0 (by omega)
        have HA : Hid (rnd x d = x / d) := ha
        clear ha e
        go_enter Tryd.func41, Tryd.ntmps41
        go_wp2_with fail
        go_quiet (fail)
        go_wp2
        go_ret
        exact ⟨ret_int (by rw [HA.out]), _, rfl⟩
    · have ha := rnd_pos_dn x d _ _ h3 e hx r0 (by omega)
      have HA : Hid (rnd x d = x / d) := ha
      clear ha e
      go_enter Tryd.func41, Tryd.ntmps41
      go_wp2_with fail
      go_quiet (fail)
      go_wp2
      go_ret
      exact ⟨ret_int (by rw [HA.out]), _, rfl⟩
  · obtain ⟨q, r, eq, er, e, r0, r1, q0, q1⟩ := parts_neg x d (by omega) h3
    by_cases hr : r < 0
    · by_cases hh : d + r ≤ -r
      · have ha := rnd_neg_up x d _ _ h3 e (by omega) r1 hh
        have HA : Hid (rnd x d = q - 1) := ha
        have hq : -9223372036854775808 ≤ q - 1 := by have := Int.mul_le_mul_of_nonneg_left (show 2 ≤ d by omega) (show 0 ≤ -q by omega); omega
        clear ha e
        go_enter Tryd.func41, Tryd.ntmps41
        go_wp2_with fail
        go_quiet (fail)
        go_wp2
        go_ret
        exact ⟨ret_int (by rw [HA.out]), _, rfl⟩
      · have ha := rnd_neg_dn x d _ _ h3 e (by omega) r0 (by omega)
        have HA : Hid (rnd x d = q) := ha
        clear ha e
        go_enter Tryd.func41, Tryd.ntmps41
        go_wp2_with fail
        go_quiet (fail)
        go_wp2
        go_ret
        exact ⟨ret_int (by rw [HA.out]), _, rfl⟩
    · have ha := rnd_neg_dn x d _ _ h3 e (by omega) r0 (by omega)
      have HA : Hid (rnd x d = q) := ha
      clear ha e
      go_enter Tryd.func41, Tryd.ntmps41
      go_wp2_with fail
      go_quiet (fail)
      go_wp2
      go_ret
      exact ⟨ret_int (by rw [HA.out]), _, rfl⟩

theorem mul_any (x y : Int) (w : World) (h1 : -2147483648 ≤ x) (h2 : x ≤ 2147483647) (h3 : -2147483648 ≤ y) (h4 : y ≤ 2147483647) :
   Calls Tryd.prog 26 #[.int .i32 x, .int .i32 y] w fun e w' => e = .returned (.int .i32 (sat (rnd (x * y) 65536))) ∧ ∃ n, w' = w.drewN n := by
  have hp := prod_bd (A := 2147483648) (B := 2147483648) (a := x) (b := y) h1 (by omega) h3 (by omega)
  have hr := rnd_bd (x * y) 65536 (2147483648 * 32768) (by omega) (by omega) (by omega)
  go_enter Tryd.func26, Tryd.ntmps26
  go_wp2_with (first | (go_at_call 41; refine (round_any _ _ _ (by omega) (by omega) (by omega) (by omega)).mono ?_; rintro e w' ⟨rfl, n, rfl⟩) | (go_at_call 38; refine (sat_any _ _ (by omega) (by omega)).mono ?_; rintro e w' ⟨rfl, rfl⟩))
  go_ret
  exact ⟨rfl, _, rfl⟩
def lenOf : Value → Nat | .slice _ n _ => n | _ => 0
theorem lenOf_owns {w : World} {base : Nat} {e : TypeId} {size : Nat} {v : Value} {n : Nat} {xs : List Value} (h : w.ownsRow base e size v n xs) : lenOf v = n := by
  rcases h.2 with ⟨rfl, rfl⟩ | ⟨g, cap, cur, rfl, _⟩ <;> rfl
theorem Tryd.info5 : (Tryd.prog.info? 5).map (fun i => (i.zero, i.size, i.bytes)) = some (some (.int .u8 0), 1, 1) := by kernel_rfl
end Go.Proofs.YtjcacejkiaepnaaDoor
