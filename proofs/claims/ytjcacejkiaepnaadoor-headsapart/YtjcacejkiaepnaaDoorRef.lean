/- What each call of the document's package for layer 1 answers, of every input in range. -/
import Derived.Test.YtjcacejkiaepnaaDoorFix
import Derived.WalkKit
import Derived.ProofKit
import Derived.OpenShut
import Derived.WalkLawsBesides
import Derived.BigQuiet
import Derived.WalkSmall
import Derived.Laws.IdiomStrings
import Derived.Lib.UnsafeStr
import Derived.OwnWalk
namespace Go.Proofs.YtjcacejkiaepnaaDoor
open Go.ChangeShapes Go.WideShapes Go.ChangeAt Go.RowKit
open Go.Lib (byteCells)
theorem refSat_any (x : Int) (w : World) (h1 : -9223372036854775808 ≤ x) (h2 : x ≤ 9223372036854775807) :
   Calls Tryd.prog 29 #[.int .i64 x] w fun e w' => e = .returned (.int .i32 (sat x)) ∧ w' = w := by
  go_enter Tryd.func29, Tryd.ntmps29
  go_wp2
  all_goals
    go_ret
    exact ⟨ret_int (by unfold sat; omega), rfl⟩
theorem refRound_any (x d : Int) (w : World) (h1 : -9223372036854775807 ≤ x) (h2 : x ≤ 9223372036854775807) (h3 : 1 ≤ d) (h4 : d ≤ 9223372036854775807) :
   Calls Tryd.prog 34 #[.int .i64 x, .int .i64 d] w fun e w' => e = .returned (.int .i64 (rnd x d)) ∧ ∃ n, w' = w.drewN n := by
  have pos : ∀ (x : Int) (w : World), 0 ≤ x → x ≤ 9223372036854775807 → Calls Tryd.prog 34 #[.int .i64 x, .int .i64 d] w fun e w' => e = .returned (.int .i64 (rnd x d)) ∧ ∃ n, w' = w.drewN n := by
    intro x w hx hx2
    have hd : d ≠ 0 := by omega
    obtain ⟨e, r0, r1, q0, q1⟩ := parts_pos x d hx h3
    by_cases hh : d - x % d ≤ x % d
    · have HA : Hid (rnd x d = x / d + 1) := rnd_pos_up x d _ _ h3 e hx r1 hh
      have hq : x / d + 1 ≤ 9223372036854775807 := by have := Int.mul_le_mul_of_nonneg_left (show 2 ≤ d by omega) q0; omega
      clear e
      go_enter Tryd.func34, Tryd.ntmps34
      go_wp2_with fail
      go_quiet (fail)
      go_wp2
      go_ret
      exact ⟨ret_int (by rw [HA.out]), _, rfl⟩
    · have HA : Hid (rnd x d = x / d) := rnd_pos_dn x d _ _ h3 e hx r0 (by omega)
      clear e
      go_enter Tryd.func34, Tryd.ntmps34
      go_wp2_with fail
      go_quiet (fail)
      go_wp2
      go_ret
      exact ⟨ret_int (by rw [HA.out]), _, rfl⟩
  by_cases hx : 0 ≤ x
  · exact pos x w hx h2
  · have hB := rnd_bd (-x) d (-x) h3 (by have := Int.mul_le_mul_of_nonneg_left h3 (show 0 ≤ -x by omega); omega) (by have := Int.mul_le_mul_of_nonneg_left h3 (show 0 ≤ -x by omega); omega)
    have HN : Hid (rnd (-x) d = - rnd x d) := rnd_neg x d h3
    go_enter Tryd.func34, Tryd.ntmps34
    go_wp2_with (go_at_call 34; refine (pos (-x) _ (by omega) (by omega)).mono ?_; rintro e w1 ⟨rfl, n1, rfl⟩)
    go_ret
    exact ⟨ret_int (by rw [HN.out]; omega), _, rfl⟩
theorem refMul_any (x y : Int) (w : World) (h1 : -2147483648 ≤ x) (h2 : x ≤ 2147483647) (h3 : -2147483648 ≤ y) (h4 : y ≤ 2147483647) :
   Calls Tryd.prog 27 #[.int .i32 x, .int .i32 y] w fun e w' => e = .returned (.int .i32 (sat (rnd (x * y) 65536))) ∧ ∃ n, w' = w.drewN n := by
  have hp := prod_bd (A := 2147483648) (B := 2147483648) (a := x) (b := y) h1 (by omega) h3 (by omega)
  have hr := rnd_bd (x * y) 65536 (2147483648 * 32768) (by omega) (by omega) (by omega)
  go_enter Tryd.func27, Tryd.ntmps27
  go_wp2_with (first | (go_at_call 34; refine (refRound_any _ _ _ (by omega) (by omega) (by omega) (by omega)).mono ?_; rintro e w' ⟨rfl, n, rfl⟩) | (go_at_call 29; refine (refSat_any _ _ (by omega) (by omega)).mono ?_; rintro e w' ⟨rfl, rfl⟩))
  go_ret
  exact ⟨rfl, _, rfl⟩
end Go.Proofs.YtjcacejkiaepnaaDoor
