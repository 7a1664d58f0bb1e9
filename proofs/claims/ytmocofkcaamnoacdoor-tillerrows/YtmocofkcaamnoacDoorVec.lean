/- What each call of package vec answers: sums of products, and that they change nothing. -/
import Derived.Test.YtmocofkcaamnoacDoorRows
import Derived.Test.YtmocofkcaamnoacDoorSlcP
import Derived.Test.YtmocofkcaamnoacDoorFix
namespace Go.Proofs.YtmocofkcaamnoacDoor
open Go.ChangeShapes Go.WideShapes Go.ChangeAt Go.RowKit
theorem grow_any (s x : Int) (w : World) (h1 : -9223372036854775807 ≤ s) (h2 : s ≤ 9223372036854775807) (h3 : -9223372036854775807 ≤ x) (h4 : x ≤ 9223372036854775807) :
   Calls Tryd.prog 24 #[.int .i64 s, .int .i64 x] w fun e w' => e = .returned (.int .i64 (grow s x)) ∧ w' = w := by
  by_cases ho : 9223372036854775807 < s + x
  · have HG : Hid (grow s x = 9223372036854775807) := by show _ = _; unfold grow; rw [if_pos ho]
    have hw : wrap64 (s + x) < 0 := by unfold wrap64; omega
    go_enter Tryd.func24, Tryd.ntmps24
    go_wp2
    go_ret
    exact ⟨ret_int HG.out.symm, rfl⟩
  by_cases hu : s + x < -9223372036854775808
  · have HG : Hid (grow s x = -9223372036854775807) := by show _ = _; unfold grow; omega
    have hw : 0 ≤ wrap64 (s + x) := by unfold wrap64; omega
    go_enter Tryd.func24, Tryd.ntmps24
    go_wp2
    go_ret
    exact ⟨ret_int HG.out.symm, rfl⟩
  go_enter Tryd.func24, Tryd.ntmps24
  go_wp2
  all_goals
    go_ret
    exact ⟨ret_int (by unfold grow; omega), rfl⟩
end Go.Proofs.YtmocofkcaamnoacDoor
