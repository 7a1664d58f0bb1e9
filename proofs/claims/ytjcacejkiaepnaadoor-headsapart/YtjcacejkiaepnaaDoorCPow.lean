/- Powers of every number, where the table of steps lies as the program's text lays it. -/
import Derived.Test.YtjcacejkiaepnaaDoorCurve
import Derived.Test.YtjcacejkiaepnaaDoorCNum2
namespace Go.Proofs.YtjcacejkiaepnaaDoor
open Go.ChangeShapes Go.WideShapes Go.ChangeAt Go.RowKit
theorem pow_any (x : Int) (w : World) (h : Tab w) (h1 : -2147483648 ≤ x) (h2 : x ≤ 2147483647) :
   Calls Tryd.prog 48 #[.int .i32 x] w fun e w' => e = .returned (.int .i32 (powI x)) ∧ ∃ n, w' = w.drewN n := by
  by_cases hx : 0 < x
  · rw [powI_pos x hx]; exact pow_pos x w h hx
  · obtain ⟨y, rfl⟩ : ∃ y : Nat, x = -(y : Int) := ⟨(-x).toNat, by omega⟩
    rw [powI_neg]; exact pow_neg y w h (by omega)
end Go.Proofs.YtjcacejkiaepnaaDoor
