/- The calls of package fix once more, their answers under short names; of every input in range. -/
import Derived.Test.YtijjghlfamebaaaDoorNum2
import Derived.Test.YtijjghlfamebaaaDoorFix
import Derived.Test.YtijjghlfamebaaaDoorRef
namespace Go.Proofs.YtijjghlfamebaaaDoor
open Go.ChangeShapes Go.WideShapes Go.ChangeAt Go.RowKit
theorem addN_any (x y : Int) (w : World) (h1 : -2147483648 ≤ x) (h2 : x ≤ 2147483647) (h3 : -2147483648 ≤ y) (h4 : y ≤ 2147483647) :
    Calls Tryd.prog 12 #[.int .i32 x, .int .i32 y] w fun e w' => e = .returned (.int .i32 (addN x y)) ∧ w' = w := add_any x y w h1 h2 h3 h4
theorem subN_any (x y : Int) (w : World) (h1 : -2147483648 ≤ x) (h2 : x ≤ 2147483647) (h3 : -2147483648 ≤ y) (h4 : y ≤ 2147483647) :
    Calls Tryd.prog 13 #[.int .i32 x, .int .i32 y] w fun e w' => e = .returned (.int .i32 (subN x y)) ∧ w' = w := sub_any x y w h1 h2 h3 h4
theorem mulN_any (x y : Int) (w : World) (h1 : -2147483648 ≤ x) (h2 : x ≤ 2147483647) (h3 : -2147483648 ≤ y) (h4 : y ≤ 2147483647) :
    Calls Tryd.prog 17 #[.int .i32 x, .int .i32 y] w fun e w' => e = .returned (.int .i32 (mulN x y)) ∧ ∃ n, w' = w.drewN n := mul_any x y w h1 h2 h3 h4
theorem refMulN_any (x y : Int) (w : World) (h1 : -2147483648 ≤ x) (h2 : x ≤ 2147483647) (h3 : -2147483648 ≤ y) (h4 : y ≤ 2147483647) :
    Calls Tryd.prog 18 #[.int .i32 x, .int .i32 y] w fun e w' => e = .returned (.int .i32 (mulN x y)) ∧ ∃ n, w' = w.drewN n := refMul_any x y w h1 h2 h3 h4
end Go.Proofs.YtijjghlfamebaaaDoor
