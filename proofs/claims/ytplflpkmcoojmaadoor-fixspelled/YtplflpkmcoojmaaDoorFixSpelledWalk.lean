/- The Go text of FixSpelled returns true at every three numbers, where the library's table of powers of ten lies as its text lays it. -/
import Derived.Test.YtplflpkmcoojmaaDoorSpellA
import Derived.Test.YtplflpkmcoojmaaDoorSpellB
import Derived.Test.YtplflpkmcoojmaaDoorSpellC
import Derived.Test.YtplflpkmcoojmaaDoorSpellD
namespace Go.Proofs.YtplflpkmcoojmaaDoor
open Go.ChangeShapes Go.WideShapes Go.ChangeAt Go.RowKit
set_option linter.unusedVariables false
theorem fixSpelled_walk (a front back : Int) (a1 : -2147483648 ≤ a) (a2 : a ≤ 2147483647) (f1 : -9223372036854775808 ≤ front) (f2 : front ≤ 9223372036854775807) (b1 : -9223372036854775808 ≤ back) (b2 : back ≤ 9223372036854775807) (w : World) (hP : Pw w) :
    Calls Tryd.prog 3 #[.int .i32 a, .int .i64 front, .int .i64 back] w fun e w' => e = .returned (.bool true) ∧ Below w.heap.size w w' := by
  by_cases ho : a < 0 ∨ 6488064 < a
  · exact spelled_out a front back a1 a2 f1 f2 b1 b2 w hP ho
  · obtain ⟨m, rfl⟩ : ∃ m : Nat, a = m := ⟨a.toNat, by omega⟩
    have htx : textL (m : Int) = Lib.decDigits (m / 65536) ++ partL (m % 65536) := by
      unfold textL
      rw [if_neg (by omega), List.nil_append, Lib.itoa_nonneg, show ((m : Int)).natAbs = m by omega]
    by_cases hfr : 3 < front
    all_goals by_cases hp0 : m % 65536 = 0
    · exact spelled_inA m (m / 65536) (m % 65536) front back f1 f2 b1 b2 w hP (by omega) hfr hp0 (by omega) (by omega) (by omega) htx
    · exact spelled_inB m (m / 65536) (m % 65536) front back f1 f2 b1 b2 w hP (by omega) hfr hp0 (by omega) (by omega) (by omega) htx
    · exact spelled_inC m (m / 65536) (m % 65536) front back f1 f2 b1 b2 w hP (by omega) (by omega) hp0 (by omega) (by omega) (by omega) htx
    · exact spelled_inD m (m / 65536) (m % 65536) front back f1 f2 b1 b2 w hP (by omega) (by omega) hp0 (by omega) (by omega) (by omega) htx
end Go.Proofs.YtplflpkmcoojmaaDoor
