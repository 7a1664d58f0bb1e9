/- What each call of package soft on one row answers: means, norms and weights, where the table of steps lies as the program's text lays it. -/
import Derived.Test.YtjcacejkiaepnaaDoorRows
import Derived.Test.YtjcacejkiaepnaaDoorVec
import Derived.Test.YtjcacejkiaepnaaDoorCPow
import Derived.Test.YtjcacejkiaepnaaDoorWNum
import Derived.Test.YtjcacejkiaepnaaDoorLast
namespace Go.Proofs.YtjcacejkiaepnaaDoor
open Go.ChangeShapes Go.WideShapes Go.ChangeAt Go.RowKit
/-- The error's number of a row. -/
def sizeN (n : Nat) : Int := if n = 0 then 8 else if 4096 < n then 2 else 0
theorem sizeN_ok {n : Nat} (h : sizeN n = 0) : 1 ≤ n ∧ n ≤ 4096 := by unfold sizeN at h; split at h <;> (try split at h) <;> omega
theorem checkRow_any (ao : Option Addr) (n ca : Nat) (w : World) (hn : n ≤ 9223372036854775807) :
   Calls Tryd.prog 43 #[.slice ao n ca] w fun e w' => e = .returned (.int .i64 (sizeN n)) ∧ w' = w := by
  by_cases c1 : n = 0
  · subst c1
    go_enter Tryd.func43, Tryd.ntmps43
    go_wp2
    go_ret
    exact ⟨rfl, rfl⟩
  have hz : ((n : Int) == 0) = false := by simp; omega
  by_cases c2 : 4096 < n
  · have HF : Hid (sizeN n = 2) := by show _ = _; unfold sizeN; rw [if_neg c1, if_pos c2]
    go_enter Tryd.func43, Tryd.ntmps43
    go_wp2
    go_ret
    exact ⟨ret_int HF.out.symm, rfl⟩
  · have HF : Hid (sizeN n = 0) := by show _ = _; unfold sizeN; rw [if_neg c1, if_neg c2]
    go_enter Tryd.func43, Tryd.ntmps43
    go_wp2
    go_ret
    exact ⟨ret_int HF.out.symm, rfl⟩
end Go.Proofs.YtjcacejkiaepnaaDoor
