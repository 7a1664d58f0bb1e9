/- The walk of VecDots: at every two rows and every two numbers the law returns true, and what was there stays. -/
import Derived.Test.YthbkibcdcnpaoaaVecL
namespace Go.Proofs.Ythbkibcdcnpaoaa
open Go.ChangeShapes Go.WideShapes Go.ChangeAt Go.RowKit
theorem fit_zero {n m : Nat} (h : fitN n m = 0) : n = m ∧ n ≤ 4096 := by
  unfold fitN at h
  split at h
  · omega
  · split at h
    · omega
    · omega
set_option maxHeartbeats 1600000 in
theorem vecDots_walk (ao : Option Addr) (n ca : Nat) (A : List Int) (bo : Option Addr) (m cb : Nat) (B : List Int) (x y : Int) (w : World) (hA : Arg w ao n ca A) (hB : Arg w bo m cb B)
    (hx0 : -9223372036854775808 ≤ x ∧ x ≤ 9223372036854775807) (hy0 : -9223372036854775808 ≤ y ∧ y ≤ 9223372036854775807) :
    Calls Try.prog 3 #[.slice ao n ca, .slice bo m cb, .int .i64 x, .int .i64 y] w fun e w' => e = .returned (.bool true) ∧ Below w.heap.size w w' := by
  go_enter Try.func3, Try.ntmps3
  go_wp2_with (first
    | (go_at_call_of 9 ao; refine (few_any ao n ca A 5000 5000 _ rfl (by exact hA) (by omega)).mono ?_; rintro e w1 ⟨g1, n1, c1, rfl, l1, F1, B1⟩; replace hB := hB.below B1)
    | (go_at_call_of 9 bo; refine (few_any bo m cb B 5000 5000 _ rfl (by exact hB) (by omega)).mono ?_; rintro e w2 ⟨g2, n2, c2, rfl, l2, F2, B2⟩; replace F1 := F1.below B2; replace B2 := below_then B1 B2))
  clear hA hB B1
  generalize A.take 5000 = A' at *
  generalize B.take 5000 = B' at *
  have hx : x = -9223372036854775808 ∨ -9223372036854775807 ≤ x := by omega
  have hy : y = -9223372036854775808 ∨ -9223372036854775807 ≤ y := by omega
  rcases hx with rfl | hx <;> rcases hy with rfl | hy
  all_goals
    by_cases hf : fitN n1 n2 = 0
    · obtain ⟨rfl, h4⟩ := fit_zero hf
      go_wp2_with (first
        | (go_at_call 10; refine (dot_any _ _ _ _ _ _ _ _ (by exact F1.rowAt) (by exact F2.rowAt) h4).mono ?_; rintro e w3 ⟨rfl, m3, hw3⟩; have B3 : Below w2.heap.size w2 w3 := hw3 ▸ below_drewN (Below.refl _ _) m3; clear hw3; replace F1 := F1.below B3; replace F2 := F2.below B3; replace B3 := below_then B2 B3)
        | (go_at_call 11; refine (refFit_any _ _ _ _ _ _ _ (by omega) (by omega)).mono ?_; rintro e w3 ⟨rfl, rfl⟩; rw [hf])
        | (go_at_call 12; refine (vawake_any _).mono ?_; rintro e w4 ⟨rfl, B4⟩; replace F1 := F1.below B4; replace F2 := F2.below B4; replace B4 := below_then B3 B4)
        | (go_at_call 13; refine (grow_any _ _ _ (by omega) (by omega) (by omega) (by omega)).mono ?_; rintro e w5 ⟨rfl, rfl⟩)
        | (go_at_call 14; refine (refGrow_any _ _ _ (by omega) (by omega) (by omega) (by omega)).mono ?_; rintro e w5 ⟨rfl, rfl⟩)
        | (go_at_call 15; refine (refDot_any _ _ _ _ _ _ _ _ (by exact F1.rowAt) (by exact F2.rowAt)).mono ?_; rintro e w6 ⟨rfl, m6, hw6⟩))
      all_goals
        go_ret
        exact ⟨rfl, below_drewN (by assumption) m6⟩
    · have hf' : (fitN n1 n2 == 0) = false := by simpa using hf
      generalize hq : fitN n1 n2 = q at *
      have hq' : fitN n1 n2 ≠ 0 := by rw [hq]; exact hf
      go_wp2_with (first
        | (go_at_call 10; refine (dot_bad _ _ _ _ _ _ _ (by omega) (by omega) hq').mono ?_; rintro e w3 ⟨rfl, rfl⟩; rw [hq])
        | (go_at_call 11; refine (refFit_any _ _ _ _ _ _ _ (by omega) (by omega)).mono ?_; rintro e w3 ⟨rfl, rfl⟩; rw [hq])
        | (go_at_call 12; refine (vawake_any _).mono ?_; rintro e w4 ⟨rfl, B4⟩; replace B4 := below_then B2 B4)
        | (go_at_call 13; refine (grow_any _ _ _ (by omega) (by omega) (by omega) (by omega)).mono ?_; rintro e w5 ⟨rfl, rfl⟩)
        | (go_at_call 14; refine (refGrow_any _ _ _ (by omega) (by omega) (by omega) (by omega)).mono ?_; rintro e w5 ⟨rfl, rfl⟩))
      all_goals
        go_ret
        exact ⟨rfl, by assumption⟩
end Go.Proofs.Ythbkibcdcnpaoaa
