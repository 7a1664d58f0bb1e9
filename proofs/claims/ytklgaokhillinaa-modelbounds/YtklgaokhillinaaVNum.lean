/- Sums of products: by a row with one 65536 it picks a number; of rows joined it is nearly the sum. -/
import Derived.Test.YtklgaokhillinaaSlc
namespace Go.Proofs.Ytklgaokhillinaa
open Go.RowKit
theorem grow_in (s x : Int) (h : -9223372036854775807 ≤ s + x ∧ s + x ≤ 9223372036854775807) : grow s x = s + x := by unfold grow; omega
theorem fitN_comm (n m : Nat) : fitN n m = fitN m n := by unfold fitN; split <;> split <;> (try split) <;> (try split) <;> omega
def dotV (A B : List Int) (n m : Nat) : Int := if fitN n m = 0 then dotN A B n else 0
theorem fit_zero {n m : Nat} (h : fitN n m = 0) : n = m ∧ n ≤ 4096 := by
  unfold fitN at h
  split at h
  · omega
  · split at h
    · omega
    · omega
theorem fit_refl {n : Nat} (h : n ≤ 4096) : fitN n n = 0 := by unfold fitN; rw [if_neg (by omega), if_neg (by simp)]
theorem fit_six {n m : Nat} (h1 : n ≤ 4096) (h2 : m ≤ 4096) (h : n ≠ m) : fitN n m = 6 := by unfold fitN; rw [if_neg (by omega), if_pos h]
theorem dotV_comm (A B : List Int) (n m : Nat) : dotV A B n m = dotV B A m n := by
  unfold dotV
  rw [fitN_comm m n]
  by_cases h : fitN n m = 0
  · rw [if_pos h, if_pos h, (fit_zero h).1, dotN_comm]
  · rw [if_neg h, if_neg h]
/-- A row that has x at one place, elsewhere noughts. -/
theorem dsum_unit (A Z : List Int) (a : Nat) (hA : Small A) (hz : ∀ k, el Z k = if k = a then 65536 else 0) (k : Nat) : dsum A Z k = if a < k then el A a * 65536 else 0 := by
  induction k with
  | zero => rw [dsum_zero, if_neg (by omega)]
  | succ k ih =>
    rw [dsum_succ, ih, hz k]
    have hb := hA.el a
    by_cases h1 : k = a
    · subst h1
      rw [if_neg (by omega), if_pos rfl, if_pos (by omega), grow_in _ _ (by omega), Int.zero_add]
    · rw [if_neg h1, Int.mul_zero]
      by_cases h2 : a < k
      · rw [if_pos h2, if_pos (by omega), grow_in _ _ (by omega), Int.add_zero]
      · rw [if_neg h2, if_neg (by omega), grow_in _ _ (by omega), Int.add_zero]
theorem dotN_unit (A Z : List Int) (a n : Nat) (hA : Small A) (hz : ∀ k, el Z k = if k = a then 65536 else 0) (h : a < n) : dotN A Z n = sat (el A a) := by
  unfold dotN
  rw [dsum_unit A Z a hA hz n, if_pos h, rnd_whole _ _ (by omega)]
theorem el_tab_zero (n k : Nat) : el (tab n fun _ => 0) k = 0 := by
  by_cases h : k < n
  · exact el_tab h
  · exact el_over (by rw [tab_len]; omega)
theorem el_unit (n a : Nat) (h : a < n) (k : Nat) : el ((tab n fun _ => 0).set a 65536) k = if k = a then 65536 else 0 := by
  rw [el_set (by rw [tab_len]; exact h), el_tab_zero]
end Go.Proofs.Ytklgaokhillinaa
