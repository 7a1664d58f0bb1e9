/- Numbers: mixes by weights that come to one at most. -/
import Derived.Test.YtjcacejkiaepnaaDoorHeads3
namespace Go.Proofs.YtjcacejkiaepnaaDoor
theorem sumTo_mono {f : Nat → Int} {n : Nat} (h0 : ∀ j, j < n → 0 ≤ f j) {k : Nat} (hk : k ≤ n) : sumTo f k ≤ sumTo f n := by
  induction n with
  | zero => obtain rfl : k = 0 := by omega
            exact Int.le_refl _
  | succ n ih =>
    rcases Nat.lt_or_ge n k with h | h
    · obtain rfl : k = n + 1 := by omega
      exact Int.le_refl _
    · have := ih (fun j hj => h0 j (by omega)) h
      have := h0 n (by omega)
      rw [sumTo_succ]
      omega
theorem mul_lo {lo s : Int} (h : lo ≤ 0) (hs : s ≤ 65536) : lo * 65536 ≤ lo * s := Int.mul_le_mul_of_nonpos_left h hs
theorem mul_hi {hi s : Int} (h : 0 ≤ hi) (hs : s ≤ 65536) : hi * s ≤ hi * 65536 := Int.mul_le_mul_of_nonneg_left hs h
theorem mix_sum (A B : List Int) (n : Nat) (lo hi : Int) (hA : ∀ i, i < n → 0 ≤ el A i) (hS : sumTo (el A) n ≤ 65536) (hB : ∀ i, i < n → lo ≤ el B i ∧ el B i ≤ hi) (hlo : -2147483648 ≤ lo ∧ lo ≤ 0) (hhi : 0 ≤ hi ∧ hi ≤ 2147483647) :
    ∀ k, k ≤ n → dsum A B k = sumTo (fun i => el A i * el B i) k ∧ lo * sumTo (el A) k ≤ dsum A B k ∧ dsum A B k ≤ hi * sumTo (el A) k := by
  intro k
  induction k with
  | zero => intro _; rw [dsum_zero, sumTo_zero, sumTo_zero]; omega
  | succ k ih =>
    intro hk
    obtain ⟨e, l, u⟩ := ih (by omega)
    have h1 := Int.mul_le_mul_of_nonneg_left (hB k (by omega)).1 (hA k (by omega))
    have h2 := Int.mul_le_mul_of_nonneg_left (hB k (by omega)).2 (hA k (by omega))
    have s0 : sumTo (el A) (k + 1) ≤ 65536 := Int.le_trans (sumTo_mono hA hk) hS
    have m1 := mul_lo hlo.2 s0
    have m2 := mul_hi hhi.1 s0
    have e1 : lo * sumTo (el A) (k + 1) = lo * sumTo (el A) k + el A k * lo := by rw [sumTo_succ, Int.mul_add, Int.mul_comm lo (el A k)]
    have e2 : hi * sumTo (el A) (k + 1) = hi * sumTo (el A) k + el A k * hi := by rw [sumTo_succ, Int.mul_add, Int.mul_comm hi (el A k)]
    rw [dsum_succ, sumTo_succ, ← e]
    rw [e1] at m1 ⊢
    rw [e2] at m2 ⊢
    generalize el A k * el B k = x at *
    generalize dsum A B k = d at *
    generalize lo * sumTo (el A) k = y at *
    generalize hi * sumTo (el A) k = z at *
    generalize el A k * lo = p at *
    generalize el A k * hi = q at *
    have g : grow d x = d + x := by unfold grow; rw [if_neg (by omega), if_neg (by omega)]
    rw [g]
    omega
theorem rnd_between {D lo hi : Int} (h1 : lo * 65536 ≤ D) (h2 : D ≤ hi * 65536) : lo ≤ rnd D 65536 ∧ rnd D 65536 ≤ hi := by
  unfold rnd
  omega
/-- What is mixed by a head's weights lies between bounds of the values and nought. -/
theorem head_between (Q : List Int) (K V : List (List Int)) (m n j : Nat) (lo hi : Int) (h1 : 1 ≤ m) (hV : ∀ i, i < m → lo ≤ el (rowOf V i) j ∧ el (rowOf V i) j ≤ hi) (hlo : -2147483648 ≤ lo ∧ lo ≤ 0) (hhi : 0 ≤ hi ∧ hi ≤ 2147483647) :
    lo ≤ headEl Q K V m n j ∧ headEl Q K V m n j ≤ hi := by
  unfold headEl dotN
  have ha : ∀ i, i < m → el (tab m (wgt (scrs Q K m n) m)) i = wgt (scrs Q K m n) m i := fun i hi => el_tab hi
  have hs : sumTo (el (tab m (wgt (scrs Q K m n) m))) m ≤ 65536 := by rw [sumTo_congr ha]; exact (wgt_sum _ h1).1
  obtain ⟨-, l, u⟩ := mix_sum (tab m (wgt (scrs Q K m n) m)) (colOf V m j) m lo hi (fun i hi => by rw [ha i hi]; exact (wgt_bd _ hi).1) hs (fun i hi => by unfold colOf; rw [el_tab hi]; exact hV i hi) hlo hhi m (Nat.le_refl _)
  have := rnd_between (Int.le_trans (mul_lo hlo.2 hs) l) (Int.le_trans u (mul_hi hhi.1 hs))
  unfold sat
  omega
end Go.Proofs.YtjcacejkiaepnaaDoor
