/- Plain numbers: means of squares, norms, weights by powers, and mixes; no condition. -/
import Derived.Test.YtjcacejkiaepnaaDoorSlc
import Derived.Test.YtjcacejkiaepnaaDoorCNum2
namespace Go.Proofs.YtjcacejkiaepnaaDoor
def sumTo (f : Nat → Int) : Nat → Int
  | 0 => 0
  | k + 1 => sumTo f k + f k
theorem sumTo_zero (f : Nat → Int) : sumTo f 0 = 0 := rfl
theorem sumTo_succ (f : Nat → Int) (k : Nat) : sumTo f (k + 1) = sumTo f k + f k := rfl
theorem sumTo_congr {f g : Nat → Int} {n : Nat} (h : ∀ j, j < n → f j = g j) : sumTo f n = sumTo g n := by
  induction n with
  | zero => rfl
  | succ n ih => rw [sumTo_succ, sumTo_succ, ih (fun j hj => h j (by omega)), h n (by omega)]
theorem sumTo_bd {f : Nat → Int} {B : Int} (hB : ∀ j, 0 ≤ f j ∧ f j ≤ B) (k : Nat) : 0 ≤ sumTo f k ∧ sumTo f k ≤ B * k := by
  induction k with
  | zero => rw [sumTo_zero]; omega
  | succ k ih =>
    rw [sumTo_succ]
    have := hB k
    have e : B * ((k + 1 : Nat) : Int) = B * k + B := by rw [Int.natCast_succ, Int.mul_add, Int.mul_one]
    omega
theorem sumTo_ge {f : Nat → Int} (h0 : ∀ j, 0 ≤ f j) {j n : Nat} (hj : j < n) : f j ≤ sumTo f n := by
  have nn : ∀ k, 0 ≤ sumTo f k := fun k => by
    induction k with
    | zero => rw [sumTo_zero]; omega
    | succ k ih => rw [sumTo_succ]; have := h0 k; omega
  induction n with
  | zero => omega
  | succ n ih =>
    rw [sumTo_succ]
    rcases Nat.lt_or_ge j n with h | h
    · have := ih h; have := h0 n; omega
    · obtain rfl : j = n := by omega
      have := nn j; omega
/-- Parts of a whole, each brought down. -/
theorem parts_low {p : Nat → Int} {S : Int} (hS : 1 ≤ S) (k : Nat) : S * sumTo (fun j => 65536 * p j / S) k ≤ 65536 * sumTo p k ∧ 65536 * sumTo p k - (S - 1) * k ≤ S * sumTo (fun j => 65536 * p j / S) k := by
  induction k with
  | zero => simp [sumTo_zero]
  | succ k ih =>
    rw [sumTo_succ, sumTo_succ, Int.mul_add, Int.mul_add, Int.natCast_succ, Int.mul_add]
    have h1 := Int.mul_ediv_add_emod (65536 * p k) S
    have h2 := Int.emod_nonneg (65536 * p k) (show S ≠ 0 by omega)
    have h3 := Int.emod_lt_of_pos (65536 * p k) (show 0 < S by omega)
    omega
theorem parts_sum {p : Nat → Int} {n : Nat} (hn : 1 ≤ n) (hS : 1 ≤ sumTo p n) : sumTo (fun j => 65536 * p j / sumTo p n) n ≤ 65536 ∧ 65536 - (n : Int) < sumTo (fun j => 65536 * p j / sumTo p n) n := by
  obtain ⟨h1, h2⟩ := parts_low (p := p) hS n
  generalize sumTo (fun j => 65536 * p j / sumTo p n) n = Q at *
  generalize sumTo p n = S at *
  constructor
  · have : S * Q ≤ S * 65536 := by rw [Int.mul_comm S 65536]; exact h1
    exact Int.le_of_mul_le_mul_left this (by omega)
  · have e : S * (65536 - n) < S * Q := by
      rw [Int.mul_sub]
      have e2 : (S - 1) * (n : Int) = S * n - n := by rw [Int.sub_mul, Int.one_mul]
      omega
    exact Int.lt_of_mul_lt_mul_left e (by omega)
theorem sumTo_lin {f g : Nat → Int} {c d e : Int} {n : Nat} (h : ∀ j, j < n → c * f j ≤ d * g j + e) : c * sumTo f n ≤ d * sumTo g n + e * n := by
  induction n with
  | zero => simp [sumTo_zero]
  | succ n ih =>
    have i := ih (fun j hj => h j (by omega))
    have k := h n (by omega)
    rw [sumTo_succ, sumTo_succ, Int.mul_add, Int.mul_add, Int.natCast_succ, Int.mul_add]
    omega
theorem sumTo_mul (f : Nat → Int) (c : Int) (n : Nat) : sumTo (fun j => f j * c) n = sumTo f n * c := by
  induction n with
  | zero => simp [sumTo_zero]
  | succ n ih => rw [sumTo_succ, sumTo_succ, Int.add_mul, ih]
theorem sq_nn (a : Int) : 0 ≤ a * a := by
  rcases Int.le_total 0 a with h | h
  · exact Int.mul_nonneg h h
  · have := Int.mul_nonneg (show 0 ≤ -a by omega) (show 0 ≤ -a by omega); rwa [Int.neg_mul_neg] at this
/-- A rounded number's square, against the square ahead of rounding. -/
theorem sq_near (a y : Int) (h1 : -32768 ≤ 65536 * y - a) (h2 : 65536 * y - a ≤ 32768) :
    562949953421312 * (y * y) ≤ 131073 * (a * a) + 18446884811197906944 ∧ 131071 * (a * a) + -18446744073709551616 ≤ 562949953421312 * (y * y) := by
  obtain ⟨d, hd⟩ : ∃ d, 65536 * y = a + d := ⟨65536 * y - a, by omega⟩
  have e1 : (65536 * y) * (65536 * y) = (a + d) * (a + d) := by rw [hd]
  have q1 := sq_nn (a - 4294967296)
  have q2 := sq_nn (a + 4294967296)
  have hd1 : -32768 ≤ d := by omega
  have hd2 : d ≤ 32768 := by omega
  have q3 : d * d ≤ 1073741824 := by
    have := Int.mul_nonneg (show 0 ≤ 32768 - d by omega) (show 0 ≤ 32768 + d by omega)
    grind
  have q4 : 0 ≤ d * d := sq_nn d
  have q5 : 262144 * (a * d) ≤ a * a + 18446744073709551616 := by
    rcases Int.le_total 0 a with h | h
    · have := Int.mul_le_mul_of_nonneg_left hd2 h
      grind
    · have := Int.mul_le_mul_of_nonpos_left h hd1
      grind
  have q6 : -(a * a + 18446744073709551616) ≤ 262144 * (a * d) := by
    rcases Int.le_total 0 a with h | h
    · have := Int.mul_le_mul_of_nonneg_left hd1 h
      grind
    · have := Int.mul_le_mul_of_nonpos_left h hd2
      grind
  have e2 : 4294967296 * (y * y) = a * a + 2 * (a * d) + d * d := by grind
  clear e1 q1 q2
  generalize a * a = A at *
  generalize y * y = Y at *
  generalize a * d = D at *
  generalize d * d = E at *
  constructor <;> omega
/-- The mean of squares behind a norm is near to one. x: the numbers, y: rounded products with k; M: their mean of squares ahead. -/
theorem norm_size (x y : Nat → Int) (n : Nat) (k M : Int) (hn : 1 ≤ n) (hM : M = sumTo (fun j => x j * x j) n / (n * 65536)) (h4 : 4096 ≤ M) (hk : 20000 ≤ k)
    (k1 : (M + 1) * (k * k) ≤ 281474976710656) (k2 : 281474976710656 ≤ (M + 1) * ((k + 1) * (k + 1)))
    (hy : ∀ j, j < n → -32768 ≤ 65536 * y j - x j * k ∧ 65536 * y j - x j * k ≤ 32768) :
    64000 < sumTo (fun j => y j * y j) n / (n * 65536) ∧ sumTo (fun j => y j * y j) n / (n * 65536) < 67000 := by
  have u := sumTo_lin (f := fun j => y j * y j) (g := fun j => (x j * k) * (x j * k)) (n := n) (c := 562949953421312) (d := 131073) (e := 18446884811197906944) (fun j hj => (sq_near _ _ (hy j hj).1 (hy j hj).2).1)
  have l := sumTo_lin (f := fun j => (x j * k) * (x j * k)) (g := fun j => y j * y j) (n := n) (c := 131071) (d := 562949953421312) (e := 18446744073709551616) (fun j hj => by have := (sq_near _ _ (hy j hj).1 (hy j hj).2).2; show 131071 * (x j * k * (x j * k)) ≤ 562949953421312 * (y j * y j) + _; omega)
  have e : (fun j => (x j * k) * (x j * k)) = fun j => (x j * x j) * (k * k) := by funext j; grind
  rw [e, sumTo_mul] at u l
  generalize sumTo (fun j => x j * x j) n = S at *
  generalize sumTo (fun j => y j * y j) n = T at *
  have hN : (1 : Int) ≤ (n : Int) := by omega
  generalize (n : Int) = N at *
  have s1 : (N * 65536) * M ≤ S := by rw [hM]; exact Int.mul_ediv_self_le (by omega)
  have s2 : S < (N * 65536) * (M + 1) := by rw [hM, Int.mul_add, Int.mul_one]; exact Int.lt_mul_ediv_self_add (by omega)
  clear hM hy e
  have hK : 0 ≤ k * k := sq_nn k
  have p1 : S * (k * k) ≤ N * 65536 * (M + 1) * (k * k) := Int.mul_le_mul_of_nonneg_right (by omega) hK
  have p2 : N * 65536 * M * (k * k) ≤ S * (k * k) := Int.mul_le_mul_of_nonneg_right s1 hK
  have p3 : N * 65536 * (M + 1) * (k * k) ≤ N * 18446744073709551616 := by
    have := Int.mul_le_mul_of_nonneg_left k1 (show 0 ≤ N * 65536 by omega)
    grind
  have r1 : 5000 * ((k + 1) * (k + 1)) ≤ 5001 * (k * k) := by
    have := Int.mul_le_mul_of_nonneg_right hk (show 0 ≤ k by omega)
    grind
  have r2 : 4096 * (M + 1) ≤ 4097 * M := by omega
  have r3 : 281474976710656 * 20480000 ≤ 20489097 * (M * (k * k)) := by
    have a1 := Int.mul_le_mul_of_nonneg_left r1 (show 0 ≤ M + 1 by omega)
    have a2 := Int.mul_le_mul_of_nonneg_right r2 hK
    grind
  have r4 : N * 65536 * 281350000000000 ≤ N * 65536 * M * (k * k) := by
    rw [Int.mul_assoc _ M]
    exact Int.mul_le_mul_of_nonneg_left (by omega) (by omega)
  have hD : 0 < N * 65536 := by omega
  generalize N * 65536 * (M + 1) * (k * k) = P at *
  generalize N * 65536 * M * (k * k) = R at *
  generalize S * (k * k) = X at *
  constructor
  · have : 64001 ≤ T / (N * 65536) := (Int.le_ediv_iff_mul_le hD).2 (by omega)
    omega
  · exact (Int.ediv_lt_iff_lt_mul hD).2 (by omega)
/-- The greatest of the first k numbers (of none: the first). -/
def maxTo (A : List Int) : Nat → Int
  | 0 => el A 0
  | k + 1 => if maxTo A k < el A k then el A k else maxTo A k
theorem maxTo_one (A : List Int) : maxTo A 1 = el A 0 := by unfold maxTo maxTo; omega
theorem maxTo_bd {A : List Int} (h : Small A) (k : Nat) : -2147483648 ≤ maxTo A k ∧ maxTo A k ≤ 2147483647 := by
  induction k with
  | zero => exact h.el 0
  | succ k ih => unfold maxTo; have := h.el k; split <;> omega
theorem maxTo_ge (A : List Int) {j k : Nat} (h : j < k) : el A j ≤ maxTo A k := by
  induction k with
  | zero => omega
  | succ k ih =>
    unfold maxTo
    rcases Nat.lt_or_ge j k with h1 | h1
    · have := ih h1; split <;> omega
    · obtain rfl : j = k := by omega
      split <;> omega
theorem maxTo_at (A : List Int) {k : Nat} (h : 1 ≤ k) : ∃ j, j < k ∧ el A j = maxTo A k := by
  induction k with
  | zero => omega
  | succ k ih =>
    unfold maxTo
    split
    · exact ⟨k, by omega, rfl⟩
    · rcases Nat.eq_zero_or_pos k with h0 | h0
      · subst h0; exact ⟨0, by omega, rfl⟩
      · obtain ⟨j, hj, e⟩ := ih h0; exact ⟨j, by omega, e⟩
theorem amax_max (A : List Int) {k : Nat} (h : 1 ≤ k) : 0 ≤ amax A k ∧ el A (amax A k).toNat = maxTo A k := by
  induction k with
  | zero => omega
  | succ k ih =>
    rcases Nat.eq_zero_or_pos k with h0 | h0
    · subst h0
      rw [maxTo_one]
      have e : amax A 1 = 0 := by unfold amax; rw [if_pos (Or.inl (by show (-1 : Int) < 0; omega))]; rfl
      rw [e]; exact ⟨by omega, rfl⟩
    · obtain ⟨i1, i2⟩ := ih h0
      unfold amax maxTo
      by_cases hc : el A (amax A k).toNat < el A k
      · rw [if_pos (Or.inr hc), if_pos (by omega)]; exact ⟨by omega, by rw [Int.toNat_natCast]⟩
      · rw [if_neg (by omega), if_neg (by omega)]; exact ⟨i1, i2⟩
theorem maxTo_shift {A B : List Int} {c : Int} {n : Nat} (hn : 1 ≤ n) (h : ∀ j, j < n → el B j = el A j + c) : ∀ {k}, k ≤ n → maxTo B k = maxTo A k + c
  | 0, _ => h 0 (by omega)
  | k + 1, hk => by
    unfold maxTo
    rw [maxTo_shift hn h (by omega : k ≤ n), h k (by omega)]
    split <;> split <;> omega
theorem maxTo_same {A : List Int} {x : Int} {n : Nat} (hn : 1 ≤ n) (h : ∀ j, j < n → el A j = x) : ∀ {k}, k ≤ n → maxTo A k = x
  | 0, _ => h 0 (by omega)
  | k + 1, hk => by unfold maxTo; rw [maxTo_same hn h (by omega : k ≤ n), h k (by omega)]; split <;> rfl
/-- The power of number j, below the greatest. -/
def powW (A : List Int) (n j : Nat) : Int := powI (sat (el A j - maxTo A n))
theorem powW_bd (A : List Int) (n j : Nat) : 0 ≤ powW A n j ∧ powW A n j ≤ 65536 := powI_bd _
theorem powI_zero : powI 0 = 65536 := by decide
theorem powW_top {A : List Int} {n j : Nat} (h : el A j = maxTo A n) : powW A n j = 65536 := by
  unfold powW; rw [h, Int.sub_self, show sat 0 = 0 by decide]; exact powI_zero
/-- The sum of the first k powers. -/
def psum (A : List Int) (n k : Nat) : Int := sumTo (powW A n) k
theorem psum_zero (A : List Int) (n : Nat) : psum A n 0 = 0 := rfl
theorem psum_succ (A : List Int) (n k : Nat) : psum A n (k + 1) = psum A n k + powW A n k := rfl
theorem psum_bd (A : List Int) (n k : Nat) : 0 ≤ psum A n k ∧ psum A n k ≤ 65536 * k := sumTo_bd (powW_bd A n) k
theorem psum_top (A : List Int) {n : Nat} (h : 1 ≤ n) : 65536 ≤ psum A n n := by
  obtain ⟨j, hj, e⟩ := maxTo_at A h
  have := sumTo_ge (f := powW A n) (fun j => (powW_bd A n j).1) hj
  rw [powW_top e] at this
  exact this
/-- The weight of number j. -/
def wgt (A : List Int) (n j : Nat) : Int := 65536 * powW A n j / psum A n n
theorem wgt_bd (A : List Int) {n j : Nat} (hj : j < n) : 0 ≤ wgt A n j ∧ wgt A n j ≤ 65536 := by
  have h1 := powW_bd A n j
  have h2 := psum_top A (n := n) (by omega)
  have h3 : powW A n j ≤ psum A n n := sumTo_ge (f := powW A n) (fun j => (powW_bd A n j).1) hj
  unfold wgt
  refine ⟨Int.ediv_nonneg (by omega) (by omega), ?_⟩
  have : 65536 * powW A n j / psum A n n < 65537 := (Int.ediv_lt_iff_lt_mul (by omega)).2 (by omega)
  omega
theorem wgt_sum (A : List Int) {n : Nat} (h : 1 ≤ n) : sumTo (wgt A n) n ≤ 65536 ∧ 65536 - (n : Int) < sumTo (wgt A n) n := by
  have := psum_top A h
  exact parts_sum (p := powW A n) h (by show 1 ≤ psum A n n; omega)
theorem wgt_mono (A : List Int) {n i j : Nat} (hn : 1 ≤ n) (h : el A i ≤ el A j) : wgt A n i ≤ wgt A n j := by
  have h2 := psum_top A hn
  have h3 : powW A n i ≤ powW A n j := powI_mono _ _ (by unfold sat; omega)
  unfold wgt
  exact Int.ediv_le_ediv (by omega) (by omega)
theorem wgt_shift {A B : List Int} {c : Int} {n : Nat} (hn : 1 ≤ n) (h : ∀ j, j < n → el B j = el A j + c) {j : Nat} (hj : j < n) : wgt B n j = wgt A n j := by
  have e : ∀ j, j < n → powW B n j = powW A n j := fun j hj => by
    unfold powW; rw [maxTo_shift hn h (Nat.le_refl n), h j hj]; congr 2; omega
  unfold wgt psum
  rw [e j hj, sumTo_congr e]
theorem wgt_same {A : List Int} {x : Int} {n : Nat} (hn : 1 ≤ n) (h : ∀ j, j < n → el A j = x) {j : Nat} (hj : j < n) : wgt A n j = 65536 / n := by
  have e : ∀ j, j < n → powW A n j = 65536 := fun j hj => powW_top (by rw [h j hj, maxTo_same hn h (Nat.le_refl n)])
  have s : ∀ k, k ≤ n → psum A n k = 65536 * k := fun k hk => by
    induction k with
    | zero => rw [psum_zero]; omega
    | succ k ih => rw [psum_succ, ih (by omega), e k (by omega)]; omega
  unfold wgt
  rw [e j hj, s n (Nat.le_refl n)]
  exact Int.mul_ediv_mul_of_pos _ _ (by omega)
/-- The mean of squares. -/
def meanN (A : List Int) (n : Nat) : Int := sat (dsum A A n / n / 65536)
theorem meanN_bd (A : List Int) (n : Nat) : -2147483647 ≤ meanN A n ∧ meanN A n ≤ 2147483647 := sat_bd _
theorem dsum_sq_nn (A : List Int) (k : Nat) : 0 ≤ dsum A A k := by
  induction k with
  | zero => rw [dsum_zero]; omega
  | succ k ih => rw [dsum_succ]; have := sq_nn (el A k); unfold grow; split <;> (try split) <;> omega
theorem meanN_nn (A : List Int) (n : Nat) : 0 ≤ meanN A n := by
  have h1 : 0 ≤ dsum A A n / n := Int.ediv_nonneg (dsum_sq_nn A n) (by omega)
  have h2 : 0 ≤ dsum A A n / n / 65536 := Int.ediv_nonneg h1 (by omega)
  unfold meanN sat; omega
/-- By what a norm multiplies. -/
def normK (A : List Int) (n : Nat) : Int := invN (sat (meanN A n + 1))
theorem normK_bd (A : List Int) (n : Nat) : 0 ≤ normK A n ∧ normK A n ≤ 2147483647 := invN_bd _
/-- A norm at place j. -/
def normN (A G : List Int) (n j : Nat) : Int := mulN (mulN (el A j) (normK A n)) (el G j)
theorem normN_bd (A G : List Int) (n j : Nat) : -2147483647 ≤ normN A G n j ∧ normN A G n j ≤ 2147483647 := mulN_bd _ _
end Go.Proofs.YtjcacejkiaepnaaDoor
