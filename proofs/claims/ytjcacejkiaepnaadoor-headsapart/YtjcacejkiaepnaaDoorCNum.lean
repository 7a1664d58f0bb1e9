/- Plain numbers: the steps, powers of two by them, and whole roots; no condition. -/
namespace Go.Proofs.YtjcacejkiaepnaaDoor
def stp : List Nat := [65536, 64830, 64132, 63441, 62757, 62081, 61413, 60751, 60097, 59449, 58809, 58176, 57549, 56929, 56316, 55709, 55109, 54515, 53928, 53347, 52773, 52204, 51642, 51085, 50535, 49991, 49452, 48920, 48393, 47871, 47356, 46846, 46341, 45842, 45348, 44859, 44376, 43898, 43425, 42958, 42495, 42037, 41584, 41136, 40693, 40255, 39821, 39392, 38968, 38548, 38133, 37722, 37316, 36914, 36516, 36123, 35734, 35349, 34968, 34591, 34219, 33850, 33486, 33125, 32768]
def stepAt (i : Nat) : Nat := stp.getD i 0
theorem step_all : (List.range 64).all (fun i => decide (stepAt (i + 1) < stepAt i ∧ stepAt i ≤ stepAt (i + 1) + 706 ∧ 32768 ≤ stepAt (i + 1) ∧ stepAt i ≤ 65536)) = true := by decide
theorem step_at (i : Nat) (h : i < 64) : stepAt (i + 1) < stepAt i ∧ stepAt i ≤ stepAt (i + 1) + 706 ∧ 32768 ≤ stepAt (i + 1) ∧ stepAt i ≤ 65536 := by
  have := List.all_eq_true.1 step_all i (List.mem_range.2 h)
  simpa using this
/-- What is taken off a step. -/
def offN (y : Nat) : Nat := ((stepAt (y / 1024 % 64) - stepAt (y / 1024 % 64 + 1)) * (y % 1024) + 512) / 1024
def vN (y : Nat) : Nat := stepAt (y / 1024 % 64) - offN y
def powN (y : Nat) : Nat := vN y / 2 ^ (y / 65536)
theorem off_le (y : Nat) : offN y ≤ stepAt (y / 1024 % 64) - stepAt (y / 1024 % 64 + 1) := by
  unfold offN
  have h : (stepAt (y / 1024 % 64) - stepAt (y / 1024 % 64 + 1)) * (y % 1024) ≤ (stepAt (y / 1024 % 64) - stepAt (y / 1024 % 64 + 1)) * 1023 := Nat.mul_le_mul_left _ (by omega)
  have s := step_at (y / 1024 % 64) (Nat.mod_lt _ (by decide))
  omega
theorem vN_bd (y : Nat) : stepAt (y / 1024 % 64 + 1) ≤ vN y ∧ vN y ≤ stepAt (y / 1024 % 64) ∧ 32768 ≤ vN y ∧ vN y ≤ 65536 := by
  have a := off_le y
  have s := step_at (y / 1024 % 64) (Nat.mod_lt _ (by decide))
  unfold vN
  omega
theorem powN_bd (y : Nat) : powN y ≤ 65536 := Nat.le_trans (Nat.div_le_self _ _) (vN_bd y).2.2.2
/-- As the program reckons it, in whole numbers with a sign. -/
theorem prod_int (y : Nat) : ((stepAt (y / 1024 % 64) : Int) - (stepAt (y / 1024 % 64 + 1) : Int)) * ((y : Int) % 1024) = (((stepAt (y / 1024 % 64) - stepAt (y / 1024 % 64 + 1)) * (y % 1024) : Nat) : Int) := by
  have s := step_at (y / 1024 % 64) (Nat.mod_lt _ (by decide))
  rw [Int.natCast_mul, Int.ofNat_sub (by omega)]; rfl
theorem v_int (y : Nat) : (stepAt (y / 1024 % 64) : Int) - (((stepAt (y / 1024 % 64) : Int) - (stepAt (y / 1024 % 64 + 1) : Int)) * ((y : Int) % 1024) + 512) / 1024 = (vN y : Int) := by
  have a := off_le y
  rw [prod_int]
  unfold vN offN at *
  omega
theorem prod_bd2 (y : Nat) : 0 ≤ ((stepAt (y / 1024 % 64) : Int) - (stepAt (y / 1024 % 64 + 1) : Int)) * ((y : Int) % 1024) ∧ ((stepAt (y / 1024 % 64) : Int) - (stepAt (y / 1024 % 64 + 1) : Int)) * ((y : Int) % 1024) ≤ 722238 := by
  have s := step_at (y / 1024 % 64) (Nat.mod_lt _ (by decide))
  rw [prod_int]
  have h : (stepAt (y / 1024 % 64) - stepAt (y / 1024 % 64 + 1)) * (y % 1024) ≤ 706 * 1023 := Nat.mul_le_mul (by omega) (by omega)
  omega
theorem div_div (a j : Nat) : a / 2 ^ j / 2 = a / 2 ^ (j + 1) := by rw [Nat.div_div_eq_div_mul, Nat.pow_succ]
theorem div_zero_up (a j k : Nat) (h : a / 2 ^ j = 0) (hk : j ≤ k) : a / 2 ^ k = 0 := by
  have : a < 2 ^ j := by
    rcases Nat.lt_or_ge a (2 ^ j) with h' | h'
    · exact h'
    · have := Nat.div_pos h' (Nat.pow_pos (by decide)); omega
  exact Nat.div_eq_of_lt (Nat.lt_of_lt_of_le this (Nat.pow_le_pow_right (by decide) hk))
/-- The whole root, bit by bit. -/
def rtFrom : Nat → Nat → Nat → Nat
  | 0, r, _ => r
  | k + 1, r, x => if (r + 2 ^ k) * (r + 2 ^ k) ≤ x then rtFrom k (r + 2 ^ k) x else rtFrom k r x
def rt (x : Nat) : Nat := rtFrom 32 0 x
theorem rtFrom_spec : ∀ (k r x : Nat), r * r ≤ x → x < (r + 2 ^ k) * (r + 2 ^ k) → rtFrom k r x * rtFrom k r x ≤ x ∧ x < (rtFrom k r x + 1) * (rtFrom k r x + 1) ∧ r ≤ rtFrom k r x ∧ rtFrom k r x < r + 2 ^ k
  | 0, r, x, h1, h2 => by simpa [rtFrom] using ⟨h1, h2⟩
  | k + 1, r, x, h1, h2 => by
    have e : r + 2 ^ (k + 1) = r + 2 ^ k + 2 ^ k := by rw [Nat.pow_succ]; omega
    have hp : 0 < 2 ^ k := Nat.pow_pos (by decide)
    unfold rtFrom
    split
    · rename_i h
      have := rtFrom_spec k (r + 2 ^ k) x h (by rw [← e]; exact h2)
      omega
    · rename_i h
      have := rtFrom_spec k r x h1 (by omega)
      omega
theorem rt_spec (x : Nat) (h : x < 18446744073709551616) : rt x * rt x ≤ x ∧ x < (rt x + 1) * (rt x + 1) ∧ rt x < 4294967296 := by
  have := rtFrom_spec 32 0 x (by omega) (by simpa using h)
  unfold rt
  omega
/-- A root is the only one. -/
theorem rt_of (x r : Nat) (h : x < 18446744073709551616) (h1 : r * r ≤ x) (h2 : x < (r + 1) * (r + 1)) : rt x = r := by
  obtain ⟨a, b, -⟩ := rt_spec x h
  have p : rt x < r + 1 := by
    rcases Nat.lt_or_ge (rt x) (r + 1) with p | p
    · exact p
    · have := Nat.mul_le_mul p p; omega
  have q : r < rt x + 1 := by
    rcases Nat.lt_or_ge r (rt x + 1) with q | q
    · exact q
    · have := Nat.mul_le_mul q q; omega
  omega
theorem rt_mono (x y : Nat) (hxy : x ≤ y) (hy : y < 18446744073709551616) : rt x ≤ rt y := by
  obtain ⟨a, b, -⟩ := rt_spec x (by omega)
  obtain ⟨c, d, -⟩ := rt_spec y hy
  rcases Nat.lt_or_ge (rt x) (rt y + 1) with p | p
  · omega
  · have := Nat.mul_le_mul p p; omega
/-- The inverse root. -/
def invN (x : Int) : Int := if x ≤ 0 then 2147483647 else (rt (281474976710656 / x.toNat) : Int)
theorem inv_small (x : Nat) : rt (281474976710656 / x) ≤ 16777216 := by
  have h1 : 281474976710656 / x ≤ 281474976710656 := Nat.div_le_self _ _
  have h2 := rt_mono _ _ h1 (by decide)
  have h3 : rt 281474976710656 = 16777216 := rt_of _ _ (by decide) (by decide) (by decide)
  omega
theorem invN_bd (x : Int) : 0 ≤ invN x ∧ invN x ≤ 2147483647 := by
  unfold invN
  split
  · omega
  · have := inv_small x.toNat; omega
end Go.Proofs.YtjcacejkiaepnaaDoor
