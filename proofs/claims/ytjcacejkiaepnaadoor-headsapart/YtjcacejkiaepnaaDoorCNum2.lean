/- Plain numbers: powers never fall and halve with each step, inverses never rise, squares have their roots; no condition. -/
import Derived.Test.YtjcacejkiaepnaaDoorCNum
namespace Go.Proofs.YtjcacejkiaepnaaDoor
def powI (x : Int) : Int := (powN (-x).toNat : Int)
theorem powI_bd (x : Int) : 0 ≤ powI x ∧ powI x ≤ 65536 := by have := powN_bd (-x).toNat; unfold powI; omega
theorem powI_pos (x : Int) (h : 0 < x) : powI x = 65536 := by unfold powI; rw [show (-x).toNat = 0 by omega]; rfl
theorem powI_neg (y : Nat) : powI (-(y : Int)) = (powN y : Int) := by unfold powI; rw [show (- -(y : Int)).toNat = y by omega]
theorem v_zero (y : Nat) (h : y % 1024 = 0) : vN y = stepAt (y / 1024 % 64) := by
  unfold vN offN; rw [h, Nat.mul_zero]; rfl
theorem pow_step (y : Nat) : powN (y + 1) ≤ powN y := by
  have hv := vN_bd y
  by_cases h1 : y % 1024 < 1023
  · have e1 : (y + 1) / 1024 = y / 1024 := by omega
    have e2 : (y + 1) / 65536 = y / 65536 := by omega
    have e3 : (y + 1) % 1024 = y % 1024 + 1 := by omega
    unfold powN
    rw [e2]
    refine Nat.div_le_div_right ?_
    have s := step_at (y / 1024 % 64) (Nat.mod_lt _ (by decide))
    unfold vN offN
    rw [e1, e3, Nat.mul_add]
    omega
  · by_cases h2 : y / 1024 % 64 < 63
    · have e1 : (y + 1) / 1024 % 64 = y / 1024 % 64 + 1 := by omega
      have e2 : (y + 1) / 65536 = y / 65536 := by omega
      unfold powN
      rw [e2]
      refine Nat.div_le_div_right ?_
      rw [v_zero (y + 1) (by omega), e1]
      exact hv.1
    · have e1 : (y + 1) / 1024 % 64 = 0 := by omega
      have e2 : (y + 1) / 65536 = y / 65536 + 1 := by omega
      unfold powN
      rw [v_zero (y + 1) (by omega), e1, e2, Nat.pow_succ, Nat.mul_comm, ← Nat.div_div_eq_div_mul]
      exact Nat.div_le_div_right hv.2.2.1
theorem pow_anti (a : Nat) : ∀ n, powN (a + n) ≤ powN a
  | 0 => Nat.le_refl _
  | n + 1 => Nat.le_trans (pow_step (a + n)) (pow_anti a n)
theorem powI_mono (x y : Int) (h : x ≤ y) : powI x ≤ powI y := by
  obtain ⟨n, hn⟩ : ∃ n : Nat, (-x).toNat = (-y).toNat + n := ⟨(-x).toNat - (-y).toNat, by omega⟩
  unfold powI
  rw [hn]
  have := pow_anti (-y).toNat n
  omega
theorem pow_half (y : Nat) : powN (y + 65536) = powN y / 2 := by
  have e1 : (y + 65536) / 1024 % 64 = y / 1024 % 64 := by omega
  have e2 : (y + 65536) % 1024 = y % 1024 := by omega
  have e3 : (y + 65536) / 65536 = y / 65536 + 1 := by omega
  unfold powN vN offN
  rw [e1, e2, e3, div_div]
theorem powI_half (x : Int) (h : x ≤ 0) : powI (x - 65536) = powI x / 2 := by
  have e : (-(x - 65536)).toNat = (-x).toNat + 65536 := by omega
  unfold powI
  rw [e, pow_half]
  omega
theorem invN_anti (x y : Int) (h : x ≤ y) : invN y ≤ invN x := by
  unfold invN
  by_cases hx : x ≤ 0
  · rw [if_pos hx]; have := invN_bd y; unfold invN at this; omega
  · rw [if_neg hx, if_neg (by omega)]
    have h1 : 281474976710656 / y.toNat ≤ 281474976710656 / x.toNat := Nat.div_le_div_left (by omega) (by omega)
    have h2 := rt_mono _ _ h1 (Nat.lt_of_le_of_lt (Nat.div_le_self _ _) (by decide))
    omega
theorem rt_sq (z : Nat) (h : z ≤ 4294967295) : rt (z * z) = z := by
  have h1 : z * z ≤ 4294967295 * 4294967295 := Nat.mul_le_mul h h
  exact rt_of _ _ (by omega) (Nat.le_refl _) (Nat.mul_lt_mul'' (by omega) (by omega))
theorem sq_succ (z : Nat) : (z + 1) * (z + 1) = z * z + 2 * z + 1 := by rw [Nat.add_mul, Nat.mul_add]; omega
theorem rt_sq_pred (z : Nat) (h : z ≤ 4294967295) (h0 : 0 < z) : rt (z * z - 1) = z - 1 := by
  have h1 : z * z ≤ 4294967295 * 4294967295 := Nat.mul_le_mul h h
  obtain ⟨m, rfl⟩ : ∃ m, z = m + 1 := ⟨z - 1, by omega⟩
  have e := sq_succ m
  refine rt_of _ _ (by omega) ?_ ?_
  · rw [show m + 1 - 1 = m by omega]; omega
  · rw [show m + 1 - 1 = m by omega]; omega
theorem rt_sq_top (z : Nat) (h : z ≤ 4294967295) : rt (z * z + 2 * z) = z := by
  have h1 : z * z ≤ 4294967295 * 4294967295 := Nat.mul_le_mul h h
  exact rt_of _ _ (by omega) (by omega) (by rw [sq_succ]; omega)
/-- A number times the square of its inverse root. -/
theorem inv_near (x : Nat) (h1 : 256 ≤ x) (h2 : x ≤ 16777216) : x * rt (281474976710656 / x) * rt (281474976710656 / x) ≤ 281474976710656 ∧
    281474976710656 < x * (rt (281474976710656 / x) + 1) * (rt (281474976710656 / x) + 1) ∧ 1 ≤ rt (281474976710656 / x) ∧ rt (281474976710656 / x) ≤ 1048576 := by
  obtain ⟨a, b, -⟩ := rt_spec (281474976710656 / x) (Nat.lt_of_le_of_lt (Nat.div_le_self _ _) (by decide))
  have d1 : 281474976710656 / x ≤ 1099511627776 := by
    have := Nat.div_le_div_left h1 (by decide) (a := 281474976710656); omega
  have d2 : 16777216 ≤ 281474976710656 / x := (Nat.le_div_iff_mul_le (by omega)).2 (by omega)
  have m1 := rt_mono _ _ d1 (by decide)
  have m2 := rt_mono _ _ d2 (Nat.lt_of_le_of_lt (Nat.div_le_self _ _) (by decide))
  have v1 : rt 1099511627776 = 1048576 := rt_of _ _ (by decide) (by decide) (by decide)
  have v2 : rt 16777216 = 4096 := rt_of _ _ (by decide) (by decide) (by decide)
  generalize rt (281474976710656 / x) = y at *
  refine ⟨?_, ?_, by omega, by omega⟩
  · rw [Nat.mul_assoc]
    exact Nat.le_trans (Nat.mul_le_mul_left x a) (Nat.mul_div_le _ _)
  · rw [Nat.mul_assoc]
    exact (Nat.div_lt_iff_lt_mul (by omega)).1 b |> fun h => by rw [Nat.mul_comm]; exact h
theorem cast_near (n y : Nat) : (n : Int) * (y : Int) = ((n * y : Nat) : Int) ∧ (n : Int) * (y : Int) * (y : Int) = ((n * y * y : Nat) : Int) ∧
    (n : Int) * ((y : Int) + 1) = ((n * (y + 1) : Nat) : Int) ∧ (n : Int) * ((y : Int) + 1) * ((y : Int) + 1) = ((n * (y + 1) * (y + 1) : Nat) : Int) := by
  refine ⟨?_, ?_, ?_, ?_⟩ <;> norm_cast
theorem cast_sq (r : Nat) : (r : Int) * (r : Int) = ((r * r : Nat) : Int) ∧ ((r : Int) + 1) * ((r : Int) + 1) = (((r + 1) * (r + 1) : Nat) : Int) := by
  refine ⟨?_, ?_⟩ <;> norm_cast
theorem inv_int (x : Nat) (h1 : 256 ≤ x) (h2 : x ≤ 16777216) : invN (x : Int) = (rt (281474976710656 / x) : Int) := by
  unfold invN; rw [if_neg (by omega)]; rfl
end Go.Proofs.YtjcacejkiaepnaaDoor
