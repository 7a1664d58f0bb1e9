/- Plain numbers: what is rounded, cut at the bounds, and the digits behind a point; no condition. -/
namespace Go.Proofs.Ytklgaokhillinaa
theorem div_eq {a b q : Int} (hb : 0 < b) (h1 : q * b ≤ a) (h2 : a < (q + 1) * b) : a / b = q := by
  have e1 : q ≤ a / b := (Int.le_ediv_iff_mul_le hb).2 h1
  have e2 : a / b < q + 1 := (Int.ediv_lt_iff_lt_mul hb).2 h2
  omega
def sat (x : Int) : Int := if 2147483647 < x then 2147483647 else if x < -2147483647 then -2147483647 else x
theorem sat_bd (x : Int) : -2147483647 ≤ sat x ∧ sat x ≤ 2147483647 := by unfold sat; omega
/-- Round half away from nought. -/
def rnd (x d : Int) : Int := if 0 ≤ x then (2 * x + d) / (2 * d) else -((d - 2 * x) / (2 * d))
theorem rnd_neg (x d : Int) (hd : 1 ≤ d) : rnd (-x) d = - rnd x d := by
  unfold rnd
  have z : d / (2 * d) = 0 := Int.ediv_eq_zero_of_lt (by omega) (by omega)
  by_cases h0 : x = 0
  · subst h0; simp [z]
  by_cases h : 0 ≤ x
  · rw [if_neg (by omega), if_pos h, show d - 2 * -x = 2 * x + d by omega]
  · rw [if_pos (by omega), if_neg h, show 2 * -x + d = d - 2 * x by omega]; omega
/-- What Go's quotient and rest make. -/
theorem parts_pos (x d : Int) (hx : 0 ≤ x) (hd : 1 ≤ d) : x = (x / d) * d + x % d ∧ 0 ≤ x % d ∧ x % d < d ∧ 0 ≤ x / d ∧ x / d ≤ x := by
  have h1 := Int.ediv_mul_add_emod x d
  have h2 := Int.emod_nonneg x (show d ≠ 0 by omega)
  have h3 := Int.emod_lt_of_pos x (show 0 < d by omega)
  have h4 : 0 ≤ x / d := Int.ediv_nonneg hx (by omega)
  have h5 : x / d ≤ x := Int.ediv_le_self d hx
  omega
theorem rnd_pos_up (x d q r : Int) (hd : 1 ≤ d) (e : x = q * d + r) (h0 : 0 ≤ x) (h1 : r < d) (h : d - r ≤ r) : rnd x d = q + 1 := by
  unfold rnd
  rw [if_pos h0]
  refine div_eq (by omega) ?_ ?_
  · rw [e, show (q + 1) * (2 * d) = 2 * (q * d) + 2 * d by rw [Int.add_mul, Int.mul_left_comm]; omega]; omega
  · rw [e, show (q + 1 + 1) * (2 * d) = 2 * (q * d) + 4 * d by rw [Int.add_mul, Int.add_mul, Int.mul_left_comm]; omega]; omega
theorem rnd_pos_dn (x d q r : Int) (hd : 1 ≤ d) (e : x = q * d + r) (h0 : 0 ≤ x) (h1 : 0 ≤ r) (h : r < d - r) : rnd x d = q := by
  unfold rnd
  rw [if_pos h0]
  refine div_eq (by omega) ?_ ?_
  · rw [e, show q * (2 * d) = 2 * (q * d) by rw [Int.mul_left_comm]]; omega
  · rw [e, show (q + 1) * (2 * d) = 2 * (q * d) + 2 * d by rw [Int.add_mul, Int.mul_left_comm]; omega]; omega
theorem parts_neg (x d : Int) (hx : x < 0) (hd : 1 ≤ d) : ∃ q r : Int, x.tdiv d = q ∧ x.tmod d = r ∧ -x = (-q) * d + (-r) ∧ r ≤ 0 ∧ -d < r ∧ q ≤ 0 ∧ x ≤ q := by
  have p := parts_pos (-x) d (by omega) hd
  refine ⟨-((-x) / d), -((-x) % d), ?_, ?_, by rw [Int.neg_neg, Int.neg_neg]; omega, by omega, by omega, by omega, by omega⟩
  · have : x.tdiv d = -((-x).tdiv d) := by rw [Int.neg_tdiv]; omega
    rw [this, Int.tdiv_eq_ediv_of_nonneg (by omega)]
  · have : x.tmod d = -((-x).tmod d) := by rw [Int.neg_tmod]; omega
    rw [this, Int.tmod_eq_emod_of_nonneg (by omega)]
theorem rnd_neg_up (x d q r : Int) (hd : 1 ≤ d) (e : -x = (-q) * d + (-r)) (h0 : x < 0) (h1 : -d < r) (h : d + r ≤ -r) : rnd x d = q - 1 := by
  have := rnd_pos_up (-x) d (-q) (-r) hd e (by omega) (by omega) (by omega)
  rw [rnd_neg x d hd] at this
  omega
theorem rnd_neg_dn (x d q r : Int) (hd : 1 ≤ d) (e : -x = (-q) * d + (-r)) (h0 : x < 0) (h1 : r ≤ 0) (h : -r < d + r) : rnd x d = q := by
  have := rnd_pos_dn (-x) d (-q) (-r) hd e (by omega) (by omega) (by omega)
  rw [rnd_neg x d hd] at this
  omega
def clip (n : Int) : Int := if 65536 < n then 65536 else if n < -65536 then -65536 else n
theorem prod_bd {a b A B : Int} (ha1 : -A ≤ a) (ha2 : a ≤ A) (hb1 : -B ≤ b) (hb2 : b ≤ B) : -(A * B) ≤ a * b ∧ a * b ≤ A * B := by
  have hA : 0 ≤ A := by omega
  have h1 : a.natAbs * b.natAbs ≤ A.natAbs * B.natAbs := Nat.mul_le_mul (by omega) (by omega)
  rw [← Int.natAbs_mul, ← Int.natAbs_mul] at h1
  have h2 : 0 ≤ A * B := Int.mul_nonneg hA (by omega)
  omega
theorem rnd_bd (x d B : Int) (hd : 1 ≤ d) (h1 : -(B * d) ≤ x) (h2 : x ≤ B * d) : -B ≤ rnd x d ∧ rnd x d ≤ B := by
  have up : ∀ y : Int, 0 ≤ y → y ≤ B * d → 0 ≤ rnd y d ∧ rnd y d ≤ B := by
    intro y hy hyB
    unfold rnd
    rw [if_pos hy]
    refine ⟨Int.ediv_nonneg (by omega) (by omega), ?_⟩
    have e2 : (2 * y + d) / (2 * d) < B + 1 := by
      refine (Int.ediv_lt_iff_lt_mul (by omega)).2 ?_
      rw [show (B + 1) * (2 * d) = 2 * (B * d) + 2 * d by rw [Int.add_mul, Int.mul_left_comm]; omega]; omega
    omega
  by_cases h : 0 ≤ x
  · have := up x h h2; omega
  · have := up (-x) (by omega) (by omega); rw [rnd_neg x d hd] at this; omega
/-- The quotient: nearest, halves away from nought, the divisor brought above nought. -/
def quo (x y : Int) : Int := if y < 0 then sat (rnd (-(x * 65536)) (-y)) else sat (rnd (x * 65536) y)
/-- The digits behind the point of p / 65536, at most k of them. -/
def fd : Nat → Nat → List UInt8
  | 0, _ => []
  | k + 1, p => if p = 0 then [] else UInt8.ofNat (48 + p * 10 / 65536) :: fd k (p * 10 % 65536)
theorem fd_zero (k : Nat) : fd k 0 = [] := by cases k <;> simp [fd]
theorem fd_succ (k p : Nat) (h : p ≠ 0) : fd (k + 1) p = UInt8.ofNat (48 + p * 10 / 65536) :: fd k (p * 10 % 65536) := by simp [fd, h]
theorem fd_digit (p : Nat) (h : p < 65536) : (UInt8.ofNat (48 + p * 10 / 65536)).toNat = 48 + p * 10 / 65536 := by
  rw [UInt8.toNat_ofNat']; omega
theorem fd_next (p k : Nat) (h : p * 10 ^ (k + 1) % 65536 = 0) : (p * 10 % 65536) * 10 ^ k % 65536 = 0 := by
  rw [Nat.pow_succ, Nat.mul_comm (10 ^ k) 10, ← Nat.mul_assoc] at h
  rw [Nat.mul_mod, Nat.mod_mod, ← Nat.mul_mod]; exact h
end Go.Proofs.Ytklgaokhillinaa
