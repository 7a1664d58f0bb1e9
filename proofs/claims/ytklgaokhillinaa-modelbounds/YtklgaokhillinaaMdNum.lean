/- Plain numbers: numbers that are made from a seed; no condition. -/
namespace Go.Proofs.Ytklgaokhillinaa
/-- A step of the mixing. -/
def sprN (x p c : Nat) : Nat := (x ^^^ (x / p)) * c % 18446744073709551616
/-- What a state is mixed to. -/
def mixN (st : Nat) : Nat := sprN (sprN st 1073741824 13787848793156543929) 134217728 10723151780598845931 ^^^ (sprN (sprN st 1073741824 13787848793156543929) 134217728 10723151780598845931 / 2147483648)
/-- State number i (from 0 on) of a seed. -/
def stN (seed i : Nat) : Nat := (seed + i * 11400714819323198485) % 18446744073709551616
theorem stN_lt (seed i : Nat) : stN seed i < 18446744073709551616 := Nat.mod_lt _ (by decide)
theorem stN_succ (seed i : Nat) : stN seed (i + 1) = (stN seed i + 11400714819323198485) % 18446744073709551616 := by unfold stN; omega
theorem stN_zero (seed : Nat) (h : seed < 18446744073709551616) : stN seed 0 = seed := by unfold stN; omega
theorem sprN_lt (x p c : Nat) : sprN x p c < 18446744073709551616 := Nat.mod_lt _ (by decide)
theorem xor_lt {a b : Nat} (ha : a < 18446744073709551616) (hb : b < 18446744073709551616) : a ^^^ b < 18446744073709551616 := Nat.xor_lt_two_pow (n := 64) ha hb
theorem mixN_lt (st : Nat) : mixN st < 18446744073709551616 := xor_lt (sprN_lt _ _ _) (Nat.lt_of_le_of_lt (Nat.div_le_self _ _) (sprN_lt _ _ _))
/-- The number that a state makes, for a bound. -/
def genN (st m : Nat) : Int := ((mixN st / 4294967296 * (2 * m) / 4294967296 : Nat) : Int) - m
theorem gen_in (st m : Nat) (hm : m ≤ 131072) : mixN st / 4294967296 < 4294967296 ∧ mixN st / 4294967296 * (2 * m) ≤ 1125899906580480 ∧ mixN st / 4294967296 * (2 * m) / 4294967296 ≤ 2 * m := by
  have h := mixN_lt st
  have h1 : mixN st / 4294967296 ≤ 4294967295 := by omega
  have h2 : mixN st / 4294967296 * (2 * m) ≤ 4294967295 * 262144 := Nat.mul_le_mul h1 (by omega)
  have h3 : mixN st / 4294967296 * (2 * m) ≤ 4294967295 * (2 * m) := Nat.mul_le_mul_right _ h1
  exact ⟨by omega, h2, by omega⟩
theorem genN_bd (st m : Nat) (hm : m ≤ 131072) (h0 : 1 ≤ m) : -(m : Int) ≤ genN st m ∧ genN st m < m := by
  have h := mixN_lt st
  have h1 : mixN st / 4294967296 ≤ 4294967295 := by omega
  have h3 : mixN st / 4294967296 * (2 * m) ≤ 4294967295 * (2 * m) := Nat.mul_le_mul_right _ h1
  unfold genN
  omega
end Go.Proofs.Ytklgaokhillinaa
