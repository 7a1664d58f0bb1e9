/- Bursts of turned bits: numbers. -/
import Derived.Test.YtdopcagikcdfcaaDoorKBit
import Derived.Test.YtdopcagikcdfcaaDoorKByt
import Derived.Test.YtdopcagikcdfcaaDoorLast
namespace Go.Proofs.YtdopcagikcdfcaaDoor
open Go.ChangeShapes Go.WideShapes Go.ChangeAt Go.RowKit
theorem tmod_x (x k : Nat) : ((x : Int) / 2 ^ k).tmod 2 = ((x / 2 ^ k % 2 : Nat) : Int) := by
  have e : ((x : Int) / 2 ^ k) = ((x / 2 ^ k : Nat) : Int) := by norm_cast
  rw [e, Int.tmod_eq_emod_of_nonneg (Int.natCast_nonneg _)]
  rfl
theorem shl_1 (r : Nat) (hr : r < 8) (R : Int) (hR : R = (r : Int)) : Op.shift .shl .u8 1 .i64 R = pure (.int .u8 ((oneB r).toNat : Int)) := by
  subst hR
  have : ∀ i : Fin 8, Op.shift .shl .u8 1 .i64 (i.val : Int) = pure (.int .u8 ((oneB i.val).toNat : Int)) := fun i => by
    rcases i with ⟨i, hi⟩
    rcases i with _ | _ | _ | _ | _ | _ | _ | _ | i
    all_goals first | omega | rfl
  exact this ⟨r, hr⟩
theorem wrap_one (r : Nat) (hr : r < 8) : IntKind.u8.wrap ((2 : Int) ^ r) = ((oneB r).toNat : Int) := by
  have : ∀ i : Fin 8, IntKind.u8.wrap ((2 : Int) ^ i.val) = ((oneB i.val).toNat : Int) := by decide
  exact this ⟨r, hr⟩
theorem wrap_small (j : Nat) (h : j ≤ 1000000) : IntKind.i64.wrap (j : Int) = (j : Int) := by
  have : ∀ x : Int, 0 ≤ x → x ≤ 1000000 → IntKind.i64.wrap x = x := fun x a b => by simp [IntKind.wrap, IntKind.bits, IntKind.signed]; omega
  exact this _ (by omega) (by omega)
/-- So many of the burst's bits are turned behind k rounds. -/
def bu (x M k : Nat) : Nat := x % 2 ^ (min k M)
theorem bu_zero (x M : Nat) : bu x M 0 = 0 := by simp [bu, Nat.mod_one]
theorem bu_on (x M k : Nat) (hk : k < M) (h1 : x / 2 ^ k % 2 = 1) : bu x M (k + 1) = bu x M k ^^^ 2 ^ k ∧ bu x M (k + 1) ≠ 0 := by
  unfold bu
  rw [Nat.min_eq_left (by omega), Nat.min_eq_left (by omega)]
  refine ⟨mod_xor x k h1, ?_⟩
  rw [mod_succ, if_pos h1]
  have := Nat.two_pow_pos k
  omega
theorem bu_off (x M k : Nat) (h1 : ¬ x / 2 ^ k % 2 = 1) : bu x M (k + 1) = bu x M k := by
  unfold bu
  rcases Nat.lt_or_ge k M with h | h
  · rw [Nat.min_eq_left (by omega), Nat.min_eq_left (by omega)]
    exact mod_same x k h1
  · rw [Nat.min_eq_right (by omega), Nat.min_eq_right (by omega)]
theorem bu_end (x M k : Nat) (h : M ≤ k) : bu x M (k + 1) = bu x M k := by
  unfold bu
  rw [Nat.min_eq_right (by omega), Nat.min_eq_right (by omega)]
theorem bu_lt (x M : Nat) (hx : x < 4294967296) : bu x M 32 < 4294967296 := Nat.lt_of_le_of_lt (Nat.mod_le _ _) hx
theorem flip_on (l L : List UInt8) (t k y z : Nat) (hn : numL L = numL l ^^^ 2 ^ t * y) (hz : z = y ^^^ 2 ^ k) (hj : t + k < 8 * L.length) : numL (flip L (t + k)) = numL l ^^^ 2 ^ t * z := by
  rw [numL_flip _ _ hj, hn, hz, mul_xor, ← Nat.pow_add]
  ac_rfl
end Go.Proofs.YtdopcagikcdfcaaDoor
