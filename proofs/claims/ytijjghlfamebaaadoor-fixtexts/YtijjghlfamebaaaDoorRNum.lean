/- Plain numbers: the document's way of reading what stands behind a point, digit by digit, is the nearest number; no condition. -/
import Derived.Test.YtijjghlfamebaaaDoorPNum
import Derived.Test.YtijjghlfamebaaaDoorRound
namespace Go.Proofs.YtijjghlfamebaaaDoor
set_option linter.unusedVariables false
theorem zeros_val : ∀ j, valN (List.replicate j 48) = 0
  | 0 => rfl
  | j + 1 => by rw [List.replicate_succ, val_cons, zeros_val j]; simp
theorem pad_mul (p : List UInt8) : valN (padL p) = valN p * 10 ^ (16 - p.length) := by
  unfold padL; rw [val_append, zeros_val, List.length_replicate, Nat.add_zero]
/-- What is carried behind the digits from j on, and the topmost digit that is left. -/
def carN (p : List UInt8) : Nat := 65536 * valN p / 10 ^ p.length
def topN (p : List UInt8) : Nat := 65536 * valN p % 10 ^ p.length / 10 ^ (p.length - 1)
theorem car_cons (c : UInt8) (r : List UInt8) : carN (c :: r) = ((c.toNat - 48) * 65536 + carN r) / 10 ∧ topN (c :: r) = ((c.toNat - 48) * 65536 + carN r) % 10 := by
  have hp : 0 < 10 ^ r.length := Nat.pow_pos (by decide)
  have e1 : 65536 * valN (c :: r) = 10 ^ r.length * ((c.toNat - 48) * 65536) + 65536 * valN r := by
    rw [val_cons, Nat.mul_add]; congr 1; ac_rfl
  have e2 : 65536 * valN r = 10 ^ r.length * carN r + 65536 * valN r % 10 ^ r.length := (Nat.div_add_mod _ _).symm
  obtain ⟨m, hm⟩ : ∃ m, m = 65536 * valN r % 10 ^ r.length := ⟨_, rfl⟩
  have hmlt : m < 10 ^ r.length := by rw [hm]; exact Nat.mod_lt _ hp
  rw [← hm] at e2
  obtain ⟨x, hx⟩ : ∃ x, x = (c.toNat - 48) * 65536 + carN r := ⟨_, rfl⟩
  have e3 : 65536 * valN (c :: r) = 10 ^ r.length * x + m := by rw [e1, e2, hx, Nat.mul_add]; omega
  have hd : 65536 * valN (c :: r) / 10 ^ r.length = x := by
    rw [e3, Nat.mul_add_div hp, Nat.div_eq_of_lt hmlt]; omega
  rw [← hx]
  constructor
  · unfold carN
    rw [List.length_cons, Nat.pow_succ, ← Nat.div_div_eq_div_mul, hd]
  · unfold topN
    rw [List.length_cons, Nat.pow_succ, show r.length + 1 - 1 = r.length by omega, Nat.mod_mul_right_div_self, hd]
theorem rnd_nat (a d : Nat) (hd : 1 ≤ d) : rnd (a : Int) (d : Int) = ((2 * a + d) / (2 * d) : Nat) := by
  unfold rnd
  rw [if_pos (by omega)]
  norm_cast
theorem near_of (p : List UInt8) (h : p.length ≤ 16) : rnd (valN (padL p) : Int) 152587890625 = ((carN p + if 1 ≤ p.length ∧ 5 ≤ topN p then 1 else 0 : Nat) : Int) := by
  have hpow : 0 < 10 ^ p.length := Nat.pow_pos (by decide)
  have hr := rnd_nat (valN (padL p)) 152587890625 (by decide)
  rw [show ((152587890625 : Nat) : Int) = 152587890625 from rfl] at hr
  rw [hr]
  congr 1
  have e16 : 10 ^ (16 - p.length) * 10 ^ p.length = 152587890625 * 65536 := by
    rw [← Nat.pow_add, show 16 - p.length + p.length = 16 by omega]
  have key : (2 * valN (padL p) + 152587890625) / (2 * 152587890625) = (2 * (65536 * valN p) + 10 ^ p.length) / (2 * 10 ^ p.length) := by
    have hp2 : 0 < 10 ^ (16 - p.length) := Nat.pow_pos (by decide)
    rw [← Nat.mul_div_mul_left (2 * valN (padL p) + 152587890625) (2 * 152587890625) (show 0 < 65536 by decide),
      ← Nat.mul_div_mul_left (2 * (65536 * valN p) + 10 ^ p.length) (2 * 10 ^ p.length) hp2]
    have n1 : 65536 * (2 * valN (padL p) + 152587890625) = 10 ^ (16 - p.length) * (2 * (65536 * valN p) + 10 ^ p.length) := by
      rw [pad_mul, Nat.mul_add, Nat.mul_add, e16]
      have : 65536 * (2 * (valN p * 10 ^ (16 - p.length))) = 10 ^ (16 - p.length) * (2 * (65536 * valN p)) := by
        ac_rfl
      omega
    have n2 : 65536 * (2 * 152587890625) = 10 ^ (16 - p.length) * (2 * 10 ^ p.length) := by
      rw [Nat.mul_left_comm (10 ^ (16 - p.length)) 2, e16]
    rw [n1, n2]
  rw [key]
  obtain ⟨N, hN⟩ : ∃ N, N = 65536 * valN p := ⟨_, rfl⟩
  have hc : carN p = N / 10 ^ p.length := by rw [hN]; rfl
  have hdm := Nat.div_add_mod N (10 ^ p.length)
  have hml : N % 10 ^ p.length < 10 ^ p.length := Nat.mod_lt _ hpow
  have ht : topN p = N % 10 ^ p.length / 10 ^ (p.length - 1) := by rw [hN]; rfl
  rw [← hN, hc]
  have split2 : (2 * N + 10 ^ p.length) / (2 * 10 ^ p.length) = N / 10 ^ p.length + (2 * (N % 10 ^ p.length) + 10 ^ p.length) / (2 * 10 ^ p.length) := by
    have e : 2 * N + 10 ^ p.length = 2 * 10 ^ p.length * (N / 10 ^ p.length) + (2 * (N % 10 ^ p.length) + 10 ^ p.length) := by
      have : 2 * 10 ^ p.length * (N / 10 ^ p.length) = 2 * (10 ^ p.length * (N / 10 ^ p.length)) := Nat.mul_assoc _ _ _
      omega
    rw [e, Nat.mul_add_div (by omega)]
  rw [split2]
  congr 1
  cases hl : p.length with
  | zero =>
    rw [hl] at hml
    have hz : N % 10 ^ 0 = 0 := by omega
    rw [hz]; simp
  | succ n =>
    rw [hl] at hml ht
    have hpn : 0 < 10 ^ n := Nat.pow_pos (by decide)
    rw [show n + 1 - 1 = n by omega] at ht
    rw [ht]
    rw [Nat.pow_succ] at hml ⊢
    obtain ⟨R, hR⟩ : ∃ R, R = N % (10 ^ n * 10) := ⟨_, rfl⟩
    rw [← hR] at hml ⊢
    by_cases h5 : 5 ≤ R / 10 ^ n
    · rw [if_pos ⟨by omega, h5⟩]
      have := (Nat.le_div_iff_mul_le hpn).1 h5
      exact Nat.div_eq_of_lt_le (by omega) (by omega)
    · rw [if_neg (fun h => h5 h.2)]
      have : R < 5 * 10 ^ n := by
        rcases Nat.lt_or_ge R (5 * 10 ^ n) with h | h
        · exact h
        · exact absurd ((Nat.le_div_iff_mul_le hpn).2 h) h5
      exact Nat.div_eq_of_lt (by omega)
end Go.Proofs.YtijjghlfamebaaaDoor
