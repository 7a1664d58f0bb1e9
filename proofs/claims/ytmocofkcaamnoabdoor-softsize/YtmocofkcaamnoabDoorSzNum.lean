/- Plain numbers: what a norm makes of numbers from 1/4 to 4 in size has a mean of squares that is near to one; no condition. -/
import Derived.Test.YtmocofkcaamnoabDoorWNum
namespace Go.Proofs.YtmocofkcaamnoabDoor
/-- A number brought to a size from 1/4 to 4. -/
def szN (x : Int) : Int := if x.tmod 196608 < 0 then x.tmod 196608 - 16384 else x.tmod 196608 + 16384
theorem tmod_bd (x : Int) : -196608 < x.tmod 196608 ∧ x.tmod 196608 < 196608 := by
  rcases Int.le_total 0 x with h | h
  · have h1 := Int.emod_nonneg x (show (196608 : Int) ≠ 0 by omega)
    have h2 := Int.emod_lt_of_pos x (show (0 : Int) < 196608 by omega)
    rw [Int.tmod_eq_emod_of_nonneg h]; omega
  · obtain ⟨y, rfl⟩ : ∃ y, x = -y := ⟨-x, by omega⟩
    have h1 := Int.emod_nonneg y (show (196608 : Int) ≠ 0 by omega)
    have h2 := Int.emod_lt_of_pos y (show (0 : Int) < 196608 by omega)
    rw [Int.neg_tmod, Int.tmod_eq_emod_of_nonneg (by omega)]; omega
theorem szN_bd (x : Int) : -212991 ≤ szN x ∧ szN x ≤ 212991 := by have := tmod_bd x; unfold szN; split <;> omega
theorem sq_bds {x a b : Int} (h1 : a ≤ x ∨ x ≤ -a) (h2 : -b ≤ x) (h3 : x ≤ b) (ha : 0 ≤ a) : a * a ≤ x * x ∧ x * x ≤ b * b := by
  rcases Int.le_total 0 x with h | h
  · exact ⟨Int.mul_le_mul (by omega) (by omega) ha h, Int.mul_le_mul h3 h3 h (by omega)⟩
  · rw [← Int.neg_mul_neg x x]
    exact ⟨Int.mul_le_mul (by omega) (by omega) ha (by omega), Int.mul_le_mul (by omega) (by omega) (by omega) (by omega)⟩
theorem szN_sq (x : Int) : 268435456 ≤ szN x * szN x ∧ szN x * szN x ≤ 45365166081 := by
  have h := szN_bd x
  have h2 : 16384 ≤ szN x ∨ szN x ≤ -16384 := by unfold szN; split <;> omega
  have := sq_bds (a := 16384) (b := 212991) h2 (by omega) (by omega) (by omega)
  omega
theorem dsum_sum {A : List Int} {n : Nat} (h : ∀ j, j < n → el A j * el A j ≤ 1000000000000) (hn : n ≤ 32) : ∀ k, k ≤ n → dsum A A k = sumTo (fun j => el A j * el A j) k ∧ 0 ≤ sumTo (fun j => el A j * el A j) k ∧ sumTo (fun j => el A j * el A j) k ≤ 1000000000000 * k
  | 0, _ => ⟨rfl, by rw [sumTo_zero]; omega, by rw [sumTo_zero]; omega⟩
  | k + 1, hk => by
    obtain ⟨i1, i2, i3⟩ := dsum_sum h hn k (by omega)
    have b1 := h k (by omega)
    have b2 := sq_nn (el A k)
    rw [dsum_succ, sumTo_succ, i1]
    refine ⟨?_, by omega, by omega⟩
    unfold grow
    rw [if_neg (by omega), if_neg (by omega)]
theorem rnd_nr (x : Int) : -32768 ≤ 65536 * rnd x 65536 - x ∧ 65536 * rnd x 65536 - x ≤ 32768 := by unfold rnd; omega
theorem mulN_unit (y : Int) (h1 : -2147483647 ≤ y) (h2 : y ≤ 2147483647) : mulN y 65536 = y := by unfold mulN rnd sat; omega
theorem size_of_norm {A G : List Int} {n : Nat} (h1 : 1 ≤ n) (hn : n ≤ 32) (hA : ∀ j, j < n → ∃ z, el A j = szN z) (hG : ∀ j, j < n → el G j = 65536) :
    64000 < meanN (tab n (normN A G n)) n ∧ meanN (tab n (normN A G n)) n < 67000 := by
  have hsq : ∀ j, j < n → 268435456 ≤ el A j * el A j ∧ el A j * el A j ≤ 45365166081 := fun j hj => by obtain ⟨z, e⟩ := hA j hj; rw [e]; exact szN_sq z
  have hbd : ∀ j, j < n → -212991 ≤ el A j ∧ el A j ≤ 212991 := fun j hj => by obtain ⟨z, e⟩ := hA j hj; rw [e]; exact szN_bd z
  obtain ⟨d1, d2, d3⟩ := dsum_sum (A := A) (n := n) (fun j hj => by have := hsq j hj; omega) hn n (Nat.le_refl n)
  have hN : (1 : Int) ≤ (n : Int) := by omega
  -- the mean ahead
  have s1 := sumTo_lin (f := fun j => el A j * el A j) (g := fun _ => 0) (n := n) (c := 1) (d := 1) (e := 45365166081) (fun j hj => by have := hsq j hj; show 1 * (el A j * el A j) ≤ 1 * 0 + 45365166081; omega)
  have s2 := sumTo_lin (f := fun _ => 0) (g := fun j => el A j * el A j) (n := n) (c := 1) (d := 1) (e := -268435456) (fun j hj => by have := hsq j hj; show 1 * 0 ≤ 1 * (el A j * el A j) + -268435456; omega)
  have z0 : sumTo (fun _ => (0 : Int)) n = 0 := by
    have e : ∀ k, sumTo (fun _ => (0 : Int)) k = 0 := fun k => by
      induction k with
      | zero => rfl
      | succ k ih => rw [sumTo_succ, ih]; rfl
    exact e n
  rw [z0] at s1 s2
  generalize hS : sumTo (fun j => el A j * el A j) n = S at *
  have hM0 : S / (n : Int) / 65536 = S / (n * 65536) := Int.ediv_ediv_of_nonneg (by omega)
  obtain ⟨M, hM⟩ : ∃ M, M = S / ((n : Int) * 65536) := ⟨_, rfl⟩
  have hM1 : 4096 ≤ M := by rw [hM]; exact (Int.le_ediv_iff_mul_le (by omega)).2 (by omega)
  have hM2 : M ≤ 692218 := by
    have : M < 692219 := by rw [hM]; exact (Int.ediv_lt_iff_lt_mul (by omega)).2 (by omega)
    omega
  have hmean : meanN A n = M := by unfold meanN; rw [d1, hM0, ← hM]; unfold sat; omega
  have hK : normK A n = (rt (281474976710656 / (M + 1).toNat) : Int) := by
    unfold normK; rw [hmean, show sat (M + 1) = M + 1 by unfold sat; omega]; unfold invN; rw [if_neg (by omega)]
  obtain ⟨m, hm⟩ : ∃ m : Nat, (M + 1).toNat = m := ⟨_, rfl⟩
  have hmM : (m : Int) = M + 1 := by omega
  rw [hm] at hK
  obtain ⟨r1, r2, -⟩ := rt_spec (281474976710656 / m) (Nat.lt_of_le_of_lt (Nat.div_le_self _ _) (by decide))
  generalize rt (281474976710656 / m) = r at *
  have q1 : m * (r * r) ≤ 281474976710656 := Nat.le_trans (Nat.mul_le_mul_left m r1) (Nat.mul_div_le _ _)
  have q2 : 281474976710656 < m * ((r + 1) * (r + 1)) := by rw [Nat.mul_comm]; exact (Nat.div_lt_iff_lt_mul (by omega)).1 r2
  have r20 : 20000 ≤ r := by
    rcases Nat.lt_or_ge r 20000 with h | h
    · have a1 : (r + 1) * (r + 1) ≤ 20000 * 20000 := Nat.mul_le_mul (by omega) (by omega)
      have a2 : m * ((r + 1) * (r + 1)) ≤ 692219 * 400000000 := Nat.mul_le_mul (by omega) a1
      omega
    · exact h
  have r26 : r < 262144 := by
    rcases Nat.lt_or_ge r 262144 with h | h
    · exact h
    · have a1 : 262144 * 262144 ≤ r * r := Nat.mul_le_mul h h
      have a2 : 4097 * (262144 * 262144) ≤ m * (r * r) := Nat.mul_le_mul (by omega) a1
      omega
  have k1 : (M + 1) * ((r : Int) * (r : Int)) ≤ 281474976710656 := by
    rw [← hmM]
    have : (m : Int) * ((r : Int) * (r : Int)) = ((m * (r * r) : Nat) : Int) := by rw [Int.natCast_mul, Int.natCast_mul]
    omega
  have k2 : 281474976710656 ≤ (M + 1) * (((r : Int) + 1) * ((r : Int) + 1)) := by
    rw [← hmM]
    have : (m : Int) * (((r : Int) + 1) * ((r : Int) + 1)) = ((m * ((r + 1) * (r + 1)) : Nat) : Int) := by rw [Int.natCast_mul, Int.natCast_mul, Int.natCast_succ]
    omega
  -- behind
  have hy : ∀ j, j < n → normN A G n j = rnd (el A j * r) 65536 ∧ -852100 ≤ rnd (el A j * r) 65536 ∧ rnd (el A j * r) 65536 ≤ 852100 := fun j hj => by
    have b := hbd j hj
    have pb := prod_bd (A := 212991) (B := 262144) (a := el A j) (b := (r : Int)) (by omega) (by omega) (by omega) (by omega)
    have nr := rnd_nr (el A j * r)
    have e1 : mulN (el A j) (normK A n) = rnd (el A j * r) 65536 := by rw [hK]; unfold mulN sat; omega
    have c : -852100 ≤ rnd (el A j * r) 65536 ∧ rnd (el A j * r) 65536 ≤ 852100 := by omega
    refine ⟨?_, c⟩
    unfold normN
    rw [e1, hG j hj]
    exact mulN_unit _ (by omega) (by omega)
  have hz := norm_size (el A) (fun j => rnd (el A j * r) 65536) n r M h1 (by rw [hS]; exact hM) hM1 (by omega) k1 k2 (fun j _ => rnd_nr _)
  have ey : ∀ j, j < n → el (tab n (normN A G n)) j = rnd (el A j * r) 65536 := fun j hj => by rw [el_tab hj]; exact (hy j hj).1
  obtain ⟨f1, f2, f3⟩ := dsum_sum (A := tab n (normN A G n)) (n := n) (fun j hj => by
    rw [ey j hj]
    have := sq_bds (a := 0) (b := 852100) (x := rnd (el A j * r) 65536) (by have := (hy j hj).2; omega) (by have := (hy j hj).2; omega) (by have := (hy j hj).2; omega) (by omega)
    omega) hn n (Nat.le_refl n)
  have ef : sumTo (fun j => el (tab n (normN A G n)) j * el (tab n (normN A G n)) j) n = sumTo (fun j => rnd (el A j * r) 65536 * rnd (el A j * r) 65536) n := sumTo_congr fun j hj => by rw [ey j hj]
  unfold meanN
  rw [f1, ef, Int.ediv_ediv_of_nonneg (by omega)]
  unfold sat
  omega
end Go.Proofs.YtmocofkcaamnoabDoor
