/- Plain numbers: the power of a sum is within eight of the product of the powers, for numbers from -8 to 0. -/
import Derived.Test.YtijjghlfamebaacDoorCNum2
import Derived.Test.YtijjghlfamebaacDoorNum2
namespace Go.Proofs.YtijjghlfamebaacDoor
set_option linter.unusedVariables false
/-- The steps, doubled, and on beyond the last. -/
def stp2 (k : Nat) : Nat := if k ≤ 64 then 2 * stepAt k else stepAt (k - 64)
set_option maxRecDepth 100000 in
theorem tab_all : ((List.range 65).all fun i => (List.range 65).all fun j => decide (2 * stepAt i * stepAt j ≤ 65536 * stp2 (i + j) + 196608 ∧ 65536 * stp2 (i + j) ≤ 2 * stepAt i * stepAt j + 196608)) = true := by decide +kernel
set_option maxRecDepth 100000 in
theorem sec_all : ((List.range 127).all fun k => decide (2 * stp2 (k + 1) ≤ stp2 k + stp2 (k + 2) ∧ stp2 k + stp2 (k + 2) ≤ 2 * stp2 (k + 1) + 16)) = true := by decide +kernel
theorem tab_at (i j : Nat) (hi : i < 65) (hj : j < 65) : ∃ e : Int, 2 * (stepAt i : Int) * (stepAt j : Int) = 65536 * (stp2 (i + j) : Int) + e ∧ -196608 ≤ e ∧ e ≤ 196608 := by
  have h1 := List.all_eq_true.1 tab_all i (List.mem_range.2 hi)
  have h2 := List.all_eq_true.1 h1 j (List.mem_range.2 hj)
  have h3 := of_decide_eq_true h2
  have c : 2 * (stepAt i : Int) * (stepAt j : Int) = ((2 * stepAt i * stepAt j : Nat) : Int) := by norm_cast
  refine ⟨2 * (stepAt i : Int) * (stepAt j : Int) - 65536 * (stp2 (i + j) : Int), by omega, ?_, ?_⟩ <;> rw [c] <;> omega
theorem sec_at (k : Nat) (h : k < 127) : 0 ≤ (stp2 k : Int) - 2 * (stp2 (k + 1) : Int) + (stp2 (k + 2) : Int) ∧ (stp2 k : Int) - 2 * (stp2 (k + 1) : Int) + (stp2 (k + 2) : Int) ≤ 16 := by
  have h1 := of_decide_eq_true (List.all_eq_true.1 sec_all k (List.mem_range.2 h))
  omega
/-- A power, but for what is rounded off, lies on the line between its steps. -/
theorem v_lin (u : Nat) (hu : u < 65536) : ∃ d : Int, 1024 * (vN u : Int) = (1024 - (u % 1024 : Nat)) * (stepAt (u / 1024) : Int) + ((u % 1024 : Nat) : Int) * (stepAt (u / 1024 + 1) : Int) + d ∧ -512 ≤ d ∧ d ≤ 512 := by
  have h := v_int u
  rw [show u / 1024 % 64 = u / 1024 by omega] at h
  obtain ⟨p, hp⟩ : ∃ p, ((stepAt (u / 1024) : Int) - (stepAt (u / 1024 + 1) : Int)) * ((u : Int) % 1024) = p := ⟨_, rfl⟩
  rw [hp] at h
  have hr : ((u % 1024 : Nat) : Int) = (u : Int) % 1024 := by omega
  have e : (1024 - (u : Int) % 1024) * (stepAt (u / 1024) : Int) + (u : Int) % 1024 * (stepAt (u / 1024 + 1) : Int) = 1024 * (stepAt (u / 1024) : Int) - p := by rw [← hp]; grind
  rw [hr, e]
  exact ⟨1024 * (vN u : Int) - (1024 * (stepAt (u / 1024) : Int) - p), by omega, by omega, by omega⟩
theorem sq_nn (x : Int) : 0 ≤ x * x := by
  rcases Int.le_total 0 x with h | h
  · exact Int.mul_nonneg h h
  · exact Int.mul_nonneg_of_nonpos_of_nonpos h h
theorem mul_bd (x B y C : Int) (hy : 0 ≤ y) (h1 : -B ≤ x) (h2 : x ≤ B) (hyC : y ≤ C) (hB : 0 ≤ B) : -(B * C) ≤ y * x ∧ y * x ≤ B * C := by
  have a := Int.mul_le_mul_of_nonneg_left h2 hy
  have b := Int.mul_le_mul_of_nonneg_left h1 hy
  have c := Int.mul_le_mul_of_nonneg_left hyC hB
  rw [Int.mul_neg] at b
  rw [Int.mul_comm y B] at a b
  omega
/-- The product of two lines is nearly the line of the sum. -/
theorem lines (r s a b c d S0 S1 S2 e0 e1 e2 e3 : Int) (hr : 0 ≤ r ∧ r ≤ 1023) (hs : 0 ≤ s ∧ s ≤ 1023)
    (h0 : 2 * a * c = 65536 * S0 + e0) (h1 : 2 * a * d = 65536 * S1 + e1) (h2 : 2 * b * c = 65536 * S1 + e2) (h3 : 2 * b * d = 65536 * S2 + e3)
    (b0 : -196608 ≤ e0 ∧ e0 ≤ 196608) (b1 : -196608 ≤ e1 ∧ e1 ≤ 196608) (b2 : -196608 ≤ e2 ∧ e2 ≤ 196608) (b3 : -196608 ≤ e3 ∧ e3 ≤ 196608)
    (hD : 0 ≤ S0 - 2 * S1 + S2 ∧ S0 - 2 * S1 + S2 ≤ 16) :
    (r + s < 1024 → ∃ E : Int, 2 * ((1024 - r) * a + r * b) * ((1024 - s) * c + s * d) = 67108864 * ((1024 - r - s) * S0 + (r + s) * S1) + E ∧ -206158430208 ≤ E ∧ E ≤ 481036337152) ∧
    (1024 ≤ r + s → ∃ E : Int, 2 * ((1024 - r) * a + r * b) * ((1024 - s) * c + s * d) = 67108864 * ((2048 - r - s) * S1 + (r + s - 1024) * S2) + E ∧ -206158430208 ≤ E ∧ E ≤ 481036337152) := by
  have w0 : 0 ≤ (1024 - r) * (1024 - s) := Int.mul_nonneg (by omega) (by omega)
  have w1 : 0 ≤ (1024 - r) * s := Int.mul_nonneg (by omega) (by omega)
  have w2 : 0 ≤ r * (1024 - s) := Int.mul_nonneg (by omega) (by omega)
  have w3 : 0 ≤ r * s := Int.mul_nonneg (by omega) (by omega)
  have wsum : (1024 - r) * (1024 - s) + (1024 - r) * s + r * (1024 - s) + r * s = 1048576 := by grind
  have key : 2 * ((1024 - r) * a + r * b) * ((1024 - s) * c + s * d) = 65536 * ((1024 - r) * (1024 - s) * S0 + ((1024 - r) * s + r * (1024 - s)) * S1 + r * s * S2) + ((1024 - r) * (1024 - s) * e0 + (1024 - r) * s * e1 + r * (1024 - s) * e2 + r * s * e3) := by grind
  obtain ⟨x0, hx0⟩ : ∃ x, x = (1024 - r) * (1024 - s) := ⟨_, rfl⟩
  obtain ⟨x1, hx1⟩ : ∃ x, x = (1024 - r) * s := ⟨_, rfl⟩
  obtain ⟨x2, hx2⟩ : ∃ x, x = r * (1024 - s) := ⟨_, rfl⟩
  obtain ⟨x3, hx3⟩ : ∃ x, x = r * s := ⟨_, rfl⟩
  have m0 := mul_bd e0 196608 x0 x0 (by rw [hx0]; exact w0) b0.1 b0.2 (Int.le_refl _) (by omega)
  have m1 := mul_bd e1 196608 x1 x1 (by rw [hx1]; exact w1) b1.1 b1.2 (Int.le_refl _) (by omega)
  have m2 := mul_bd e2 196608 x2 x2 (by rw [hx2]; exact w2) b2.1 b2.2 (Int.le_refl _) (by omega)
  have m3 := mul_bd e3 196608 x3 x3 (by rw [hx3]; exact w3) b3.1 b3.2 (Int.le_refl _) (by omega)
  rw [← hx0, ← hx1, ← hx2, ← hx3] at key wsum
  rw [← hx0] at w0
  rw [← hx3] at w3
  constructor
  · intro hlt
    have q : x0 * S0 + (x1 + x2) * S1 + x3 * S2 = 1024 * ((1024 - r - s) * S0 + (r + s) * S1) + x3 * (S0 - 2 * S1 + S2) := by
      rw [hx0, hx1, hx2, hx3]; grind
    have hx3b : x3 ≤ 262144 := by
      have : 4 * (r * s) ≤ (r + s) * (r + s) := by
        have := sq_nn (r - s)
        grind
      have h2 : (r + s) * (r + s) ≤ 1024 * 1024 := Int.mul_le_mul (by omega) (by omega) (by omega) (by omega)
      omega
    have md := mul_bd (S0 - 2 * S1 + S2) 16 x3 262144 w3 (by omega) hD.2 hx3b (by omega)
    have md0 : 0 ≤ x3 * (S0 - 2 * S1 + S2) := Int.mul_nonneg w3 hD.1
    rw [q] at key
    exact ⟨_, by rw [key]; rw [Int.mul_add, ← Int.mul_assoc]; exact Int.add_assoc _ _ _, by omega, by omega⟩
  · intro hge
    have q : x0 * S0 + (x1 + x2) * S1 + x3 * S2 = 1024 * ((2048 - r - s) * S1 + (r + s - 1024) * S2) + x0 * (S0 - 2 * S1 + S2) := by
      rw [hx0, hx1, hx2, hx3]; grind
    have hx0b : x0 ≤ 262144 := by
      have : 4 * ((1024 - r) * (1024 - s)) ≤ (2048 - r - s) * (2048 - r - s) := by
        have := sq_nn (r - s)
        grind
      have h2 : (2048 - r - s) * (2048 - r - s) ≤ 1024 * 1024 := Int.mul_le_mul (by omega) (by omega) (by omega) (by omega)
      omega
    have md := mul_bd (S0 - 2 * S1 + S2) 16 x0 262144 w0 (by omega) hD.2 hx0b (by omega)
    have md0 : 0 ≤ x0 * (S0 - 2 * S1 + S2) := Int.mul_nonneg w0 hD.1
    rw [q] at key
    exact ⟨_, by rw [key]; rw [Int.mul_add, ← Int.mul_assoc]; exact Int.add_assoc _ _ _, by omega, by omega⟩
theorem stp2_lo (k : Nat) (h : k ≤ 64) : (stp2 k : Int) = 2 * (stepAt k : Int) := by unfold stp2; rw [if_pos h]; omega
theorem stp2_hi (k : Nat) (h : 64 ≤ k) : (stp2 k : Int) = (stepAt (k - 64) : Int) := by
  rcases Nat.lt_or_ge 64 k with h' | h'
  · unfold stp2; rw [if_neg (by omega)]
  · obtain rfl : k = 64 := by omega
    rfl
/-- Twice the power of a sum, as if it were not halved. -/
def dblN (n : Nat) : Nat := if n < 65536 then 2 * vN n else vN (n - 65536)
theorem dbl_lin (n k r : Nat) (hn : n = 1024 * k + r) (hr : r < 1024) (hk : k < 128) : ∃ D : Int, 1024 * (dblN n : Int) = (1024 - (r : Int)) * (stp2 k : Int) + (r : Int) * (stp2 (k + 1) : Int) + D ∧ -1024 ≤ D ∧ D ≤ 1024 := by
  by_cases h : n < 65536
  · obtain ⟨d, e, d1, d2⟩ := v_lin n h
    rw [show n / 1024 = k by omega, show n % 1024 = r by omega] at e
    have hd : (dblN n : Int) = 2 * (vN n : Int) := by unfold dblN; rw [if_pos h]; omega
    rw [hd, stp2_lo k (by omega), stp2_lo (k + 1) (by omega)]
    refine ⟨2 * d, ?_, by omega, by omega⟩
    grind
  · obtain ⟨d, e, d1, d2⟩ := v_lin (n - 65536) (by omega)
    rw [show (n - 65536) / 1024 = k - 64 by omega, show (n - 65536) % 1024 = r by omega] at e
    have hd : (dblN n : Int) = (vN (n - 65536) : Int) := by unfold dblN; rw [if_neg h]
    rw [hd, stp2_hi k (by omega), stp2_hi (k + 1) (by omega), show k + 1 - 64 = k - 64 + 1 by omega]
    exact ⟨d, e, by omega, by omega⟩
theorem core (u t : Nat) (hu : u < 65536) (ht : t < 65536) : 65536 * (dblN (u + t) : Int) - 393216 ≤ 2 * (vN u : Int) * (vN t : Int) ∧ 2 * (vN u : Int) * (vN t : Int) ≤ 65536 * (dblN (u + t) : Int) + 655360 := by
  obtain ⟨e0, h0, b0⟩ := tab_at (u / 1024) (t / 1024) (by omega) (by omega)
  obtain ⟨e1, h1, b1⟩ := tab_at (u / 1024) (t / 1024 + 1) (by omega) (by omega)
  obtain ⟨e2, h2, b2⟩ := tab_at (u / 1024 + 1) (t / 1024) (by omega) (by omega)
  obtain ⟨e3, h3, b3⟩ := tab_at (u / 1024 + 1) (t / 1024 + 1) (by omega) (by omega)
  have hD := sec_at (u / 1024 + t / 1024) (by omega)
  rw [show u / 1024 + (t / 1024 + 1) = u / 1024 + t / 1024 + 1 by omega] at h1
  rw [show u / 1024 + 1 + t / 1024 = u / 1024 + t / 1024 + 1 by omega] at h2
  rw [show u / 1024 + 1 + (t / 1024 + 1) = u / 1024 + t / 1024 + 2 by omega] at h3
  obtain ⟨da, ea, a1, a2⟩ := v_lin u hu
  obtain ⟨db, eb, c1, c2⟩ := v_lin t ht
  have L := lines ((u % 1024 : Nat) : Int) ((t % 1024 : Nat) : Int) _ _ _ _ _ _ _ e0 e1 e2 e3 (by omega) (by omega) h0 h1 h2 h3 b0 b1 b2 b3 hD
  have hla : 0 ≤ 1024 * (vN u : Int) - da ∧ 1024 * (vN u : Int) - da ≤ 67108864 := by
    have s1 := step_at (u / 1024) (by omega)
    have x1 : 0 ≤ (1024 - ((u % 1024 : Nat) : Int)) * (stepAt (u / 1024) : Int) := Int.mul_nonneg (by omega) (by omega)
    have x2 : 0 ≤ ((u % 1024 : Nat) : Int) * (stepAt (u / 1024 + 1) : Int) := Int.mul_nonneg (by omega) (by omega)
    have x3 : (1024 - ((u % 1024 : Nat) : Int)) * (stepAt (u / 1024) : Int) ≤ (1024 - ((u % 1024 : Nat) : Int)) * 65536 := Int.mul_le_mul_of_nonneg_left (by omega) (by omega)
    have x4 : ((u % 1024 : Nat) : Int) * (stepAt (u / 1024 + 1) : Int) ≤ ((u % 1024 : Nat) : Int) * 65536 := Int.mul_le_mul_of_nonneg_left (by omega) (by omega)
    omega
  have hvt := vN_bd t
  have f1 := mul_bd da 512 (1024 * (vN t : Int)) 67108864 (by omega) a1 a2 (by omega) (by omega)
  have f2 := mul_bd db 512 (1024 * (vN u : Int) - da) 67108864 hla.1 c1 c2 hla.2 (by omega)
  obtain ⟨A, hA⟩ : ∃ A, A = (1024 - ((u % 1024 : Nat) : Int)) * (stepAt (u / 1024) : Int) + ((u % 1024 : Nat) : Int) * (stepAt (u / 1024 + 1) : Int) := ⟨_, rfl⟩
  obtain ⟨B, hB⟩ : ∃ B, B = (1024 - ((t % 1024 : Nat) : Int)) * (stepAt (t / 1024) : Int) + ((t % 1024 : Nat) : Int) * (stepAt (t / 1024 + 1) : Int) := ⟨_, rfl⟩
  rw [← hA, ← hB] at L
  rw [← hA] at ea
  rw [← hB] at eb
  obtain ⟨x, hx⟩ : ∃ x : Int, x = (vN u : Int) := ⟨_, rfl⟩
  obtain ⟨y, hy⟩ : ∃ y : Int, y = (vN t : Int) := ⟨_, rfl⟩
  rw [← hx] at ea f2
  rw [← hy] at eb f1
  rw [← hx, ← hy]
  have key : 2097152 * (x * y) = 2 * A * B + 2 * (1024 * y * da) + 2 * ((1024 * x - da) * db) := by
    have hA' : A = 1024 * x - da := by omega
    have hB' : B = 1024 * y - db := by omega
    rw [hA', hB']; grind
  have fin : ∀ (Ls D E : Int), 2 * A * B = 67108864 * Ls + E → 1024 * (dblN (u + t) : Int) = Ls + D → -206158430208 ≤ E → E ≤ 481036337152 → -1024 ≤ D → D ≤ 1024 →
      65536 * (dblN (u + t) : Int) - 393216 ≤ 2 * x * y ∧ 2 * x * y ≤ 65536 * (dblN (u + t) : Int) + 655360 := by
    intro Ls D E k1 k2 k3 k4 k5 k6
    have hxy : 2 * x * y = 2 * (x * y) := Int.mul_assoc _ _ _
    omega
  by_cases hrs : u % 1024 + t % 1024 < 1024
  · obtain ⟨E, g1, g2, g3⟩ := L.1 (by omega)
    obtain ⟨D, k1, k2, k3⟩ := dbl_lin (u + t) (u / 1024 + t / 1024) (u % 1024 + t % 1024) (by omega) hrs (by omega)
    refine fin _ D E g1 ?_ g2 g3 k2 k3
    rw [k1]; grind
  · obtain ⟨E, g1, g2, g3⟩ := L.2 (by omega)
    obtain ⟨D, k1, k2, k3⟩ := dbl_lin (u + t) (u / 1024 + t / 1024 + 1) (u % 1024 + t % 1024 - 1024) (by omega) (by omega) (by omega)
    refine fin _ D E g1 ?_ g2 g3 k2 k3
    rw [k1, show ((u % 1024 + t % 1024 - 1024 : Nat) : Int) = ((u % 1024 : Nat) : Int) + ((t % 1024 : Nat) : Int) - 1024 by omega]; grind
theorem v_mod (a : Nat) : vN a = vN (a % 65536) := by
  unfold vN offN
  rw [show a % 65536 / 1024 % 64 = a / 1024 % 64 by omega, show a % 65536 % 1024 = a % 1024 by omega]
theorem pow_sum_div (a b : Nat) : powN (a + b) = dblN (a % 65536 + b % 65536) / (2 * 2 ^ (a / 65536 + b / 65536)) := by
  unfold powN dblN
  split
  · rename_i h
    rw [v_mod (a + b), show (a + b) % 65536 = a % 65536 + b % 65536 by omega, show (a + b) / 65536 = a / 65536 + b / 65536 by omega, Nat.mul_div_mul_left _ _ (by decide)]
  · rename_i h
    rw [v_mod (a + b), show (a + b) % 65536 = a % 65536 + b % 65536 - 65536 by omega, show (a + b) / 65536 = a / 65536 + b / 65536 + 1 by omega, Nat.pow_succ, Nat.mul_comm]
theorem miss_le (a b : Nat) : -8 ≤ (powN (a + b) : Int) - mulN (powN a : Int) (powN b : Int) ∧ (powN (a + b) : Int) - mulN (powN a : Int) (powN b : Int) ≤ 8 := by
  obtain ⟨c1, c2⟩ := core (a % 65536) (b % 65536) (by omega) (by omega)
  have pa := powN_bd a
  have pb := powN_bd b
  have ea : powN a = vN (a % 65536) / 2 ^ (a / 65536) := by unfold powN; rw [v_mod a]
  have eb : powN b = vN (b % 65536) / 2 ^ (b / 65536) := by unfold powN; rw [v_mod b]
  have ec := pow_sum_div a b
  rw [Nat.pow_add] at ec
  have hM : 0 < 2 ^ (a / 65536) := Nat.pow_pos (by decide)
  have hN : 0 < 2 ^ (b / 65536) := Nat.pow_pos (by decide)
  obtain ⟨M, eM⟩ : ∃ M, M = 2 ^ (a / 65536) := ⟨_, rfl⟩
  obtain ⟨N, eN⟩ : ∃ N, N = 2 ^ (b / 65536) := ⟨_, rfl⟩
  obtain ⟨x, ex⟩ : ∃ x, x = vN (a % 65536) := ⟨_, rfl⟩
  obtain ⟨y, ey⟩ : ∃ y, y = vN (b % 65536) := ⟨_, rfl⟩
  obtain ⟨z, ez⟩ : ∃ z, z = dblN (a % 65536 + b % 65536) := ⟨_, rfl⟩
  obtain ⟨A, eA⟩ : ∃ A, A = powN a := ⟨_, rfl⟩
  obtain ⟨B, eB⟩ : ∃ B, B = powN b := ⟨_, rfl⟩
  obtain ⟨Cc, eC⟩ : ∃ Cc, Cc = powN (a + b) := ⟨_, rfl⟩
  rw [← eA] at ea pa ⊢
  rw [← eB] at eb pb ⊢
  rw [← eC] at ec ⊢
  rw [← eM] at ea ec hM
  rw [← eN] at eb ec hN
  rw [← ex] at ea c1 c2
  rw [← ey] at eb c1 c2
  rw [← ez] at ec c1 c2
  clear ex ey ez eA eB eC eM eN
  have cn1 : 65536 * z ≤ 2 * (x * y) + 393216 := by
    have : 2 * (x : Int) * (y : Int) = ((2 * (x * y) : Nat) : Int) := by rw [Int.mul_assoc]; norm_cast
    omega
  have cn2 : 2 * (x * y) ≤ 65536 * z + 655360 := by
    have : 2 * (x : Int) * (y : Int) = ((2 * (x * y) : Nat) : Int) := by rw [Int.mul_assoc]; norm_cast
    omega
  have hQ : 0 < M * N := Nat.mul_pos hM hN
  have x1 : M * A ≤ x := by rw [ea]; exact Nat.mul_div_le _ _
  have x2 : x ≤ M * (A + 1) := by rw [ea]; exact Nat.le_of_lt (Nat.lt_mul_div_succ _ hM)
  have y1 : N * B ≤ y := by rw [eb]; exact Nat.mul_div_le _ _
  have y2 : y ≤ N * (B + 1) := by rw [eb]; exact Nat.le_of_lt (Nat.lt_mul_div_succ _ hN)
  have z1 : 2 * (M * N) * Cc ≤ z := by rw [ec]; exact Nat.mul_div_le _ _
  have z2 : z ≤ 2 * (M * N) * (Cc + 1) := by rw [ec]; exact Nat.le_of_lt (Nat.lt_mul_div_succ _ (by omega))
  have lo : A * B ≤ 65536 * (Cc + 6) := by
    have h1 : (M * A) * (N * B) ≤ x * y := Nat.mul_le_mul x1 y1
    have h2 : (M * A) * (N * B) = M * N * (A * B) := by ac_rfl
    have h3 : 2 * (M * N) * (Cc + 1) = M * N * (2 * (Cc + 1)) := by ac_rfl
    have h4 : M * N * (A * B) ≤ M * N * (65536 * (Cc + 6)) := by
      have h5 : M * N * (65536 * (Cc + 6)) = 65536 * (M * N * (Cc + 1)) + 327680 * (M * N) := by grind
      have h6 : M * N * (2 * (Cc + 1)) = 2 * (M * N * (Cc + 1)) := by ac_rfl
      omega
    exact Nat.le_of_mul_le_mul_left h4 hQ
  have hi : 65536 * Cc ≤ (A + 1) * (B + 1) + 196608 := by
    have h1 : x * y ≤ (M * (A + 1)) * (N * (B + 1)) := Nat.mul_le_mul x2 y2
    have h2 : (M * (A + 1)) * (N * (B + 1)) = M * N * ((A + 1) * (B + 1)) := by ac_rfl
    have h3 : 2 * (M * N) * Cc = 2 * (M * N * Cc) := Nat.mul_assoc _ _ _
    have h4 : M * N * (65536 * Cc) ≤ M * N * ((A + 1) * (B + 1) + 196608) := by
      have h5 : M * N * (65536 * Cc) = 65536 * (M * N * Cc) := by ac_rfl
      have h6 : M * N * ((A + 1) * (B + 1) + 196608) = M * N * ((A + 1) * (B + 1)) + 196608 * (M * N) := by rw [Nat.mul_add, Nat.mul_comm (M * N) 196608]
      omega
    exact Nat.le_of_mul_le_mul_left h4 hQ
  have hi2 : (A + 1) * (B + 1) = A * B + A + B + 1 := by grind
  have hAB : A * B ≤ 65536 * 65536 := Nat.mul_le_mul pa pb
  have hm : mulN (A : Int) (B : Int) = ((2 * (A * B) + 65536) / 131072 : Nat) := by
    unfold mulN
    have e1 : rnd ((A : Int) * (B : Int)) 65536 = (((2 * (A * B) + 65536) / 131072 : Nat) : Int) := by
      have e2 : (A : Int) * (B : Int) = ((A * B : Nat) : Int) := by norm_cast
      unfold rnd
      rw [e2, if_pos (by omega)]
      omega
    rw [e1, sat_id _ (by omega)]
  rw [hm]
  omega
theorem missI (x y : Int) (hx : x ≤ 0) (hy : y ≤ 0) : -8 ≤ powI (x + y) - mulN (powI x) (powI y) ∧ powI (x + y) - mulN (powI x) (powI y) ≤ 8 := by
  have h := miss_le (-x).toNat (-y).toNat
  unfold powI
  rw [show (-(x + y)).toNat = (-x).toNat + (-y).toNat by omega]
  exact h
end Go.Proofs.YtijjghlfamebaacDoor
