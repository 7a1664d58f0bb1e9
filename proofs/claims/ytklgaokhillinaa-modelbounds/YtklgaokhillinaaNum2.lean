/- Plain numbers: sums, products and quotients as the program answers them, their order and their opposites; no condition. -/
import Derived.Test.YtklgaokhillinaaNum
namespace Go.Proofs.Ytklgaokhillinaa
def addN (x y : Int) : Int := sat (x + y)
def subN (x y : Int) : Int := sat (x - y)
def mulN (x y : Int) : Int := sat (rnd (x * y) 65536)
theorem addN_bd (x y : Int) : -2147483647 ≤ addN x y ∧ addN x y ≤ 2147483647 := sat_bd _
theorem subN_bd (x y : Int) : -2147483647 ≤ subN x y ∧ subN x y ≤ 2147483647 := sat_bd _
theorem mulN_bd (x y : Int) : -2147483647 ≤ mulN x y ∧ mulN x y ≤ 2147483647 := sat_bd _
theorem quo_bd (x y : Int) : -2147483647 ≤ quo x y ∧ quo x y ≤ 2147483647 := by unfold quo; split <;> exact sat_bd _
theorem sat_neg (x : Int) : sat (-x) = - sat x := by unfold sat; omega
theorem sat_id (x : Int) (h : -2147483647 ≤ x ∧ x ≤ 2147483647) : sat x = x := by unfold sat; omega
theorem sat_mono (x y : Int) (h : x ≤ y) : sat x ≤ sat y := by unfold sat; omega
theorem addN_comm (x y : Int) : addN x y = addN y x := by unfold addN; rw [Int.add_comm]
theorem mulN_comm (x y : Int) : mulN x y = mulN y x := by unfold mulN; rw [Int.mul_comm]
theorem addN_zero (x : Int) : addN x 0 = sat x := by unfold addN; rw [Int.add_zero]
theorem rnd_whole (x d : Int) (hd : 1 ≤ d) : rnd (x * d) d = x := by
  by_cases h : 0 ≤ x
  · exact rnd_pos_dn (x * d) d x 0 hd (by omega) (Int.mul_nonneg h (by omega)) (by omega) (by omega)
  · have := rnd_pos_dn (-x * d) d (-x) 0 hd (by omega) (Int.mul_nonneg (by omega) (by omega)) (by omega) (by omega)
    rw [show -x * d = -(x * d) by rw [Int.neg_mul], rnd_neg _ _ hd] at this
    omega
theorem mulN_one (x : Int) : mulN x 65536 = sat x := by unfold mulN; rw [rnd_whole x 65536 (by omega)]
theorem subN_self (x : Int) : subN x x = 0 := by unfold subN; rw [Int.sub_self]; decide
theorem subN_zero (x : Int) : subN 0 x = - sat x := by unfold subN; rw [Int.zero_sub, sat_neg]
theorem mulN_neg (x y : Int) : mulN (-x) y = - mulN x y := by
  unfold mulN; rw [show -x * y = -(x * y) by rw [Int.neg_mul], rnd_neg _ _ (by omega), sat_neg]
theorem mulN_opp (a b : Int) : mulN (subN 0 a) b = subN 0 (mulN (sat a) b) := by
  rw [subN_zero, mulN_neg, subN_zero, sat_id _ (mulN_bd _ _)]
theorem rnd_mono (x y d : Int) (hd : 1 ≤ d) (h : x ≤ y) : rnd x d ≤ rnd y d := by
  have up : ∀ u v : Int, 0 ≤ u → u ≤ v → 0 ≤ rnd u d ∧ rnd u d ≤ rnd v d := by
    intro u v h0 h1
    unfold rnd
    rw [if_pos h0, if_pos (by omega)]
    exact ⟨Int.ediv_nonneg (by omega) (by omega), Int.ediv_le_ediv (by omega) (by omega)⟩
  by_cases hx : 0 ≤ x
  · exact (up x y hx h).2
  · by_cases hy : 0 ≤ y
    · have a := (up (-x) (-x) (by omega) (by omega)).1
      have b := (up y y hy (by omega)).1
      rw [rnd_neg x d hd] at a
      omega
    · have a := (up (-y) (-x) (by omega) (by omega)).2
      rw [rnd_neg x d hd, rnd_neg y d hd] at a
      omega
theorem addN_mono (a b c : Int) (h : a ≤ b) : addN a c ≤ addN b c := by unfold addN; exact sat_mono _ _ (by omega)
theorem mulN_mono (a b c : Int) (h : a ≤ b) (hc : 0 ≤ c) : mulN a c ≤ mulN b c := by
  unfold mulN; exact sat_mono _ _ (rnd_mono _ _ _ (by omega) (Int.mul_le_mul_of_nonneg_right h hc))
theorem rnd_near (x d : Int) (hd : 1 ≤ d) : -d ≤ 2 * (x - rnd x d * d) ∧ 2 * (x - rnd x d * d) ≤ d ∧ (2 * (x - rnd x d * d) = d → x ≤ 0) ∧ (2 * (x - rnd x d * d) = -d → 0 ≤ x) := by
  have up : ∀ y : Int, 0 ≤ y → -d ≤ 2 * (y - rnd y d * d) ∧ 2 * (y - rnd y d * d) < d := by
    intro y hy
    obtain ⟨e, r0, r1, q0, q1⟩ := parts_pos y d hy hd
    by_cases hh : d - y % d ≤ y % d
    · rw [rnd_pos_up y d _ _ hd e hy r1 hh, Int.add_mul]; omega
    · rw [rnd_pos_dn y d _ _ hd e hy r0 (by omega)]; omega
  by_cases hx : 0 ≤ x
  · have := up x hx; omega
  · have := up (-x) (by omega)
    rw [rnd_neg x d hd, Int.neg_mul] at this
    omega
theorem quo_neg (x y : Int) (hy : y ≠ 0) : quo (-x) y = - quo x y := by
  unfold quo
  by_cases h : y < 0
  · rw [if_pos h, if_pos h, Int.neg_mul, rnd_neg (-(x * 65536)) (-y) (by omega), sat_neg]
  · rw [if_neg h, if_neg h, Int.neg_mul, rnd_neg (x * 65536) y (by omega), sat_neg]
theorem quo_opp (a b : Int) (ha : -2147483647 ≤ a) (ha' : a ≤ 2147483647) (hb : b ≠ 0) : quo (subN 0 a) b = subN 0 (quo a b) := by
  rw [subN_zero, subN_zero, sat_id a ⟨ha, ha'⟩, quo_neg a b hb, sat_id _ (quo_bd a b)]
/-- A quotient that isn't at the bounds, times the divisor, is near to the number. -/
theorem quo_near (a b : Int) (h1 : quo a b ≠ 2147483647) (h2 : quo a b ≠ -2147483647) :
    (b < 0 → b ≤ 2 * (quo a b * b - a * 65536) ∧ 2 * (quo a b * b - a * 65536) ≤ -b) ∧ (0 < b → -b ≤ 2 * (quo a b * b - a * 65536) ∧ 2 * (quo a b * b - a * 65536) ≤ b) := by
  have un : ∀ z : Int, sat z ≠ 2147483647 → sat z ≠ -2147483647 → sat z = z := by intro z; unfold sat; omega
  constructor
  · intro h
    unfold quo at h1 h2 ⊢
    rw [if_pos h] at h1 h2 ⊢
    rw [un _ h1 h2]
    have := rnd_near (-(a * 65536)) (-b) (by omega)
    rw [Int.mul_neg] at this
    omega
  · intro h
    unfold quo at h1 h2 ⊢
    rw [if_neg (by omega)] at h1 h2 ⊢
    rw [un _ h1 h2]
    have := rnd_near (a * 65536) b (by omega)
    omega
theorem of_floor (n : Int) (h1 : -32767 ≤ n) (h2 : n ≤ 32767) : sat (clip n * 65536) / 65536 = n := by
  unfold clip; rw [if_neg (by omega), if_neg (by omega), sat_id _ (by omega)]; omega
end Go.Proofs.Ytklgaokhillinaa
