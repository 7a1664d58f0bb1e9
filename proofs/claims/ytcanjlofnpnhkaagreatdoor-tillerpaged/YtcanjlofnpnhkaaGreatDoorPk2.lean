/- Contracts of the program's functions, part 2 of 13: what each call returns and leaves of memory. -/
import Derived.Test.YtcanjlofnpnhkaaGreatDoorPk1
import Derived.Deep.OwnRows
import Derived.Deep.LoopGhost
import Derived.Deep.RegionWith
import Derived.Deep.QuietTactic
import Derived.Test.YtcanjlofnpnhkaaGreatDoorRows
import Derived.Laws.AppendOwnNone
import Derived.OwnWalk
import Derived.WalkKit
import Derived.ProofKit
import Derived.OpenShut
import Derived.WalkLawsBesides
import Derived.BigQuiet
import Derived.WalkSmall
import Derived.Laws.IdiomStrings
import Derived.Lib.UnsafeStr
import Derived.Laws.CopyOwn
import Derived.Deep.Quiet
/- Plain numbers: what is rounded, cut at the bounds, and the digits behind a point; no condition. -/
namespace Go.Proofs.YtcanjlofnpnhkaaGreatDoor
theorem div_eq {a b q : Int} (hb : 0 < b) (h1 : q * b ≤ a) (h2 : a < (q + 1) * b) : a / b = q := by
  have e1 : q ≤ a / b := (Int.le_ediv_iff_mul_le hb).2 h1
  have e2 : a / b < q + 1 := (Int.ediv_lt_iff_lt_mul hb).2 h2
  omega
def sat (x : Int) : Int := if 2147483647 < x then 2147483647 else if x < -2147483647 then -2147483647 else x
theorem sat_bd (x : Int) : -2147483647 ≤ sat x ∧ sat x ≤ 2147483647 := by unfold sat; omega
/-- Round half away from nought. -/
def rnd (x d : Int) : Int := if 0 ≤ x then (2 * x + d) / (2 * d) else -((d - 2 * x) / (2 * d))
theorem rnd_neg (x d : Int) (hd : 1 ≤ d) : rnd (-x) d = - rnd x d := by
  unfold rnd
  have z : d / (2 * d) = 0 := Int.ediv_eq_zero_of_lt (by omega) (by omega)
  by_cases h0 : x = 0
  · subst h0; simp [z]
  by_cases h : 0 ≤ x
  · rw [if_neg (by omega), if_pos h, show d - 2 * -x = 2 * x + d by omega]
  · rw [if_pos (by omega), if_neg h, show 2 * -x + d = d - 2 * x by omega]; omega
/-- What Go's quotient and rest make. -/
theorem parts_pos (x d : Int) (hx : 0 ≤ x) (hd : 1 ≤ d) : x = (x / d) * d + x % d ∧ 0 ≤ x % d ∧ x % d < d ∧ 0 ≤ x / d ∧ x / d ≤ x := by
  have h1 := Int.ediv_mul_add_emod x d
  have h2 := Int.emod_nonneg x (show d ≠ 0 by omega)
  have h3 := Int.emod_lt_of_pos x (show 0 < d by omega)
  have h4 : 0 ≤ x / d := Int.ediv_nonneg hx (by omega)
  have h5 : x / d ≤ x := Int.ediv_le_self d hx
  omega
theorem rnd_pos_up (x d q r : Int) (hd : 1 ≤ d) (e : x = q * d + r) (h0 : 0 ≤ x) (h1 : r < d) (h : d - r ≤ r) : rnd x d = q + 1 := by
  unfold rnd
  rw [if_pos h0]
  refine div_eq (by omega) ?_ ?_
  · rw [e, show (q + 1) * (2 * d) = 2 * (q * d) + 2 * d by rw [Int.add_mul, Int.mul_left_comm]; omega]; omega
  · rw [e, show (q + 1 + 1) * (2 * d) = 2 * (q * d) + 4 * d by rw [Int.add_mul, Int.add_mul, Int.mul_left_comm]; omega]; omega
theorem rnd_pos_dn (x d q r : Int) (hd : 1 ≤ d) (e : x = q * d + r) (h0 : 0 ≤ x) (h1 : 0 ≤ r) (h : r < d - r) : rnd x d = q := by
  unfold rnd
  rw [if_pos h0]
  refine div_eq (by omega) ?_ ?_
  · rw [e, show q * (2 * d) = 2 * (q * d) by rw [Int.mul_left_comm]]; omega
  · rw [e, show (q + 1) * (2 * d) = 2 * (q * d) + 2 * d by rw [Int.add_mul, Int.mul_left_comm]; omega]; omega
theorem parts_neg (x d : Int) (hx : x < 0) (hd : 1 ≤ d) : ∃ q r : Int, x.tdiv d = q ∧ x.tmod d = r ∧ -x = (-q) * d + (-r) ∧ r ≤ 0 ∧ -d < r ∧ q ≤ 0 ∧ x ≤ q := by
  have p := parts_pos (-x) d (by omega) hd
  refine ⟨-((-x) / d), -((-x) % d), ?_, ?_, by rw [Int.neg_neg, Int.neg_neg]; omega, by omega, by omega, by omega, by omega⟩
  · have : x.tdiv d = -((-x).tdiv d) := by rw [Int.neg_tdiv]; omega
    rw [this, Int.tdiv_eq_ediv_of_nonneg (by omega)]
  · have : x.tmod d = -((-x).tmod d) := by rw [Int.neg_tmod]; omega
    rw [this, Int.tmod_eq_emod_of_nonneg (by omega)]
theorem rnd_neg_up (x d q r : Int) (hd : 1 ≤ d) (e : -x = (-q) * d + (-r)) (h0 : x < 0) (h1 : -d < r) (h : d + r ≤ -r) : rnd x d = q - 1 := by
  have := rnd_pos_up (-x) d (-q) (-r) hd e (by omega) (by omega) (by omega)
  rw [rnd_neg x d hd] at this
  omega
theorem rnd_neg_dn (x d q r : Int) (hd : 1 ≤ d) (e : -x = (-q) * d + (-r)) (h0 : x < 0) (h1 : r ≤ 0) (h : -r < d + r) : rnd x d = q := by
  have := rnd_pos_dn (-x) d (-q) (-r) hd e (by omega) (by omega) (by omega)
  rw [rnd_neg x d hd] at this
  omega
def clip (n : Int) : Int := if 65536 < n then 65536 else if n < -65536 then -65536 else n
theorem prod_bd {a b A B : Int} (ha1 : -A ≤ a) (ha2 : a ≤ A) (hb1 : -B ≤ b) (hb2 : b ≤ B) : -(A * B) ≤ a * b ∧ a * b ≤ A * B := by
  have hA : 0 ≤ A := by omega
  have h1 : a.natAbs * b.natAbs ≤ A.natAbs * B.natAbs := Nat.mul_le_mul (by omega) (by omega)
  rw [← Int.natAbs_mul, ← Int.natAbs_mul] at h1
  have h2 : 0 ≤ A * B := Int.mul_nonneg hA (by omega)
  omega
theorem rnd_bd (x d B : Int) (hd : 1 ≤ d) (h1 : -(B * d) ≤ x) (h2 : x ≤ B * d) : -B ≤ rnd x d ∧ rnd x d ≤ B := by
  have up : ∀ y : Int, 0 ≤ y → y ≤ B * d → 0 ≤ rnd y d ∧ rnd y d ≤ B := by
    intro y hy hyB
    unfold rnd
    rw [if_pos hy]
    refine ⟨Int.ediv_nonneg (by omega) (by omega), ?_⟩
    have e2 : (2 * y + d) / (2 * d) < B + 1 := by
      refine (Int.ediv_lt_iff_lt_mul (by omega)).2 ?_
      rw [show (B + 1) * (2 * d) = 2 * (B * d) + 2 * d by rw [Int.add_mul, Int.mul_left_comm]; omega]; omega
    omega
  by_cases h : 0 ≤ x
  · have := up x h h2; omega
  · have := up (-x) (by omega) (by omega); rw [rnd_neg x d hd] at this; omega
/-- The quotient: nearest, halves away from nought, the divisor brought above nought. -/
def quo (x y : Int) : Int := if y < 0 then sat (rnd (-(x * 65536)) (-y)) else sat (rnd (x * 65536) y)
/-- The digits behind the point of p / 65536, at most k of them. -/
def fd : Nat → Nat → List UInt8
  | 0, _ => []
  | k + 1, p => if p = 0 then [] else UInt8.ofNat (48 + p * 10 / 65536) :: fd k (p * 10 % 65536)
theorem fd_zero (k : Nat) : fd k 0 = [] := by cases k <;> simp [fd]
theorem fd_succ (k p : Nat) (h : p ≠ 0) : fd (k + 1) p = UInt8.ofNat (48 + p * 10 / 65536) :: fd k (p * 10 % 65536) := by simp [fd, h]
theorem fd_digit (p : Nat) (h : p < 65536) : (UInt8.ofNat (48 + p * 10 / 65536)).toNat = 48 + p * 10 / 65536 := by
  rw [UInt8.toNat_ofNat']; omega
theorem fd_next (p k : Nat) (h : p * 10 ^ (k + 1) % 65536 = 0) : (p * 10 % 65536) * 10 ^ k % 65536 = 0 := by
  rw [Nat.pow_succ, Nat.mul_comm (10 ^ k) 10, ← Nat.mul_assoc] at h
  rw [Nat.mul_mod, Nat.mod_mod, ← Nat.mul_mod]; exact h
end Go.Proofs.YtcanjlofnpnhkaaGreatDoor

/- Plain numbers: sums, products and quotients as the program answers them, their order and their opposites; no condition. -/
namespace Go.Proofs.YtcanjlofnpnhkaaGreatDoor
def addN (x y : Int) : Int := sat (x + y)
def subN (x y : Int) : Int := sat (x - y)
def mulN (x y : Int) : Int := sat (rnd (x * y) 65536)
theorem addN_bd (x y : Int) : -2147483647 ≤ addN x y ∧ addN x y ≤ 2147483647 := sat_bd _
theorem subN_bd (x y : Int) : -2147483647 ≤ subN x y ∧ subN x y ≤ 2147483647 := sat_bd _
theorem mulN_bd (x y : Int) : -2147483647 ≤ mulN x y ∧ mulN x y ≤ 2147483647 := sat_bd _
theorem quo_bd (x y : Int) : -2147483647 ≤ quo x y ∧ quo x y ≤ 2147483647 := by unfold quo; split <;> exact sat_bd _
theorem sat_neg (x : Int) : sat (-x) = - sat x := by unfold sat; omega
theorem sat_id (x : Int) (h : -2147483647 ≤ x ∧ x ≤ 2147483647) : sat x = x := by unfold sat; omega
theorem sat_mono (x y : Int) (h : x ≤ y) : sat x ≤ sat y := by unfold sat; omega
theorem addN_comm (x y : Int) : addN x y = addN y x := by unfold addN; rw [Int.add_comm]
theorem mulN_comm (x y : Int) : mulN x y = mulN y x := by unfold mulN; rw [Int.mul_comm]
theorem addN_zero (x : Int) : addN x 0 = sat x := by unfold addN; rw [Int.add_zero]
theorem rnd_whole (x d : Int) (hd : 1 ≤ d) : rnd (x * d) d = x := by
  by_cases h : 0 ≤ x
  · exact rnd_pos_dn (x * d) d x 0 hd (by omega) (Int.mul_nonneg h (by omega)) (by omega) (by omega)
  · have := rnd_pos_dn (-x * d) d (-x) 0 hd (by omega) (Int.mul_nonneg (by omega) (by omega)) (by omega) (by omega)
    rw [show -x * d = -(x * d) by rw [Int.neg_mul], rnd_neg _ _ hd] at this
    omega
theorem mulN_one (x : Int) : mulN x 65536 = sat x := by unfold mulN; rw [rnd_whole x 65536 (by omega)]
theorem subN_self (x : Int) : subN x x = 0 := by unfold subN; rw [Int.sub_self]; decide
theorem subN_zero (x : Int) : subN 0 x = - sat x := by unfold subN; rw [Int.zero_sub, sat_neg]
theorem mulN_neg (x y : Int) : mulN (-x) y = - mulN x y := by
  unfold mulN; rw [show -x * y = -(x * y) by rw [Int.neg_mul], rnd_neg _ _ (by omega), sat_neg]
theorem mulN_opp (a b : Int) : mulN (subN 0 a) b = subN 0 (mulN (sat a) b) := by
  rw [subN_zero, mulN_neg, subN_zero, sat_id _ (mulN_bd _ _)]
theorem rnd_mono (x y d : Int) (hd : 1 ≤ d) (h : x ≤ y) : rnd x d ≤ rnd y d := by
  have up : ∀ u v : Int, 0 ≤ u → u ≤ v → 0 ≤ rnd u d ∧ rnd u d ≤ rnd v d := by
    intro u v h0 h1
    unfold rnd
    rw [if_pos h0, if_pos (by omega)]
    exact ⟨Int.ediv_nonneg (by omega) (by omega), Int.ediv_le_ediv (by omega) (by omega)⟩
  by_cases hx : 0 ≤ x
  · exact (up x y hx h).2
  · by_cases hy : 0 ≤ y
    · have a := (up (-x) (-x) (by omega) (by omega)).1
      have b := (up y y hy (by omega)).1
      rw [rnd_neg x d hd] at a
      omega
    · have a := (up (-y) (-x) (by omega) (by omega)).2
      rw [rnd_neg x d hd, rnd_neg y d hd] at a
      omega
theorem addN_mono (a b c : Int) (h : a ≤ b) : addN a c ≤ addN b c := by unfold addN; exact sat_mono _ _ (by omega)
theorem mulN_mono (a b c : Int) (h : a ≤ b) (hc : 0 ≤ c) : mulN a c ≤ mulN b c := by
  unfold mulN; exact sat_mono _ _ (rnd_mono _ _ _ (by omega) (Int.mul_le_mul_of_nonneg_right h hc))
theorem rnd_near (x d : Int) (hd : 1 ≤ d) : -d ≤ 2 * (x - rnd x d * d) ∧ 2 * (x - rnd x d * d) ≤ d ∧ (2 * (x - rnd x d * d) = d → x ≤ 0) ∧ (2 * (x - rnd x d * d) = -d → 0 ≤ x) := by
  have up : ∀ y : Int, 0 ≤ y → -d ≤ 2 * (y - rnd y d * d) ∧ 2 * (y - rnd y d * d) < d := by
    intro y hy
    obtain ⟨e, r0, r1, q0, q1⟩ := parts_pos y d hy hd
    by_cases hh : d - y % d ≤ y % d
    · rw [rnd_pos_up y d _ _ hd e hy r1 hh, Int.add_mul]; omega
    · rw [rnd_pos_dn y d _ _ hd e hy r0 (by omega)]; omega
  by_cases hx : 0 ≤ x
  · have := up x hx; omega
  · have := up (-x) (by omega)
    rw [rnd_neg x d hd, Int.neg_mul] at this
    omega
theorem quo_neg (x y : Int) (hy : y ≠ 0) : quo (-x) y = - quo x y := by
  unfold quo
  by_cases h : y < 0
  · rw [if_pos h, if_pos h, Int.neg_mul, rnd_neg (-(x * 65536)) (-y) (by omega), sat_neg]
  · rw [if_neg h, if_neg h, Int.neg_mul, rnd_neg (x * 65536) y (by omega), sat_neg]
theorem quo_opp (a b : Int) (ha : -2147483647 ≤ a) (ha' : a ≤ 2147483647) (hb : b ≠ 0) : quo (subN 0 a) b = subN 0 (quo a b) := by
  rw [subN_zero, subN_zero, sat_id a ⟨ha, ha'⟩, quo_neg a b hb, sat_id _ (quo_bd a b)]
/-- A quotient that isn't at the bounds, times the divisor, is near to the number. -/
theorem quo_near (a b : Int) (h1 : quo a b ≠ 2147483647) (h2 : quo a b ≠ -2147483647) :
    (b < 0 → b ≤ 2 * (quo a b * b - a * 65536) ∧ 2 * (quo a b * b - a * 65536) ≤ -b) ∧ (0 < b → -b ≤ 2 * (quo a b * b - a * 65536) ∧ 2 * (quo a b * b - a * 65536) ≤ b) := by
  have un : ∀ z : Int, sat z ≠ 2147483647 → sat z ≠ -2147483647 → sat z = z := by intro z; unfold sat; omega
  constructor
  · intro h
    unfold quo at h1 h2 ⊢
    rw [if_pos h] at h1 h2 ⊢
    rw [un _ h1 h2]
    have := rnd_near (-(a * 65536)) (-b) (by omega)
    rw [Int.mul_neg] at this
    omega
  · intro h
    unfold quo at h1 h2 ⊢
    rw [if_neg (by omega)] at h1 h2 ⊢
    rw [un _ h1 h2]
    have := rnd_near (a * 65536) b (by omega)
    omega
theorem of_floor (n : Int) (h1 : -32767 ≤ n) (h2 : n ≤ 32767) : sat (clip n * 65536) / 65536 = n := by
  unfold clip; rw [if_neg (by omega), if_neg (by omega), sat_id _ (by omega)]; omega
end Go.Proofs.YtcanjlofnpnhkaaGreatDoor

/- Rows of fixed numbers in memory: what a slice value reads as; rows that a call has made itself, read and written; sums that end at 63 bits. -/
namespace Go.Proofs.YtcanjlofnpnhkaaGreatDoor
open Go.ChangeShapes Go.WideShapes Go.ChangeAt Go.RowKit
/-- The number at a place of a row; beyond its end: nought. -/
def el (A : List Int) (k : Nat) : Int := A.getD k 0
theorem el_cons_zero (x : Int) (A : List Int) : el (x :: A) 0 = x := rfl
theorem el_cons_succ (x : Int) (A : List Int) (k : Nat) : el (x :: A) (k + 1) = el A k := rfl
theorem el_mem {A : List Int} {k : Nat} (h : k < A.length) : el A k ∈ A := by
  unfold el; rw [List.getD_eq_getElem?_getD, List.getElem?_eq_getElem h]; exact List.getElem_mem h
theorem el_over {A : List Int} {k : Nat} (h : A.length ≤ k) : el A k = 0 := by
  unfold el; rw [List.getD_eq_getElem?_getD, List.getElem?_eq_none h]; rfl
theorem el_map {f : Int → Int} {A : List Int} {k : Nat} (h : k < A.length) : el (A.map f) k = f (el A k) := by
  unfold el; simp [List.getD_eq_getElem?_getD, List.getElem?_eq_getElem h]
theorem el_take {A : List Int} {n k : Nat} (h : k < n) : el (A.take n) k = el A k := by
  unfold el; simp [List.getD_eq_getElem?_getD, h]
theorem el_drop {A : List Int} {n k : Nat} : el (A.drop n) k = el A (n + k) := by
  unfold el; simp [List.getD_eq_getElem?_getD]
theorem el_range {f : Nat → Int} {n k : Nat} (h : k < n) : el ((List.range n).map f) k = f k := by
  unfold el; simp [List.getD_eq_getElem?_getD, h]
theorem el_append_left {A B : List Int} {k : Nat} (h : k < A.length) : el (A ++ B) k = el A k := by
  unfold el; rw [List.getD_eq_getElem?_getD, List.getD_eq_getElem?_getD, List.getElem?_append_left h]
theorem el_append_right {A B : List Int} {k : Nat} : el (A ++ B) (A.length + k) = el B k := by
  unfold el; rw [List.getD_eq_getElem?_getD, List.getD_eq_getElem?_getD, List.getElem?_append_right (by omega), Nat.add_sub_cancel_left]
theorem el_set {A : List Int} {i k : Nat} {x : Int} (h : i < A.length) : el (A.set i x) k = if k = i then x else el A k := by
  unfold el; simp only [List.getD_eq_getElem?_getD, List.getElem?_set]
  by_cases e : i = k
  · subst e; simp [h]
  · rw [if_neg e, if_neg (fun h => e h.symm)]
theorem ext_el {A B : List Int} (hl : A.length = B.length) (h : ∀ k, k < A.length → el A k = el B k) : A = B := by
  apply List.ext_getElem hl
  intro i h1 h2
  have := h i h1
  unfold el at this
  simpa [List.getD_eq_getElem?_getD, List.getElem?_eq_getElem h1, List.getElem?_eq_getElem h2] using this
/-- All numbers of a row are of 32 bits. -/
def Small (A : List Int) : Prop := ∀ x ∈ A, -2147483648 ≤ x ∧ x ≤ 2147483647
theorem Small.el {A : List Int} (h : Small A) (k : Nat) : -2147483648 ≤ el A k ∧ el A k ≤ 2147483647 := by
  by_cases hk : k < A.length
  · exact h _ (el_mem hk)
  · rw [el_over (by omega)]; omega
theorem Small.take {A : List Int} (h : Small A) (n : Nat) : Small (A.take n) := fun x hx => h x (List.mem_of_mem_take hx)
theorem Small.drop {A : List Int} (h : Small A) (n : Nat) : Small (A.drop n) := fun x hx => h x (List.mem_of_mem_drop hx)
theorem Small.append {A B : List Int} (h : Small A) (k : Small B) : Small (A ++ B) := fun x hx => (List.mem_append.1 hx).elim (h x) (k x)
theorem Small.set {A : List Int} (h : Small A) (i : Nat) {x : Int} (hx : -2147483648 ≤ x ∧ x ≤ 2147483647) : Small (A.set i x) := fun y hy => (List.mem_or_eq_of_mem_set hy).elim (h y) (fun e => e ▸ hx)
theorem small_range {f : Nat → Int} {n : Nat} (h : ∀ k, k < n → -2147483648 ≤ f k ∧ f k ≤ 2147483647) : Small ((List.range n).map f) := by
  intro x hx
  obtain ⟨k, hk, rfl⟩ := List.mem_map.1 hx
  exact h k (List.mem_range.1 hk)
theorem small_nil : Small [] := fun x hx => by cases hx
/-- The row of n numbers that f tells. -/
def tab (n : Nat) (f : Nat → Int) : List Int := (List.range n).map f
theorem tab_len (n : Nat) (f : Nat → Int) : (tab n f).length = n := by simp [tab]
theorem el_tab {n : Nat} {f : Nat → Int} {k : Nat} (h : k < n) : el (tab n f) k = f k := el_range h
theorem tab_congr {n : Nat} {f g : Nat → Int} (h : ∀ k, k < n → f k = g k) : tab n f = tab n g :=
  ext_el (by rw [tab_len, tab_len]) fun k hk => by rw [tab_len] at hk; rw [el_tab hk, el_tab hk, h k hk]
theorem tab_el {A : List Int} {n : Nat} (h : A.length = n) : tab n (el A) = A := ext_el (by rw [tab_len, h]) fun k hk => by rw [tab_len] at hk; exact el_tab hk
theorem tab_set {n : Nat} {f : Nat → Int} {k : Nat} {x : Int} (hk : k < n) : (tab n f).set k x = tab n (fun j => if j = k then x else f j) :=
  ext_el (by rw [List.length_set, tab_len, tab_len]) fun j hj => by
    rw [List.length_set, tab_len] at hj
    rw [el_set (by rw [tab_len]; exact hk), el_tab hj, el_tab hj]
theorem tab_step {n : Nat} {f : Nat → Int} {k : Nat} {x : Int} (hk : k < n) (hx : x = f k) : (tab n (fun j => if j < k then f j else 0)).set k x = tab n (fun j => if j < k + 1 then f j else 0) := by
  rw [tab_set hk]
  refine tab_congr fun j hj => ?_
  by_cases e : j = k
  · subst e; rw [if_pos rfl, if_pos (by omega), hx]
  · rw [if_neg e]
    by_cases h2 : j < k
    · rw [if_pos h2, if_pos (by omega)]
    · rw [if_neg h2, if_neg (by omega)]
theorem tab_done {n : Nat} {f : Nat → Int} : tab n (fun j => if j < n then f j else 0) = tab n f := tab_congr fun j hj => by rw [if_pos hj]
theorem tab_start {n : Nat} {f : Nat → Int} : tab n (fun j => if j < 0 then f j else 0) = tab n (fun _ => 0) := tab_congr fun j _ => by rw [if_neg (by omega)]
theorem small_tab {f : Nat → Int} {n : Nat} (h : ∀ k, k < n → -2147483648 ≤ f k ∧ f k ≤ 2147483647) : Small (tab n f) := small_range h
/-- In w the slice that begins at ao, of n numbers, reads as A. -/
structure RowAt (w : World) (ao : Option Addr) (n : Nat) (A : List Int) : Prop where
  len : A.length = n
  max : n ≤ 9223372036854775807
  small : Small A
  cells : 0 < n → ∃ b o, ao = some ⟨b, o, none⟩ ∧ ∀ t, t < n → w.cell? ⟨b, o + t, none⟩ = some (.int .i32 (el A t))
theorem RowAt.nil (w : World) (ao : Option Addr) : RowAt w ao 0 [] := ⟨rfl, by omega, small_nil, fun h => by omega⟩
theorem RowAt.below {w w' : World} {ao : Option Addr} {n : Nat} {A : List Int} (h : RowAt w ao n A) (hb : Below w.heap.size w w') : RowAt w' ao n A := by
  refine ⟨h.len, h.max, h.small, fun hn => ?_⟩
  obtain ⟨b, o, e, hc⟩ := h.cells hn
  refine ⟨b, o, e, fun t ht => ?_⟩
  have hlt : b < w.heap.size := by simpa using World.block_lt_of_cell? w _ (hc t ht)
  rw [hb.cell (by exact hlt)]; exact hc t ht
theorem RowAt.drewN {w : World} {ao : Option Addr} {n : Nat} {A : List Int} (h : RowAt w ao n A) (m : Nat) : RowAt (w.drewN m) ao n A :=
  h.below (below_drewN (Below.refl _ _) m)
/-- A part of a row. -/
theorem RowAt.part {w : World} {b o n : Nat} {A : List Int} (h : RowAt w (some ⟨b, o, none⟩) n A) (i m : Nat) (him : i + m ≤ n) : RowAt w (some ⟨b, o + i, none⟩) m ((A.drop i).take m) := by
  have hl := h.len
  refine ⟨by simp; omega, by have := h.max; omega, (h.small.drop i).take m, fun hm => ?_⟩
  obtain ⟨b', o', e, hc⟩ := h.cells (by omega)
  simp only [Option.some.injEq, Addr.mk.injEq, and_true] at e
  obtain ⟨rfl, rfl⟩ := e
  refine ⟨b, o + i, rfl, fun t ht => ?_⟩
  rw [el_take ht, el_drop, Nat.add_assoc]
  exact hc (i + t) (by omega)
/-- Block g is a row of cap numbers that may be written, the first n are A; it is none of the blocks below B. -/
structure Fresh (w : World) (B g n cap : Nat) (A : List Int) : Prop where
  base : B ≤ g
  len : A.length = n
  fit : n ≤ cap
  max : cap ≤ 9223372036854775807
  small : Small A
  row : ∃ cur : Array Value, w.heap[g]? = some (.cells cur 106 (0, 0)) ∧ cur.size = cap ∧ ∀ t, t < n → cur[t]? = some (.int .i32 (el A t))
theorem Fresh.lt {w : World} {B g n cap : Nat} {A : List Int} (h : Fresh w B g n cap A) : g < w.heap.size := by
  obtain ⟨c, hb, _, _⟩ := h.row
  exact (Array.getElem?_eq_some_iff.1 hb).1
theorem Fresh.cell {w : World} {B g n cap : Nat} {A : List Int} (h : Fresh w B g n cap A) {t : Nat} (ht : t < n) : w.cell? ⟨g, t, none⟩ = some (.int .i32 (el A t)) := by
  obtain ⟨c, hb, _, hc⟩ := h.row
  simp [World.cell?, hb, hc t ht]
theorem Fresh.frozen {w : World} {B g n cap : Nat} {A : List Int} (h : Fresh w B g n cap A) (t : Nat) : w.frozen? ⟨g, t, none⟩ = false := by
  obtain ⟨c, hb, _, _⟩ := h.row
  simp [World.frozen?, hb]
theorem Fresh.rowAt {w : World} {B g n cap : Nat} {A : List Int} (h : Fresh w B g n cap A) : RowAt w (some ⟨g, 0, none⟩) n A :=
  ⟨h.len, by have := h.fit; have := h.max; omega, h.small, fun _ => ⟨g, 0, rfl, fun t ht => by rw [Nat.zero_add]; exact h.cell ht⟩⟩
theorem Fresh.of_block {w w' : World} {B g n cap : Nat} {A : List Int} (h : Fresh w B g n cap A) (e : w'.heap[g]? = w.heap[g]?) : Fresh w' B g n cap A := by
  obtain ⟨c, hb, hs, hc⟩ := h.row
  exact ⟨h.base, h.len, h.fit, h.max, h.small, c, e.trans hb, hs, hc⟩
theorem Fresh.below {w w' : World} {B g n cap : Nat} {A : List Int} (h : Fresh w B g n cap A) (hb : Below w.heap.size w w') : Fresh w' B g n cap A := h.of_block (hb.block g h.lt)
theorem Fresh.mono {w : World} {B B' g n cap : Nat} {A : List Int} (h : Fresh w B g n cap A) (hB : B' ≤ B) : Fresh w B' g n cap A := ⟨Nat.le_trans hB h.base, h.len, h.fit, h.max, h.small, h.row⟩
theorem Fresh.set {w : World} {B g n cap : Nat} {A : List Int} (h : Fresh w B g n cap A) (i : Nat) (x : Int) (hi : i < n) (hx : -2147483648 ≤ x ∧ x ≤ 2147483647) :
    Fresh (w.setCell ⟨g, i, none⟩ (.int .i32 x)) B g n cap (A.set i x) := by
  obtain ⟨c, hb, hs, hc⟩ := h.row
  refine ⟨h.base, by rw [List.length_set]; exact h.len, h.fit, h.max, h.small.set i hx, c.setIfInBounds i (.int .i32 x), ?_, by simpa using hs, fun t ht => ?_⟩
  · simp [World.setCell, Array.getElem?_modify, hb]
  · rw [Array.getElem?_setIfInBounds, el_set (by rw [h.len]; exact hi)]
    have hf := h.fit
    by_cases e : i = t
    · subst e; rw [if_pos rfl, if_pos (by omega), if_pos rfl]
    · rw [if_neg e, if_neg (fun h => e h.symm)]; exact hc t ht
/-- A place more of a row that is filled from its beginning. -/
theorem Fresh.step {w : World} {B g n cap : Nat} {f : Nat → Int} {k : Nat} (h : Fresh w B g n cap (tab n (fun j => if j < k then f j else 0))) (x : Int) (hk : k < n) (hx : x = f k) (hb : -2147483648 ≤ x ∧ x ≤ 2147483647) :
    Fresh (w.setCell ⟨g, k, none⟩ (.int .i32 x)) B g n cap (tab n (fun j => if j < k + 1 then f j else 0)) := by
  have := h.set k x hk hb
  rwa [tab_step hk hx] at this
theorem Fresh.drewN {w : World} {B g n cap : Nat} {A : List Int} (h : Fresh w B g n cap A) (m : Nat) : Fresh (w.drewN m) B g n cap A := h.below (below_drewN (Below.refl _ _) m)
theorem Fresh.drew {w : World} {B g n cap : Nat} {A : List Int} (h : Fresh w B g n cap A) : Fresh w.drew B g n cap A := h.of_block rfl
theorem Fresh.setOther {w : World} {B g n cap : Nat} {A : List Int} (h : Fresh w B g n cap A) {a : Addr} (ha : g ≠ a.block) (v : Value) : Fresh (w.setCell a v) B g n cap A := h.of_block (Below.heap_setCell _ _ _ _ ha)
/-- What make lays. -/
theorem fresh_made (w : World) (n : Nat) (hn : n ≤ 9223372036854775807) : Fresh (w.alloc (.cells (madeCells #[.int .i32 0] n) 106)) w.heap.size w.heap.size n n (tab n fun _ => 0) := by
  obtain ⟨c, hb, hs, hc⟩ := World.rowIs_made w (.int .i32 0) n 106
  exact ⟨Nat.le_refl _, tab_len _ _, Nat.le_refl _, hn, small_tab fun k _ => by omega, c, hb, hs, fun t ht => by rw [hc t ht, el_tab ht]⟩
/-- A row that an append has grown. -/
theorem fresh_of_owns {w : World} {B n cap : Nat} {ao : Option Addr} {A : List Int} (h : w.ownsRow B 106 1 (.slice ao n cap) n (A.map (Value.int .i32))) (hA : Small A) (hao : ao ≠ none) :
    ∃ g, ao = some ⟨g, 0, none⟩ ∧ Fresh w B g n cap A := by
  obtain ⟨h1, h2⟩ := h
  have hl : A.length = n := by simpa using h1
  rcases h2 with ⟨h3, _⟩ | ⟨g, c, cur, hv, hg, hh, hn, hm, hs, ht⟩
  · simp only [Value.slice.injEq] at h3; exact absurd h3.1 hao
  · simp only [Value.slice.injEq, true_and] at hv
    obtain ⟨rfl, rfl⟩ := hv
    refine ⟨g, rfl, hg, hl, hn, by unfold maxLen at hm; omega, hA, cur, hh, by simpa using hs, fun t htn => ?_⟩
    have e1 : cur[t]? = (cur.toList.take (n * 1))[t]? := by rw [Nat.mul_one, List.getElem?_take, if_pos htn, Array.getElem?_toList]
    rw [e1, ht]
    unfold el
    simp [List.getD_eq_getElem?_getD, List.getElem?_eq_getElem (show t < A.length by omega)]
theorem Fresh.owns {w : World} {B g n cap : Nat} {A : List Int} (h : Fresh w B g n cap A) : w.ownsRow B 106 1 (.slice (some ⟨g, 0, none⟩) n cap) n (A.map (Value.int .i32)) := by
  obtain ⟨c, hb, hs, hc⟩ := h.row
  have hl := h.len
  have hf := h.fit
  refine ⟨by simp [hl], Or.inr ⟨g, cap, c, rfl, h.base, hb, h.fit, by unfold maxLen; exact h.max, by simpa using hs, ?_⟩⟩
  rw [Nat.mul_one]
  apply List.ext_getElem?
  intro t
  by_cases ht : t < n
  · rw [List.getElem?_take, if_pos ht, Array.getElem?_toList, hc t ht]
    unfold el
    simp [List.getD_eq_getElem?_getD, List.getElem?_eq_getElem (show t < A.length by omega)]
  · rw [List.getElem?_take, if_neg ht, List.getElem?_eq_none (by simp; omega)]
theorem wrap_in {x : Int} (h : -9223372036854775808 ≤ x ∧ x ≤ 9223372036854775807) : IntKind.i64.wrap x = x := by
  rw [IntKind.wrap_i64]; omega
/-- A sum that ends at 63 bits. -/
def grow (s x : Int) : Int := if 9223372036854775807 < s + x then 9223372036854775807 else if s + x < -9223372036854775807 then -9223372036854775807 else s + x
theorem grow_bd (s x : Int) : -9223372036854775807 ≤ grow s x ∧ grow s x ≤ 9223372036854775807 := by unfold grow; omega
/-- The sum of the first k products. -/
def dsum (A B : List Int) : Nat → Int
  | 0 => 0
  | k + 1 => grow (dsum A B k) (el A k * el B k)
theorem dsum_zero (A B : List Int) : dsum A B 0 = 0 := rfl
theorem dsum_succ (A B : List Int) (k : Nat) : dsum A B (k + 1) = grow (dsum A B k) (el A k * el B k) := rfl
theorem dsum_bd (A B : List Int) (k : Nat) : -9223372036854775807 ≤ dsum A B k ∧ dsum A B k ≤ 9223372036854775807 := by
  cases k with
  | zero => rw [dsum_zero]; omega
  | succ k => exact grow_bd _ _
def dotN (A B : List Int) (n : Nat) : Int := sat (rnd (dsum A B n) 65536)
theorem dotN_bd (A B : List Int) (n : Nat) : -2147483647 ≤ dotN A B n ∧ dotN A B n ≤ 2147483647 := sat_bd _
theorem dsum_comm (A B : List Int) (k : Nat) : dsum A B k = dsum B A k := by
  induction k with
  | zero => rfl
  | succ k ih => rw [dsum_succ, dsum_succ, ih, Int.mul_comm]
theorem dotN_comm (A B : List Int) (n : Nat) : dotN A B n = dotN B A n := by unfold dotN; rw [dsum_comm]
/-- The place of the first greatest of the first k numbers. -/
def amax (A : List Int) : Nat → Int
  | 0 => -1
  | k + 1 => if amax A k < 0 ∨ el A (amax A k).toNat < el A k then k else amax A k
theorem amax_bd (A : List Int) (k : Nat) : -1 ≤ amax A k ∧ amax A k < k := by
  induction k with
  | zero => show -1 ≤ (-1 : Int) ∧ (-1 : Int) < (0 : Nat); omega
  | succ k ih => unfold amax; split <;> omega
/-- The error's number of two rows that are taken side by side. -/
def fitN (n m : Nat) : Int := if 4096 < n ∨ 4096 < m then 2 else if n ≠ m then 6 else 0
end Go.Proofs.YtcanjlofnpnhkaaGreatDoor

/- Rows that a call makes by append and make, in this program. -/
namespace Go.Proofs.YtcanjlofnpnhkaaGreatDoor
open Go.ChangeShapes Go.WideShapes Go.ChangeAt Go.RowKit
theorem Tryz.infoNum : (Tryz.prog.info? 106).map (fun i => (i.zero, i.size, i.bytes)) = some (some (.int .i32 0), 1, 4) := by kernel_rfl
/-- A slice that may be cut and copied: its row, and that its capacity fits. -/
structure Arg (w : World) (ao : Option Addr) (n ca : Nat) (A : List Int) : Prop where
  row : RowAt w ao n A
  fit : n ≤ ca
  max : ca ≤ 9223372036854775807
  nil : ao = none → ca = 0
  cold : ∀ b o, ao = some ⟨b, o, none⟩ → ∀ t, t < n → w.frozen? ⟨b, o + t, none⟩ = false
theorem frozen_of_block {w w' : World} {b o : Nat} (e : w'.heap[b]? = w.heap[b]?) : w'.frozen? ⟨b, o, none⟩ = w.frozen? ⟨b, o, none⟩ := by
  unfold World.frozen?
  simp only [e]
theorem Fresh.arg {w : World} {B g n cap : Nat} {A : List Int} (h : Fresh w B g n cap A) : Arg w (some ⟨g, 0, none⟩) n cap A := ⟨h.rowAt, h.fit, h.max, (fun h => by cases h), fun b o e t _ => by
  simp only [Option.some.injEq, Addr.mk.injEq, and_true] at e
  obtain ⟨rfl, rfl⟩ := e
  exact h.frozen _⟩
theorem Arg.lt {w : World} {b o n ca : Nat} {A : List Int} (h : Arg w (some ⟨b, o, none⟩) n ca A) (hn : 0 < n) : b < w.heap.size := by
  obtain ⟨b', o', e, hc⟩ := h.row.cells hn
  simp only [Option.some.injEq, Addr.mk.injEq, and_true] at e
  obtain ⟨rfl, rfl⟩ := e
  have := World.block_lt_of_cell? w _ (hc 0 hn)
  simpa using this
theorem Arg.cold_of {w w' : World} {ao : Option Addr} {n ca : Nat} {A : List Int} (h : Arg w ao n ca A) (hb : ∀ b, b < w.heap.size → w'.heap[b]? = w.heap[b]?) : ∀ b o, ao = some ⟨b, o, none⟩ → ∀ t, t < n → w'.frozen? ⟨b, o + t, none⟩ = false := fun b o e t ht => by
  subst e
  rw [frozen_of_block (hb b (h.lt (by omega)))]
  exact h.cold b o rfl t ht
theorem Arg.below {w w' : World} {ao : Option Addr} {n ca : Nat} {A : List Int} (h : Arg w ao n ca A) (hb : Below w.heap.size w w') : Arg w' ao n ca A := ⟨h.row.below hb, h.fit, h.max, h.nil, h.cold_of fun b hl => hb.block b hl⟩
theorem fresh_empty (w : World) : Fresh (w.alloc (.cells #[] 106)) w.heap.size w.heap.size 0 0 [] :=
  ⟨Nat.le_refl _, rfl, Nat.le_refl _, by omega, small_nil, #[], heap_alloc_new _ _, rfl, fun t ht => by omega⟩
/-- append(out, xs...), out a row of the call's own, xs any row. -/
theorem wpList_append_row {w : World} {ops : Array Oper} {rest : List Oper} {o : Oper} {a : Act} {Q : Exit → Act → World → Prop} (hgd : o.guard = none) (s x : Operand)
    (ho : o.op = .call { callee := .builtin .append, args := #[s, x], argTypes := #[35, 35] })
    (B g n cap : Nat) (A : List Int) (hs : a.eval s = .slice (some ⟨g, 0, none⟩) n cap) (hF : Fresh w B g n cap A)
    (ao : Option Addr) (m c : Nat) (X : List Int) (hx : a.eval x = .slice ao m c) (hX : RowAt w ao m X) (hc : ao = none → c = 0)
    (hlen : n + m ≤ 1048576) (hB : B ≤ w.heap.size)
    (h : ∀ g' cap' w', Fresh w' B g' (n + m) cap' (A ++ X) → Below B w w' → wpList Tryz.prog ops Q rest (a.put o.dst (.slice (some ⟨g', 0, none⟩) (n + m) cap')) w') : wpList Tryz.prog ops Q (o :: rest) a w := by
  obtain ⟨i0, hi, hz0, hz1, hz2⟩ := info_parts Tryz.infoNum
  cases ao with
  | none =>
    have hm : m = 0 := by
      rcases Nat.eq_zero_or_pos m with h0 | h0
      · exact h0
      · obtain ⟨b, o, e, _⟩ := hX.cells h0; cases e
    subst hm
    have hc0 := hc rfl
    subst hc0
    obtain rfl : X = [] := List.length_eq_zero_iff.1 hX.len
    refine wpList_append_own_none hgd s x 35 ho B 106 i0 1 Tryz.underlying35 hi _ n _ hs hF.owns hx ?_
    have := h g cap w (by simpa using hF) (Below.refl _ _)
    simpa using this
  | some ad =>
    refine wpList_append_own w hgd s x 35 ho B 106 i0 (.int .i32 0) 1 4 Tryz.underlying35 hi hz0 hz1 hz2 rfl (by decide) _ n _ hs hF.owns ad m c (X.map (Value.int .i32)) hx (by simp [hX.len]) ?_ (ints_oneCell _ _) (by unfold maxLen; omega) (by omega) hB ?_
    · intro j u hj
      have hjm : j < m := by
        have := (List.getElem?_eq_some_iff.1 hj).1
        simpa [hX.len] using this
      obtain ⟨b, o', e, hcell⟩ := hX.cells (by omega)
      simp only [Option.some.injEq] at e
      subst e
      have e2 : (Addr.mk b o' none).add j = ⟨b, o' + j, none⟩ := by simp [Addr.add]
      rw [e2, hcell j hjm]
      have hl := hX.len
      rw [List.getElem?_map, List.getElem?_eq_getElem (show j < X.length by omega)] at hj
      simp only [Option.map_some, Option.some.injEq] at hj
      rw [← hj]
      unfold el
      simp [List.getD_eq_getElem?_getD, List.getElem?_eq_getElem (show j < X.length by omega)]
    · intro v' w' hown hg hnil
      have hb : Below B w w' := (Below.refl _ _).grown hg hB (fun k hk => by simp [Value.ownBlock] at hk; subst hk; exact hF.base)
      obtain ⟨h1, h2⟩ := hown
      rcases h2 with ⟨h3, _⟩ | ⟨g', c', cur, hv, hr⟩
      · have := (hnil.1 h3).1; cases this
      · subst hv
        rw [← List.map_append] at h1 hr
        obtain ⟨g2, e2, F⟩ := fresh_of_owns (w := w') (B := B) (n := n + m) (cap := c') (ao := some ⟨g', 0, none⟩) (A := A ++ X) ⟨h1, Or.inr ⟨g', c', cur, rfl, hr⟩⟩ (hF.small.append hX.small) (by simp)
        simp only [Option.some.injEq, Addr.mk.injEq, and_true] at e2
        subst e2
        exact h g' c' w' F hb
/-- A row of one number, laid to be appended. -/
theorem rowAt_one (w : World) (x : Int) (hx : -2147483648 ≤ x ∧ x ≤ 2147483647) : RowAt (w.alloc (.cells #[.int .i32 x] 106)) (some ⟨w.heap.size, 0, none⟩) 1 [x] := by
  refine ⟨rfl, by omega, fun y hy => by simp at hy; subst hy; exact hx, fun _ => ⟨_, _, rfl, fun t ht => ?_⟩⟩
  obtain rfl : t = 0 := by omega
  have e := heap_alloc_new w (.cells #[.int .i32 x] 106)
  unfold World.cell?
  simp only [Nat.add_zero, e]
  rfl
/-- A row that is written out. -/
theorem fresh_lit (w : World) (A : List Int) (hA : Small A) (hl : A.length ≤ 1048576) : Fresh (w.alloc (.cells (A.map (Value.int .i32)).toArray 106)) w.heap.size w.heap.size A.length A.length A :=
  ⟨Nat.le_refl _, rfl, Nat.le_refl _, by omega, hA, _, heap_alloc_new _ _, by simp, fun t ht => by
    unfold el
    simp [List.getD_eq_getElem?_getD, List.getElem?_eq_getElem ht]⟩
end Go.Proofs.YtcanjlofnpnhkaaGreatDoor

/- Rows of rows in memory: what a slice of slices reads as. -/
namespace Go.Proofs.YtcanjlofnpnhkaaGreatDoor
open Go.ChangeShapes Go.WideShapes Go.ChangeAt Go.RowKit
/-- Row t of several; beyond their end: none. -/
def rowOf (R : List (List Int)) (t : Nat) : List Int := R.getD t []
/-- In w the slice that begins at ao, of n rows, reads as R. -/
structure GridAt (w : World) (ao : Option Addr) (n : Nat) (R : List (List Int)) : Prop where
  len : R.length = n
  max : n ≤ 9223372036854775807
  cells : 0 < n → ∃ b o, ao = some ⟨b, o, none⟩ ∧ ∀ t, t < n → ∃ ro m c, w.cell? ⟨b, o + t, none⟩ = some (.slice ro m c) ∧ Arg w ro m c (rowOf R t)
theorem GridAt.nil (w : World) (ao : Option Addr) : GridAt w ao 0 [] := ⟨rfl, by omega, fun h => by omega⟩
theorem GridAt.below {w w' : World} {ao : Option Addr} {n : Nat} {R : List (List Int)} (h : GridAt w ao n R) (hb : Below w.heap.size w w') : GridAt w' ao n R := by
  refine ⟨h.len, h.max, fun hn => ?_⟩
  obtain ⟨b, o, e, hc⟩ := h.cells hn
  refine ⟨b, o, e, fun t ht => ?_⟩
  obtain ⟨ro, m, c, h1, h2⟩ := hc t ht
  have hlt : b < w.heap.size := by simpa using World.block_lt_of_cell? w _ h1
  exact ⟨ro, m, c, by rw [hb.cell (by exact hlt)]; exact h1, h2.below hb⟩
theorem GridAt.drewN {w : World} {ao : Option Addr} {n : Nat} {R : List (List Int)} (h : GridAt w ao n R) (m : Nat) : GridAt (w.drewN m) ao n R := h.below (below_drewN (Below.refl _ _) m)
/-- Are the first k rows as long as the first? -/
def alike (R : List (List Int)) : Nat → Bool
  | 0 => true
  | k + 1 => alike R k && ((rowOf R k).length == (rowOf R 0).length)
theorem alike_len {R : List (List Int)} {n : Nat} (h : alike R n = true) {t : Nat} (ht : t < n) : (rowOf R t).length = (rowOf R 0).length := by
  induction n with
  | zero => omega
  | succ n ih =>
    unfold alike at h
    rw [Bool.and_eq_true] at h
    rcases Nat.lt_or_ge t n with h1 | h1
    · exact ih h.1 h1
    · obtain rfl : t = n := by omega
      simpa using h.2
theorem alike_not {R : List (List Int)} {n t : Nat} (ht : t < n) (h : (rowOf R t).length ≠ (rowOf R 0).length) : alike R n = false := by
  cases e : alike R n with
  | false => rfl
  | true => exact absurd (alike_len e ht) h
/-- The error's number of a mix. -/
def mixedN (n : Nat) (R : List (List Int)) : Int := if n = 0 ∨ R.length = 0 then 8 else if 4096 < n then 2 else if R.length ≠ n then 6 else if alike R n = true then 0 else 6
/-- Column j of n rows. -/
def colOf (R : List (List Int)) (n j : Nat) : List Int := tab n fun i => el (rowOf R i) j
theorem mixedN_ok {n : Nat} {R : List (List Int)} (h : mixedN n R = 0) : 1 ≤ n ∧ n ≤ 4096 ∧ R.length = n ∧ ∀ t, t < n → (rowOf R t).length = (rowOf R 0).length := by
  unfold mixedN at h
  split at h
  · omega
  · split at h
    · omega
    · split at h
      · omega
      · split at h
        · rename_i h1 h2 h3 h4
          exact ⟨by omega, by omega, by omega, fun t ht => alike_len h4 ht⟩
        · omega
end Go.Proofs.YtcanjlofnpnhkaaGreatDoor

/- What each call of package fix answers, and that the awake check of the laws of layer 1 is true, of every input in range. -/
namespace Go.Proofs.YtcanjlofnpnhkaaGreatDoor
open Go.ChangeShapes Go.WideShapes Go.ChangeAt Go.RowKit
open Go.Lib (byteCells)
theorem sat_any (x : Int) (w : World) (h1 : -9223372036854775808 ≤ x) (h2 : x ≤ 9223372036854775807) :
   Calls Tryz.prog 71 #[.int .i64 x] w fun e w' => e = .returned (.int .i32 (sat x)) ∧ w' = w := by
  go_enter Tryz.func71, Tryz.ntmps71
  go_wp2
  all_goals
    go_ret
    exact ⟨ret_int (by unfold sat; omega), rfl⟩
theorem add_any (x y : Int) (w : World) (h1 : -2147483648 ≤ x) (h2 : x ≤ 2147483647) (h3 : -2147483648 ≤ y) (h4 : y ≤ 2147483647) :
   Calls Tryz.prog 70 #[.int .i32 x, .int .i32 y] w fun e w' => e = .returned (.int .i32 (sat (x + y))) ∧ w' = w := by
  go_enter Tryz.func70, Tryz.ntmps70
  go_wp2_with (go_at_call 71; refine (sat_any _ _ (by omega) (by omega)).mono ?_; rintro e w' ⟨rfl, rfl⟩)
  go_ret
  exact ⟨rfl, rfl⟩
theorem sub_any (x y : Int) (w : World) (h1 : -2147483648 ≤ x) (h2 : x ≤ 2147483647) (h3 : -2147483648 ≤ y) (h4 : y ≤ 2147483647) :
   Calls Tryz.prog 106 #[.int .i32 x, .int .i32 y] w fun e w' => e = .returned (.int .i32 (sat (x - y))) ∧ w' = w := by
  go_enter Tryz.func106, Tryz.ntmps106
  go_wp2_with (go_at_call 71; refine (sat_any _ _ (by omega) (by omega)).mono ?_; rintro e w' ⟨rfl, rfl⟩)
  go_ret
  exact ⟨rfl, rfl⟩
theorem of_any (x : Int) (w : World) (h1 : -9223372036854775808 ≤ x) (h2 : x ≤ 9223372036854775807) :
   Calls Tryz.prog 101 #[.int .i64 x] w fun e w' => e = .returned (.int .i32 (sat (clip x * 65536))) ∧ w' = w := by
  go_enter Tryz.func101, Tryz.ntmps101
  go_wp2_with (go_at_call 71; refine (sat_any _ _ (by omega) (by omega)).mono ?_; rintro e w' ⟨rfl, rfl⟩)
  all_goals
    go_ret
    exact ⟨ret_int (by unfold clip; congr 1; omega), rfl⟩
theorem round_any (x d : Int) (w : World) (h1 : -9223372036854775808 ≤ x) (h2 : x ≤ 9223372036854775807) (h3 : 1 ≤ d) (h4 : d ≤ 9223372036854775807) :
   Calls Tryz.prog 100 #[.int .i64 x, .int .i64 d] w fun e w' => e = .returned (.int .i64 (rnd x d)) ∧ ∃ n, w' = w.drewN n := by
  have hd : d ≠ 0 := by omega
  by_cases hx : 0 ≤ x
  · obtain ⟨e, r0, r1, q0, q1⟩ := parts_pos x d hx h3
    by_cases hr : 0 < x % d
    · by_cases hh : d - x % d ≤ x % d
      · have ha := rnd_pos_up x d _ _ h3 e hx r1 hh
        have HA : Hid (rnd x d = x / d + 1) := ha
        have hq : x / d + 1 ≤ 9223372036854775807 := by have := Int.mul_le_mul_of_nonneg_left (show 2 ≤ d by omega) q0; omega
        clear ha e
        go_enter Tryz.func100, Tryz.ntmps100
        go_wp2_with fail
        go_quiet (fail)
        go_wp2
        go_ret
        exact ⟨ret_int (by rw [HA.out]), _, rfl⟩
      · have ha := rnd_pos_dn x d _ _ h3 e hx r0 (by omega)
        have HA : Hid (rnd x d = x / d) := ha
        clear ha e
        go_enter Tryz.func100, Tryz.ntmps100
        go_wp2_with fail
        go_quiet (fail)
        go_wp2
        go_ret
        exact ⟨ret_int (by rw [HA.out]), _, rfl⟩
    · have ha := rnd_pos_dn x d _ _ h3 e hx r0 (by omega)
      have HA : Hid (rnd x d = x / d) := ha
      clear ha e
      go_enter Tryz.func100, Tryz.ntmps100
      go_wp2_with fail
      go_quiet (fail)
      go_wp2
      go_ret
      exact ⟨ret_int (by rw [HA.out]), _, rfl⟩
  · obtain ⟨q, r, eq, er, e, r0, r1, q0, q1⟩ := parts_neg x d (by omega) h3
    by_cases hr : r < 0
    · by_cases hh : d + r ≤ -r
      · have ha := rnd_neg_up x d _ _ h3 e (by omega) r1 hh
        have HA : Hid (rnd x d = q - 1) := ha
        have hq : -9223372036854775808 ≤ q - 1 := by have := Int.mul_le_mul_of_nonneg_left (show 2 ≤ d by omega) (show 0 ≤ -q by omega); omega
        clear ha e
        go_enter Tryz.func100, Tryz.ntmps100
        go_wp2_with fail
        go_quiet (fail)
        go_wp2
        go_ret
        exact ⟨ret_int (by rw [HA.out]), _, rfl⟩
      · have ha := rnd_neg_dn x d _ _ h3 e (by omega) r0 (by omega)
        have HA : Hid (rnd x d = q) := ha
        clear ha e
        go_enter Tryz.func100, Tryz.ntmps100
        go_wp2_with fail
        go_quiet (fail)
        go_wp2
        go_ret
        exact ⟨ret_int (by rw [HA.out]), _, rfl⟩
    · have ha := rnd_neg_dn x d _ _ h3 e (by omega) r0 (by omega)
      have HA : Hid (rnd x d = q) := ha
      clear ha e
      go_enter Tryz.func100, Tryz.ntmps100
      go_wp2_with fail
      go_quiet (fail)
      go_wp2
      go_ret
      exact ⟨ret_int (by rw [HA.out]), _, rfl⟩

theorem mul_any (x y : Int) (w : World) (h1 : -2147483648 ≤ x) (h2 : x ≤ 2147483647) (h3 : -2147483648 ≤ y) (h4 : y ≤ 2147483647) :
   Calls Tryz.prog 89 #[.int .i32 x, .int .i32 y] w fun e w' => e = .returned (.int .i32 (sat (rnd (x * y) 65536))) ∧ ∃ n, w' = w.drewN n := by
  have hp := prod_bd (A := 2147483648) (B := 2147483648) (a := x) (b := y) h1 (by omega) h3 (by omega)
  have hr := rnd_bd (x * y) 65536 (2147483648 * 32768) (by omega) (by omega) (by omega)
  go_enter Tryz.func89, Tryz.ntmps89
  go_wp2_with (first | (go_at_call 100; refine (round_any _ _ _ (by omega) (by omega) (by omega) (by omega)).mono ?_; rintro e w' ⟨rfl, n, rfl⟩) | (go_at_call 71; refine (sat_any _ _ (by omega) (by omega)).mono ?_; rintro e w' ⟨rfl, rfl⟩))
  go_ret
  exact ⟨rfl, _, rfl⟩
def lenOf : Value → Nat | .slice _ n _ => n | _ => 0
theorem lenOf_owns {w : World} {base : Nat} {e : TypeId} {size : Nat} {v : Value} {n : Nat} {xs : List Value} (h : w.ownsRow base e size v n xs) : lenOf v = n := by
  rcases h.2 with ⟨rfl, rfl⟩ | ⟨g, cap, cur, rfl, _⟩ <;> rfl
theorem Tryz.info5 : (Tryz.prog.info? 5).map (fun i => (i.zero, i.size, i.bytes)) = some (some (.int .u8 0), 1, 1) := by kernel_rfl
end Go.Proofs.YtcanjlofnpnhkaaGreatDoor

/- What each call of package vec answers: sums of products, and that they change nothing. -/
namespace Go.Proofs.YtcanjlofnpnhkaaGreatDoor
open Go.ChangeShapes Go.WideShapes Go.ChangeAt Go.RowKit
theorem grow_any (s x : Int) (w : World) (h1 : -9223372036854775807 ≤ s) (h2 : s ≤ 9223372036854775807) (h3 : -9223372036854775807 ≤ x) (h4 : x ≤ 9223372036854775807) :
   Calls Tryz.prog 98 #[.int .i64 s, .int .i64 x] w fun e w' => e = .returned (.int .i64 (grow s x)) ∧ w' = w := by
  by_cases ho : 9223372036854775807 < s + x
  · have HG : Hid (grow s x = 9223372036854775807) := by show _ = _; unfold grow; rw [if_pos ho]
    have hw : wrap64 (s + x) < 0 := by unfold wrap64; omega
    go_enter Tryz.func98, Tryz.ntmps98
    go_wp2
    go_ret
    exact ⟨ret_int HG.out.symm, rfl⟩
  by_cases hu : s + x < -9223372036854775808
  · have HG : Hid (grow s x = -9223372036854775807) := by show _ = _; unfold grow; omega
    have hw : 0 ≤ wrap64 (s + x) := by unfold wrap64; omega
    go_enter Tryz.func98, Tryz.ntmps98
    go_wp2
    go_ret
    exact ⟨ret_int HG.out.symm, rfl⟩
  go_enter Tryz.func98, Tryz.ntmps98
  go_wp2
  all_goals
    go_ret
    exact ⟨ret_int (by unfold grow; omega), rfl⟩
theorem checkPair_any (ao bo : Option Addr) (n m ca cb : Nat) (w : World) (hn : n ≤ 9223372036854775807) (hm : m ≤ 9223372036854775807) :
   Calls Tryz.prog 95 #[.slice ao n ca, .slice bo m cb] w fun e w' => e = .returned (.int .i64 (fitN n m)) ∧ w' = w := by
  by_cases c1 : 4096 < n
  · have HF : Hid (fitN n m = 2) := by show _ = _; unfold fitN; rw [if_pos (Or.inl c1)]
    go_enter Tryz.func95, Tryz.ntmps95
    go_wp2
    go_ret
    exact ⟨ret_int HF.out.symm, rfl⟩
  by_cases c2 : 4096 < m
  · have HF : Hid (fitN n m = 2) := by show _ = _; unfold fitN; rw [if_pos (Or.inr c2)]
    go_enter Tryz.func95, Tryz.ntmps95
    go_wp2
    go_ret
    exact ⟨ret_int HF.out.symm, rfl⟩
  by_cases c3 : n = m
  · subst c3
    have HF : Hid (fitN n n = 0) := by show _ = _; unfold fitN; rw [if_neg (by omega), if_neg (by simp)]
    go_enter Tryz.func95, Tryz.ntmps95
    go_wp2
    go_ret
    exact ⟨ret_int HF.out.symm, rfl⟩
  · have HF : Hid (fitN n m = 6) := by show _ = _; unfold fitN; rw [if_neg (by omega), if_pos c3]
    go_enter Tryz.func95, Tryz.ntmps95
    go_wp2
    go_ret
    exact ⟨ret_int HF.out.symm, rfl⟩
set_option maxHeartbeats 800000 in
theorem dot_any (ao bo : Option Addr) (n ca cb : Nat) (A B : List Int) (w : World) (hA : RowAt w ao n A) (hB : RowAt w bo n B) (h4 : n ≤ 4096) :
   Calls Tryz.prog 96 #[.slice ao n ca, .slice bo n cb] w fun e w' => e = .returned (.tuple #[.int .i32 (dotN A B n), .int .i64 0]) ∧ ∃ m, w' = w.drewN m := by
  have hf : fitN n n = 0 := by unfold fitN; rw [if_neg (by omega), if_neg (by simp)]
  go_enter Tryz.func96, Tryz.ntmps96
  go_wp2_with (go_at_call 95; refine (checkPair_any _ _ _ _ _ _ _ (by omega) (by omega)).mono ?_; rintro e w ⟨rfl, rfl⟩; rw [hf])
  clear hf
  go_loopg [7, 17] n (fun r s i wr => ∃ k : Nat, k ≤ n ∧ r = n - k ∧ i = .int .i64 k ∧ s = .int .i64 (dsum A B k) ∧ ∃ m, wr = w.drewN m)
  case atStart => exact ⟨0, by omega, by omega, rfl, rfl, 0, rfl⟩
  case round =>
    obtain ⟨k, hk, rfl, rfl, rfl, m0, hw0⟩ := hrel
    replace hA : RowAt wr ao n A := hw0 ▸ hA.drewN m0
    replace hB : RowAt wr bo n B := hw0 ▸ hB.drewN m0
    have HW : Hid (wr = w.drewN m0) := hw0
    clear hw0
    by_cases hlt : k < n
    · obtain ⟨b, o, rfl, hc⟩ := hA.cells (by omega)
      obtain ⟨b', o', rfl, hc'⟩ := hB.cells (by omega)
      have e1 : Hid (dsum A B (k + 1) = grow (dsum A B k) (el A k * el B k)) := dsum_succ A B k
      have b1 := dsum_bd A B k
      have b2 := hA.small.el k
      have b3 := hB.small.el k
      have c1 := hc k hlt
      have c2 := hc' k hlt
      have b4 := prod_bd (A := 2147483648) (B := 2147483648) (a := el A k) (b := el B k) b2.1 (by omega) b3.1 (by omega)
      generalize dsum A B k = s at *
      generalize el A k = x at *
      generalize el B k = y at *
      have w1 : IntKind.i64.wrap x = x := wrap_in (by omega)
      have w2 : IntKind.i64.wrap y = y := wrap_in (by omega)
      have w3 : IntKind.i64.wrap (x * y) = x * y := wrap_in (by omega)
      clear hA hB hc hc'
      go_wp2_with fail
      go_quiet (first | (go_at_call 98; exact Calls.quiet_of_same (grow_any _ _ _ (by omega) (by omega) (by omega) (by omega))))
      go_wp2
      go_roundg (n - (k + 1))
      case measure => omega
      case rel => exact ⟨k + 1, by omega, rfl, by go_num, by rw [e1.out], m0 + nq, by rw [HW.out, World.drewN_drewN]⟩
    · obtain rfl : k = n := by omega
      have b1 := dsum_bd A B k
      have b2 := rnd_bd (dsum A B k) 65536 140737488355328 (by omega) (by omega) (by omega)
      go_wp2_with (first | (go_at_call 100; refine (round_any _ _ _ (by omega) (by omega) (by omega) (by omega)).mono ?_; rintro e w' ⟨rfl, n1, rfl⟩) | (go_at_call 71; refine (sat_any _ _ (by omega) (by omega)).mono ?_; rintro e w' ⟨rfl, rfl⟩))
      go_ret2
      exact ⟨rfl, m0 + n1, by rw [HW.out, World.drewN_drewN]⟩
theorem dot_bad (ao bo : Option Addr) (n m ca cb : Nat) (w : World) (hn : n ≤ 9223372036854775807) (hm : m ≤ 9223372036854775807) (hf : fitN n m ≠ 0) :
   Calls Tryz.prog 96 #[.slice ao n ca, .slice bo m cb] w fun e w' => e = .returned (.tuple #[.int .i32 0, .int .i64 (fitN n m)]) ∧ w' = w := by
  have hf' : (fitN n m == 0) = false := by simpa using hf
  generalize hq : fitN n m = q at *
  go_enter Tryz.func96, Tryz.ntmps96
  go_wp2_with (go_at_call 95; refine (checkPair_any _ _ _ _ _ _ _ hn hm).mono ?_; rintro e w ⟨rfl, rfl⟩; rw [hq])
  go_ret2
  exact ⟨rfl, rfl⟩
set_option maxHeartbeats 800000 in
theorem rise_any (ao : Option Addr) (n ca : Nat) (A : List Int) (w : World) (hA : RowAt w ao n A) (hn : n ≤ 1048576) :
   Calls Tryz.prog 75 #[.slice ao n ca] w fun e w' => ∃ g, e = .returned (.slice (some ⟨g, 0, none⟩) n n) ∧ Fresh w' w.heap.size g n n (tab n fun j => max (el A j) 0) ∧ Below w.heap.size w w' := by
  have hmk := run_make_row' (P := Tryz.prog) 35 106 (.int .i32 0) 4 Tryz.underlying35 Tryz.infoNum rfl .i64 .i64 n (by omega) (by omega)
  have F0 := fresh_made w n (by omega)
  have B0 : Below w.heap.size w (w.alloc (.cells (madeCells #[.int .i32 0] n) 106)) := (Below.refl _ _).alloc (Nat.le_refl _) _
  go_enter Tryz.func75, Tryz.ntmps75
  go_wp2
  clear hmk
  generalize w.alloc (.cells (madeCells #[.int .i32 0] n) 106) = w0 at *
  go_loopg [11] n (fun r i wr => ∃ k : Nat, k ≤ n ∧ r = n - k ∧ i = .int .i64 k ∧ Fresh wr w.heap.size w.heap.size n n (tab n fun j => if j < k then max (el A j) 0 else 0) ∧ Below w.heap.size w wr)
  case atStart => exact ⟨0, by omega, by omega, rfl, by rw [tab_start]; exact F0, B0⟩
  case round =>
    obtain ⟨k, hk, rfl, rfl, F1, B1⟩ := hrel
    clear F0 B0
    by_cases hlt : k < n
    · obtain ⟨b, o, rfl, hc⟩ := (hA.below B1).cells (by omega)
      have b2 := hA.small.el k
      have c1 := hc k hlt
      have f1 := F1.frozen k
      have f2 := F1.cell hlt
      have b3 := sat_bd (el A k)
      clear hA hc
      go_wp2_with (go_at_call 71; refine (sat_any _ _ (by omega) (by omega)).mono ?_; rintro e w' ⟨rfl, rfl⟩)
      all_goals
        go_roundg (n - (k + 1))
        case measure => omega
        case rel => exact ⟨k + 1, by omega, rfl, by go_num, F1.step _ hlt (by unfold sat at *; omega) (by omega), B1.setCell (Nat.le_refl _) _⟩
    · obtain rfl : k = n := by omega
      go_wp2
      go_ret
      exact ⟨_, rfl, by rw [← tab_done]; exact F1, B1⟩
theorem add_bad (ao bo : Option Addr) (n m ca cb : Nat) (w : World) (hn : n ≤ 9223372036854775807) (hm : m ≤ 9223372036854775807) (hf : fitN n m ≠ 0) :
   Calls Tryz.prog 85 #[.slice ao n ca, .slice bo m cb] w fun e w' => e = .returned (.tuple #[.slice none 0 0, .int .i64 (fitN n m)]) ∧ w' = w := by
  have hf' : (fitN n m == 0) = false := by simpa using hf
  generalize hq : fitN n m = q at *
  go_enter Tryz.func85, Tryz.ntmps85
  go_wp2_with (go_at_call 95; refine (checkPair_any _ _ _ _ _ _ _ hn hm).mono ?_; rintro e w ⟨rfl, rfl⟩; rw [hq])
  go_ret2
  exact ⟨rfl, rfl⟩
set_option maxHeartbeats 1600000 in
theorem vadd_any (ao bo : Option Addr) (n ca cb : Nat) (A B : List Int) (w : World) (hA : RowAt w ao n A) (hB : RowAt w bo n B) (hn : n ≤ 4096) :
   Calls Tryz.prog 85 #[.slice ao n ca, .slice bo n cb] w fun e w' => ∃ g, e = .returned (.tuple #[.slice (some ⟨g, 0, none⟩) n n, .int .i64 0]) ∧ Fresh w' w.heap.size g n n (tab n fun j => addN (el A j) (el B j)) ∧ Below w.heap.size w w' := by
  have hf : fitN n n = 0 := by unfold fitN; rw [if_neg (by omega), if_neg (by simp)]
  have hmk := run_make_row' (P := Tryz.prog) 35 106 (.int .i32 0) 4 Tryz.underlying35 Tryz.infoNum rfl .i64 .i64 n (by omega) (by omega)
  have F0 := fresh_made w n (by omega)
  have B0 : Below w.heap.size w (w.alloc (.cells (madeCells #[.int .i32 0] n) 106)) := (Below.refl _ _).alloc (Nat.le_refl _) _
  go_enter Tryz.func85, Tryz.ntmps85
  go_wp2_with (go_at_call 95; refine (checkPair_any _ _ _ _ _ _ _ (by omega) (by omega)).mono ?_; rintro e w ⟨rfl, rfl⟩; rw [hf])
  clear hmk hf
  generalize w.alloc (.cells (madeCells #[.int .i32 0] n) 106) = w0 at *
  go_loopg [20] n (fun r i wr => ∃ k : Nat, k ≤ n ∧ r = n - k ∧ i = .int .i64 k ∧ Fresh wr w.heap.size w.heap.size n n (tab n fun j => if j < k then addN (el A j) (el B j) else 0) ∧ Below w.heap.size w wr)
  case atStart => exact ⟨0, by omega, by omega, rfl, by rw [tab_start]; exact F0, B0⟩
  case round =>
    obtain ⟨k, hk, rfl, rfl, F1, B1⟩ := hrel
    clear F0 B0
    by_cases hlt : k < n
    · obtain ⟨b, o, rfl, hc⟩ := (hA.below B1).cells (by omega)
      obtain ⟨b', o', rfl, hc'⟩ := (hB.below B1).cells (by omega)
      have b2 := hA.small.el k
      have b4 := hB.small.el k
      have c1 := hc k hlt
      have c2 := hc' k hlt
      have f1 := F1.frozen k
      have f2 := F1.cell hlt
      have HM : Hid (addN (el A k) (el B k) = sat (el A k + el B k)) := rfl
      have b3 := addN_bd (el A k) (el B k)
      clear hA hc hB hc'
      go_wp2_with fail
      go_region_with (go_at_call 70; refine (add_any _ _ _ (by omega) (by omega) (by omega) (by omega)).mono ?_; rintro e w' ⟨rfl, rfl⟩; rw [← HM.out])
      all_goals
        go_wp2
        go_roundg (n - (k + 1))
        case measure => omega
        case rel => exact ⟨k + 1, by omega, rfl, by go_num, (F1.step _ hlt rfl (by omega)).drew, (B1.setCell (p := ⟨w.heap.size, k, none⟩) (Nat.le_refl _) _).drew⟩
    · obtain rfl : k = n := by omega
      go_wp2
      go_ret2
      exact ⟨_, rfl, by rw [← tab_done]; exact F1, B1⟩
end Go.Proofs.YtcanjlofnpnhkaaGreatDoor

/- Mixes of rows: their errors, and what comes out. -/
namespace Go.Proofs.YtcanjlofnpnhkaaGreatDoor
open Go.ChangeShapes Go.WideShapes Go.ChangeAt Go.RowKit
set_option maxHeartbeats 800000 in
theorem checkMix_any (ao bo : Option Addr) (n m ca cb : Nat) (R : List (List Int)) (w : World) (hn : n ≤ 9223372036854775807) (hR : GridAt w bo m R) :
   Calls Tryz.prog 104 #[.slice ao n ca, .slice bo m cb] w fun e w' => e = .returned (.int .i64 (mixedN n R)) ∧ w' = w := by
  have hm := hR.max
  have hl := hR.len
  by_cases c1 : n = 0
  · subst c1
    have HF : Hid (mixedN 0 R = 8) := by show _ = _; unfold mixedN; rw [if_pos (Or.inl rfl)]
    go_enter Tryz.func104, Tryz.ntmps104
    go_wp2
    go_ret
    exact ⟨ret_int HF.out.symm, rfl⟩
  have z1 : ((n : Int) == 0) = false := by simp; omega
  by_cases c2 : m = 0
  · subst c2
    have HF : Hid (mixedN n R = 8) := by show _ = _; unfold mixedN; rw [if_pos (Or.inr hl)]
    clear hl
    go_enter Tryz.func104, Tryz.ntmps104
    go_wp2
    go_ret
    exact ⟨ret_int HF.out.symm, rfl⟩
  have z2 : ((m : Int) == 0) = false := by simp; omega
  by_cases c3 : 4096 < n
  · have HF : Hid (mixedN n R = 2) := by show _ = _; unfold mixedN; rw [if_neg (by omega), if_pos c3]
    clear hl
    go_enter Tryz.func104, Tryz.ntmps104
    go_wp2
    go_ret
    exact ⟨ret_int HF.out.symm, rfl⟩
  rcases Decidable.em (m = n) with rfl | c4
  · have HF : Hid (mixedN m R = if alike R m = true then 0 else 6) := by show _ = _; unfold mixedN; rw [if_neg (by omega), if_neg c3, if_neg (by omega)]
    clear hl
    obtain ⟨b, o, rfl, hc⟩ := hR.cells (by omega)
    obtain ⟨r0, m0, k0, q0, A0⟩ := hc 0 (by omega)
    rw [Nat.add_zero] at q0
    have l0 := A0.row.len
    have x0 := A0.row.max
    go_enter Tryz.func104, Tryz.ntmps104
    go_wp2
    go_loopg [25] m (fun r i wr => ∃ k : Nat, k ≤ m ∧ r = m - k ∧ i = .int .i64 k ∧ alike R k = true ∧ wr = w)
    case atStart => exact ⟨0, by omega, by omega, rfl, rfl, rfl⟩
    case round =>
      obtain ⟨k, hk, rfl, rfl, hal, rfl⟩ := hrel
      by_cases hlt : k < m
      · obtain ⟨r1, m1, k1, q1, A1⟩ := hc k hlt
        have l1 := A1.row.len
        have x1 := A1.row.max
        rcases Decidable.em (m1 = m0) with rfl | hne
        · have HA : Hid (alike R (k + 1) = true) := by show _ = _; unfold alike; rw [hal, l1, l0]; simp
          clear hR hc A0 A1 hal l0 l1
          go_wp2
          go_roundg (m - (k + 1))
          case measure => omega
          case rel => exact ⟨k + 1, by omega, rfl, by go_num, HA.out, rfl⟩
        · have HA : Hid (mixedN m R = 6) := by show _ = _; rw [HF.out, alike_not hlt (by omega)]; rfl
          have z3 : ((m1 : Int) == (m0 : Int)) = false := by simp; omega
          clear hR hc A0 A1 hal l0 l1 HF
          go_wp2
          go_ret
          exact ⟨ret_int HA.out.symm, rfl⟩
      · obtain rfl : k = m := by omega
        have HA : Hid (mixedN k R = 0) := by show _ = _; rw [HF.out, hal]; rfl
        clear hR hc A0 hal l0 HF
        go_wp2
        go_ret
        exact ⟨ret_int HA.out.symm, rfl⟩
  · have HF : Hid (mixedN n R = 6) := by show _ = _; unfold mixedN; rw [if_neg (by omega), if_neg c3, if_pos (by omega)]
    have z3 : ((m : Int) == (n : Int)) = false := by simp; omega
    clear hl
    go_enter Tryz.func104, Tryz.ntmps104
    go_wp2
    go_ret
    exact ⟨ret_int HF.out.symm, rfl⟩
theorem mix_bad (ao bo : Option Addr) (n m ca cb : Nat) (R : List (List Int)) (w : World) (hn : n ≤ 9223372036854775807) (hR : GridAt w bo m R) (hf : mixedN n R ≠ 0) :
   Calls Tryz.prog 94 #[.slice ao n ca, .slice bo m cb] w fun e w' => e = .returned (.tuple #[.slice none 0 0, .int .i64 (mixedN n R)]) ∧ w' = w := by
  have hf' : (mixedN n R == 0) = false := by simpa using hf
  generalize hq : mixedN n R = q at *
  go_enter Tryz.func94, Tryz.ntmps94
  go_wp2_with (go_at_call 104; refine (checkMix_any _ _ _ _ _ _ _ _ hn hR).mono ?_; rintro e w ⟨rfl, rfl⟩; rw [hq])
  go_ret2
  exact ⟨rfl, rfl⟩
set_option maxHeartbeats 1600000 in
theorem mix_any (ao bo : Option Addr) (n m ca cb : Nat) (A : List Int) (R : List (List Int)) (w : World) (hA : RowAt w ao n A) (hR : GridAt w bo m R) (hf : mixedN n R = 0) (hc4 : (rowOf R 0).length ≤ 4096) :
   Calls Tryz.prog 94 #[.slice ao n ca, .slice bo m cb] w fun e w' => ∃ g, e = .returned (.tuple #[.slice (some ⟨g, 0, none⟩) (rowOf R 0).length (rowOf R 0).length, .int .i64 0]) ∧ Fresh w' w.heap.size g (rowOf R 0).length (rowOf R 0).length (tab (rowOf R 0).length fun j => dotN A (colOf R n j) n) ∧ Below w.heap.size w w' := by
  obtain ⟨h1, h4, hl, hal⟩ := mixedN_ok hf
  obtain rfl : m = n := by rw [← hl]; exact hR.len.symm
  obtain ⟨b, o, rfl, hc⟩ := hR.cells (by omega)
  obtain ⟨r0, m0, k0, q0, A0⟩ := hc 0 (by omega)
  rw [Nat.add_zero] at q0
  have l0 := A0.row.len
  rw [l0] at hal hc4 ⊢
  have hmk := run_make_row' (P := Tryz.prog) 35 106 (.int .i32 0) 4 Tryz.underlying35 Tryz.infoNum rfl .i64 .i64 m0 (by omega) (by omega)
  have F0 := fresh_made w m0 (by omega)
  have B0 : Below w.heap.size w (w.alloc (.cells (madeCells #[.int .i32 0] m0) 106)) := (Below.refl _ _).alloc (Nat.le_refl _) _
  have HR : Hid (∀ wv, Below w.heap.size w wv → GridAt wv (some ⟨b, o, none⟩) m R) := fun wv hb => hR.below hb
  have HA : Hid (∀ wv, Below w.heap.size w wv → RowAt wv ao m A) := fun wv hb => hA.below hb
  go_enter Tryz.func94, Tryz.ntmps94
  go_wp2_with (go_at_call 104; refine (checkMix_any _ _ _ _ _ _ _ _ (by omega) hR).mono ?_; rintro e w ⟨rfl, rfl⟩; rw [hf])
  clear hmk hf hR hA hc A0 q0 l0
  generalize w.alloc (.cells (madeCells #[.int .i32 0] m0) 106) = w0 at *
  go_loopg [25] m0 (fun r i wr => ∃ j : Nat, j ≤ m0 ∧ r = m0 - j ∧ i = .int .i64 j ∧ Fresh wr w.heap.size w.heap.size m0 m0 (tab m0 fun i => if i < j then dotN A (colOf R m i) m else 0) ∧ Below w.heap.size w wr)
  case atStart => exact ⟨0, by omega, by omega, rfl, by rw [tab_start]; exact F0, B0⟩
  case round =>
    obtain ⟨j, hj, rfl, rfl, F1, B1⟩ := hrel
    clear F0 B0
    by_cases hlj : j < m0
    · have R1 := HR.out _ B1
      have A1 := HA.out _ B1
      obtain ⟨b2, o2, e2, hc⟩ := R1.cells (by omega)
      simp only [Option.some.injEq, Addr.mk.injEq, and_true] at e2
      obtain ⟨rfl, rfl⟩ := e2
      generalize wr = w1 at *
      go_wp2_with fail
      go_loopg [9, 30] m (fun r s i wr => ∃ k : Nat, k ≤ m ∧ r = m - k ∧ i = .int .i64 k ∧ s = .int .i64 (dsum A (colOf R m j) k) ∧ wr = w1)
      case atStart => exact ⟨0, by omega, by omega, rfl, rfl, rfl⟩
      case round =>
        obtain ⟨k, hk, rfl, rfl, rfl, rfl⟩ := hrel
        by_cases hlt : k < m
        · obtain ⟨ro, m1, k1, q1, AR⟩ := hc k hlt
          have l1 := AR.row.len
          rw [hal k hlt] at l1
          subst l1
          obtain ⟨b3, o3, rfl, hc3⟩ := AR.row.cells (by omega)
          obtain ⟨b4, o4, rfl, hc4'⟩ := A1.cells (by omega)
          have q2 := hc3 j hlj
          have q3 := hc4' k hlt
          have ec : el (colOf R m j) k = el (rowOf R k) j := el_tab hlt
          have e1 : Hid (dsum A (colOf R m j) (k + 1) = grow (dsum A (colOf R m j) k) (el A k * el (rowOf R k) j)) := by show _ = _; rw [dsum_succ, ec]
          have b1 := dsum_bd A (colOf R m j) k
          have b2 := A1.small.el k
          have b3 := AR.row.small.el j
          have b5 := prod_bd (A := 2147483648) (B := 2147483648) (a := el A k) (b := el (rowOf R k) j) b2.1 (by omega) b3.1 (by omega)
          generalize dsum A (colOf R m j) k = s at *
          generalize el A k = x at *
          generalize el (rowOf R k) j = y at *
          have w1 : IntKind.i64.wrap x = x := wrap_in (by omega)
          have w2 : IntKind.i64.wrap y = y := wrap_in (by omega)
          have w3 : IntKind.i64.wrap (x * y) = x * y := wrap_in (by omega)
          clear hc hc3 hc4' AR R1 A1 F1 ec HR HA hal
          go_wp2_with (go_at_call 98; refine (grow_any _ _ _ (by omega) (by omega) (by omega) (by omega)).mono ?_; rintro e w' ⟨rfl, rfl⟩)
          go_roundg (m - (k + 1))
          case measure => omega
          case rel => exact ⟨k + 1, by omega, rfl, by go_num, by rw [e1.out], rfl⟩
        · obtain rfl : k = m := by omega
          have b1 := dsum_bd A (colOf R k j) k
          have b2 := rnd_bd (dsum A (colOf R k j) k) 65536 140737488355328 (by omega) (by omega) (by omega)
          have HD : Hid (sat (rnd (dsum A (colOf R k j) k) 65536) = dotN A (colOf R k j) k) := rfl
          have b3 := dotN_bd A (colOf R k j) k
          have f1 := F1.frozen j
          have f2 := F1.cell hlj
          clear hc R1 A1
          go_wp2_with (first | (go_at_call 100; refine (round_any _ _ _ (by omega) (by omega) (by omega) (by omega)).mono ?_; rintro e w' ⟨rfl, n1, rfl⟩) | (go_at_call 71; refine (sat_any _ _ (by omega) (by omega)).mono ?_; rintro e w' ⟨rfl, rfl⟩; rw [HD.out]))
          go_roundg (m0 - (j + 1))
          case measure => omega
          case rel => exact ⟨j + 1, by omega, rfl, by go_num, (F1.drewN n1).step (f := fun i => dotN A (colOf R k i) k) _ hlj rfl (by omega), (below_drewN B1 n1).setCell (Nat.le_refl _) _⟩
    · obtain rfl : j = m0 := by omega
      go_wp2
      go_ret2
      exact ⟨_, rfl, by rw [← tab_done]; exact F1, B1⟩
end Go.Proofs.YtcanjlofnpnhkaaGreatDoor

/- Plain numbers: the steps, powers of two by them, and whole roots; no condition. -/
namespace Go.Proofs.YtcanjlofnpnhkaaGreatDoor
def stp : List Nat := [65536, 64830, 64132, 63441, 62757, 62081, 61413, 60751, 60097, 59449, 58809, 58176, 57549, 56929, 56316, 55709, 55109, 54515, 53928, 53347, 52773, 52204, 51642, 51085, 50535, 49991, 49452, 48920, 48393, 47871, 47356, 46846, 46341, 45842, 45348, 44859, 44376, 43898, 43425, 42958, 42495, 42037, 41584, 41136, 40693, 40255, 39821, 39392, 38968, 38548, 38133, 37722, 37316, 36914, 36516, 36123, 35734, 35349, 34968, 34591, 34219, 33850, 33486, 33125, 32768]
def stepAt (i : Nat) : Nat := stp.getD i 0
theorem step_all : (List.range 64).all (fun i => decide (stepAt (i + 1) < stepAt i ∧ stepAt i ≤ stepAt (i + 1) + 706 ∧ 32768 ≤ stepAt (i + 1) ∧ stepAt i ≤ 65536)) = true := by decide
theorem step_at (i : Nat) (h : i < 64) : stepAt (i + 1) < stepAt i ∧ stepAt i ≤ stepAt (i + 1) + 706 ∧ 32768 ≤ stepAt (i + 1) ∧ stepAt i ≤ 65536 := by
  have := List.all_eq_true.1 step_all i (List.mem_range.2 h)
  simpa using this
/-- What is taken off a step. -/
def offN (y : Nat) : Nat := ((stepAt (y / 1024 % 64) - stepAt (y / 1024 % 64 + 1)) * (y % 1024) + 512) / 1024
def vN (y : Nat) : Nat := stepAt (y / 1024 % 64) - offN y
def powN (y : Nat) : Nat := vN y / 2 ^ (y / 65536)
theorem off_le (y : Nat) : offN y ≤ stepAt (y / 1024 % 64) - stepAt (y / 1024 % 64 + 1) := by
  unfold offN
  have h : (stepAt (y / 1024 % 64) - stepAt (y / 1024 % 64 + 1)) * (y % 1024) ≤ (stepAt (y / 1024 % 64) - stepAt (y / 1024 % 64 + 1)) * 1023 := Nat.mul_le_mul_left _ (by omega)
  have s := step_at (y / 1024 % 64) (Nat.mod_lt _ (by decide))
  omega
theorem vN_bd (y : Nat) : stepAt (y / 1024 % 64 + 1) ≤ vN y ∧ vN y ≤ stepAt (y / 1024 % 64) ∧ 32768 ≤ vN y ∧ vN y ≤ 65536 := by
  have a := off_le y
  have s := step_at (y / 1024 % 64) (Nat.mod_lt _ (by decide))
  unfold vN
  omega
theorem powN_bd (y : Nat) : powN y ≤ 65536 := Nat.le_trans (Nat.div_le_self _ _) (vN_bd y).2.2.2
/-- As the program reckons it, in whole numbers with a sign. -/
theorem prod_int (y : Nat) : ((stepAt (y / 1024 % 64) : Int) - (stepAt (y / 1024 % 64 + 1) : Int)) * ((y : Int) % 1024) = (((stepAt (y / 1024 % 64) - stepAt (y / 1024 % 64 + 1)) * (y % 1024) : Nat) : Int) := by
  have s := step_at (y / 1024 % 64) (Nat.mod_lt _ (by decide))
  rw [Int.natCast_mul, Int.ofNat_sub (by omega)]; rfl
theorem v_int (y : Nat) : (stepAt (y / 1024 % 64) : Int) - (((stepAt (y / 1024 % 64) : Int) - (stepAt (y / 1024 % 64 + 1) : Int)) * ((y : Int) % 1024) + 512) / 1024 = (vN y : Int) := by
  have a := off_le y
  rw [prod_int]
  unfold vN offN at *
  omega
theorem prod_bd2 (y : Nat) : 0 ≤ ((stepAt (y / 1024 % 64) : Int) - (stepAt (y / 1024 % 64 + 1) : Int)) * ((y : Int) % 1024) ∧ ((stepAt (y / 1024 % 64) : Int) - (stepAt (y / 1024 % 64 + 1) : Int)) * ((y : Int) % 1024) ≤ 722238 := by
  have s := step_at (y / 1024 % 64) (Nat.mod_lt _ (by decide))
  rw [prod_int]
  have h : (stepAt (y / 1024 % 64) - stepAt (y / 1024 % 64 + 1)) * (y % 1024) ≤ 706 * 1023 := Nat.mul_le_mul (by omega) (by omega)
  omega
theorem div_div (a j : Nat) : a / 2 ^ j / 2 = a / 2 ^ (j + 1) := by rw [Nat.div_div_eq_div_mul, Nat.pow_succ]
theorem div_zero_up (a j k : Nat) (h : a / 2 ^ j = 0) (hk : j ≤ k) : a / 2 ^ k = 0 := by
  have : a < 2 ^ j := by
    rcases Nat.lt_or_ge a (2 ^ j) with h' | h'
    · exact h'
    · have := Nat.div_pos h' (Nat.pow_pos (by decide)); omega
  exact Nat.div_eq_of_lt (Nat.lt_of_lt_of_le this (Nat.pow_le_pow_right (by decide) hk))
/-- The whole root, bit by bit. -/
def rtFrom : Nat → Nat → Nat → Nat
  | 0, r, _ => r
  | k + 1, r, x => if (r + 2 ^ k) * (r + 2 ^ k) ≤ x then rtFrom k (r + 2 ^ k) x else rtFrom k r x
def rt (x : Nat) : Nat := rtFrom 32 0 x
theorem rtFrom_spec : ∀ (k r x : Nat), r * r ≤ x → x < (r + 2 ^ k) * (r + 2 ^ k) → rtFrom k r x * rtFrom k r x ≤ x ∧ x < (rtFrom k r x + 1) * (rtFrom k r x + 1) ∧ r ≤ rtFrom k r x ∧ rtFrom k r x < r + 2 ^ k
  | 0, r, x, h1, h2 => by simpa [rtFrom] using ⟨h1, h2⟩
  | k + 1, r, x, h1, h2 => by
    have e : r + 2 ^ (k + 1) = r + 2 ^ k + 2 ^ k := by rw [Nat.pow_succ]; omega
    have hp : 0 < 2 ^ k := Nat.pow_pos (by decide)
    unfold rtFrom
    split
    · rename_i h
      have := rtFrom_spec k (r + 2 ^ k) x h (by rw [← e]; exact h2)
      omega
    · rename_i h
      have := rtFrom_spec k r x h1 (by omega)
      omega
theorem rt_spec (x : Nat) (h : x < 18446744073709551616) : rt x * rt x ≤ x ∧ x < (rt x + 1) * (rt x + 1) ∧ rt x < 4294967296 := by
  have := rtFrom_spec 32 0 x (by omega) (by simpa using h)
  unfold rt
  omega
/-- A root is the only one. -/
theorem rt_of (x r : Nat) (h : x < 18446744073709551616) (h1 : r * r ≤ x) (h2 : x < (r + 1) * (r + 1)) : rt x = r := by
  obtain ⟨a, b, -⟩ := rt_spec x h
  have p : rt x < r + 1 := by
    rcases Nat.lt_or_ge (rt x) (r + 1) with p | p
    · exact p
    · have := Nat.mul_le_mul p p; omega
  have q : r < rt x + 1 := by
    rcases Nat.lt_or_ge r (rt x + 1) with q | q
    · exact q
    · have := Nat.mul_le_mul q q; omega
  omega
theorem rt_mono (x y : Nat) (hxy : x ≤ y) (hy : y < 18446744073709551616) : rt x ≤ rt y := by
  obtain ⟨a, b, -⟩ := rt_spec x (by omega)
  obtain ⟨c, d, -⟩ := rt_spec y hy
  rcases Nat.lt_or_ge (rt x) (rt y + 1) with p | p
  · omega
  · have := Nat.mul_le_mul p p; omega
/-- The inverse root. -/
def invN (x : Int) : Int := if x ≤ 0 then 2147483647 else (rt (281474976710656 / x.toNat) : Int)
theorem inv_small (x : Nat) : rt (281474976710656 / x) ≤ 16777216 := by
  have h1 : 281474976710656 / x ≤ 281474976710656 := Nat.div_le_self _ _
  have h2 := rt_mono _ _ h1 (by decide)
  have h3 : rt 281474976710656 = 16777216 := rt_of _ _ (by decide) (by decide) (by decide)
  omega
theorem invN_bd (x : Int) : 0 ≤ invN x ∧ invN x ≤ 2147483647 := by
  unfold invN
  split
  · omega
  · have := inv_small x.toNat; omega
end Go.Proofs.YtcanjlofnpnhkaaGreatDoor

/- What each call of package curve answers, where the table of steps lies in memory as the program's text lays it. -/
namespace Go.Proofs.YtcanjlofnpnhkaaGreatDoor
open Go.ChangeShapes Go.WideShapes Go.ChangeAt Go.RowKit
def tabCells : Array Value := (stp.map fun (n : Nat) => Value.int .i32 (n : Int)).toArray
theorem tab_get (i : Nat) (h : i < 65) : tabCells[i]? = some (.int .i32 (stepAt i : Int)) := by
  have hl : stp.length = 65 := rfl
  simp [tabCells, stepAt, hl, h]
/-- The table of steps lies in block 0. -/
def Tab (w : World) : Prop := ∃ t fr, w.heap[0]? = some (.cells tabCells t fr)
theorem Tab.lt {w : World} (h : Tab w) : 0 < w.heap.size := by
  obtain ⟨t, fr, h⟩ := h
  exact (Array.getElem?_eq_some_iff.1 h).1
theorem Tab.next {w w' : World} (h : Tab w) (hb : Below w.heap.size w w') : Tab w' := by
  obtain ⟨t, fr, h'⟩ := h
  exact ⟨t, fr, (hb.block 0 (Tab.lt ⟨t, fr, h'⟩)).trans h'⟩
theorem Tab.cell {w : World} (h : Tab w) (i : Nat) (hi : i < 65) : w.cell? ⟨0, i, none⟩ = some (.int .i32 (stepAt i : Int)) := by
  obtain ⟨t, fr, h'⟩ := h
  have := tab_get i hi
  simp only [World.cell?, h']
  exact this
theorem shr_v (y v : Nat) (hv : v ≤ 65536) : Op.shift .shr .i64 (v : Int) .i64 ((y : Int) / 65536) = pure (.int .i64 ((v / 2 ^ (y / 65536) : Nat) : Int)) := by
  rw [shift_shr_any _ _ _ _ (by omega)]
  have e : ((y : Int) / 65536).toNat = y / 65536 := by omega
  rw [e]
  congr 2
  show (v : Int) / 2 ^ min (y / 65536) 64 = _
  rcases Nat.lt_or_ge (y / 65536) 64 with h | h
  · rw [Nat.min_eq_left (by omega)]; norm_cast
  · rw [Nat.min_eq_right h]
    have h1 : v / 2 ^ (y / 65536) = 0 := Nat.div_eq_of_lt (Nat.lt_of_le_of_lt hv (Nat.lt_of_lt_of_le (show 65536 < 2 ^ 64 by decide) (Nat.pow_le_pow_right (by decide) h)))
    rw [h1]
    omega
theorem pow_neg (y : Nat) (w : World) (h : Tab w) (hy : y ≤ 2147483648) :
   Calls Tryz.prog 105 #[.int .i32 (-(y : Int))] w fun e w' => e = .returned (.int .i32 (powN y : Int)) ∧ ∃ n, w' = w.drewN n := by
  have hi : y / 1024 % 64 < 64 := Nat.mod_lt _ (by decide)
  have c1 := h.cell (y / 1024 % 64) (by omega)
  have c2 := h.cell (y / 1024 % 64 + 1) (by omega)
  obtain ⟨s1, s2, s3, s4⟩ := step_at _ hi
  have pb := prod_bd2 y
  have sv := shr_v y (vN y) (vN_bd y).2.2.2
  rw [← v_int y] at sv
  have pw : ((vN y / 2 ^ (y / 65536) : Nat) : Int) = (powN y : Int) := rfl
  rw [pw] at sv
  have pbd := powN_bd y
  clear h pw
  go_enter Tryz.func105, Tryz.ntmps105
  go_wp2_with fail
  go_quiet (fail)
  go_wp2
  go_ret
  exact ⟨rfl, _, rfl⟩
theorem pow_pos (x : Int) (w : World) (h : Tab w) (h0 : 0 < x) :
   Calls Tryz.prog 105 #[.int .i32 x] w fun e w' => e = .returned (.int .i32 65536) ∧ ∃ n, w' = w.drewN n := by
  have c1 := h.cell 0 (by omega)
  have c2 := h.cell 1 (by omega)
  have e0 : stepAt 0 = 65536 := rfl
  have e1 : stepAt 1 = 64830 := rfl
  rw [e0] at c1
  rw [e1] at c2
  clear h e0 e1
  go_enter Tryz.func105, Tryz.ntmps105
  go_wp2_with fail
  go_quiet (fail)
  go_wp2
  go_ret
  exact ⟨rfl, _, rfl⟩
theorem or_add (r b k : Nat) (hb : b = 2 ^ k) (hm : r % (2 * b) = 0) : r ||| b = r + b := by
  have e : 2 * b = 2 ^ (k + 1) := by rw [hb, Nat.pow_succ]; omega
  have h := Nat.two_pow_add_eq_or_of_lt (i := k + 1) (b := b) (by rw [← e, hb]; have : 0 < 2 ^ k := Nat.pow_pos (by decide); omega) (r / (2 * b))
  rw [← e] at h
  have d : 2 * b * (r / (2 * b)) = r := by have := Nat.div_add_mod r (2 * b); omega
  rw [d] at h
  exact h.symm
theorem sq_bd (r b x : Nat) (hle : r + 2 * b ≤ 4294967296) (hb : 1 ≤ b) : (0 : Int) ≤ ((r : Int) + (b : Int)) * ((r : Int) + (b : Int)) ∧ ((r : Int) + (b : Int)) * ((r : Int) + (b : Int)) ≤ 18446744073709551615 ∧ (((r : Int) + (b : Int)) * ((r : Int) + (b : Int)) ≤ (x : Int) ↔ (r + b) * (r + b) ≤ x) := by
  have e : ((r : Int) + (b : Int)) * ((r : Int) + (b : Int)) = (((r + b) * (r + b) : Nat) : Int) := by norm_cast
  have h : (r + b) * (r + b) ≤ 4294967295 * 4294967295 := Nat.mul_le_mul (by omega) (by omega)
  rw [e]
  omega
theorem mod_half {r b : Nat} (h : r % (2 * b) = 0) : r % b = 0 ∧ (r + b) % b = 0 := by
  have h1 : r % b = 0 := Nat.mod_eq_zero_of_dvd (Nat.dvd_trans ⟨2, Nat.mul_comm _ _⟩ (Nat.dvd_of_mod_eq_zero h))
  exact ⟨h1, by rw [Nat.add_mod_right]; exact h1⟩
theorem rt_yes (k r x b : Nat) (hb : b = 2 ^ k) (h : rtFrom (k + 1) r x = rt x) (hc : (r + b) * (r + b) ≤ x) : rtFrom k (r + b) x = rt x := by
  subst hb; rw [← h]; simp [rtFrom, hc]
theorem rt_no (k r x b : Nat) (hb : b = 2 ^ k) (h : rtFrom (k + 1) r x = rt x) (hc : ¬ (r + b) * (r + b) ≤ x) : rtFrom k r x = rt x := by
  subst hb; rw [← h]; simp [rtFrom, hc]
theorem root_any (x : Nat) (w : World) :
   Calls Tryz.prog 99 #[.int .u64 (x : Int)] w fun e w' => e = .returned (.int .u64 (rt x : Int)) ∧ w' = w := by
  go_enter Tryz.func99, Tryz.ntmps99
  go_wp2
  go_loop [3, 4] (fun rv bv => ∃ (k r : Nat), k ≤ 32 ∧ rv = .int .u64 (r : Int) ∧ bv = .int .u64 ((2 ^ k / 2 : Nat) : Int) ∧ r % 2 ^ k = 0 ∧ r + 2 ^ k ≤ 4294967296 ∧ rtFrom k r x = rt x) (fun _ bv => (intOf bv).toNat)
  case atStart => exact ⟨32, 0, by decide, rfl, rfl, rfl, by decide, rfl⟩
  case round =>
    obtain ⟨k, r, hk, rfl, rfl, hm, hle, hrt⟩ := hrel
    cases k with
    | zero =>
      have HR : Hid (rtFrom 0 r x = rt x) := hrt
      clear hrt
      go_wp2
      go_ret
      exact ⟨ret_int (by rw [← HR.out]; rfl), rfl⟩
    | succ k =>
      obtain ⟨b, hb⟩ : ∃ b, b = 2 ^ k := ⟨_, rfl⟩
      have e1 : 2 ^ (k + 1) = 2 * b := by rw [hb, Nat.pow_succ]; omega
      have e2 : (2 : Nat) ^ (k + 1) / 2 = b := by omega
      have hb1 : 1 ≤ b := by rw [hb]; exact Nat.pow_pos (by decide)
      rw [e2]
      rw [e1] at hm hle
      have hor : bits BinOp.or IntKind.u64 (r : Int) (b : Int) = (r : Int) + (b : Int) := by
        rw [bits_or_u64_nat r b (by omega) (by omega), or_add r b k hb hm]; omega
      obtain ⟨q1, q2, q3⟩ := sq_bd r b x hle hb1
      have HB : Hid (b = 2 ^ k) := hb
      have HM : Hid (r % (2 * b) = 0) := hm
      by_cases hc : (r + b) * (r + b) ≤ x
      · have HR : Hid (rtFrom k (r + b) x = rt x) := rt_yes k r x b hb hrt hc
        have hc' := q3.2 hc
        clear hrt hb e1 e2 q3 hc hm
        go_wp2
        go_round
        case rel => have hb := HB.out; have hm := (mod_half HM.out).2; exact ⟨k, r + b, by omega, by go_num, by rw [← hb]; go_num, by rw [← hb]; exact hm, by rw [← hb]; omega, HR.out⟩
        case measure => simp [intOf]; omega
      · have HR : Hid (rtFrom k r x = rt x) := rt_no k r x b hb hrt hc
        have hc' : ¬ ((r : Int) + (b : Int)) * ((r : Int) + (b : Int)) ≤ (x : Int) := fun h => hc (q3.1 h)
        clear hrt hb e1 e2 q3 hc hm
        go_wp2
        go_round
        case rel => have hb := HB.out; have hm := (mod_half HM.out).1; exact ⟨k, r, by omega, by go_num, by rw [← hb]; go_num, by rw [← hb]; exact hm, by rw [← hb]; omega, HR.out⟩
        case measure => simp [intOf]; omega
theorem inv_any (x : Int) (w : World) (h1 : -2147483648 ≤ x) (h2 : x ≤ 2147483647) :
   Calls Tryz.prog 88 #[.int .i32 x] w fun e w' => e = .returned (.int .i32 (invN x)) ∧ w' = w := by
  by_cases hx : x ≤ 0
  · have HI : Hid (invN x = 2147483647) := by show _ = _; unfold invN; rw [if_pos hx]
    go_enter Tryz.func88, Tryz.ntmps88
    go_wp2
    go_ret
    exact ⟨by rw [HI.out]; rfl, rfl⟩
  · obtain ⟨n, rfl⟩ : ∃ n : Nat, x = n := ⟨x.toNat, by omega⟩
    have HI : Hid (invN (n : Int) = (rt (281474976710656 / n) : Int)) := by show _ = _; unfold invN; rw [if_neg hx]; rfl
    have hb := inv_small n
    go_enter Tryz.func88, Tryz.ntmps88
    go_wp2_with (go_at_call 99; refine (root_any (281474976710656 / n) _).mono ?_; rintro e w' ⟨rfl, rfl⟩)
    go_ret
    exact ⟨by rw [HI.out]; rfl, rfl⟩
end Go.Proofs.YtcanjlofnpnhkaaGreatDoor

/- Plain numbers: powers never fall and halve with each step, inverses never rise, squares have their roots; no condition. -/
namespace Go.Proofs.YtcanjlofnpnhkaaGreatDoor
def powI (x : Int) : Int := (powN (-x).toNat : Int)
theorem powI_bd (x : Int) : 0 ≤ powI x ∧ powI x ≤ 65536 := by have := powN_bd (-x).toNat; unfold powI; omega
theorem powI_pos (x : Int) (h : 0 < x) : powI x = 65536 := by unfold powI; rw [show (-x).toNat = 0 by omega]; rfl
theorem powI_neg (y : Nat) : powI (-(y : Int)) = (powN y : Int) := by unfold powI; rw [show (- -(y : Int)).toNat = y by omega]
theorem v_zero (y : Nat) (h : y % 1024 = 0) : vN y = stepAt (y / 1024 % 64) := by
  unfold vN offN; rw [h, Nat.mul_zero]; rfl
theorem pow_step (y : Nat) : powN (y + 1) ≤ powN y := by
  have hv := vN_bd y
  by_cases h1 : y % 1024 < 1023
  · have e1 : (y + 1) / 1024 = y / 1024 := by omega
    have e2 : (y + 1) / 65536 = y / 65536 := by omega
    have e3 : (y + 1) % 1024 = y % 1024 + 1 := by omega
    unfold powN
    rw [e2]
    refine Nat.div_le_div_right ?_
    have s := step_at (y / 1024 % 64) (Nat.mod_lt _ (by decide))
    unfold vN offN
    rw [e1, e3, Nat.mul_add]
    omega
  · by_cases h2 : y / 1024 % 64 < 63
    · have e1 : (y + 1) / 1024 % 64 = y / 1024 % 64 + 1 := by omega
      have e2 : (y + 1) / 65536 = y / 65536 := by omega
      unfold powN
      rw [e2]
      refine Nat.div_le_div_right ?_
      rw [v_zero (y + 1) (by omega), e1]
      exact hv.1
    · have e1 : (y + 1) / 1024 % 64 = 0 := by omega
      have e2 : (y + 1) / 65536 = y / 65536 + 1 := by omega
      unfold powN
      rw [v_zero (y + 1) (by omega), e1, e2, Nat.pow_succ, Nat.mul_comm, ← Nat.div_div_eq_div_mul]
      exact Nat.div_le_div_right hv.2.2.1
theorem pow_anti (a : Nat) : ∀ n, powN (a + n) ≤ powN a
  | 0 => Nat.le_refl _
  | n + 1 => Nat.le_trans (pow_step (a + n)) (pow_anti a n)
theorem powI_mono (x y : Int) (h : x ≤ y) : powI x ≤ powI y := by
  obtain ⟨n, hn⟩ : ∃ n : Nat, (-x).toNat = (-y).toNat + n := ⟨(-x).toNat - (-y).toNat, by omega⟩
  unfold powI
  rw [hn]
  have := pow_anti (-y).toNat n
  omega
theorem pow_half (y : Nat) : powN (y + 65536) = powN y / 2 := by
  have e1 : (y + 65536) / 1024 % 64 = y / 1024 % 64 := by omega
  have e2 : (y + 65536) % 1024 = y % 1024 := by omega
  have e3 : (y + 65536) / 65536 = y / 65536 + 1 := by omega
  unfold powN vN offN
  rw [e1, e2, e3, div_div]
theorem powI_half (x : Int) (h : x ≤ 0) : powI (x - 65536) = powI x / 2 := by
  have e : (-(x - 65536)).toNat = (-x).toNat + 65536 := by omega
  unfold powI
  rw [e, pow_half]
  omega
theorem invN_anti (x y : Int) (h : x ≤ y) : invN y ≤ invN x := by
  unfold invN
  by_cases hx : x ≤ 0
  · rw [if_pos hx]; have := invN_bd y; unfold invN at this; omega
  · rw [if_neg hx, if_neg (by omega)]
    have h1 : 281474976710656 / y.toNat ≤ 281474976710656 / x.toNat := Nat.div_le_div_left (by omega) (by omega)
    have h2 := rt_mono _ _ h1 (Nat.lt_of_le_of_lt (Nat.div_le_self _ _) (by decide))
    omega
theorem rt_sq (z : Nat) (h : z ≤ 4294967295) : rt (z * z) = z := by
  have h1 : z * z ≤ 4294967295 * 4294967295 := Nat.mul_le_mul h h
  exact rt_of _ _ (by omega) (Nat.le_refl _) (Nat.mul_lt_mul'' (by omega) (by omega))
theorem sq_succ (z : Nat) : (z + 1) * (z + 1) = z * z + 2 * z + 1 := by rw [Nat.add_mul, Nat.mul_add]; omega
theorem rt_sq_pred (z : Nat) (h : z ≤ 4294967295) (h0 : 0 < z) : rt (z * z - 1) = z - 1 := by
  have h1 : z * z ≤ 4294967295 * 4294967295 := Nat.mul_le_mul h h
  obtain ⟨m, rfl⟩ : ∃ m, z = m + 1 := ⟨z - 1, by omega⟩
  have e := sq_succ m
  refine rt_of _ _ (by omega) ?_ ?_
  · rw [show m + 1 - 1 = m by omega]; omega
  · rw [show m + 1 - 1 = m by omega]; omega
theorem rt_sq_top (z : Nat) (h : z ≤ 4294967295) : rt (z * z + 2 * z) = z := by
  have h1 : z * z ≤ 4294967295 * 4294967295 := Nat.mul_le_mul h h
  exact rt_of _ _ (by omega) (by omega) (by rw [sq_succ]; omega)
/-- A number times the square of its inverse root. -/
theorem inv_near (x : Nat) (h1 : 256 ≤ x) (h2 : x ≤ 16777216) : x * rt (281474976710656 / x) * rt (281474976710656 / x) ≤ 281474976710656 ∧
    281474976710656 < x * (rt (281474976710656 / x) + 1) * (rt (281474976710656 / x) + 1) ∧ 1 ≤ rt (281474976710656 / x) ∧ rt (281474976710656 / x) ≤ 1048576 := by
  obtain ⟨a, b, -⟩ := rt_spec (281474976710656 / x) (Nat.lt_of_le_of_lt (Nat.div_le_self _ _) (by decide))
  have d1 : 281474976710656 / x ≤ 1099511627776 := by
    have := Nat.div_le_div_left h1 (by decide) (a := 281474976710656); omega
  have d2 : 16777216 ≤ 281474976710656 / x := (Nat.le_div_iff_mul_le (by omega)).2 (by omega)
  have m1 := rt_mono _ _ d1 (by decide)
  have m2 := rt_mono _ _ d2 (Nat.lt_of_le_of_lt (Nat.div_le_self _ _) (by decide))
  have v1 : rt 1099511627776 = 1048576 := rt_of _ _ (by decide) (by decide) (by decide)
  have v2 : rt 16777216 = 4096 := rt_of _ _ (by decide) (by decide) (by decide)
  generalize rt (281474976710656 / x) = y at *
  refine ⟨?_, ?_, by omega, by omega⟩
  · rw [Nat.mul_assoc]
    exact Nat.le_trans (Nat.mul_le_mul_left x a) (Nat.mul_div_le _ _)
  · rw [Nat.mul_assoc]
    exact (Nat.div_lt_iff_lt_mul (by omega)).1 b |> fun h => by rw [Nat.mul_comm]; exact h
theorem cast_near (n y : Nat) : (n : Int) * (y : Int) = ((n * y : Nat) : Int) ∧ (n : Int) * (y : Int) * (y : Int) = ((n * y * y : Nat) : Int) ∧
    (n : Int) * ((y : Int) + 1) = ((n * (y + 1) : Nat) : Int) ∧ (n : Int) * ((y : Int) + 1) * ((y : Int) + 1) = ((n * (y + 1) * (y + 1) : Nat) : Int) := by
  refine ⟨?_, ?_, ?_, ?_⟩ <;> norm_cast
theorem cast_sq (r : Nat) : (r : Int) * (r : Int) = ((r * r : Nat) : Int) ∧ ((r : Int) + 1) * ((r : Int) + 1) = (((r + 1) * (r + 1) : Nat) : Int) := by
  refine ⟨?_, ?_⟩ <;> norm_cast
theorem inv_int (x : Nat) (h1 : 256 ≤ x) (h2 : x ≤ 16777216) : invN (x : Int) = (rt (281474976710656 / x) : Int) := by
  unfold invN; rw [if_neg (by omega)]; rfl
end Go.Proofs.YtcanjlofnpnhkaaGreatDoor

/- Powers of every number, where the table of steps lies as the program's text lays it. -/
namespace Go.Proofs.YtcanjlofnpnhkaaGreatDoor
open Go.ChangeShapes Go.WideShapes Go.ChangeAt Go.RowKit
theorem pow_any (x : Int) (w : World) (h : Tab w) (h1 : -2147483648 ≤ x) (h2 : x ≤ 2147483647) :
   Calls Tryz.prog 105 #[.int .i32 x] w fun e w' => e = .returned (.int .i32 (powI x)) ∧ ∃ n, w' = w.drewN n := by
  by_cases hx : 0 < x
  · rw [powI_pos x hx]; exact pow_pos x w h hx
  · obtain ⟨y, rfl⟩ : ∃ y : Nat, x = -(y : Int) := ⟨(-x).toNat, by omega⟩
    rw [powI_neg]; exact pow_neg y w h (by omega)
end Go.Proofs.YtcanjlofnpnhkaaGreatDoor

/- Plain numbers: means of squares, norms, weights by powers, and mixes; no condition. -/
namespace Go.Proofs.YtcanjlofnpnhkaaGreatDoor
def sumTo (f : Nat → Int) : Nat → Int
  | 0 => 0
  | k + 1 => sumTo f k + f k
theorem sumTo_zero (f : Nat → Int) : sumTo f 0 = 0 := rfl
theorem sumTo_succ (f : Nat → Int) (k : Nat) : sumTo f (k + 1) = sumTo f k + f k := rfl
theorem sumTo_congr {f g : Nat → Int} {n : Nat} (h : ∀ j, j < n → f j = g j) : sumTo f n = sumTo g n := by
  induction n with
  | zero => rfl
  | succ n ih => rw [sumTo_succ, sumTo_succ, ih (fun j hj => h j (by omega)), h n (by omega)]
theorem sumTo_bd {f : Nat → Int} {B : Int} (hB : ∀ j, 0 ≤ f j ∧ f j ≤ B) (k : Nat) : 0 ≤ sumTo f k ∧ sumTo f k ≤ B * k := by
  induction k with
  | zero => rw [sumTo_zero]; omega
  | succ k ih =>
    rw [sumTo_succ]
    have := hB k
    have e : B * ((k + 1 : Nat) : Int) = B * k + B := by rw [Int.natCast_succ, Int.mul_add, Int.mul_one]
    omega
theorem sumTo_ge {f : Nat → Int} (h0 : ∀ j, 0 ≤ f j) {j n : Nat} (hj : j < n) : f j ≤ sumTo f n := by
  have nn : ∀ k, 0 ≤ sumTo f k := fun k => by
    induction k with
    | zero => rw [sumTo_zero]; omega
    | succ k ih => rw [sumTo_succ]; have := h0 k; omega
  induction n with
  | zero => omega
  | succ n ih =>
    rw [sumTo_succ]
    rcases Nat.lt_or_ge j n with h | h
    · have := ih h; have := h0 n; omega
    · obtain rfl : j = n := by omega
      have := nn j; omega
/-- Parts of a whole, each brought down. -/
theorem parts_low {p : Nat → Int} {S : Int} (hS : 1 ≤ S) (k : Nat) : S * sumTo (fun j => 65536 * p j / S) k ≤ 65536 * sumTo p k ∧ 65536 * sumTo p k - (S - 1) * k ≤ S * sumTo (fun j => 65536 * p j / S) k := by
  induction k with
  | zero => simp [sumTo_zero]
  | succ k ih =>
    rw [sumTo_succ, sumTo_succ, Int.mul_add, Int.mul_add, Int.natCast_succ, Int.mul_add]
    have h1 := Int.mul_ediv_add_emod (65536 * p k) S
    have h2 := Int.emod_nonneg (65536 * p k) (show S ≠ 0 by omega)
    have h3 := Int.emod_lt_of_pos (65536 * p k) (show 0 < S by omega)
    omega
theorem parts_sum {p : Nat → Int} {n : Nat} (hn : 1 ≤ n) (hS : 1 ≤ sumTo p n) : sumTo (fun j => 65536 * p j / sumTo p n) n ≤ 65536 ∧ 65536 - (n : Int) < sumTo (fun j => 65536 * p j / sumTo p n) n := by
  obtain ⟨h1, h2⟩ := parts_low (p := p) hS n
  generalize sumTo (fun j => 65536 * p j / sumTo p n) n = Q at *
  generalize sumTo p n = S at *
  constructor
  · have : S * Q ≤ S * 65536 := by rw [Int.mul_comm S 65536]; exact h1
    exact Int.le_of_mul_le_mul_left this (by omega)
  · have e : S * (65536 - n) < S * Q := by
      rw [Int.mul_sub]
      have e2 : (S - 1) * (n : Int) = S * n - n := by rw [Int.sub_mul, Int.one_mul]
      omega
    exact Int.lt_of_mul_lt_mul_left e (by omega)
theorem sumTo_lin {f g : Nat → Int} {c d e : Int} {n : Nat} (h : ∀ j, j < n → c * f j ≤ d * g j + e) : c * sumTo f n ≤ d * sumTo g n + e * n := by
  induction n with
  | zero => simp [sumTo_zero]
  | succ n ih =>
    have i := ih (fun j hj => h j (by omega))
    have k := h n (by omega)
    rw [sumTo_succ, sumTo_succ, Int.mul_add, Int.mul_add, Int.natCast_succ, Int.mul_add]
    omega
theorem sumTo_mul (f : Nat → Int) (c : Int) (n : Nat) : sumTo (fun j => f j * c) n = sumTo f n * c := by
  induction n with
  | zero => simp [sumTo_zero]
  | succ n ih => rw [sumTo_succ, sumTo_succ, Int.add_mul, ih]
theorem sq_nn (a : Int) : 0 ≤ a * a := by
  rcases Int.le_total 0 a with h | h
  · exact Int.mul_nonneg h h
  · have := Int.mul_nonneg (show 0 ≤ -a by omega) (show 0 ≤ -a by omega); rwa [Int.neg_mul_neg] at this
/-- A rounded number's square, against the square ahead of rounding. -/
theorem sq_near (a y : Int) (h1 : -32768 ≤ 65536 * y - a) (h2 : 65536 * y - a ≤ 32768) :
    562949953421312 * (y * y) ≤ 131073 * (a * a) + 18446884811197906944 ∧ 131071 * (a * a) + -18446744073709551616 ≤ 562949953421312 * (y * y) := by
  obtain ⟨d, hd⟩ : ∃ d, 65536 * y = a + d := ⟨65536 * y - a, by omega⟩
  have e1 : (65536 * y) * (65536 * y) = (a + d) * (a + d) := by rw [hd]
  have q1 := sq_nn (a - 4294967296)
  have q2 := sq_nn (a + 4294967296)
  have hd1 : -32768 ≤ d := by omega
  have hd2 : d ≤ 32768 := by omega
  have q3 : d * d ≤ 1073741824 := by
    have := Int.mul_nonneg (show 0 ≤ 32768 - d by omega) (show 0 ≤ 32768 + d by omega)
    grind
  have q4 : 0 ≤ d * d := sq_nn d
  have q5 : 262144 * (a * d) ≤ a * a + 18446744073709551616 := by
    rcases Int.le_total 0 a with h | h
    · have := Int.mul_le_mul_of_nonneg_left hd2 h
      grind
    · have := Int.mul_le_mul_of_nonpos_left h hd1
      grind
  have q6 : -(a * a + 18446744073709551616) ≤ 262144 * (a * d) := by
    rcases Int.le_total 0 a with h | h
    · have := Int.mul_le_mul_of_nonneg_left hd1 h
      grind
    · have := Int.mul_le_mul_of_nonpos_left h hd2
      grind
  have e2 : 4294967296 * (y * y) = a * a + 2 * (a * d) + d * d := by grind
  clear e1 q1 q2
  generalize a * a = A at *
  generalize y * y = Y at *
  generalize a * d = D at *
  generalize d * d = E at *
  constructor <;> omega
/-- The mean of squares behind a norm is near to one. x: the numbers, y: rounded products with k; M: their mean of squares ahead. -/
theorem norm_size (x y : Nat → Int) (n : Nat) (k M : Int) (hn : 1 ≤ n) (hM : M = sumTo (fun j => x j * x j) n / (n * 65536)) (h4 : 4096 ≤ M) (hk : 20000 ≤ k)
    (k1 : (M + 1) * (k * k) ≤ 281474976710656) (k2 : 281474976710656 ≤ (M + 1) * ((k + 1) * (k + 1)))
    (hy : ∀ j, j < n → -32768 ≤ 65536 * y j - x j * k ∧ 65536 * y j - x j * k ≤ 32768) :
    64000 < sumTo (fun j => y j * y j) n / (n * 65536) ∧ sumTo (fun j => y j * y j) n / (n * 65536) < 67000 := by
  have u := sumTo_lin (f := fun j => y j * y j) (g := fun j => (x j * k) * (x j * k)) (n := n) (c := 562949953421312) (d := 131073) (e := 18446884811197906944) (fun j hj => (sq_near _ _ (hy j hj).1 (hy j hj).2).1)
  have l := sumTo_lin (f := fun j => (x j * k) * (x j * k)) (g := fun j => y j * y j) (n := n) (c := 131071) (d := 562949953421312) (e := 18446744073709551616) (fun j hj => by have := (sq_near _ _ (hy j hj).1 (hy j hj).2).2; show 131071 * (x j * k * (x j * k)) ≤ 562949953421312 * (y j * y j) + _; omega)
  have e : (fun j => (x j * k) * (x j * k)) = fun j => (x j * x j) * (k * k) := by funext j; grind
  rw [e, sumTo_mul] at u l
  generalize sumTo (fun j => x j * x j) n = S at *
  generalize sumTo (fun j => y j * y j) n = T at *
  have hN : (1 : Int) ≤ (n : Int) := by omega
  generalize (n : Int) = N at *
  have s1 : (N * 65536) * M ≤ S := by rw [hM]; exact Int.mul_ediv_self_le (by omega)
  have s2 : S < (N * 65536) * (M + 1) := by rw [hM, Int.mul_add, Int.mul_one]; exact Int.lt_mul_ediv_self_add (by omega)
  clear hM hy e
  have hK : 0 ≤ k * k := sq_nn k
  have p1 : S * (k * k) ≤ N * 65536 * (M + 1) * (k * k) := Int.mul_le_mul_of_nonneg_right (by omega) hK
  have p2 : N * 65536 * M * (k * k) ≤ S * (k * k) := Int.mul_le_mul_of_nonneg_right s1 hK
  have p3 : N * 65536 * (M + 1) * (k * k) ≤ N * 18446744073709551616 := by
    have := Int.mul_le_mul_of_nonneg_left k1 (show 0 ≤ N * 65536 by omega)
    grind
  have r1 : 5000 * ((k + 1) * (k + 1)) ≤ 5001 * (k * k) := by
    have := Int.mul_le_mul_of_nonneg_right hk (show 0 ≤ k by omega)
    grind
  have r2 : 4096 * (M + 1) ≤ 4097 * M := by omega
  have r3 : 281474976710656 * 20480000 ≤ 20489097 * (M * (k * k)) := by
    have a1 := Int.mul_le_mul_of_nonneg_left r1 (show 0 ≤ M + 1 by omega)
    have a2 := Int.mul_le_mul_of_nonneg_right r2 hK
    grind
  have r4 : N * 65536 * 281350000000000 ≤ N * 65536 * M * (k * k) := by
    rw [Int.mul_assoc _ M]
    exact Int.mul_le_mul_of_nonneg_left (by omega) (by omega)
  have hD : 0 < N * 65536 := by omega
  generalize N * 65536 * (M + 1) * (k * k) = P at *
  generalize N * 65536 * M * (k * k) = R at *
  generalize S * (k * k) = X at *
  constructor
  · have : 64001 ≤ T / (N * 65536) := (Int.le_ediv_iff_mul_le hD).2 (by omega)
    omega
  · exact (Int.ediv_lt_iff_lt_mul hD).2 (by omega)
/-- The greatest of the first k numbers (of none: the first). -/
def maxTo (A : List Int) : Nat → Int
  | 0 => el A 0
  | k + 1 => if maxTo A k < el A k then el A k else maxTo A k
theorem maxTo_one (A : List Int) : maxTo A 1 = el A 0 := by unfold maxTo maxTo; omega
theorem maxTo_bd {A : List Int} (h : Small A) (k : Nat) : -2147483648 ≤ maxTo A k ∧ maxTo A k ≤ 2147483647 := by
  induction k with
  | zero => exact h.el 0
  | succ k ih => unfold maxTo; have := h.el k; split <;> omega
theorem maxTo_ge (A : List Int) {j k : Nat} (h : j < k) : el A j ≤ maxTo A k := by
  induction k with
  | zero => omega
  | succ k ih =>
    unfold maxTo
    rcases Nat.lt_or_ge j k with h1 | h1
    · have := ih h1; split <;> omega
    · obtain rfl : j = k := by omega
      split <;> omega
theorem maxTo_at (A : List Int) {k : Nat} (h : 1 ≤ k) : ∃ j, j < k ∧ el A j = maxTo A k := by
  induction k with
  | zero => omega
  | succ k ih =>
    unfold maxTo
    split
    · exact ⟨k, by omega, rfl⟩
    · rcases Nat.eq_zero_or_pos k with h0 | h0
      · subst h0; exact ⟨0, by omega, rfl⟩
      · obtain ⟨j, hj, e⟩ := ih h0; exact ⟨j, by omega, e⟩
theorem amax_max (A : List Int) {k : Nat} (h : 1 ≤ k) : 0 ≤ amax A k ∧ el A (amax A k).toNat = maxTo A k := by
  induction k with
  | zero => omega
  | succ k ih =>
    rcases Nat.eq_zero_or_pos k with h0 | h0
    · subst h0
      rw [maxTo_one]
      have e : amax A 1 = 0 := by unfold amax; rw [if_pos (Or.inl (by show (-1 : Int) < 0; omega))]; rfl
      rw [e]; exact ⟨by omega, rfl⟩
    · obtain ⟨i1, i2⟩ := ih h0
      unfold amax maxTo
      by_cases hc : el A (amax A k).toNat < el A k
      · rw [if_pos (Or.inr hc), if_pos (by omega)]; exact ⟨by omega, by rw [Int.toNat_natCast]⟩
      · rw [if_neg (by omega), if_neg (by omega)]; exact ⟨i1, i2⟩
theorem maxTo_shift {A B : List Int} {c : Int} {n : Nat} (hn : 1 ≤ n) (h : ∀ j, j < n → el B j = el A j + c) : ∀ {k}, k ≤ n → maxTo B k = maxTo A k + c
  | 0, _ => h 0 (by omega)
  | k + 1, hk => by
    unfold maxTo
    rw [maxTo_shift hn h (by omega : k ≤ n), h k (by omega)]
    split <;> split <;> omega
theorem maxTo_same {A : List Int} {x : Int} {n : Nat} (hn : 1 ≤ n) (h : ∀ j, j < n → el A j = x) : ∀ {k}, k ≤ n → maxTo A k = x
  | 0, _ => h 0 (by omega)
  | k + 1, hk => by unfold maxTo; rw [maxTo_same hn h (by omega : k ≤ n), h k (by omega)]; split <;> rfl
/-- The power of number j, below the greatest. -/
def powW (A : List Int) (n j : Nat) : Int := powI (sat (el A j - maxTo A n))
theorem powW_bd (A : List Int) (n j : Nat) : 0 ≤ powW A n j ∧ powW A n j ≤ 65536 := powI_bd _
theorem powI_zero : powI 0 = 65536 := by decide
theorem powW_top {A : List Int} {n j : Nat} (h : el A j = maxTo A n) : powW A n j = 65536 := by
  unfold powW; rw [h, Int.sub_self, show sat 0 = 0 by decide]; exact powI_zero
/-- The sum of the first k powers. -/
def psum (A : List Int) (n k : Nat) : Int := sumTo (powW A n) k
theorem psum_zero (A : List Int) (n : Nat) : psum A n 0 = 0 := rfl
theorem psum_succ (A : List Int) (n k : Nat) : psum A n (k + 1) = psum A n k + powW A n k := rfl
theorem psum_bd (A : List Int) (n k : Nat) : 0 ≤ psum A n k ∧ psum A n k ≤ 65536 * k := sumTo_bd (powW_bd A n) k
theorem psum_top (A : List Int) {n : Nat} (h : 1 ≤ n) : 65536 ≤ psum A n n := by
  obtain ⟨j, hj, e⟩ := maxTo_at A h
  have := sumTo_ge (f := powW A n) (fun j => (powW_bd A n j).1) hj
  rw [powW_top e] at this
  exact this
/-- The weight of number j. -/
def wgt (A : List Int) (n j : Nat) : Int := 65536 * powW A n j / psum A n n
theorem wgt_bd (A : List Int) {n j : Nat} (hj : j < n) : 0 ≤ wgt A n j ∧ wgt A n j ≤ 65536 := by
  have h1 := powW_bd A n j
  have h2 := psum_top A (n := n) (by omega)
  have h3 : powW A n j ≤ psum A n n := sumTo_ge (f := powW A n) (fun j => (powW_bd A n j).1) hj
  unfold wgt
  refine ⟨Int.ediv_nonneg (by omega) (by omega), ?_⟩
  have : 65536 * powW A n j / psum A n n < 65537 := (Int.ediv_lt_iff_lt_mul (by omega)).2 (by omega)
  omega
theorem wgt_sum (A : List Int) {n : Nat} (h : 1 ≤ n) : sumTo (wgt A n) n ≤ 65536 ∧ 65536 - (n : Int) < sumTo (wgt A n) n := by
  have := psum_top A h
  exact parts_sum (p := powW A n) h (by show 1 ≤ psum A n n; omega)
theorem wgt_mono (A : List Int) {n i j : Nat} (hn : 1 ≤ n) (h : el A i ≤ el A j) : wgt A n i ≤ wgt A n j := by
  have h2 := psum_top A hn
  have h3 : powW A n i ≤ powW A n j := powI_mono _ _ (by unfold sat; omega)
  unfold wgt
  exact Int.ediv_le_ediv (by omega) (by omega)
theorem wgt_shift {A B : List Int} {c : Int} {n : Nat} (hn : 1 ≤ n) (h : ∀ j, j < n → el B j = el A j + c) {j : Nat} (hj : j < n) : wgt B n j = wgt A n j := by
  have e : ∀ j, j < n → powW B n j = powW A n j := fun j hj => by
    unfold powW; rw [maxTo_shift hn h (Nat.le_refl n), h j hj]; congr 2; omega
  unfold wgt psum
  rw [e j hj, sumTo_congr e]
theorem wgt_same {A : List Int} {x : Int} {n : Nat} (hn : 1 ≤ n) (h : ∀ j, j < n → el A j = x) {j : Nat} (hj : j < n) : wgt A n j = 65536 / n := by
  have e : ∀ j, j < n → powW A n j = 65536 := fun j hj => powW_top (by rw [h j hj, maxTo_same hn h (Nat.le_refl n)])
  have s : ∀ k, k ≤ n → psum A n k = 65536 * k := fun k hk => by
    induction k with
    | zero => rw [psum_zero]; omega
    | succ k ih => rw [psum_succ, ih (by omega), e k (by omega)]; omega
  unfold wgt
  rw [e j hj, s n (Nat.le_refl n)]
  exact Int.mul_ediv_mul_of_pos _ _ (by omega)
/-- The mean of squares. -/
def meanN (A : List Int) (n : Nat) : Int := sat (dsum A A n / n / 65536)
theorem meanN_bd (A : List Int) (n : Nat) : -2147483647 ≤ meanN A n ∧ meanN A n ≤ 2147483647 := sat_bd _
theorem dsum_sq_nn (A : List Int) (k : Nat) : 0 ≤ dsum A A k := by
  induction k with
  | zero => rw [dsum_zero]; omega
  | succ k ih => rw [dsum_succ]; have := sq_nn (el A k); unfold grow; split <;> (try split) <;> omega
theorem meanN_nn (A : List Int) (n : Nat) : 0 ≤ meanN A n := by
  have h1 : 0 ≤ dsum A A n / n := Int.ediv_nonneg (dsum_sq_nn A n) (by omega)
  have h2 : 0 ≤ dsum A A n / n / 65536 := Int.ediv_nonneg h1 (by omega)
  unfold meanN sat; omega
/-- By what a norm multiplies. -/
def normK (A : List Int) (n : Nat) : Int := invN (sat (meanN A n + 1))
theorem normK_bd (A : List Int) (n : Nat) : 0 ≤ normK A n ∧ normK A n ≤ 2147483647 := invN_bd _
/-- A norm at place j. -/
def normN (A G : List Int) (n j : Nat) : Int := mulN (mulN (el A j) (normK A n)) (el G j)
theorem normN_bd (A G : List Int) (n j : Nat) : -2147483647 ≤ normN A G n j ∧ normN A G n j ≤ 2147483647 := mulN_bd _ _
end Go.Proofs.YtcanjlofnpnhkaaGreatDoor

/- A region that draws its order, all of whose operations are quiet in a class of worlds but the last one, which waits for all others (a store): one walk in the order of the text serves every order. -/
namespace Go.Proofs.YtcanjlofnpnhkaaGreatDoor
open Go.ChangeShapes Go.WideShapes Go.ChangeAt Go.RowKit
/-- The last operation, made to do nothing. -/
def mute (z : Oper) : Oper := { z with op := .move (.const (.bool false)), dst := none }
section
variable {P : Program} {l : List Oper} {z : Oper} {C : World → Prop}
theorem last_at (y : Oper) : (l ++ [y]).toArray[l.length]? = some y := by simp
theorem front_at (y : Oper) {i : Nat} (h : i < l.length) : (l ++ [y]).toArray[i]? = l[i]? := by simp [List.getElem?_append_left h]
theorem ready_mute (md : Region.Mode) (listed : Array Bool) : Region.ready md (l ++ [mute z]).toArray listed = Region.ready md (l ++ [z]).toArray listed := by
  unfold Region.ready
  have hs : (l ++ [mute z]).toArray.size = (l ++ [z]).toArray.size := by simp
  rw [hs]
  refine List.filter_congr fun i hi => ?_
  have hi' : i < l.length + 1 := by simpa using hi
  by_cases h : i < l.length
  · rw [front_at _ h, front_at _ h]
  · obtain rfl : i = l.length := by omega
    rw [last_at, last_at]
    rfl
theorem yielded_mute (hd : z.dst = none) (t : Array Value) : yielded (l ++ [mute z]).toArray t = yielded (l ++ [z]).toArray t := by
  funext j
  unfold yielded
  by_cases h : j < l.length
  · rw [front_at _ h, front_at _ h]
  · by_cases h2 : j = l.length
    · subst h2
      rw [last_at, last_at]
      simp [mute, hd]
    · have e1 : (l ++ [mute z]).toArray[j]? = none := Array.getElem?_eq_none (by simp; omega)
      have e2 : (l ++ [z]).toArray[j]? = none := Array.getElem?_eq_none (by simp; omega)
      rw [e1, e2]
/-- Every edge leads back. -/
def backB (L : List Oper) : Bool := (List.range L.length).all fun k => ((L[k]?).map (·.after.all fun e => !Region.binds .any e || decide (e.on < k))).getD true
/-- The last waits for all. -/
def waitsB (z : Oper) (n : Nat) : Bool := (List.range n).all fun j => z.after.any fun e => Region.binds .any e && (e.on == j)
theorem some_ready {L : List Oper} (hb : backB L = true) {listed : Array Bool} (hs : listed.size = L.length) {n : Nat} (hn : n < L.length) (hu : listed.getD n true = false) : Region.ready .any L.toArray listed ≠ [] := by
  obtain ⟨i, hi, hmin⟩ := exists_least (p := fun i => i < L.length ∧ listed.getD i true = false) ⟨n, hn, hu⟩
  have hm : i ∈ Region.ready .any L.toArray listed := by
    refine mem_ready.2 ⟨hi.2, L[i]'hi.1, by simp [hi.1], fun e he hbind => ?_⟩
    have h1 := List.all_eq_true.1 hb i (List.mem_range.2 hi.1)
    rw [List.getElem?_eq_getElem hi.1] at h1
    simp only [Option.map_some, Option.getD_some] at h1
    have h2 := (Array.all_eq_true'.1 h1) e he
    simp only [hbind, Bool.not_true, Bool.false_or, decide_eq_true_eq] at h2
    by_cases h3 : listed.getD e.on false = true
    · exact h3
    · have h4 : listed.getD e.on true = false := by
        have hlt : e.on < listed.size := by omega
        simp only [Array.getD, hlt, dif_pos] at h3 ⊢
        simpa using h3
      have := hmin e.on ⟨by omega, h4⟩
      omega
  intro h0
  rw [h0] at hm
  cases hm
theorem all_listed (hw : waitsB z l.length = true) {listed : Array Bool} (hs : listed.size = l.length + 1) (hr : l.length ∈ Region.ready .any (l ++ [z]).toArray listed) : Region.ready .any (l ++ [z]).toArray (listed.setIfInBounds l.length true) = [] := by
  obtain ⟨_, o, ho, hall⟩ := mem_ready.1 hr
  rw [last_at] at ho
  obtain rfl := Option.some.inj ho
  apply List.eq_nil_iff_forall_not_mem.2
  intro j hj
  obtain ⟨h1, o', ho', _⟩ := mem_ready.1 hj
  by_cases hjl : j < l.length
  · have h2 := List.all_eq_true.1 hw j (List.mem_range.2 hjl)
    obtain ⟨e, he, h3⟩ := Array.any_eq_true'.1 h2
    simp only [Bool.and_eq_true, beq_iff_eq] at h3
    have h4 := hall e he h3.1
    rw [h3.2] at h4
    have hlt : j < listed.size := by omega
    rw [getD_set_ne true (show l.length ≠ j by omega)] at h1
    simp only [Array.getD, hlt, dif_pos] at h1 h4
    rw [h4] at h1
    cases h1
  · have hsz : j < (l ++ [z]).toArray.size := (Array.getElem?_eq_some_iff.1 ho').1
    obtain rfl : j = l.length := by simp at hsz; omega
    have hlt : l.length < listed.size := by omega
    simp [Array.getD, hlt] at h1
theorem wpAny_last {O : Array Oper} {Q : Exit → Act → World → Prop} (hg : z.guard = none) (hd : z.dst = none) (hb : backB (l ++ [z]) = true) (hw : waitsB z l.length = true) :
    ∀ (fuel : Nat) (listed : Array Bool) (a : Act) (w : World), C w → listed.size = l.length + 1 → listed.getD l.length true = false →
      wpAnyQ P .any (l ++ [mute z]).toArray C (fun a' => ∀ w', C w' → wpList P O Q [z] a' w') fuel listed a → wpAny P .any (l ++ [z]).toArray Q fuel listed a w := by
  intro fuel
  induction fuel with
  | zero =>
    intro listed a w hC hs hu h
    have h1 := h.1
    rw [ready_mute] at h1
    exact absurd h1 (some_ready hb (by simpa using hs) (n := l.length) (by simp) hu)
  | succ fuel ih =>
    intro listed a w hC hs hu h
    refine ⟨fun h1 => absurd h1 (some_ready hb (by simpa using hs) (n := l.length) (by simp) hu), fun i hi => ?_⟩
    have h1 := h.2 i (by rw [ready_mute]; exact hi)
    by_cases hil : i = l.length
    · subst hil
      have hr := all_listed hw hs hi
      unfold qOp at h1
      rw [last_at] at h1
      have hwant : Region.wanted (mute z) (yielded (l ++ [mute z]).toArray a.tmps) = true := by simp [Region.wanted, mute, hg]
      simp only [hwant, if_true] at h1
      obtain ⟨v, _, h2⟩ := h1
      have e : a.put (mute z).dst v = a := rfl
      rw [e] at h2
      have hQ : ∀ w', C w' → wpList P O Q [z] a w' := by
        cases fuel with
        | zero => exact h2.2
        | succ f => exact h2.1 (by rw [ready_mute]; exact hr)
      unfold wpOp
      rw [last_at]
      have hwant2 : Region.wanted z (yielded (l ++ [z]).toArray a.tmps) = true := by simp [Region.wanted, hg]
      simp only [hwant2, if_true]
      have hq0 := hQ w hC
      have hwant3 : Region.wanted z (yielded O a.tmps) = true := by simp [Region.wanted, hg]
      simp only [wpList, hwant3, if_true] at hq0
      rcases hq0 with hq0 | hq0
      case inr => exact Or.inr hq0
      refine Or.inl (Oper.wp_mono (fun a' w' hq => ?_) hq0)
      cases fuel with
      | zero => exact ⟨hr, hq⟩
      | succ f => exact ⟨fun _ => hq, fun j hj => by rw [hr] at hj; cases hj⟩
    · have hlt : i < l.length := by
        obtain ⟨_, o, ho, _⟩ := mem_ready.1 hi
        have hsz := (Array.getElem?_eq_some_iff.1 ho).1
        simp at hsz
        omega
      have hu' : (listed.setIfInBounds i true).getD l.length true = false := by
        rw [getD_set_ne true hil]
        exact hu
      have hstep := wpOp_of_qOp (Q' := Q) hC (K' := wpAny P .any (l ++ [z]).toArray Q fuel (listed.setIfInBounds i true)) (fun a' w' hw' hh => ih (listed.setIfInBounds i true) a' w' hw' (by simpa using hs) hu' hh) h1
      unfold wpOp at hstep ⊢
      rw [front_at _ hlt] at hstep ⊢
      rw [yielded_mute hd] at hstep
      exact hstep
/-- ONE WALK: the operations but the last one quiet in the class; then the last one, in every world of the class. -/
theorem wp_region_last {L : List Oper} {O : Array Oper} {id : Nat} {Q : Exit → Act → World → Prop} {a : Act} {w : World} (hL : L = l ++ [z]) (hm : P.follows .mixedOrders = true) (hg : z.guard = none) (hd : z.dst = none) (hb : backB L = true) (hw : waitsB z l.length = true)
    (hB : Region.lexB .any (l ++ [mute z]).toArray = true) (hC : C { w with drawn := w.drawn + 1 })
    (h : wpQuiet P (l ++ [mute z]).toArray C (fun a' => ∀ w', C w' → wpList P O Q [z] a' w') l a) : (Code.region id L.toArray true).wp P Q a w := by
  subst hL
  simp only [Region.lexB, Bool.and_eq_true] at hB
  have hsz : (l ++ [z]).toArray.size = l.length + 1 := by simp
  refine wp_region_any hm ?_
  rw [hsz]
  refine wpAny_last (O := O) hg hd hb hw _ _ _ _ hC (by simp) (by simp) ?_
  have hq : wpQuiet P (l ++ [mute z]).toArray C (fun a' => ∀ w', C w' → wpList P O Q [z] a' w') (l ++ [mute z]) a := by
    have app : ∀ (l' : List Oper) (a : Act), wpQuiet P (l ++ [mute z]).toArray C (fun a' => ∀ w', C w' → wpList P O Q [z] a' w') l' a →
        wpQuiet P (l ++ [mute z]).toArray C (fun a' => ∀ w', C w' → wpList P O Q [z] a' w') (l' ++ [mute z]) a := by
      intro l'
      induction l' with
      | nil =>
        intro a h
        have hwant : Region.wanted (mute z) (yielded (l ++ [mute z]).toArray a.tmps) = true := by simp [Region.wanted, mute, hg]
        show (if Region.wanted (mute z) (yielded (l ++ [mute z]).toArray a.tmps) then _ else _)
        rw [if_pos hwant]
        refine ⟨.bool false, fun w _ => ?_, h⟩
        unfold Oper.quietAt
        simp [execOp, mute, Act.eval, Oper.quietUpon]
      | cons o l' ih =>
        intro a h
        have h' : (if Region.wanted o (yielded (l ++ [mute z]).toArray a.tmps) then o.quiet P a C (wpQuiet P (l ++ [mute z]).toArray C _ l') else wpQuiet P (l ++ [mute z]).toArray C _ l' (a.put o.dst undef)) := h
        show (if Region.wanted o (yielded (l ++ [mute z]).toArray a.tmps) then o.quiet P a C (wpQuiet P (l ++ [mute z]).toArray C _ (l' ++ [mute z])) else wpQuiet P (l ++ [mute z]).toArray C _ (l' ++ [mute z]) (a.put o.dst undef))
        split
        · rename_i hw1
          rw [if_pos hw1] at h'
          exact Oper.quiet_mono (fun a' hh => ih a' hh) h'
        · rename_i hw1
          rw [if_neg hw1] at h'
          exact ih _ h'
    exact app l a h
  have := wpAnyQ_lex (C := C) (md := .any) hB.1 (l ++ [mute z]) 0 (Array.replicate (l.length + 1) false) a (by simp) (by simpa using hB.2) hq
  simpa using this
theorem wpQuiet_ops {O1 O2 : Array Oper} (hy : ∀ t, yielded O1 t = yielded O2 t) {Q : Act → Prop} : ∀ (l : List Oper) (a : Act), wpQuiet P O1 C Q l a → wpQuiet P O2 C Q l a
  | [], _, h => h
  | o :: l, a, h => by
    have h' : (if Region.wanted o (yielded O1 a.tmps) then o.quiet P a C (wpQuiet P O1 C Q l) else wpQuiet P O1 C Q l (a.put o.dst undef)) := h
    show (if Region.wanted o (yielded O2 a.tmps) then o.quiet P a C (wpQuiet P O2 C Q l) else wpQuiet P O2 C Q l (a.put o.dst undef))
    rw [hy] at h'
    split
    · rename_i hw1
      rw [if_pos hw1] at h'
      exact Oper.quiet_mono (fun a' hh => wpQuiet_ops hy l a' hh) h'
    · rename_i hw1
      rw [if_neg hw1] at h'
      exact wpQuiet_ops hy l _ h'
/-- The same, of a region that is written out. -/
theorem wp_region_last_lit {L : List Oper} {id : Nat} {Q : Exit → Act → World → Prop} {a : Act} {w : World} (hm : P.follows .mixedOrders = true) (hne : L ≠ []) (hg : (L.getLast hne).guard = none) (hd : (L.getLast hne).dst = none)
    (hb : backB L = true) (hw : waitsB (L.getLast hne) L.dropLast.length = true) (hB : Region.lexB .any (L.dropLast ++ [mute (L.getLast hne)]).toArray = true)
    (h : ∀ (l' : List Oper) (z' : Oper), l' = L.dropLast → z' = L.getLast hne → wpQuiet P L.toArray (fun w' => ∃ p : Nxt w, w' = p.to) (fun a' => ∀ w', (∃ p : Nxt w, w' = p.to) → wpList P L.toArray Q [z'] a' w') l' a) : (Code.region id L.toArray true).wp P Q a w := by
  have e := List.dropLast_concat_getLast hne
  refine wp_region_last (C := fun w' => ∃ p : Nxt w, w' = p.to) (O := L.toArray) e.symm hm hg hd hb hw hB ⟨⟨{ w with drawn := w.drawn + 1 }, (Below.refl _ w).drew⟩, rfl⟩ ?_
  refine wpQuiet_ops (O1 := L.toArray) (fun t => ?_) _ _ (h _ _ rfl rfl)
  rw [yielded_mute hd, e]
end
end Go.Proofs.YtcanjlofnpnhkaaGreatDoor
