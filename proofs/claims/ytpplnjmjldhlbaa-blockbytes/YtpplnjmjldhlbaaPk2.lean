/- Contracts of the program's functions, part 2 of 10: what each call returns and leaves of memory. -/
import Derived.Test.YtpplnjmjldhlbaaPk1
import Derived.Deep.OwnRows
import Derived.Deep.LoopGhost
import Derived.Deep.RegionWith
import Derived.Deep.QuietTactic
import Derived.Test.YtpplnjmjldhlbaaRows
import Derived.Laws.AppendOwnNone
import Derived.OwnWalk
import Derived.WalkKit
import Derived.ProofKit
import Derived.OpenShut
import Derived.WalkLawsBesides
import Derived.BigQuiet
import Derived.WalkSmall
import Derived.Laws.IdiomStrings
import Derived.Lib.UnsafeStr
import Derived.Laws.CopyOwn
import Derived.Deep.Quiet
import Derived.Laws.MakeOwn
import Derived.Laws.ResultCell
import Derived.Deep.RegionLaw
import Derived.Deep.CutRange
import Derived.Laws.Tables
/- Plain numbers: what is rounded, cut at the bounds, and the digits behind a point; no condition. -/
namespace Go.Proofs.Ytpplnjmjldhlbaa
theorem div_eq {a b q : Int} (hb : 0 < b) (h1 : q * b ≤ a) (h2 : a < (q + 1) * b) : a / b = q := by
  have e1 : q ≤ a / b := (Int.le_ediv_iff_mul_le hb).2 h1
  have e2 : a / b < q + 1 := (Int.ediv_lt_iff_lt_mul hb).2 h2
  omega
def sat (x : Int) : Int := if 2147483647 < x then 2147483647 else if x < -2147483647 then -2147483647 else x
theorem sat_bd (x : Int) : -2147483647 ≤ sat x ∧ sat x ≤ 2147483647 := by unfold sat; omega
/-- Round half away from nought. -/
def rnd (x d : Int) : Int := if 0 ≤ x then (2 * x + d) / (2 * d) else -((d - 2 * x) / (2 * d))
theorem rnd_neg (x d : Int) (hd : 1 ≤ d) : rnd (-x) d = - rnd x d := by
  unfold rnd
  have z : d / (2 * d) = 0 := Int.ediv_eq_zero_of_lt (by omega) (by omega)
  by_cases h0 : x = 0
  · subst h0; simp [z]
  by_cases h : 0 ≤ x
  · rw [if_neg (by omega), if_pos h, show d - 2 * -x = 2 * x + d by omega]
  · rw [if_pos (by omega), if_neg h, show 2 * -x + d = d - 2 * x by omega]; omega
/-- What Go's quotient and rest make. -/
theorem parts_pos (x d : Int) (hx : 0 ≤ x) (hd : 1 ≤ d) : x = (x / d) * d + x % d ∧ 0 ≤ x % d ∧ x % d < d ∧ 0 ≤ x / d ∧ x / d ≤ x := by
  have h1 := Int.ediv_mul_add_emod x d
  have h2 := Int.emod_nonneg x (show d ≠ 0 by omega)
  have h3 := Int.emod_lt_of_pos x (show 0 < d by omega)
  have h4 : 0 ≤ x / d := Int.ediv_nonneg hx (by omega)
  have h5 : x / d ≤ x := Int.ediv_le_self d hx
  omega
theorem rnd_pos_up (x d q r : Int) (hd : 1 ≤ d) (e : x = q * d + r) (h0 : 0 ≤ x) (h1 : r < d) (h : d - r ≤ r) : rnd x d = q + 1 := by
  unfold rnd
  rw [if_pos h0]
  refine div_eq (by omega) ?_ ?_
  · rw [e, show (q + 1) * (2 * d) = 2 * (q * d) + 2 * d by rw [Int.add_mul, Int.mul_left_comm]; omega]; omega
  · rw [e, show (q + 1 + 1) * (2 * d) = 2 * (q * d) + 4 * d by rw [Int.add_mul, Int.add_mul, Int.mul_left_comm]; omega]; omega
theorem rnd_pos_dn (x d q r : Int) (hd : 1 ≤ d) (e : x = q * d + r) (h0 : 0 ≤ x) (h1 : 0 ≤ r) (h : r < d - r) : rnd x d = q := by
  unfold rnd
  rw [if_pos h0]
  refine div_eq (by omega) ?_ ?_
  · rw [e, show q * (2 * d) = 2 * (q * d) by rw [Int.mul_left_comm]]; omega
  · rw [e, show (q + 1) * (2 * d) = 2 * (q * d) + 2 * d by rw [Int.add_mul, Int.mul_left_comm]; omega]; omega
theorem parts_neg (x d : Int) (hx : x < 0) (hd : 1 ≤ d) : ∃ q r : Int, x.tdiv d = q ∧ x.tmod d = r ∧ -x = (-q) * d + (-r) ∧ r ≤ 0 ∧ -d < r ∧ q ≤ 0 ∧ x ≤ q := by
  have p := parts_pos (-x) d (by omega) hd
  refine ⟨-((-x) / d), -((-x) % d), ?_, ?_, by rw [Int.neg_neg, Int.neg_neg]; omega, by omega, by omega, by omega, by omega⟩
  · have : x.tdiv d = -((-x).tdiv d) := by rw [Int.neg_tdiv]; omega
    rw [this, Int.tdiv_eq_ediv_of_nonneg (by omega)]
  · have : x.tmod d = -((-x).tmod d) := by rw [Int.neg_tmod]; omega
    rw [this, Int.tmod_eq_emod_of_nonneg (by omega)]
theorem rnd_neg_up (x d q r : Int) (hd : 1 ≤ d) (e : -x = (-q) * d + (-r)) (h0 : x < 0) (h1 : -d < r) (h : d + r ≤ -r) : rnd x d = q - 1 := by
  have := rnd_pos_up (-x) d (-q) (-r) hd e (by omega) (by omega) (by omega)
  rw [rnd_neg x d hd] at this
  omega
theorem rnd_neg_dn (x d q r : Int) (hd : 1 ≤ d) (e : -x = (-q) * d + (-r)) (h0 : x < 0) (h1 : r ≤ 0) (h : -r < d + r) : rnd x d = q := by
  have := rnd_pos_dn (-x) d (-q) (-r) hd e (by omega) (by omega) (by omega)
  rw [rnd_neg x d hd] at this
  omega
def clip (n : Int) : Int := if 65536 < n then 65536 else if n < -65536 then -65536 else n
theorem prod_bd {a b A B : Int} (ha1 : -A ≤ a) (ha2 : a ≤ A) (hb1 : -B ≤ b) (hb2 : b ≤ B) : -(A * B) ≤ a * b ∧ a * b ≤ A * B := by
  have hA : 0 ≤ A := by omega
  have h1 : a.natAbs * b.natAbs ≤ A.natAbs * B.natAbs := Nat.mul_le_mul (by omega) (by omega)
  rw [← Int.natAbs_mul, ← Int.natAbs_mul] at h1
  have h2 : 0 ≤ A * B := Int.mul_nonneg hA (by omega)
  omega
theorem rnd_bd (x d B : Int) (hd : 1 ≤ d) (h1 : -(B * d) ≤ x) (h2 : x ≤ B * d) : -B ≤ rnd x d ∧ rnd x d ≤ B := by
  have up : ∀ y : Int, 0 ≤ y → y ≤ B * d → 0 ≤ rnd y d ∧ rnd y d ≤ B := by
    intro y hy hyB
    unfold rnd
    rw [if_pos hy]
    refine ⟨Int.ediv_nonneg (by omega) (by omega), ?_⟩
    have e2 : (2 * y + d) / (2 * d) < B + 1 := by
      refine (Int.ediv_lt_iff_lt_mul (by omega)).2 ?_
      rw [show (B + 1) * (2 * d) = 2 * (B * d) + 2 * d by rw [Int.add_mul, Int.mul_left_comm]; omega]; omega
    omega
  by_cases h : 0 ≤ x
  · have := up x h h2; omega
  · have := up (-x) (by omega) (by omega); rw [rnd_neg x d hd] at this; omega
/-- The quotient: nearest, halves away from nought, the divisor brought above nought. -/
def quo (x y : Int) : Int := if y < 0 then sat (rnd (-(x * 65536)) (-y)) else sat (rnd (x * 65536) y)
/-- The digits behind the point of p / 65536, at most k of them. -/
def fd : Nat → Nat → List UInt8
  | 0, _ => []
  | k + 1, p => if p = 0 then [] else UInt8.ofNat (48 + p * 10 / 65536) :: fd k (p * 10 % 65536)
theorem fd_zero (k : Nat) : fd k 0 = [] := by cases k <;> simp [fd]
theorem fd_succ (k p : Nat) (h : p ≠ 0) : fd (k + 1) p = UInt8.ofNat (48 + p * 10 / 65536) :: fd k (p * 10 % 65536) := by simp [fd, h]
theorem fd_digit (p : Nat) (h : p < 65536) : (UInt8.ofNat (48 + p * 10 / 65536)).toNat = 48 + p * 10 / 65536 := by
  rw [UInt8.toNat_ofNat']; omega
theorem fd_next (p k : Nat) (h : p * 10 ^ (k + 1) % 65536 = 0) : (p * 10 % 65536) * 10 ^ k % 65536 = 0 := by
  rw [Nat.pow_succ, Nat.mul_comm (10 ^ k) 10, ← Nat.mul_assoc] at h
  rw [Nat.mul_mod, Nat.mod_mod, ← Nat.mul_mod]; exact h
end Go.Proofs.Ytpplnjmjldhlbaa

/- Plain numbers: sums, products and quotients as the program answers them, their order and their opposites; no condition. -/
namespace Go.Proofs.Ytpplnjmjldhlbaa
def addN (x y : Int) : Int := sat (x + y)
def subN (x y : Int) : Int := sat (x - y)
def mulN (x y : Int) : Int := sat (rnd (x * y) 65536)
theorem addN_bd (x y : Int) : -2147483647 ≤ addN x y ∧ addN x y ≤ 2147483647 := sat_bd _
theorem subN_bd (x y : Int) : -2147483647 ≤ subN x y ∧ subN x y ≤ 2147483647 := sat_bd _
theorem mulN_bd (x y : Int) : -2147483647 ≤ mulN x y ∧ mulN x y ≤ 2147483647 := sat_bd _
theorem quo_bd (x y : Int) : -2147483647 ≤ quo x y ∧ quo x y ≤ 2147483647 := by unfold quo; split <;> exact sat_bd _
theorem sat_neg (x : Int) : sat (-x) = - sat x := by unfold sat; omega
theorem sat_id (x : Int) (h : -2147483647 ≤ x ∧ x ≤ 2147483647) : sat x = x := by unfold sat; omega
theorem sat_mono (x y : Int) (h : x ≤ y) : sat x ≤ sat y := by unfold sat; omega
theorem addN_comm (x y : Int) : addN x y = addN y x := by unfold addN; rw [Int.add_comm]
theorem mulN_comm (x y : Int) : mulN x y = mulN y x := by unfold mulN; rw [Int.mul_comm]
theorem addN_zero (x : Int) : addN x 0 = sat x := by unfold addN; rw [Int.add_zero]
theorem rnd_whole (x d : Int) (hd : 1 ≤ d) : rnd (x * d) d = x := by
  by_cases h : 0 ≤ x
  · exact rnd_pos_dn (x * d) d x 0 hd (by omega) (Int.mul_nonneg h (by omega)) (by omega) (by omega)
  · have := rnd_pos_dn (-x * d) d (-x) 0 hd (by omega) (Int.mul_nonneg (by omega) (by omega)) (by omega) (by omega)
    rw [show -x * d = -(x * d) by rw [Int.neg_mul], rnd_neg _ _ hd] at this
    omega
theorem mulN_one (x : Int) : mulN x 65536 = sat x := by unfold mulN; rw [rnd_whole x 65536 (by omega)]
theorem subN_self (x : Int) : subN x x = 0 := by unfold subN; rw [Int.sub_self]; decide
theorem subN_zero (x : Int) : subN 0 x = - sat x := by unfold subN; rw [Int.zero_sub, sat_neg]
theorem mulN_neg (x y : Int) : mulN (-x) y = - mulN x y := by
  unfold mulN; rw [show -x * y = -(x * y) by rw [Int.neg_mul], rnd_neg _ _ (by omega), sat_neg]
theorem mulN_opp (a b : Int) : mulN (subN 0 a) b = subN 0 (mulN (sat a) b) := by
  rw [subN_zero, mulN_neg, subN_zero, sat_id _ (mulN_bd _ _)]
theorem rnd_mono (x y d : Int) (hd : 1 ≤ d) (h : x ≤ y) : rnd x d ≤ rnd y d := by
  have up : ∀ u v : Int, 0 ≤ u → u ≤ v → 0 ≤ rnd u d ∧ rnd u d ≤ rnd v d := by
    intro u v h0 h1
    unfold rnd
    rw [if_pos h0, if_pos (by omega)]
    exact ⟨Int.ediv_nonneg (by omega) (by omega), Int.ediv_le_ediv (by omega) (by omega)⟩
  by_cases hx : 0 ≤ x
  · exact (up x y hx h).2
  · by_cases hy : 0 ≤ y
    · have a := (up (-x) (-x) (by omega) (by omega)).1
      have b := (up y y hy (by omega)).1
      rw [rnd_neg x d hd] at a
      omega
    · have a := (up (-y) (-x) (by omega) (by omega)).2
      rw [rnd_neg x d hd, rnd_neg y d hd] at a
      omega
theorem addN_mono (a b c : Int) (h : a ≤ b) : addN a c ≤ addN b c := by unfold addN; exact sat_mono _ _ (by omega)
theorem mulN_mono (a b c : Int) (h : a ≤ b) (hc : 0 ≤ c) : mulN a c ≤ mulN b c := by
  unfold mulN; exact sat_mono _ _ (rnd_mono _ _ _ (by omega) (Int.mul_le_mul_of_nonneg_right h hc))
theorem rnd_near (x d : Int) (hd : 1 ≤ d) : -d ≤ 2 * (x - rnd x d * d) ∧ 2 * (x - rnd x d * d) ≤ d ∧ (2 * (x - rnd x d * d) = d → x ≤ 0) ∧ (2 * (x - rnd x d * d) = -d → 0 ≤ x) := by
  have up : ∀ y : Int, 0 ≤ y → -d ≤ 2 * (y - rnd y d * d) ∧ 2 * (y - rnd y d * d) < d := by
    intro y hy
    obtain ⟨e, r0, r1, q0, q1⟩ := parts_pos y d hy hd
    by_cases hh : d - y % d ≤ y % d
    · rw [rnd_pos_up y d _ _ hd e hy r1 hh, Int.add_mul]; omega
    · rw [rnd_pos_dn y d _ _ hd e hy r0 (by omega)]; omega
  by_cases hx : 0 ≤ x
  · have := up x hx; omega
  · have := up (-x) (by omega)
    rw [rnd_neg x d hd, Int.neg_mul] at this
    omega
theorem quo_neg (x y : Int) (hy : y ≠ 0) : quo (-x) y = - quo x y := by
  unfold quo
  by_cases h : y < 0
  · rw [if_pos h, if_pos h, Int.neg_mul, rnd_neg (-(x * 65536)) (-y) (by omega), sat_neg]
  · rw [if_neg h, if_neg h, Int.neg_mul, rnd_neg (x * 65536) y (by omega), sat_neg]
theorem quo_opp (a b : Int) (ha : -2147483647 ≤ a) (ha' : a ≤ 2147483647) (hb : b ≠ 0) : quo (subN 0 a) b = subN 0 (quo a b) := by
  rw [subN_zero, subN_zero, sat_id a ⟨ha, ha'⟩, quo_neg a b hb, sat_id _ (quo_bd a b)]
/-- A quotient that isn't at the bounds, times the divisor, is near to the number. -/
theorem quo_near (a b : Int) (h1 : quo a b ≠ 2147483647) (h2 : quo a b ≠ -2147483647) :
    (b < 0 → b ≤ 2 * (quo a b * b - a * 65536) ∧ 2 * (quo a b * b - a * 65536) ≤ -b) ∧ (0 < b → -b ≤ 2 * (quo a b * b - a * 65536) ∧ 2 * (quo a b * b - a * 65536) ≤ b) := by
  have un : ∀ z : Int, sat z ≠ 2147483647 → sat z ≠ -2147483647 → sat z = z := by intro z; unfold sat; omega
  constructor
  · intro h
    unfold quo at h1 h2 ⊢
    rw [if_pos h] at h1 h2 ⊢
    rw [un _ h1 h2]
    have := rnd_near (-(a * 65536)) (-b) (by omega)
    rw [Int.mul_neg] at this
    omega
  · intro h
    unfold quo at h1 h2 ⊢
    rw [if_neg (by omega)] at h1 h2 ⊢
    rw [un _ h1 h2]
    have := rnd_near (a * 65536) b (by omega)
    omega
theorem of_floor (n : Int) (h1 : -32767 ≤ n) (h2 : n ≤ 32767) : sat (clip n * 65536) / 65536 = n := by
  unfold clip; rw [if_neg (by omega), if_neg (by omega), sat_id _ (by omega)]; omega
end Go.Proofs.Ytpplnjmjldhlbaa

/- Rows of fixed numbers in memory: what a slice value reads as; rows that a call has made itself, read and written; sums that end at 63 bits. -/
namespace Go.Proofs.Ytpplnjmjldhlbaa
open Go.ChangeShapes Go.WideShapes Go.ChangeAt Go.RowKit
/-- The number at a place of a row; beyond its end: nought. -/
def el (A : List Int) (k : Nat) : Int := A.getD k 0
theorem el_cons_zero (x : Int) (A : List Int) : el (x :: A) 0 = x := rfl
theorem el_cons_succ (x : Int) (A : List Int) (k : Nat) : el (x :: A) (k + 1) = el A k := rfl
theorem el_mem {A : List Int} {k : Nat} (h : k < A.length) : el A k ∈ A := by
  unfold el; rw [List.getD_eq_getElem?_getD, List.getElem?_eq_getElem h]; exact List.getElem_mem h
theorem el_over {A : List Int} {k : Nat} (h : A.length ≤ k) : el A k = 0 := by
  unfold el; rw [List.getD_eq_getElem?_getD, List.getElem?_eq_none h]; rfl
theorem el_map {f : Int → Int} {A : List Int} {k : Nat} (h : k < A.length) : el (A.map f) k = f (el A k) := by
  unfold el; simp [List.getD_eq_getElem?_getD, List.getElem?_eq_getElem h]
theorem el_take {A : List Int} {n k : Nat} (h : k < n) : el (A.take n) k = el A k := by
  unfold el; simp [List.getD_eq_getElem?_getD, h]
theorem el_drop {A : List Int} {n k : Nat} : el (A.drop n) k = el A (n + k) := by
  unfold el; simp [List.getD_eq_getElem?_getD]
theorem el_range {f : Nat → Int} {n k : Nat} (h : k < n) : el ((List.range n).map f) k = f k := by
  unfold el; simp [List.getD_eq_getElem?_getD, h]
theorem el_append_left {A B : List Int} {k : Nat} (h : k < A.length) : el (A ++ B) k = el A k := by
  unfold el; rw [List.getD_eq_getElem?_getD, List.getD_eq_getElem?_getD, List.getElem?_append_left h]
theorem el_append_right {A B : List Int} {k : Nat} : el (A ++ B) (A.length + k) = el B k := by
  unfold el; rw [List.getD_eq_getElem?_getD, List.getD_eq_getElem?_getD, List.getElem?_append_right (by omega), Nat.add_sub_cancel_left]
theorem el_set {A : List Int} {i k : Nat} {x : Int} (h : i < A.length) : el (A.set i x) k = if k = i then x else el A k := by
  unfold el; simp only [List.getD_eq_getElem?_getD, List.getElem?_set]
  by_cases e : i = k
  · subst e; simp [h]
  · rw [if_neg e, if_neg (fun h => e h.symm)]
theorem ext_el {A B : List Int} (hl : A.length = B.length) (h : ∀ k, k < A.length → el A k = el B k) : A = B := by
  apply List.ext_getElem hl
  intro i h1 h2
  have := h i h1
  unfold el at this
  simpa [List.getD_eq_getElem?_getD, List.getElem?_eq_getElem h1, List.getElem?_eq_getElem h2] using this
/-- All numbers of a row are of 32 bits. -/
def Small (A : List Int) : Prop := ∀ x ∈ A, -2147483648 ≤ x ∧ x ≤ 2147483647
theorem Small.el {A : List Int} (h : Small A) (k : Nat) : -2147483648 ≤ el A k ∧ el A k ≤ 2147483647 := by
  by_cases hk : k < A.length
  · exact h _ (el_mem hk)
  · rw [el_over (by omega)]; omega
theorem Small.take {A : List Int} (h : Small A) (n : Nat) : Small (A.take n) := fun x hx => h x (List.mem_of_mem_take hx)
theorem Small.drop {A : List Int} (h : Small A) (n : Nat) : Small (A.drop n) := fun x hx => h x (List.mem_of_mem_drop hx)
theorem Small.append {A B : List Int} (h : Small A) (k : Small B) : Small (A ++ B) := fun x hx => (List.mem_append.1 hx).elim (h x) (k x)
theorem Small.set {A : List Int} (h : Small A) (i : Nat) {x : Int} (hx : -2147483648 ≤ x ∧ x ≤ 2147483647) : Small (A.set i x) := fun y hy => (List.mem_or_eq_of_mem_set hy).elim (h y) (fun e => e ▸ hx)
theorem small_range {f : Nat → Int} {n : Nat} (h : ∀ k, k < n → -2147483648 ≤ f k ∧ f k ≤ 2147483647) : Small ((List.range n).map f) := by
  intro x hx
  obtain ⟨k, hk, rfl⟩ := List.mem_map.1 hx
  exact h k (List.mem_range.1 hk)
theorem small_nil : Small [] := fun x hx => by cases hx
/-- The row of n numbers that f tells. -/
def tab (n : Nat) (f : Nat → Int) : List Int := (List.range n).map f
theorem tab_len (n : Nat) (f : Nat → Int) : (tab n f).length = n := by simp [tab]
theorem el_tab {n : Nat} {f : Nat → Int} {k : Nat} (h : k < n) : el (tab n f) k = f k := el_range h
theorem tab_congr {n : Nat} {f g : Nat → Int} (h : ∀ k, k < n → f k = g k) : tab n f = tab n g :=
  ext_el (by rw [tab_len, tab_len]) fun k hk => by rw [tab_len] at hk; rw [el_tab hk, el_tab hk, h k hk]
theorem tab_el {A : List Int} {n : Nat} (h : A.length = n) : tab n (el A) = A := ext_el (by rw [tab_len, h]) fun k hk => by rw [tab_len] at hk; exact el_tab hk
theorem tab_set {n : Nat} {f : Nat → Int} {k : Nat} {x : Int} (hk : k < n) : (tab n f).set k x = tab n (fun j => if j = k then x else f j) :=
  ext_el (by rw [List.length_set, tab_len, tab_len]) fun j hj => by
    rw [List.length_set, tab_len] at hj
    rw [el_set (by rw [tab_len]; exact hk), el_tab hj, el_tab hj]
theorem tab_step {n : Nat} {f : Nat → Int} {k : Nat} {x : Int} (hk : k < n) (hx : x = f k) : (tab n (fun j => if j < k then f j else 0)).set k x = tab n (fun j => if j < k + 1 then f j else 0) := by
  rw [tab_set hk]
  refine tab_congr fun j hj => ?_
  by_cases e : j = k
  · subst e; rw [if_pos rfl, if_pos (by omega), hx]
  · rw [if_neg e]
    by_cases h2 : j < k
    · rw [if_pos h2, if_pos (by omega)]
    · rw [if_neg h2, if_neg (by omega)]
theorem tab_done {n : Nat} {f : Nat → Int} : tab n (fun j => if j < n then f j else 0) = tab n f := tab_congr fun j hj => by rw [if_pos hj]
theorem tab_start {n : Nat} {f : Nat → Int} : tab n (fun j => if j < 0 then f j else 0) = tab n (fun _ => 0) := tab_congr fun j _ => by rw [if_neg (by omega)]
theorem small_tab {f : Nat → Int} {n : Nat} (h : ∀ k, k < n → -2147483648 ≤ f k ∧ f k ≤ 2147483647) : Small (tab n f) := small_range h
/-- In w the slice that begins at ao, of n numbers, reads as A. -/
structure RowAt (w : World) (ao : Option Addr) (n : Nat) (A : List Int) : Prop where
  len : A.length = n
  max : n ≤ 9223372036854775807
  small : Small A
  cells : 0 < n → ∃ b o, ao = some ⟨b, o, none⟩ ∧ ∀ t, t < n → w.cell? ⟨b, o + t, none⟩ = some (.int .i32 (el A t))
theorem RowAt.nil (w : World) (ao : Option Addr) : RowAt w ao 0 [] := ⟨rfl, by omega, small_nil, fun h => by omega⟩
theorem RowAt.below {w w' : World} {ao : Option Addr} {n : Nat} {A : List Int} (h : RowAt w ao n A) (hb : Below w.heap.size w w') : RowAt w' ao n A := by
  refine ⟨h.len, h.max, h.small, fun hn => ?_⟩
  obtain ⟨b, o, e, hc⟩ := h.cells hn
  refine ⟨b, o, e, fun t ht => ?_⟩
  have hlt : b < w.heap.size := by simpa using World.block_lt_of_cell? w _ (hc t ht)
  rw [hb.cell (by exact hlt)]; exact hc t ht
theorem RowAt.drewN {w : World} {ao : Option Addr} {n : Nat} {A : List Int} (h : RowAt w ao n A) (m : Nat) : RowAt (w.drewN m) ao n A :=
  h.below (below_drewN (Below.refl _ _) m)
/-- A part of a row. -/
theorem RowAt.part {w : World} {b o n : Nat} {A : List Int} (h : RowAt w (some ⟨b, o, none⟩) n A) (i m : Nat) (him : i + m ≤ n) : RowAt w (some ⟨b, o + i, none⟩) m ((A.drop i).take m) := by
  have hl := h.len
  refine ⟨by simp; omega, by have := h.max; omega, (h.small.drop i).take m, fun hm => ?_⟩
  obtain ⟨b', o', e, hc⟩ := h.cells (by omega)
  simp only [Option.some.injEq, Addr.mk.injEq, and_true] at e
  obtain ⟨rfl, rfl⟩ := e
  refine ⟨b, o + i, rfl, fun t ht => ?_⟩
  rw [el_take ht, el_drop, Nat.add_assoc]
  exact hc (i + t) (by omega)
/-- Block g is a row of cap numbers that may be written, the first n are A; it is none of the blocks below B. -/
structure Fresh (w : World) (B g n cap : Nat) (A : List Int) : Prop where
  base : B ≤ g
  len : A.length = n
  fit : n ≤ cap
  max : cap ≤ 9223372036854775807
  small : Small A
  row : ∃ cur : Array Value, w.heap[g]? = some (.cells cur 71 (0, 0)) ∧ cur.size = cap ∧ ∀ t, t < n → cur[t]? = some (.int .i32 (el A t))
theorem Fresh.lt {w : World} {B g n cap : Nat} {A : List Int} (h : Fresh w B g n cap A) : g < w.heap.size := by
  obtain ⟨c, hb, _, _⟩ := h.row
  exact (Array.getElem?_eq_some_iff.1 hb).1
theorem Fresh.cell {w : World} {B g n cap : Nat} {A : List Int} (h : Fresh w B g n cap A) {t : Nat} (ht : t < n) : w.cell? ⟨g, t, none⟩ = some (.int .i32 (el A t)) := by
  obtain ⟨c, hb, _, hc⟩ := h.row
  simp [World.cell?, hb, hc t ht]
theorem Fresh.frozen {w : World} {B g n cap : Nat} {A : List Int} (h : Fresh w B g n cap A) (t : Nat) : w.frozen? ⟨g, t, none⟩ = false := by
  obtain ⟨c, hb, _, _⟩ := h.row
  simp [World.frozen?, hb]
theorem Fresh.rowAt {w : World} {B g n cap : Nat} {A : List Int} (h : Fresh w B g n cap A) : RowAt w (some ⟨g, 0, none⟩) n A :=
  ⟨h.len, by have := h.fit; have := h.max; omega, h.small, fun _ => ⟨g, 0, rfl, fun t ht => by rw [Nat.zero_add]; exact h.cell ht⟩⟩
theorem Fresh.of_block {w w' : World} {B g n cap : Nat} {A : List Int} (h : Fresh w B g n cap A) (e : w'.heap[g]? = w.heap[g]?) : Fresh w' B g n cap A := by
  obtain ⟨c, hb, hs, hc⟩ := h.row
  exact ⟨h.base, h.len, h.fit, h.max, h.small, c, e.trans hb, hs, hc⟩
theorem Fresh.below {w w' : World} {B g n cap : Nat} {A : List Int} (h : Fresh w B g n cap A) (hb : Below w.heap.size w w') : Fresh w' B g n cap A := h.of_block (hb.block g h.lt)
theorem Fresh.mono {w : World} {B B' g n cap : Nat} {A : List Int} (h : Fresh w B g n cap A) (hB : B' ≤ B) : Fresh w B' g n cap A := ⟨Nat.le_trans hB h.base, h.len, h.fit, h.max, h.small, h.row⟩
theorem Fresh.set {w : World} {B g n cap : Nat} {A : List Int} (h : Fresh w B g n cap A) (i : Nat) (x : Int) (hi : i < n) (hx : -2147483648 ≤ x ∧ x ≤ 2147483647) :
    Fresh (w.setCell ⟨g, i, none⟩ (.int .i32 x)) B g n cap (A.set i x) := by
  obtain ⟨c, hb, hs, hc⟩ := h.row
  refine ⟨h.base, by rw [List.length_set]; exact h.len, h.fit, h.max, h.small.set i hx, c.setIfInBounds i (.int .i32 x), ?_, by simpa using hs, fun t ht => ?_⟩
  · simp [World.setCell, Array.getElem?_modify, hb]
  · rw [Array.getElem?_setIfInBounds, el_set (by rw [h.len]; exact hi)]
    have hf := h.fit
    by_cases e : i = t
    · subst e; rw [if_pos rfl, if_pos (by omega), if_pos rfl]
    · rw [if_neg e, if_neg (fun h => e h.symm)]; exact hc t ht
/-- A place more of a row that is filled from its beginning. -/
theorem Fresh.step {w : World} {B g n cap : Nat} {f : Nat → Int} {k : Nat} (h : Fresh w B g n cap (tab n (fun j => if j < k then f j else 0))) (x : Int) (hk : k < n) (hx : x = f k) (hb : -2147483648 ≤ x ∧ x ≤ 2147483647) :
    Fresh (w.setCell ⟨g, k, none⟩ (.int .i32 x)) B g n cap (tab n (fun j => if j < k + 1 then f j else 0)) := by
  have := h.set k x hk hb
  rwa [tab_step hk hx] at this
theorem Fresh.drewN {w : World} {B g n cap : Nat} {A : List Int} (h : Fresh w B g n cap A) (m : Nat) : Fresh (w.drewN m) B g n cap A := h.below (below_drewN (Below.refl _ _) m)
theorem Fresh.drew {w : World} {B g n cap : Nat} {A : List Int} (h : Fresh w B g n cap A) : Fresh w.drew B g n cap A := h.of_block rfl
theorem Fresh.setOther {w : World} {B g n cap : Nat} {A : List Int} (h : Fresh w B g n cap A) {a : Addr} (ha : g ≠ a.block) (v : Value) : Fresh (w.setCell a v) B g n cap A := h.of_block (Below.heap_setCell _ _ _ _ ha)
/-- What make lays. -/
theorem fresh_made (w : World) (n : Nat) (hn : n ≤ 9223372036854775807) : Fresh (w.alloc (.cells (madeCells #[.int .i32 0] n) 71)) w.heap.size w.heap.size n n (tab n fun _ => 0) := by
  obtain ⟨c, hb, hs, hc⟩ := World.rowIs_made w (.int .i32 0) n 71
  exact ⟨Nat.le_refl _, tab_len _ _, Nat.le_refl _, hn, small_tab fun k _ => by omega, c, hb, hs, fun t ht => by rw [hc t ht, el_tab ht]⟩
/-- A row that an append has grown. -/
theorem fresh_of_owns {w : World} {B n cap : Nat} {ao : Option Addr} {A : List Int} (h : w.ownsRow B 71 1 (.slice ao n cap) n (A.map (Value.int .i32))) (hA : Small A) (hao : ao ≠ none) :
    ∃ g, ao = some ⟨g, 0, none⟩ ∧ Fresh w B g n cap A := by
  obtain ⟨h1, h2⟩ := h
  have hl : A.length = n := by simpa using h1
  rcases h2 with ⟨h3, _⟩ | ⟨g, c, cur, hv, hg, hh, hn, hm, hs, ht⟩
  · simp only [Value.slice.injEq] at h3; exact absurd h3.1 hao
  · simp only [Value.slice.injEq, true_and] at hv
    obtain ⟨rfl, rfl⟩ := hv
    refine ⟨g, rfl, hg, hl, hn, by unfold maxLen at hm; omega, hA, cur, hh, by simpa using hs, fun t htn => ?_⟩
    have e1 : cur[t]? = (cur.toList.take (n * 1))[t]? := by rw [Nat.mul_one, List.getElem?_take, if_pos htn, Array.getElem?_toList]
    rw [e1, ht]
    unfold el
    simp [List.getD_eq_getElem?_getD, List.getElem?_eq_getElem (show t < A.length by omega)]
theorem Fresh.owns {w : World} {B g n cap : Nat} {A : List Int} (h : Fresh w B g n cap A) : w.ownsRow B 71 1 (.slice (some ⟨g, 0, none⟩) n cap) n (A.map (Value.int .i32)) := by
  obtain ⟨c, hb, hs, hc⟩ := h.row
  have hl := h.len
  have hf := h.fit
  refine ⟨by simp [hl], Or.inr ⟨g, cap, c, rfl, h.base, hb, h.fit, by unfold maxLen; exact h.max, by simpa using hs, ?_⟩⟩
  rw [Nat.mul_one]
  apply List.ext_getElem?
  intro t
  by_cases ht : t < n
  · rw [List.getElem?_take, if_pos ht, Array.getElem?_toList, hc t ht]
    unfold el
    simp [List.getD_eq_getElem?_getD, List.getElem?_eq_getElem (show t < A.length by omega)]
  · rw [List.getElem?_take, if_neg ht, List.getElem?_eq_none (by simp; omega)]
theorem wrap_in {x : Int} (h : -9223372036854775808 ≤ x ∧ x ≤ 9223372036854775807) : IntKind.i64.wrap x = x := by
  rw [IntKind.wrap_i64]; omega
/-- A sum that ends at 63 bits. -/
def grow (s x : Int) : Int := if 9223372036854775807 < s + x then 9223372036854775807 else if s + x < -9223372036854775807 then -9223372036854775807 else s + x
theorem grow_bd (s x : Int) : -9223372036854775807 ≤ grow s x ∧ grow s x ≤ 9223372036854775807 := by unfold grow; omega
/-- The sum of the first k products. -/
def dsum (A B : List Int) : Nat → Int
  | 0 => 0
  | k + 1 => grow (dsum A B k) (el A k * el B k)
theorem dsum_zero (A B : List Int) : dsum A B 0 = 0 := rfl
theorem dsum_succ (A B : List Int) (k : Nat) : dsum A B (k + 1) = grow (dsum A B k) (el A k * el B k) := rfl
theorem dsum_bd (A B : List Int) (k : Nat) : -9223372036854775807 ≤ dsum A B k ∧ dsum A B k ≤ 9223372036854775807 := by
  cases k with
  | zero => rw [dsum_zero]; omega
  | succ k => exact grow_bd _ _
def dotN (A B : List Int) (n : Nat) : Int := sat (rnd (dsum A B n) 65536)
theorem dotN_bd (A B : List Int) (n : Nat) : -2147483647 ≤ dotN A B n ∧ dotN A B n ≤ 2147483647 := sat_bd _
theorem dsum_comm (A B : List Int) (k : Nat) : dsum A B k = dsum B A k := by
  induction k with
  | zero => rfl
  | succ k ih => rw [dsum_succ, dsum_succ, ih, Int.mul_comm]
theorem dotN_comm (A B : List Int) (n : Nat) : dotN A B n = dotN B A n := by unfold dotN; rw [dsum_comm]
/-- The place of the first greatest of the first k numbers. -/
def amax (A : List Int) : Nat → Int
  | 0 => -1
  | k + 1 => if amax A k < 0 ∨ el A (amax A k).toNat < el A k then k else amax A k
theorem amax_bd (A : List Int) (k : Nat) : -1 ≤ amax A k ∧ amax A k < k := by
  induction k with
  | zero => show -1 ≤ (-1 : Int) ∧ (-1 : Int) < (0 : Nat); omega
  | succ k ih => unfold amax; split <;> omega
/-- The error's number of two rows that are taken side by side. -/
def fitN (n m : Nat) : Int := if 4096 < n ∨ 4096 < m then 2 else if n ≠ m then 6 else 0
end Go.Proofs.Ytpplnjmjldhlbaa

/- Rows that a call makes by append and make, in this program. -/
namespace Go.Proofs.Ytpplnjmjldhlbaa
open Go.ChangeShapes Go.WideShapes Go.ChangeAt Go.RowKit
theorem Try.infoNum : (Try.prog.info? 71).map (fun i => (i.zero, i.size, i.bytes)) = some (some (.int .i32 0), 1, 4) := by kernel_rfl
/-- A slice that may be cut and copied: its row, and that its capacity fits. -/
structure Arg (w : World) (ao : Option Addr) (n ca : Nat) (A : List Int) : Prop where
  row : RowAt w ao n A
  fit : n ≤ ca
  max : ca ≤ 9223372036854775807
  nil : ao = none → ca = 0
  cold : ∀ b o, ao = some ⟨b, o, none⟩ → ∀ t, t < n → w.frozen? ⟨b, o + t, none⟩ = false
theorem frozen_of_block {w w' : World} {b o : Nat} (e : w'.heap[b]? = w.heap[b]?) : w'.frozen? ⟨b, o, none⟩ = w.frozen? ⟨b, o, none⟩ := by
  unfold World.frozen?
  simp only [e]
theorem Fresh.arg {w : World} {B g n cap : Nat} {A : List Int} (h : Fresh w B g n cap A) : Arg w (some ⟨g, 0, none⟩) n cap A := ⟨h.rowAt, h.fit, h.max, (fun h => by cases h), fun b o e t _ => by
  simp only [Option.some.injEq, Addr.mk.injEq, and_true] at e
  obtain ⟨rfl, rfl⟩ := e
  exact h.frozen _⟩
theorem Arg.lt {w : World} {b o n ca : Nat} {A : List Int} (h : Arg w (some ⟨b, o, none⟩) n ca A) (hn : 0 < n) : b < w.heap.size := by
  obtain ⟨b', o', e, hc⟩ := h.row.cells hn
  simp only [Option.some.injEq, Addr.mk.injEq, and_true] at e
  obtain ⟨rfl, rfl⟩ := e
  have := World.block_lt_of_cell? w _ (hc 0 hn)
  simpa using this
theorem Arg.cold_of {w w' : World} {ao : Option Addr} {n ca : Nat} {A : List Int} (h : Arg w ao n ca A) (hb : ∀ b, b < w.heap.size → w'.heap[b]? = w.heap[b]?) : ∀ b o, ao = some ⟨b, o, none⟩ → ∀ t, t < n → w'.frozen? ⟨b, o + t, none⟩ = false := fun b o e t ht => by
  subst e
  rw [frozen_of_block (hb b (h.lt (by omega)))]
  exact h.cold b o rfl t ht
theorem Arg.below {w w' : World} {ao : Option Addr} {n ca : Nat} {A : List Int} (h : Arg w ao n ca A) (hb : Below w.heap.size w w') : Arg w' ao n ca A := ⟨h.row.below hb, h.fit, h.max, h.nil, h.cold_of fun b hl => hb.block b hl⟩
theorem fresh_empty (w : World) : Fresh (w.alloc (.cells #[] 71)) w.heap.size w.heap.size 0 0 [] :=
  ⟨Nat.le_refl _, rfl, Nat.le_refl _, by omega, small_nil, #[], heap_alloc_new _ _, rfl, fun t ht => by omega⟩
/-- append(out, xs...), out a row of the call's own, xs any row. -/
theorem wpList_append_row {w : World} {ops : Array Oper} {rest : List Oper} {o : Oper} {a : Act} {Q : Exit → Act → World → Prop} (hgd : o.guard = none) (s x : Operand)
    (ho : o.op = .call { callee := .builtin .append, args := #[s, x], argTypes := #[72, 72] })
    (B g n cap : Nat) (A : List Int) (hs : a.eval s = .slice (some ⟨g, 0, none⟩) n cap) (hF : Fresh w B g n cap A)
    (ao : Option Addr) (m c : Nat) (X : List Int) (hx : a.eval x = .slice ao m c) (hX : RowAt w ao m X) (hc : ao = none → c = 0)
    (hlen : n + m ≤ 1048576) (hB : B ≤ w.heap.size)
    (h : ∀ g' cap' w', Fresh w' B g' (n + m) cap' (A ++ X) → Below B w w' → wpList Try.prog ops Q rest (a.put o.dst (.slice (some ⟨g', 0, none⟩) (n + m) cap')) w') : wpList Try.prog ops Q (o :: rest) a w := by
  obtain ⟨i0, hi, hz0, hz1, hz2⟩ := info_parts Try.infoNum
  cases ao with
  | none =>
    have hm : m = 0 := by
      rcases Nat.eq_zero_or_pos m with h0 | h0
      · exact h0
      · obtain ⟨b, o, e, _⟩ := hX.cells h0; cases e
    subst hm
    have hc0 := hc rfl
    subst hc0
    obtain rfl : X = [] := List.length_eq_zero_iff.1 hX.len
    refine wpList_append_own_none hgd s x 72 ho B 71 i0 1 Try.underlying72 hi _ n _ hs hF.owns hx ?_
    have := h g cap w (by simpa using hF) (Below.refl _ _)
    simpa using this
  | some ad =>
    refine wpList_append_own w hgd s x 72 ho B 71 i0 (.int .i32 0) 1 4 Try.underlying72 hi hz0 hz1 hz2 rfl (by decide) _ n _ hs hF.owns ad m c (X.map (Value.int .i32)) hx (by simp [hX.len]) ?_ (ints_oneCell _ _) (by unfold maxLen; omega) (by omega) hB ?_
    · intro j u hj
      have hjm : j < m := by
        have := (List.getElem?_eq_some_iff.1 hj).1
        simpa [hX.len] using this
      obtain ⟨b, o', e, hcell⟩ := hX.cells (by omega)
      simp only [Option.some.injEq] at e
      subst e
      have e2 : (Addr.mk b o' none).add j = ⟨b, o' + j, none⟩ := by simp [Addr.add]
      rw [e2, hcell j hjm]
      have hl := hX.len
      rw [List.getElem?_map, List.getElem?_eq_getElem (show j < X.length by omega)] at hj
      simp only [Option.map_some, Option.some.injEq] at hj
      rw [← hj]
      unfold el
      simp [List.getD_eq_getElem?_getD, List.getElem?_eq_getElem (show j < X.length by omega)]
    · intro v' w' hown hg hnil
      have hb : Below B w w' := (Below.refl _ _).grown hg hB (fun k hk => by simp [Value.ownBlock] at hk; subst hk; exact hF.base)
      obtain ⟨h1, h2⟩ := hown
      rcases h2 with ⟨h3, _⟩ | ⟨g', c', cur, hv, hr⟩
      · have := (hnil.1 h3).1; cases this
      · subst hv
        rw [← List.map_append] at h1 hr
        obtain ⟨g2, e2, F⟩ := fresh_of_owns (w := w') (B := B) (n := n + m) (cap := c') (ao := some ⟨g', 0, none⟩) (A := A ++ X) ⟨h1, Or.inr ⟨g', c', cur, rfl, hr⟩⟩ (hF.small.append hX.small) (by simp)
        simp only [Option.some.injEq, Addr.mk.injEq, and_true] at e2
        subst e2
        exact h g' c' w' F hb
/-- A row of one number, laid to be appended. -/
theorem rowAt_one (w : World) (x : Int) (hx : -2147483648 ≤ x ∧ x ≤ 2147483647) : RowAt (w.alloc (.cells #[.int .i32 x] 71)) (some ⟨w.heap.size, 0, none⟩) 1 [x] := by
  refine ⟨rfl, by omega, fun y hy => by simp at hy; subst hy; exact hx, fun _ => ⟨_, _, rfl, fun t ht => ?_⟩⟩
  obtain rfl : t = 0 := by omega
  have e := heap_alloc_new w (.cells #[.int .i32 x] 71)
  unfold World.cell?
  simp only [Nat.add_zero, e]
  rfl
/-- A row that is written out. -/
theorem fresh_lit (w : World) (A : List Int) (hA : Small A) (hl : A.length ≤ 1048576) : Fresh (w.alloc (.cells (A.map (Value.int .i32)).toArray 71)) w.heap.size w.heap.size A.length A.length A :=
  ⟨Nat.le_refl _, rfl, Nat.le_refl _, by omega, hA, _, heap_alloc_new _ _, by simp, fun t ht => by
    unfold el
    simp [List.getD_eq_getElem?_getD, List.getElem?_eq_getElem ht]⟩
end Go.Proofs.Ytpplnjmjldhlbaa

/- Rows of rows in memory: what a slice of slices reads as. -/
namespace Go.Proofs.Ytpplnjmjldhlbaa
open Go.ChangeShapes Go.WideShapes Go.ChangeAt Go.RowKit
/-- Row t of several; beyond their end: none. -/
def rowOf (R : List (List Int)) (t : Nat) : List Int := R.getD t []
/-- In w the slice that begins at ao, of n rows, reads as R. -/
structure GridAt (w : World) (ao : Option Addr) (n : Nat) (R : List (List Int)) : Prop where
  len : R.length = n
  max : n ≤ 9223372036854775807
  cells : 0 < n → ∃ b o, ao = some ⟨b, o, none⟩ ∧ ∀ t, t < n → ∃ ro m c, w.cell? ⟨b, o + t, none⟩ = some (.slice ro m c) ∧ Arg w ro m c (rowOf R t)
theorem GridAt.nil (w : World) (ao : Option Addr) : GridAt w ao 0 [] := ⟨rfl, by omega, fun h => by omega⟩
theorem GridAt.below {w w' : World} {ao : Option Addr} {n : Nat} {R : List (List Int)} (h : GridAt w ao n R) (hb : Below w.heap.size w w') : GridAt w' ao n R := by
  refine ⟨h.len, h.max, fun hn => ?_⟩
  obtain ⟨b, o, e, hc⟩ := h.cells hn
  refine ⟨b, o, e, fun t ht => ?_⟩
  obtain ⟨ro, m, c, h1, h2⟩ := hc t ht
  have hlt : b < w.heap.size := by simpa using World.block_lt_of_cell? w _ h1
  exact ⟨ro, m, c, by rw [hb.cell (by exact hlt)]; exact h1, h2.below hb⟩
theorem GridAt.drewN {w : World} {ao : Option Addr} {n : Nat} {R : List (List Int)} (h : GridAt w ao n R) (m : Nat) : GridAt (w.drewN m) ao n R := h.below (below_drewN (Below.refl _ _) m)
/-- Are the first k rows as long as the first? -/
def alike (R : List (List Int)) : Nat → Bool
  | 0 => true
  | k + 1 => alike R k && ((rowOf R k).length == (rowOf R 0).length)
theorem alike_len {R : List (List Int)} {n : Nat} (h : alike R n = true) {t : Nat} (ht : t < n) : (rowOf R t).length = (rowOf R 0).length := by
  induction n with
  | zero => omega
  | succ n ih =>
    unfold alike at h
    rw [Bool.and_eq_true] at h
    rcases Nat.lt_or_ge t n with h1 | h1
    · exact ih h.1 h1
    · obtain rfl : t = n := by omega
      simpa using h.2
theorem alike_not {R : List (List Int)} {n t : Nat} (ht : t < n) (h : (rowOf R t).length ≠ (rowOf R 0).length) : alike R n = false := by
  cases e : alike R n with
  | false => rfl
  | true => exact absurd (alike_len e ht) h
/-- The error's number of a mix. -/
def mixedN (n : Nat) (R : List (List Int)) : Int := if n = 0 ∨ R.length = 0 then 8 else if 4096 < n then 2 else if R.length ≠ n then 6 else if alike R n = true then 0 else 6
/-- Column j of n rows. -/
def colOf (R : List (List Int)) (n j : Nat) : List Int := tab n fun i => el (rowOf R i) j
theorem mixedN_ok {n : Nat} {R : List (List Int)} (h : mixedN n R = 0) : 1 ≤ n ∧ n ≤ 4096 ∧ R.length = n ∧ ∀ t, t < n → (rowOf R t).length = (rowOf R 0).length := by
  unfold mixedN at h
  split at h
  · omega
  · split at h
    · omega
    · split at h
      · omega
      · split at h
        · rename_i h1 h2 h3 h4
          exact ⟨by omega, by omega, by omega, fun t ht => alike_len h4 ht⟩
        · omega
end Go.Proofs.Ytpplnjmjldhlbaa

/- What each call of package fix answers, and that the awake check of the laws of layer 1 is true, of every input in range. -/
namespace Go.Proofs.Ytpplnjmjldhlbaa
open Go.ChangeShapes Go.WideShapes Go.ChangeAt Go.RowKit
open Go.Lib (byteCells)
def lenOf : Value → Nat | .slice _ n _ => n | _ => 0
theorem lenOf_owns {w : World} {base : Nat} {e : TypeId} {size : Nat} {v : Value} {n : Nat} {xs : List Value} (h : w.ownsRow base e size v n xs) : lenOf v = n := by
  rcases h.2 with ⟨rfl, rfl⟩ | ⟨g, cap, cur, rfl, _⟩ <;> rfl
theorem Try.info5 : (Try.prog.info? 5).map (fun i => (i.zero, i.size, i.bytes)) = some (some (.int .u8 0), 1, 1) := by kernel_rfl
end Go.Proofs.Ytpplnjmjldhlbaa

/- What each call of package vec answers: sums of products, and that they change nothing. -/
namespace Go.Proofs.Ytpplnjmjldhlbaa
open Go.ChangeShapes Go.WideShapes Go.ChangeAt Go.RowKit
end Go.Proofs.Ytpplnjmjldhlbaa

/- Mixes of rows: their errors, and what comes out. -/
namespace Go.Proofs.Ytpplnjmjldhlbaa
open Go.ChangeShapes Go.WideShapes Go.ChangeAt Go.RowKit
end Go.Proofs.Ytpplnjmjldhlbaa

/- Plain numbers: the steps, powers of two by them, and whole roots; no condition. -/
namespace Go.Proofs.Ytpplnjmjldhlbaa
def stp : List Nat := [65536, 64830, 64132, 63441, 62757, 62081, 61413, 60751, 60097, 59449, 58809, 58176, 57549, 56929, 56316, 55709, 55109, 54515, 53928, 53347, 52773, 52204, 51642, 51085, 50535, 49991, 49452, 48920, 48393, 47871, 47356, 46846, 46341, 45842, 45348, 44859, 44376, 43898, 43425, 42958, 42495, 42037, 41584, 41136, 40693, 40255, 39821, 39392, 38968, 38548, 38133, 37722, 37316, 36914, 36516, 36123, 35734, 35349, 34968, 34591, 34219, 33850, 33486, 33125, 32768]
def stepAt (i : Nat) : Nat := stp.getD i 0
theorem step_all : (List.range 64).all (fun i => decide (stepAt (i + 1) < stepAt i ∧ stepAt i ≤ stepAt (i + 1) + 706 ∧ 32768 ≤ stepAt (i + 1) ∧ stepAt i ≤ 65536)) = true := by decide
theorem step_at (i : Nat) (h : i < 64) : stepAt (i + 1) < stepAt i ∧ stepAt i ≤ stepAt (i + 1) + 706 ∧ 32768 ≤ stepAt (i + 1) ∧ stepAt i ≤ 65536 := by
  have := List.all_eq_true.1 step_all i (List.mem_range.2 h)
  simpa using this
/-- What is taken off a step. -/
def offN (y : Nat) : Nat := ((stepAt (y / 1024 % 64) - stepAt (y / 1024 % 64 + 1)) * (y % 1024) + 512) / 1024
def vN (y : Nat) : Nat := stepAt (y / 1024 % 64) - offN y
def powN (y : Nat) : Nat := vN y / 2 ^ (y / 65536)
theorem off_le (y : Nat) : offN y ≤ stepAt (y / 1024 % 64) - stepAt (y / 1024 % 64 + 1) := by
  unfold offN
  have h : (stepAt (y / 1024 % 64) - stepAt (y / 1024 % 64 + 1)) * (y % 1024) ≤ (stepAt (y / 1024 % 64) - stepAt (y / 1024 % 64 + 1)) * 1023 := Nat.mul_le_mul_left _ (by omega)
  have s := step_at (y / 1024 % 64) (Nat.mod_lt _ (by decide))
  omega
theorem vN_bd (y : Nat) : stepAt (y / 1024 % 64 + 1) ≤ vN y ∧ vN y ≤ stepAt (y / 1024 % 64) ∧ 32768 ≤ vN y ∧ vN y ≤ 65536 := by
  have a := off_le y
  have s := step_at (y / 1024 % 64) (Nat.mod_lt _ (by decide))
  unfold vN
  omega
theorem powN_bd (y : Nat) : powN y ≤ 65536 := Nat.le_trans (Nat.div_le_self _ _) (vN_bd y).2.2.2
/-- As the program reckons it, in whole numbers with a sign. -/
theorem prod_int (y : Nat) : ((stepAt (y / 1024 % 64) : Int) - (stepAt (y / 1024 % 64 + 1) : Int)) * ((y : Int) % 1024) = (((stepAt (y / 1024 % 64) - stepAt (y / 1024 % 64 + 1)) * (y % 1024) : Nat) : Int) := by
  have s := step_at (y / 1024 % 64) (Nat.mod_lt _ (by decide))
  rw [Int.natCast_mul, Int.ofNat_sub (by omega)]; rfl
theorem v_int (y : Nat) : (stepAt (y / 1024 % 64) : Int) - (((stepAt (y / 1024 % 64) : Int) - (stepAt (y / 1024 % 64 + 1) : Int)) * ((y : Int) % 1024) + 512) / 1024 = (vN y : Int) := by
  have a := off_le y
  rw [prod_int]
  unfold vN offN at *
  omega
theorem prod_bd2 (y : Nat) : 0 ≤ ((stepAt (y / 1024 % 64) : Int) - (stepAt (y / 1024 % 64 + 1) : Int)) * ((y : Int) % 1024) ∧ ((stepAt (y / 1024 % 64) : Int) - (stepAt (y / 1024 % 64 + 1) : Int)) * ((y : Int) % 1024) ≤ 722238 := by
  have s := step_at (y / 1024 % 64) (Nat.mod_lt _ (by decide))
  rw [prod_int]
  have h : (stepAt (y / 1024 % 64) - stepAt (y / 1024 % 64 + 1)) * (y % 1024) ≤ 706 * 1023 := Nat.mul_le_mul (by omega) (by omega)
  omega
theorem div_div (a j : Nat) : a / 2 ^ j / 2 = a / 2 ^ (j + 1) := by rw [Nat.div_div_eq_div_mul, Nat.pow_succ]
theorem div_zero_up (a j k : Nat) (h : a / 2 ^ j = 0) (hk : j ≤ k) : a / 2 ^ k = 0 := by
  have : a < 2 ^ j := by
    rcases Nat.lt_or_ge a (2 ^ j) with h' | h'
    · exact h'
    · have := Nat.div_pos h' (Nat.pow_pos (by decide)); omega
  exact Nat.div_eq_of_lt (Nat.lt_of_lt_of_le this (Nat.pow_le_pow_right (by decide) hk))
/-- The whole root, bit by bit. -/
def rtFrom : Nat → Nat → Nat → Nat
  | 0, r, _ => r
  | k + 1, r, x => if (r + 2 ^ k) * (r + 2 ^ k) ≤ x then rtFrom k (r + 2 ^ k) x else rtFrom k r x
def rt (x : Nat) : Nat := rtFrom 32 0 x
theorem rtFrom_spec : ∀ (k r x : Nat), r * r ≤ x → x < (r + 2 ^ k) * (r + 2 ^ k) → rtFrom k r x * rtFrom k r x ≤ x ∧ x < (rtFrom k r x + 1) * (rtFrom k r x + 1) ∧ r ≤ rtFrom k r x ∧ rtFrom k r x < r + 2 ^ k
  | 0, r, x, h1, h2 => by simpa [rtFrom] using ⟨h1, h2⟩
  | k + 1, r, x, h1, h2 => by
    have e : r + 2 ^ (k + 1) = r + 2 ^ k + 2 ^ k := by rw [Nat.pow_succ]; omega
    have hp : 0 < 2 ^ k := Nat.pow_pos (by decide)
    unfold rtFrom
    split
    · rename_i h
      have := rtFrom_spec k (r + 2 ^ k) x h (by rw [← e]; exact h2)
      omega
    · rename_i h
      have := rtFrom_spec k r x h1 (by omega)
      omega
theorem rt_spec (x : Nat) (h : x < 18446744073709551616) : rt x * rt x ≤ x ∧ x < (rt x + 1) * (rt x + 1) ∧ rt x < 4294967296 := by
  have := rtFrom_spec 32 0 x (by omega) (by simpa using h)
  unfold rt
  omega
/-- A root is the only one. -/
theorem rt_of (x r : Nat) (h : x < 18446744073709551616) (h1 : r * r ≤ x) (h2 : x < (r + 1) * (r + 1)) : rt x = r := by
  obtain ⟨a, b, -⟩ := rt_spec x h
  have p : rt x < r + 1 := by
    rcases Nat.lt_or_ge (rt x) (r + 1) with p | p
    · exact p
    · have := Nat.mul_le_mul p p; omega
  have q : r < rt x + 1 := by
    rcases Nat.lt_or_ge r (rt x + 1) with q | q
    · exact q
    · have := Nat.mul_le_mul q q; omega
  omega
theorem rt_mono (x y : Nat) (hxy : x ≤ y) (hy : y < 18446744073709551616) : rt x ≤ rt y := by
  obtain ⟨a, b, -⟩ := rt_spec x (by omega)
  obtain ⟨c, d, -⟩ := rt_spec y hy
  rcases Nat.lt_or_ge (rt x) (rt y + 1) with p | p
  · omega
  · have := Nat.mul_le_mul p p; omega
/-- The inverse root. -/
def invN (x : Int) : Int := if x ≤ 0 then 2147483647 else (rt (281474976710656 / x.toNat) : Int)
theorem inv_small (x : Nat) : rt (281474976710656 / x) ≤ 16777216 := by
  have h1 : 281474976710656 / x ≤ 281474976710656 := Nat.div_le_self _ _
  have h2 := rt_mono _ _ h1 (by decide)
  have h3 : rt 281474976710656 = 16777216 := rt_of _ _ (by decide) (by decide) (by decide)
  omega
theorem invN_bd (x : Int) : 0 ≤ invN x ∧ invN x ≤ 2147483647 := by
  unfold invN
  split
  · omega
  · have := inv_small x.toNat; omega
end Go.Proofs.Ytpplnjmjldhlbaa

/- What each call of package curve answers, where the table of steps lies in memory as the program's text lays it. -/
namespace Go.Proofs.Ytpplnjmjldhlbaa
open Go.ChangeShapes Go.WideShapes Go.ChangeAt Go.RowKit
def tabCells : Array Value := (stp.map fun (n : Nat) => Value.int .i32 (n : Int)).toArray
theorem tab_get (i : Nat) (h : i < 65) : tabCells[i]? = some (.int .i32 (stepAt i : Int)) := by
  have hl : stp.length = 65 := rfl
  simp [tabCells, stepAt, hl, h]
/-- The table of steps lies in block 0. -/
def Tab (w : World) : Prop := ∃ t fr, w.heap[0]? = some (.cells tabCells t fr)
theorem Tab.lt {w : World} (h : Tab w) : 0 < w.heap.size := by
  obtain ⟨t, fr, h⟩ := h
  exact (Array.getElem?_eq_some_iff.1 h).1
theorem Tab.next {w w' : World} (h : Tab w) (hb : Below w.heap.size w w') : Tab w' := by
  obtain ⟨t, fr, h'⟩ := h
  exact ⟨t, fr, (hb.block 0 (Tab.lt ⟨t, fr, h'⟩)).trans h'⟩
theorem Tab.cell {w : World} (h : Tab w) (i : Nat) (hi : i < 65) : w.cell? ⟨0, i, none⟩ = some (.int .i32 (stepAt i : Int)) := by
  obtain ⟨t, fr, h'⟩ := h
  have := tab_get i hi
  simp only [World.cell?, h']
  exact this
theorem shr_v (y v : Nat) (hv : v ≤ 65536) : Op.shift .shr .i64 (v : Int) .i64 ((y : Int) / 65536) = pure (.int .i64 ((v / 2 ^ (y / 65536) : Nat) : Int)) := by
  rw [shift_shr_any _ _ _ _ (by omega)]
  have e : ((y : Int) / 65536).toNat = y / 65536 := by omega
  rw [e]
  congr 2
  show (v : Int) / 2 ^ min (y / 65536) 64 = _
  rcases Nat.lt_or_ge (y / 65536) 64 with h | h
  · rw [Nat.min_eq_left (by omega)]; norm_cast
  · rw [Nat.min_eq_right h]
    have h1 : v / 2 ^ (y / 65536) = 0 := Nat.div_eq_of_lt (Nat.lt_of_le_of_lt hv (Nat.lt_of_lt_of_le (show 65536 < 2 ^ 64 by decide) (Nat.pow_le_pow_right (by decide) h)))
    rw [h1]
    omega
theorem or_add (r b k : Nat) (hb : b = 2 ^ k) (hm : r % (2 * b) = 0) : r ||| b = r + b := by
  have e : 2 * b = 2 ^ (k + 1) := by rw [hb, Nat.pow_succ]; omega
  have h := Nat.two_pow_add_eq_or_of_lt (i := k + 1) (b := b) (by rw [← e, hb]; have : 0 < 2 ^ k := Nat.pow_pos (by decide); omega) (r / (2 * b))
  rw [← e] at h
  have d : 2 * b * (r / (2 * b)) = r := by have := Nat.div_add_mod r (2 * b); omega
  rw [d] at h
  exact h.symm
theorem sq_bd (r b x : Nat) (hle : r + 2 * b ≤ 4294967296) (hb : 1 ≤ b) : (0 : Int) ≤ ((r : Int) + (b : Int)) * ((r : Int) + (b : Int)) ∧ ((r : Int) + (b : Int)) * ((r : Int) + (b : Int)) ≤ 18446744073709551615 ∧ (((r : Int) + (b : Int)) * ((r : Int) + (b : Int)) ≤ (x : Int) ↔ (r + b) * (r + b) ≤ x) := by
  have e : ((r : Int) + (b : Int)) * ((r : Int) + (b : Int)) = (((r + b) * (r + b) : Nat) : Int) := by norm_cast
  have h : (r + b) * (r + b) ≤ 4294967295 * 4294967295 := Nat.mul_le_mul (by omega) (by omega)
  rw [e]
  omega
theorem mod_half {r b : Nat} (h : r % (2 * b) = 0) : r % b = 0 ∧ (r + b) % b = 0 := by
  have h1 : r % b = 0 := Nat.mod_eq_zero_of_dvd (Nat.dvd_trans ⟨2, Nat.mul_comm _ _⟩ (Nat.dvd_of_mod_eq_zero h))
  exact ⟨h1, by rw [Nat.add_mod_right]; exact h1⟩
theorem rt_yes (k r x b : Nat) (hb : b = 2 ^ k) (h : rtFrom (k + 1) r x = rt x) (hc : (r + b) * (r + b) ≤ x) : rtFrom k (r + b) x = rt x := by
  subst hb; rw [← h]; simp [rtFrom, hc]
theorem rt_no (k r x b : Nat) (hb : b = 2 ^ k) (h : rtFrom (k + 1) r x = rt x) (hc : ¬ (r + b) * (r + b) ≤ x) : rtFrom k r x = rt x := by
  subst hb; rw [← h]; simp [rtFrom, hc]
end Go.Proofs.Ytpplnjmjldhlbaa

/- Plain numbers: powers never fall and halve with each step, inverses never rise, squares have their roots; no condition. -/
namespace Go.Proofs.Ytpplnjmjldhlbaa
def powI (x : Int) : Int := (powN (-x).toNat : Int)
theorem powI_bd (x : Int) : 0 ≤ powI x ∧ powI x ≤ 65536 := by have := powN_bd (-x).toNat; unfold powI; omega
theorem powI_pos (x : Int) (h : 0 < x) : powI x = 65536 := by unfold powI; rw [show (-x).toNat = 0 by omega]; rfl
theorem powI_neg (y : Nat) : powI (-(y : Int)) = (powN y : Int) := by unfold powI; rw [show (- -(y : Int)).toNat = y by omega]
theorem v_zero (y : Nat) (h : y % 1024 = 0) : vN y = stepAt (y / 1024 % 64) := by
  unfold vN offN; rw [h, Nat.mul_zero]; rfl
theorem pow_step (y : Nat) : powN (y + 1) ≤ powN y := by
  have hv := vN_bd y
  by_cases h1 : y % 1024 < 1023
  · have e1 : (y + 1) / 1024 = y / 1024 := by omega
    have e2 : (y + 1) / 65536 = y / 65536 := by omega
    have e3 : (y + 1) % 1024 = y % 1024 + 1 := by omega
    unfold powN
    rw [e2]
    refine Nat.div_le_div_right ?_
    have s := step_at (y / 1024 % 64) (Nat.mod_lt _ (by decide))
    unfold vN offN
    rw [e1, e3, Nat.mul_add]
    omega
  · by_cases h2 : y / 1024 % 64 < 63
    · have e1 : (y + 1) / 1024 % 64 = y / 1024 % 64 + 1 := by omega
      have e2 : (y + 1) / 65536 = y / 65536 := by omega
      unfold powN
      rw [e2]
      refine Nat.div_le_div_right ?_
      rw [v_zero (y + 1) (by omega), e1]
      exact hv.1
    · have e1 : (y + 1) / 1024 % 64 = 0 := by omega
      have e2 : (y + 1) / 65536 = y / 65536 + 1 := by omega
      unfold powN
      rw [v_zero (y + 1) (by omega), e1, e2, Nat.pow_succ, Nat.mul_comm, ← Nat.div_div_eq_div_mul]
      exact Nat.div_le_div_right hv.2.2.1
theorem pow_anti (a : Nat) : ∀ n, powN (a + n) ≤ powN a
  | 0 => Nat.le_refl _
  | n + 1 => Nat.le_trans (pow_step (a + n)) (pow_anti a n)
theorem powI_mono (x y : Int) (h : x ≤ y) : powI x ≤ powI y := by
  obtain ⟨n, hn⟩ : ∃ n : Nat, (-x).toNat = (-y).toNat + n := ⟨(-x).toNat - (-y).toNat, by omega⟩
  unfold powI
  rw [hn]
  have := pow_anti (-y).toNat n
  omega
theorem pow_half (y : Nat) : powN (y + 65536) = powN y / 2 := by
  have e1 : (y + 65536) / 1024 % 64 = y / 1024 % 64 := by omega
  have e2 : (y + 65536) % 1024 = y % 1024 := by omega
  have e3 : (y + 65536) / 65536 = y / 65536 + 1 := by omega
  unfold powN vN offN
  rw [e1, e2, e3, div_div]
theorem powI_half (x : Int) (h : x ≤ 0) : powI (x - 65536) = powI x / 2 := by
  have e : (-(x - 65536)).toNat = (-x).toNat + 65536 := by omega
  unfold powI
  rw [e, pow_half]
  omega
theorem invN_anti (x y : Int) (h : x ≤ y) : invN y ≤ invN x := by
  unfold invN
  by_cases hx : x ≤ 0
  · rw [if_pos hx]; have := invN_bd y; unfold invN at this; omega
  · rw [if_neg hx, if_neg (by omega)]
    have h1 : 281474976710656 / y.toNat ≤ 281474976710656 / x.toNat := Nat.div_le_div_left (by omega) (by omega)
    have h2 := rt_mono _ _ h1 (Nat.lt_of_le_of_lt (Nat.div_le_self _ _) (by decide))
    omega
theorem rt_sq (z : Nat) (h : z ≤ 4294967295) : rt (z * z) = z := by
  have h1 : z * z ≤ 4294967295 * 4294967295 := Nat.mul_le_mul h h
  exact rt_of _ _ (by omega) (Nat.le_refl _) (Nat.mul_lt_mul'' (by omega) (by omega))
theorem sq_succ (z : Nat) : (z + 1) * (z + 1) = z * z + 2 * z + 1 := by rw [Nat.add_mul, Nat.mul_add]; omega
theorem rt_sq_pred (z : Nat) (h : z ≤ 4294967295) (h0 : 0 < z) : rt (z * z - 1) = z - 1 := by
  have h1 : z * z ≤ 4294967295 * 4294967295 := Nat.mul_le_mul h h
  obtain ⟨m, rfl⟩ : ∃ m, z = m + 1 := ⟨z - 1, by omega⟩
  have e := sq_succ m
  refine rt_of _ _ (by omega) ?_ ?_
  · rw [show m + 1 - 1 = m by omega]; omega
  · rw [show m + 1 - 1 = m by omega]; omega
theorem rt_sq_top (z : Nat) (h : z ≤ 4294967295) : rt (z * z + 2 * z) = z := by
  have h1 : z * z ≤ 4294967295 * 4294967295 := Nat.mul_le_mul h h
  exact rt_of _ _ (by omega) (by omega) (by rw [sq_succ]; omega)
/-- A number times the square of its inverse root. -/
theorem inv_near (x : Nat) (h1 : 256 ≤ x) (h2 : x ≤ 16777216) : x * rt (281474976710656 / x) * rt (281474976710656 / x) ≤ 281474976710656 ∧
    281474976710656 < x * (rt (281474976710656 / x) + 1) * (rt (281474976710656 / x) + 1) ∧ 1 ≤ rt (281474976710656 / x) ∧ rt (281474976710656 / x) ≤ 1048576 := by
  obtain ⟨a, b, -⟩ := rt_spec (281474976710656 / x) (Nat.lt_of_le_of_lt (Nat.div_le_self _ _) (by decide))
  have d1 : 281474976710656 / x ≤ 1099511627776 := by
    have := Nat.div_le_div_left h1 (by decide) (a := 281474976710656); omega
  have d2 : 16777216 ≤ 281474976710656 / x := (Nat.le_div_iff_mul_le (by omega)).2 (by omega)
  have m1 := rt_mono _ _ d1 (by decide)
  have m2 := rt_mono _ _ d2 (Nat.lt_of_le_of_lt (Nat.div_le_self _ _) (by decide))
  have v1 : rt 1099511627776 = 1048576 := rt_of _ _ (by decide) (by decide) (by decide)
  have v2 : rt 16777216 = 4096 := rt_of _ _ (by decide) (by decide) (by decide)
  generalize rt (281474976710656 / x) = y at *
  refine ⟨?_, ?_, by omega, by omega⟩
  · rw [Nat.mul_assoc]
    exact Nat.le_trans (Nat.mul_le_mul_left x a) (Nat.mul_div_le _ _)
  · rw [Nat.mul_assoc]
    exact (Nat.div_lt_iff_lt_mul (by omega)).1 b |> fun h => by rw [Nat.mul_comm]; exact h
theorem cast_near (n y : Nat) : (n : Int) * (y : Int) = ((n * y : Nat) : Int) ∧ (n : Int) * (y : Int) * (y : Int) = ((n * y * y : Nat) : Int) ∧
    (n : Int) * ((y : Int) + 1) = ((n * (y + 1) : Nat) : Int) ∧ (n : Int) * ((y : Int) + 1) * ((y : Int) + 1) = ((n * (y + 1) * (y + 1) : Nat) : Int) := by
  refine ⟨?_, ?_, ?_, ?_⟩ <;> norm_cast
theorem cast_sq (r : Nat) : (r : Int) * (r : Int) = ((r * r : Nat) : Int) ∧ ((r : Int) + 1) * ((r : Int) + 1) = (((r + 1) * (r + 1) : Nat) : Int) := by
  refine ⟨?_, ?_⟩ <;> norm_cast
theorem inv_int (x : Nat) (h1 : 256 ≤ x) (h2 : x ≤ 16777216) : invN (x : Int) = (rt (281474976710656 / x) : Int) := by
  unfold invN; rw [if_neg (by omega)]; rfl
end Go.Proofs.Ytpplnjmjldhlbaa

/- Powers of every number, where the table of steps lies as the program's text lays it. -/
namespace Go.Proofs.Ytpplnjmjldhlbaa
open Go.ChangeShapes Go.WideShapes Go.ChangeAt Go.RowKit
end Go.Proofs.Ytpplnjmjldhlbaa

/- Plain numbers: means of squares, norms, weights by powers, and mixes; no condition. -/
namespace Go.Proofs.Ytpplnjmjldhlbaa
def sumTo (f : Nat → Int) : Nat → Int
  | 0 => 0
  | k + 1 => sumTo f k + f k
theorem sumTo_zero (f : Nat → Int) : sumTo f 0 = 0 := rfl
theorem sumTo_succ (f : Nat → Int) (k : Nat) : sumTo f (k + 1) = sumTo f k + f k := rfl
theorem sumTo_congr {f g : Nat → Int} {n : Nat} (h : ∀ j, j < n → f j = g j) : sumTo f n = sumTo g n := by
  induction n with
  | zero => rfl
  | succ n ih => rw [sumTo_succ, sumTo_succ, ih (fun j hj => h j (by omega)), h n (by omega)]
theorem sumTo_bd {f : Nat → Int} {B : Int} (hB : ∀ j, 0 ≤ f j ∧ f j ≤ B) (k : Nat) : 0 ≤ sumTo f k ∧ sumTo f k ≤ B * k := by
  induction k with
  | zero => rw [sumTo_zero]; omega
  | succ k ih =>
    rw [sumTo_succ]
    have := hB k
    have e : B * ((k + 1 : Nat) : Int) = B * k + B := by rw [Int.natCast_succ, Int.mul_add, Int.mul_one]
    omega
theorem sumTo_ge {f : Nat → Int} (h0 : ∀ j, 0 ≤ f j) {j n : Nat} (hj : j < n) : f j ≤ sumTo f n := by
  have nn : ∀ k, 0 ≤ sumTo f k := fun k => by
    induction k with
    | zero => rw [sumTo_zero]; omega
    | succ k ih => rw [sumTo_succ]; have := h0 k; omega
  induction n with
  | zero => omega
  | succ n ih =>
    rw [sumTo_succ]
    rcases Nat.lt_or_ge j n with h | h
    · have := ih h; have := h0 n; omega
    · obtain rfl : j = n := by omega
      have := nn j; omega
/-- Parts of a whole, each brought down. -/
theorem parts_low {p : Nat → Int} {S : Int} (hS : 1 ≤ S) (k : Nat) : S * sumTo (fun j => 65536 * p j / S) k ≤ 65536 * sumTo p k ∧ 65536 * sumTo p k - (S - 1) * k ≤ S * sumTo (fun j => 65536 * p j / S) k := by
  induction k with
  | zero => simp [sumTo_zero]
  | succ k ih =>
    rw [sumTo_succ, sumTo_succ, Int.mul_add, Int.mul_add, Int.natCast_succ, Int.mul_add]
    have h1 := Int.mul_ediv_add_emod (65536 * p k) S
    have h2 := Int.emod_nonneg (65536 * p k) (show S ≠ 0 by omega)
    have h3 := Int.emod_lt_of_pos (65536 * p k) (show 0 < S by omega)
    omega
theorem parts_sum {p : Nat → Int} {n : Nat} (hn : 1 ≤ n) (hS : 1 ≤ sumTo p n) : sumTo (fun j => 65536 * p j / sumTo p n) n ≤ 65536 ∧ 65536 - (n : Int) < sumTo (fun j => 65536 * p j / sumTo p n) n := by
  obtain ⟨h1, h2⟩ := parts_low (p := p) hS n
  generalize sumTo (fun j => 65536 * p j / sumTo p n) n = Q at *
  generalize sumTo p n = S at *
  constructor
  · have : S * Q ≤ S * 65536 := by rw [Int.mul_comm S 65536]; exact h1
    exact Int.le_of_mul_le_mul_left this (by omega)
  · have e : S * (65536 - n) < S * Q := by
      rw [Int.mul_sub]
      have e2 : (S - 1) * (n : Int) = S * n - n := by rw [Int.sub_mul, Int.one_mul]
      omega
    exact Int.lt_of_mul_lt_mul_left e (by omega)
theorem sumTo_lin {f g : Nat → Int} {c d e : Int} {n : Nat} (h : ∀ j, j < n → c * f j ≤ d * g j + e) : c * sumTo f n ≤ d * sumTo g n + e * n := by
  induction n with
  | zero => simp [sumTo_zero]
  | succ n ih =>
    have i := ih (fun j hj => h j (by omega))
    have k := h n (by omega)
    rw [sumTo_succ, sumTo_succ, Int.mul_add, Int.mul_add, Int.natCast_succ, Int.mul_add]
    omega
theorem sumTo_mul (f : Nat → Int) (c : Int) (n : Nat) : sumTo (fun j => f j * c) n = sumTo f n * c := by
  induction n with
  | zero => simp [sumTo_zero]
  | succ n ih => rw [sumTo_succ, sumTo_succ, Int.add_mul, ih]
theorem sq_nn (a : Int) : 0 ≤ a * a := by
  rcases Int.le_total 0 a with h | h
  · exact Int.mul_nonneg h h
  · have := Int.mul_nonneg (show 0 ≤ -a by omega) (show 0 ≤ -a by omega); rwa [Int.neg_mul_neg] at this
/-- A rounded number's square, against the square ahead of rounding. -/
theorem sq_near (a y : Int) (h1 : -32768 ≤ 65536 * y - a) (h2 : 65536 * y - a ≤ 32768) :
    562949953421312 * (y * y) ≤ 131073 * (a * a) + 18446884811197906944 ∧ 131071 * (a * a) + -18446744073709551616 ≤ 562949953421312 * (y * y) := by
  obtain ⟨d, hd⟩ : ∃ d, 65536 * y = a + d := ⟨65536 * y - a, by omega⟩
  have e1 : (65536 * y) * (65536 * y) = (a + d) * (a + d) := by rw [hd]
  have q1 := sq_nn (a - 4294967296)
  have q2 := sq_nn (a + 4294967296)
  have hd1 : -32768 ≤ d := by omega
  have hd2 : d ≤ 32768 := by omega
  have q3 : d * d ≤ 1073741824 := by
    have := Int.mul_nonneg (show 0 ≤ 32768 - d by omega) (show 0 ≤ 32768 + d by omega)
    grind
  have q4 : 0 ≤ d * d := sq_nn d
  have q5 : 262144 * (a * d) ≤ a * a + 18446744073709551616 := by
    rcases Int.le_total 0 a with h | h
    · have := Int.mul_le_mul_of_nonneg_left hd2 h
      grind
    · have := Int.mul_le_mul_of_nonpos_left h hd1
      grind
  have q6 : -(a * a + 18446744073709551616) ≤ 262144 * (a * d) := by
    rcases Int.le_total 0 a with h | h
    · have := Int.mul_le_mul_of_nonneg_left hd1 h
      grind
    · have := Int.mul_le_mul_of_nonpos_left h hd2
      grind
  have e2 : 4294967296 * (y * y) = a * a + 2 * (a * d) + d * d := by grind
  clear e1 q1 q2
  generalize a * a = A at *
  generalize y * y = Y at *
  generalize a * d = D at *
  generalize d * d = E at *
  constructor <;> omega
/-- The mean of squares behind a norm is near to one. x: the numbers, y: rounded products with k; M: their mean of squares ahead. -/
theorem norm_size (x y : Nat → Int) (n : Nat) (k M : Int) (hn : 1 ≤ n) (hM : M = sumTo (fun j => x j * x j) n / (n * 65536)) (h4 : 4096 ≤ M) (hk : 20000 ≤ k)
    (k1 : (M + 1) * (k * k) ≤ 281474976710656) (k2 : 281474976710656 ≤ (M + 1) * ((k + 1) * (k + 1)))
    (hy : ∀ j, j < n → -32768 ≤ 65536 * y j - x j * k ∧ 65536 * y j - x j * k ≤ 32768) :
    64000 < sumTo (fun j => y j * y j) n / (n * 65536) ∧ sumTo (fun j => y j * y j) n / (n * 65536) < 67000 := by
  have u := sumTo_lin (f := fun j => y j * y j) (g := fun j => (x j * k) * (x j * k)) (n := n) (c := 562949953421312) (d := 131073) (e := 18446884811197906944) (fun j hj => (sq_near _ _ (hy j hj).1 (hy j hj).2).1)
  have l := sumTo_lin (f := fun j => (x j * k) * (x j * k)) (g := fun j => y j * y j) (n := n) (c := 131071) (d := 562949953421312) (e := 18446744073709551616) (fun j hj => by have := (sq_near _ _ (hy j hj).1 (hy j hj).2).2; show 131071 * (x j * k * (x j * k)) ≤ 562949953421312 * (y j * y j) + _; omega)
  have e : (fun j => (x j * k) * (x j * k)) = fun j => (x j * x j) * (k * k) := by funext j; grind
  rw [e, sumTo_mul] at u l
  generalize sumTo (fun j => x j * x j) n = S at *
  generalize sumTo (fun j => y j * y j) n = T at *
  have hN : (1 : Int) ≤ (n : Int) := by omega
  generalize (n : Int) = N at *
  have s1 : (N * 65536) * M ≤ S := by rw [hM]; exact Int.mul_ediv_self_le (by omega)
  have s2 : S < (N * 65536) * (M + 1) := by rw [hM, Int.mul_add, Int.mul_one]; exact Int.lt_mul_ediv_self_add (by omega)
  clear hM hy e
  have hK : 0 ≤ k * k := sq_nn k
  have p1 : S * (k * k) ≤ N * 65536 * (M + 1) * (k * k) := Int.mul_le_mul_of_nonneg_right (by omega) hK
  have p2 : N * 65536 * M * (k * k) ≤ S * (k * k) := Int.mul_le_mul_of_nonneg_right s1 hK
  have p3 : N * 65536 * (M + 1) * (k * k) ≤ N * 18446744073709551616 := by
    have := Int.mul_le_mul_of_nonneg_left k1 (show 0 ≤ N * 65536 by omega)
    grind
  have r1 : 5000 * ((k + 1) * (k + 1)) ≤ 5001 * (k * k) := by
    have := Int.mul_le_mul_of_nonneg_right hk (show 0 ≤ k by omega)
    grind
  have r2 : 4096 * (M + 1) ≤ 4097 * M := by omega
  have r3 : 281474976710656 * 20480000 ≤ 20489097 * (M * (k * k)) := by
    have a1 := Int.mul_le_mul_of_nonneg_left r1 (show 0 ≤ M + 1 by omega)
    have a2 := Int.mul_le_mul_of_nonneg_right r2 hK
    grind
  have r4 : N * 65536 * 281350000000000 ≤ N * 65536 * M * (k * k) := by
    rw [Int.mul_assoc _ M]
    exact Int.mul_le_mul_of_nonneg_left (by omega) (by omega)
  have hD : 0 < N * 65536 := by omega
  generalize N * 65536 * (M + 1) * (k * k) = P at *
  generalize N * 65536 * M * (k * k) = R at *
  generalize S * (k * k) = X at *
  constructor
  · have : 64001 ≤ T / (N * 65536) := (Int.le_ediv_iff_mul_le hD).2 (by omega)
    omega
  · exact (Int.ediv_lt_iff_lt_mul hD).2 (by omega)
/-- The greatest of the first k numbers (of none: the first). -/
def maxTo (A : List Int) : Nat → Int
  | 0 => el A 0
  | k + 1 => if maxTo A k < el A k then el A k else maxTo A k
theorem maxTo_one (A : List Int) : maxTo A 1 = el A 0 := by unfold maxTo maxTo; omega
theorem maxTo_bd {A : List Int} (h : Small A) (k : Nat) : -2147483648 ≤ maxTo A k ∧ maxTo A k ≤ 2147483647 := by
  induction k with
  | zero => exact h.el 0
  | succ k ih => unfold maxTo; have := h.el k; split <;> omega
theorem maxTo_ge (A : List Int) {j k : Nat} (h : j < k) : el A j ≤ maxTo A k := by
  induction k with
  | zero => omega
  | succ k ih =>
    unfold maxTo
    rcases Nat.lt_or_ge j k with h1 | h1
    · have := ih h1; split <;> omega
    · obtain rfl : j = k := by omega
      split <;> omega
theorem maxTo_at (A : List Int) {k : Nat} (h : 1 ≤ k) : ∃ j, j < k ∧ el A j = maxTo A k := by
  induction k with
  | zero => omega
  | succ k ih =>
    unfold maxTo
    split
    · exact ⟨k, by omega, rfl⟩
    · rcases Nat.eq_zero_or_pos k with h0 | h0
      · subst h0; exact ⟨0, by omega, rfl⟩
      · obtain ⟨j, hj, e⟩ := ih h0; exact ⟨j, by omega, e⟩
theorem amax_max (A : List Int) {k : Nat} (h : 1 ≤ k) : 0 ≤ amax A k ∧ el A (amax A k).toNat = maxTo A k := by
  induction k with
  | zero => omega
  | succ k ih =>
    rcases Nat.eq_zero_or_pos k with h0 | h0
    · subst h0
      rw [maxTo_one]
      have e : amax A 1 = 0 := by unfold amax; rw [if_pos (Or.inl (by show (-1 : Int) < 0; omega))]; rfl
      rw [e]; exact ⟨by omega, rfl⟩
    · obtain ⟨i1, i2⟩ := ih h0
      unfold amax maxTo
      by_cases hc : el A (amax A k).toNat < el A k
      · rw [if_pos (Or.inr hc), if_pos (by omega)]; exact ⟨by omega, by rw [Int.toNat_natCast]⟩
      · rw [if_neg (by omega), if_neg (by omega)]; exact ⟨i1, i2⟩
theorem maxTo_shift {A B : List Int} {c : Int} {n : Nat} (hn : 1 ≤ n) (h : ∀ j, j < n → el B j = el A j + c) : ∀ {k}, k ≤ n → maxTo B k = maxTo A k + c
  | 0, _ => h 0 (by omega)
  | k + 1, hk => by
    unfold maxTo
    rw [maxTo_shift hn h (by omega : k ≤ n), h k (by omega)]
    split <;> split <;> omega
theorem maxTo_same {A : List Int} {x : Int} {n : Nat} (hn : 1 ≤ n) (h : ∀ j, j < n → el A j = x) : ∀ {k}, k ≤ n → maxTo A k = x
  | 0, _ => h 0 (by omega)
  | k + 1, hk => by unfold maxTo; rw [maxTo_same hn h (by omega : k ≤ n), h k (by omega)]; split <;> rfl
/-- The power of number j, below the greatest. -/
def powW (A : List Int) (n j : Nat) : Int := powI (sat (el A j - maxTo A n))
theorem powW_bd (A : List Int) (n j : Nat) : 0 ≤ powW A n j ∧ powW A n j ≤ 65536 := powI_bd _
theorem powI_zero : powI 0 = 65536 := by decide
theorem powW_top {A : List Int} {n j : Nat} (h : el A j = maxTo A n) : powW A n j = 65536 := by
  unfold powW; rw [h, Int.sub_self, show sat 0 = 0 by decide]; exact powI_zero
/-- The sum of the first k powers. -/
def psum (A : List Int) (n k : Nat) : Int := sumTo (powW A n) k
theorem psum_zero (A : List Int) (n : Nat) : psum A n 0 = 0 := rfl
theorem psum_succ (A : List Int) (n k : Nat) : psum A n (k + 1) = psum A n k + powW A n k := rfl
theorem psum_bd (A : List Int) (n k : Nat) : 0 ≤ psum A n k ∧ psum A n k ≤ 65536 * k := sumTo_bd (powW_bd A n) k
theorem psum_top (A : List Int) {n : Nat} (h : 1 ≤ n) : 65536 ≤ psum A n n := by
  obtain ⟨j, hj, e⟩ := maxTo_at A h
  have := sumTo_ge (f := powW A n) (fun j => (powW_bd A n j).1) hj
  rw [powW_top e] at this
  exact this
/-- The weight of number j. -/
def wgt (A : List Int) (n j : Nat) : Int := 65536 * powW A n j / psum A n n
theorem wgt_bd (A : List Int) {n j : Nat} (hj : j < n) : 0 ≤ wgt A n j ∧ wgt A n j ≤ 65536 := by
  have h1 := powW_bd A n j
  have h2 := psum_top A (n := n) (by omega)
  have h3 : powW A n j ≤ psum A n n := sumTo_ge (f := powW A n) (fun j => (powW_bd A n j).1) hj
  unfold wgt
  refine ⟨Int.ediv_nonneg (by omega) (by omega), ?_⟩
  have : 65536 * powW A n j / psum A n n < 65537 := (Int.ediv_lt_iff_lt_mul (by omega)).2 (by omega)
  omega
theorem wgt_sum (A : List Int) {n : Nat} (h : 1 ≤ n) : sumTo (wgt A n) n ≤ 65536 ∧ 65536 - (n : Int) < sumTo (wgt A n) n := by
  have := psum_top A h
  exact parts_sum (p := powW A n) h (by show 1 ≤ psum A n n; omega)
theorem wgt_mono (A : List Int) {n i j : Nat} (hn : 1 ≤ n) (h : el A i ≤ el A j) : wgt A n i ≤ wgt A n j := by
  have h2 := psum_top A hn
  have h3 : powW A n i ≤ powW A n j := powI_mono _ _ (by unfold sat; omega)
  unfold wgt
  exact Int.ediv_le_ediv (by omega) (by omega)
theorem wgt_shift {A B : List Int} {c : Int} {n : Nat} (hn : 1 ≤ n) (h : ∀ j, j < n → el B j = el A j + c) {j : Nat} (hj : j < n) : wgt B n j = wgt A n j := by
  have e : ∀ j, j < n → powW B n j = powW A n j := fun j hj => by
    unfold powW; rw [maxTo_shift hn h (Nat.le_refl n), h j hj]; congr 2; omega
  unfold wgt psum
  rw [e j hj, sumTo_congr e]
theorem wgt_same {A : List Int} {x : Int} {n : Nat} (hn : 1 ≤ n) (h : ∀ j, j < n → el A j = x) {j : Nat} (hj : j < n) : wgt A n j = 65536 / n := by
  have e : ∀ j, j < n → powW A n j = 65536 := fun j hj => powW_top (by rw [h j hj, maxTo_same hn h (Nat.le_refl n)])
  have s : ∀ k, k ≤ n → psum A n k = 65536 * k := fun k hk => by
    induction k with
    | zero => rw [psum_zero]; omega
    | succ k ih => rw [psum_succ, ih (by omega), e k (by omega)]; omega
  unfold wgt
  rw [e j hj, s n (Nat.le_refl n)]
  exact Int.mul_ediv_mul_of_pos _ _ (by omega)
/-- The mean of squares. -/
def meanN (A : List Int) (n : Nat) : Int := sat (dsum A A n / n / 65536)
theorem meanN_bd (A : List Int) (n : Nat) : -2147483647 ≤ meanN A n ∧ meanN A n ≤ 2147483647 := sat_bd _
theorem dsum_sq_nn (A : List Int) (k : Nat) : 0 ≤ dsum A A k := by
  induction k with
  | zero => rw [dsum_zero]; omega
  | succ k ih => rw [dsum_succ]; have := sq_nn (el A k); unfold grow; split <;> (try split) <;> omega
theorem meanN_nn (A : List Int) (n : Nat) : 0 ≤ meanN A n := by
  have h1 : 0 ≤ dsum A A n / n := Int.ediv_nonneg (dsum_sq_nn A n) (by omega)
  have h2 : 0 ≤ dsum A A n / n / 65536 := Int.ediv_nonneg h1 (by omega)
  unfold meanN sat; omega
/-- By what a norm multiplies. -/
def normK (A : List Int) (n : Nat) : Int := invN (sat (meanN A n + 1))
theorem normK_bd (A : List Int) (n : Nat) : 0 ≤ normK A n ∧ normK A n ≤ 2147483647 := invN_bd _
/-- A norm at place j. -/
def normN (A G : List Int) (n j : Nat) : Int := mulN (mulN (el A j) (normK A n)) (el G j)
theorem normN_bd (A G : List Int) (n j : Nat) : -2147483647 ≤ normN A G n j ∧ normN A G n j ≤ 2147483647 := mulN_bd _ _
end Go.Proofs.Ytpplnjmjldhlbaa

/- A region that draws its order, all of whose operations are quiet in a class of worlds but the last one, which waits for all others (a store): one walk in the order of the text serves every order. -/
namespace Go.Proofs.Ytpplnjmjldhlbaa
open Go.ChangeShapes Go.WideShapes Go.ChangeAt Go.RowKit
/-- The last operation, made to do nothing. -/
def mute (z : Oper) : Oper := { z with op := .move (.const (.bool false)), dst := none }
section
variable {P : Program} {l : List Oper} {z : Oper} {C : World → Prop}
theorem last_at (y : Oper) : (l ++ [y]).toArray[l.length]? = some y := by simp
theorem front_at (y : Oper) {i : Nat} (h : i < l.length) : (l ++ [y]).toArray[i]? = l[i]? := by simp [List.getElem?_append_left h]
theorem ready_mute (md : Region.Mode) (listed : Array Bool) : Region.ready md (l ++ [mute z]).toArray listed = Region.ready md (l ++ [z]).toArray listed := by
  unfold Region.ready
  have hs : (l ++ [mute z]).toArray.size = (l ++ [z]).toArray.size := by simp
  rw [hs]
  refine List.filter_congr fun i hi => ?_
  have hi' : i < l.length + 1 := by simpa using hi
  by_cases h : i < l.length
  · rw [front_at _ h, front_at _ h]
  · obtain rfl : i = l.length := by omega
    rw [last_at, last_at]
    rfl
theorem yielded_mute (hd : z.dst = none) (t : Array Value) : yielded (l ++ [mute z]).toArray t = yielded (l ++ [z]).toArray t := by
  funext j
  unfold yielded
  by_cases h : j < l.length
  · rw [front_at _ h, front_at _ h]
  · by_cases h2 : j = l.length
    · subst h2
      rw [last_at, last_at]
      simp [mute, hd]
    · have e1 : (l ++ [mute z]).toArray[j]? = none := Array.getElem?_eq_none (by simp; omega)
      have e2 : (l ++ [z]).toArray[j]? = none := Array.getElem?_eq_none (by simp; omega)
      rw [e1, e2]
/-- Every edge leads back. -/
def backB (L : List Oper) : Bool := (List.range L.length).all fun k => ((L[k]?).map (·.after.all fun e => !Region.binds .any e || decide (e.on < k))).getD true
/-- The last waits for all. -/
def waitsB (z : Oper) (n : Nat) : Bool := (List.range n).all fun j => z.after.any fun e => Region.binds .any e && (e.on == j)
theorem some_ready {L : List Oper} (hb : backB L = true) {listed : Array Bool} (hs : listed.size = L.length) {n : Nat} (hn : n < L.length) (hu : listed.getD n true = false) : Region.ready .any L.toArray listed ≠ [] := by
  obtain ⟨i, hi, hmin⟩ := exists_least (p := fun i => i < L.length ∧ listed.getD i true = false) ⟨n, hn, hu⟩
  have hm : i ∈ Region.ready .any L.toArray listed := by
    refine mem_ready.2 ⟨hi.2, L[i]'hi.1, by simp [hi.1], fun e he hbind => ?_⟩
    have h1 := List.all_eq_true.1 hb i (List.mem_range.2 hi.1)
    rw [List.getElem?_eq_getElem hi.1] at h1
    simp only [Option.map_some, Option.getD_some] at h1
    have h2 := (Array.all_eq_true'.1 h1) e he
    simp only [hbind, Bool.not_true, Bool.false_or, decide_eq_true_eq] at h2
    by_cases h3 : listed.getD e.on false = true
    · exact h3
    · have h4 : listed.getD e.on true = false := by
        have hlt : e.on < listed.size := by omega
        simp only [Array.getD, hlt, dif_pos] at h3 ⊢
        simpa using h3
      have := hmin e.on ⟨by omega, h4⟩
      omega
  intro h0
  rw [h0] at hm
  cases hm
theorem all_listed (hw : waitsB z l.length = true) {listed : Array Bool} (hs : listed.size = l.length + 1) (hr : l.length ∈ Region.ready .any (l ++ [z]).toArray listed) : Region.ready .any (l ++ [z]).toArray (listed.setIfInBounds l.length true) = [] := by
  obtain ⟨_, o, ho, hall⟩ := mem_ready.1 hr
  rw [last_at] at ho
  obtain rfl := Option.some.inj ho
  apply List.eq_nil_iff_forall_not_mem.2
  intro j hj
  obtain ⟨h1, o', ho', _⟩ := mem_ready.1 hj
  by_cases hjl : j < l.length
  · have h2 := List.all_eq_true.1 hw j (List.mem_range.2 hjl)
    obtain ⟨e, he, h3⟩ := Array.any_eq_true'.1 h2
    simp only [Bool.and_eq_true, beq_iff_eq] at h3
    have h4 := hall e he h3.1
    rw [h3.2] at h4
    have hlt : j < listed.size := by omega
    rw [getD_set_ne true (show l.length ≠ j by omega)] at h1
    simp only [Array.getD, hlt, dif_pos] at h1 h4
    rw [h4] at h1
    cases h1
  · have hsz : j < (l ++ [z]).toArray.size := (Array.getElem?_eq_some_iff.1 ho').1
    obtain rfl : j = l.length := by simp at hsz; omega
    have hlt : l.length < listed.size := by omega
    simp [Array.getD, hlt] at h1
theorem wpAny_last {O : Array Oper} {Q : Exit → Act → World → Prop} (hg : z.guard = none) (hd : z.dst = none) (hb : backB (l ++ [z]) = true) (hw : waitsB z l.length = true) :
    ∀ (fuel : Nat) (listed : Array Bool) (a : Act) (w : World), C w → listed.size = l.length + 1 → listed.getD l.length true = false →
      wpAnyQ P .any (l ++ [mute z]).toArray C (fun a' => ∀ w', C w' → wpList P O Q [z] a' w') fuel listed a → wpAny P .any (l ++ [z]).toArray Q fuel listed a w := by
  intro fuel
  induction fuel with
  | zero =>
    intro listed a w hC hs hu h
    have h1 := h.1
    rw [ready_mute] at h1
    exact absurd h1 (some_ready hb (by simpa using hs) (n := l.length) (by simp) hu)
  | succ fuel ih =>
    intro listed a w hC hs hu h
    refine ⟨fun h1 => absurd h1 (some_ready hb (by simpa using hs) (n := l.length) (by simp) hu), fun i hi => ?_⟩
    have h1 := h.2 i (by rw [ready_mute]; exact hi)
    by_cases hil : i = l.length
    · subst hil
      have hr := all_listed hw hs hi
      unfold qOp at h1
      rw [last_at] at h1
      have hwant : Region.wanted (mute z) (yielded (l ++ [mute z]).toArray a.tmps) = true := by simp [Region.wanted, mute, hg]
      simp only [hwant, if_true] at h1
      obtain ⟨v, _, h2⟩ := h1
      have e : a.put (mute z).dst v = a := rfl
      rw [e] at h2
      have hQ : ∀ w', C w' → wpList P O Q [z] a w' := by
        cases fuel with
        | zero => exact h2.2
        | succ f => exact h2.1 (by rw [ready_mute]; exact hr)
      unfold wpOp
      rw [last_at]
      have hwant2 : Region.wanted z (yielded (l ++ [z]).toArray a.tmps) = true := by simp [Region.wanted, hg]
      simp only [hwant2, if_true]
      have hq0 := hQ w hC
      have hwant3 : Region.wanted z (yielded O a.tmps) = true := by simp [Region.wanted, hg]
      simp only [wpList, hwant3, if_true] at hq0
      rcases hq0 with hq0 | hq0
      case inr => exact Or.inr hq0
      refine Or.inl (Oper.wp_mono (fun a' w' hq => ?_) hq0)
      cases fuel with
      | zero => exact ⟨hr, hq⟩
      | succ f => exact ⟨fun _ => hq, fun j hj => by rw [hr] at hj; cases hj⟩
    · have hlt : i < l.length := by
        obtain ⟨_, o, ho, _⟩ := mem_ready.1 hi
        have hsz := (Array.getElem?_eq_some_iff.1 ho).1
        simp at hsz
        omega
      have hu' : (listed.setIfInBounds i true).getD l.length true = false := by
        rw [getD_set_ne true hil]
        exact hu
      have hstep := wpOp_of_qOp (Q' := Q) hC (K' := wpAny P .any (l ++ [z]).toArray Q fuel (listed.setIfInBounds i true)) (fun a' w' hw' hh => ih (listed.setIfInBounds i true) a' w' hw' (by simpa using hs) hu' hh) h1
      unfold wpOp at hstep ⊢
      rw [front_at _ hlt] at hstep ⊢
      rw [yielded_mute hd] at hstep
      exact hstep
/-- ONE WALK: the operations but the last one quiet in the class; then the last one, in every world of the class. -/
theorem wp_region_last {L : List Oper} {O : Array Oper} {id : Nat} {Q : Exit → Act → World → Prop} {a : Act} {w : World} (hL : L = l ++ [z]) (hm : P.follows .mixedOrders = true) (hg : z.guard = none) (hd : z.dst = none) (hb : backB L = true) (hw : waitsB z l.length = true)
    (hB : Region.lexB .any (l ++ [mute z]).toArray = true) (hC : C { w with drawn := w.drawn + 1 })
    (h : wpQuiet P (l ++ [mute z]).toArray C (fun a' => ∀ w', C w' → wpList P O Q [z] a' w') l a) : (Code.region id L.toArray true).wp P Q a w := by
  subst hL
  simp only [Region.lexB, Bool.and_eq_true] at hB
  have hsz : (l ++ [z]).toArray.size = l.length + 1 := by simp
  refine wp_region_any hm ?_
  rw [hsz]
  refine wpAny_last (O := O) hg hd hb hw _ _ _ _ hC (by simp) (by simp) ?_
  have hq : wpQuiet P (l ++ [mute z]).toArray C (fun a' => ∀ w', C w' → wpList P O Q [z] a' w') (l ++ [mute z]) a := by
    have app : ∀ (l' : List Oper) (a : Act), wpQuiet P (l ++ [mute z]).toArray C (fun a' => ∀ w', C w' → wpList P O Q [z] a' w') l' a →
        wpQuiet P (l ++ [mute z]).toArray C (fun a' => ∀ w', C w' → wpList P O Q [z] a' w') (l' ++ [mute z]) a := by
      intro l'
      induction l' with
      | nil =>
        intro a h
        have hwant : Region.wanted (mute z) (yielded (l ++ [mute z]).toArray a.tmps) = true := by simp [Region.wanted, mute, hg]
        show (if Region.wanted (mute z) (yielded (l ++ [mute z]).toArray a.tmps) then _ else _)
        rw [if_pos hwant]
        refine ⟨.bool false, fun w _ => ?_, h⟩
        unfold Oper.quietAt
        simp [execOp, mute, Act.eval, Oper.quietUpon]
      | cons o l' ih =>
        intro a h
        have h' : (if Region.wanted o (yielded (l ++ [mute z]).toArray a.tmps) then o.quiet P a C (wpQuiet P (l ++ [mute z]).toArray C _ l') else wpQuiet P (l ++ [mute z]).toArray C _ l' (a.put o.dst undef)) := h
        show (if Region.wanted o (yielded (l ++ [mute z]).toArray a.tmps) then o.quiet P a C (wpQuiet P (l ++ [mute z]).toArray C _ (l' ++ [mute z])) else wpQuiet P (l ++ [mute z]).toArray C _ (l' ++ [mute z]) (a.put o.dst undef))
        split
        · rename_i hw1
          rw [if_pos hw1] at h'
          exact Oper.quiet_mono (fun a' hh => ih a' hh) h'
        · rename_i hw1
          rw [if_neg hw1] at h'
          exact ih _ h'
    exact app l a h
  have := wpAnyQ_lex (C := C) (md := .any) hB.1 (l ++ [mute z]) 0 (Array.replicate (l.length + 1) false) a (by simp) (by simpa using hB.2) hq
  simpa using this
theorem wpQuiet_ops {O1 O2 : Array Oper} (hy : ∀ t, yielded O1 t = yielded O2 t) {Q : Act → Prop} : ∀ (l : List Oper) (a : Act), wpQuiet P O1 C Q l a → wpQuiet P O2 C Q l a
  | [], _, h => h
  | o :: l, a, h => by
    have h' : (if Region.wanted o (yielded O1 a.tmps) then o.quiet P a C (wpQuiet P O1 C Q l) else wpQuiet P O1 C Q l (a.put o.dst undef)) := h
    show (if Region.wanted o (yielded O2 a.tmps) then o.quiet P a C (wpQuiet P O2 C Q l) else wpQuiet P O2 C Q l (a.put o.dst undef))
    rw [hy] at h'
    split
    · rename_i hw1
      rw [if_pos hw1] at h'
      exact Oper.quiet_mono (fun a' hh => wpQuiet_ops hy l a' hh) h'
    · rename_i hw1
      rw [if_neg hw1] at h'
      exact wpQuiet_ops hy l _ h'
/-- The same, of a region that is written out. -/
theorem wp_region_last_lit {L : List Oper} {id : Nat} {Q : Exit → Act → World → Prop} {a : Act} {w : World} (hm : P.follows .mixedOrders = true) (hne : L ≠ []) (hg : (L.getLast hne).guard = none) (hd : (L.getLast hne).dst = none)
    (hb : backB L = true) (hw : waitsB (L.getLast hne) L.dropLast.length = true) (hB : Region.lexB .any (L.dropLast ++ [mute (L.getLast hne)]).toArray = true)
    (h : ∀ (l' : List Oper) (z' : Oper), l' = L.dropLast → z' = L.getLast hne → wpQuiet P L.toArray (fun w' => ∃ p : Nxt w, w' = p.to) (fun a' => ∀ w', (∃ p : Nxt w, w' = p.to) → wpList P L.toArray Q [z'] a' w') l' a) : (Code.region id L.toArray true).wp P Q a w := by
  have e := List.dropLast_concat_getLast hne
  refine wp_region_last (C := fun w' => ∃ p : Nxt w, w' = p.to) (O := L.toArray) e.symm hm hg hd hb hw hB ⟨⟨{ w with drawn := w.drawn + 1 }, (Below.refl _ w).drew⟩, rfl⟩ ?_
  refine wpQuiet_ops (O1 := L.toArray) (fun t => ?_) _ _ (h _ _ rfl rfl)
  rw [yielded_mute hd, e]
end
end Go.Proofs.Ytpplnjmjldhlbaa

/- What each call of package soft on one row answers: means, norms and weights, where the table of steps lies as the program's text lays it. -/
namespace Go.Proofs.Ytpplnjmjldhlbaa
open Go.ChangeShapes Go.WideShapes Go.ChangeAt Go.RowKit
/-- The error's number of a row. -/
def sizeN (n : Nat) : Int := if n = 0 then 8 else if 4096 < n then 2 else 0
theorem sizeN_ok {n : Nat} (h : sizeN n = 0) : 1 ≤ n ∧ n ≤ 4096 := by unfold sizeN at h; split at h <;> (try split at h) <;> omega
end Go.Proofs.Ytpplnjmjldhlbaa

/- Weights: the greatest number, powers below it, and each by their sum, where the table of steps lies as the program's text lays it. -/
namespace Go.Proofs.Ytpplnjmjldhlbaa
open Go.ChangeShapes Go.WideShapes Go.ChangeAt Go.RowKit
end Go.Proofs.Ytpplnjmjldhlbaa

/- Package heads: how well a row goes with keys, parts of rows, what one head makes. -/
namespace Go.Proofs.Ytpplnjmjldhlbaa
open Go.ChangeShapes Go.WideShapes Go.ChangeAt Go.RowKit
/-- A part of a row. -/
def partOf (A : List Int) (i m : Nat) : List Int := (A.drop i).take m
theorem el_part {A : List Int} {i m k : Nat} (h : k < m) : el (partOf A i m) k = el A (i + k) := by unfold partOf; rw [el_take h, el_drop]
theorem len_part {A : List Int} {i m : Nat} (h : i + m ≤ A.length) : (partOf A i m).length = m := by unfold partOf; simp; omega
/-- By what a score is brought to its size. -/
def scoreK (n : Nat) : Int := invN (sat (clip n * 65536))
theorem scoreK_bd (n : Nat) : 0 ≤ scoreK n ∧ scoreK n ≤ 2147483647 := invN_bd _
/-- How well a row goes with a key. -/
def scoreN (Q K : List Int) (n : Nat) : Int := mulN (dotN Q K n) (scoreK n)
theorem scoreN_bd (Q K : List Int) (n : Nat) : -2147483647 ≤ scoreN Q K n ∧ scoreN Q K n ≤ 2147483647 := mulN_bd _ _
theorem Try.infoRow : (Try.prog.info? 72).map (fun i => (i.zero, i.size, i.bytes)) = some (some (.slice none 0 0), 1, 24) := by kernel_rfl
theorem run_make_room' {P : Program} (t e : TypeId) (z : Value) (bytes : Nat) (ht : P.underlying t = some (.slice e)) (hinfo : (P.info? e).map (fun i => (i.zero, i.size, i.bytes)) = some (some z, 1, bytes)) (hz1 : z.cells = #[z])
    (kl kc : IntKind) (n : Nat) (hbytes : bytes * n ≤ 281474976710656) (h63 : n ≤ 9223372036854775807) (w : World) :
    (Instr.makeSlice t (.int kl 0) (.int kc (n : Int))).run P w = .ok (.slice (some ⟨w.heap.size, 0, none⟩) 0 n) (w.alloc (.cells (madeCells #[z] n) e)) := by
  obtain ⟨i, hi, hzz⟩ := Option.map_eq_some_iff.1 hinfo
  simp only [Prod.mk.injEq] at hzz
  obtain ⟨hz, hs, hb⟩ := hzz
  have hb' : (i.bytes : Int) * (n : Int) ≤ 281474976710656 := by
    rw [hb]
    have h : ((bytes * n : Nat) : Int) ≤ 281474976710656 := by omega
    rwa [Int.natCast_mul] at h
  have hr := run_make (P := P) w t e i z ht hi hz kl kc 0 n (Int.le_refl _) (by omega) hb' (by omega)
  simp only [Int.toNat_zero, Int.toNat_natCast, hs, Nat.mul_one, hz1] at hr
  exact hr
theorem fresh_room (w : World) (n : Nat) (hn : n ≤ 9223372036854775807) : Fresh (w.alloc (.cells (madeCells #[.int .i32 0] n) 71)) w.heap.size w.heap.size 0 n [] := by
  obtain ⟨c, hb, hs, hc⟩ := World.rowIs_made w (.int .i32 0) n 71
  exact ⟨Nat.le_refl _, rfl, by omega, hn, small_nil, c, hb, hs, fun t ht => by omega⟩
/-- Are the first k rows of that length? -/
def longs (R : List (List Int)) (s : Nat) : Nat → Bool
  | 0 => true
  | k + 1 => longs R s k && ((rowOf R k).length == s)
theorem longs_len {R : List (List Int)} {s n : Nat} (h : longs R s n = true) {t : Nat} (ht : t < n) : (rowOf R t).length = s := by
  induction n with
  | zero => omega
  | succ n ih =>
    unfold longs at h
    rw [Bool.and_eq_true] at h
    rcases Nat.lt_or_ge t n with h1 | h1
    · exact ih h.1 h1
    · obtain rfl : t = n := by omega
      simpa using h.2
theorem longs_not {R : List (List Int)} {s n t : Nat} (ht : t < n) (h : (rowOf R t).length ≠ s) : longs R s n = false := by
  cases e : longs R s n with
  | false => rfl
  | true => exact absurd (longs_len e ht) h
theorem longs_of {R : List (List Int)} {s n : Nat} (h : ∀ t, t < n → (rowOf R t).length = s) : longs R s n = true := by
  induction n with
  | zero => rfl
  | succ n ih => unfold longs; rw [ih fun t ht => h t (by omega), h n (by omega)]; simp
/-- Rows of rows of a block of the call's own, of which the first k are laid: each a row that lay in w0. -/
structure CutTo (w0 w : World) (g m k : Nat) (R : List (List Int)) : Prop where
  row : ∃ cur : Array Value, w.heap[g]? = some (.cells cur 72 (0, 0)) ∧ cur.size = m ∧ ∀ t, t < k → ∃ ro n c, cur[t]? = some (.slice ro n c) ∧ Arg w0 ro n c (rowOf R t)
theorem CutTo.frozen {w0 w : World} {g m k : Nat} {R : List (List Int)} (h : CutTo w0 w g m k R) (t : Nat) : w.frozen? ⟨g, t, none⟩ = false := by
  obtain ⟨c, hb, _, _⟩ := h.row
  simp [World.frozen?, hb]
theorem CutTo.cell {w0 w : World} {g m k : Nat} {R : List (List Int)} (h : CutTo w0 w g m k R) {t : Nat} (ht : t < m) : ∃ v, w.cell? ⟨g, t, none⟩ = some v := by
  obtain ⟨c, hb, hs, _⟩ := h.row
  refine ⟨c[t]'(by omega), ?_⟩
  simp [World.cell?, hb]
theorem CutTo.step {w0 w : World} {g m k : Nat} {R : List (List Int)} (h : CutTo w0 w g m k R) (hk : k < m) {ro : Option Addr} {n c : Nat} (hA : Arg w0 ro n c (rowOf R k)) : CutTo w0 (w.setCell ⟨g, k, none⟩ (.slice ro n c)) g m (k + 1) R := by
  obtain ⟨cur, hb, hs, hc⟩ := h.row
  refine ⟨cur.setIfInBounds k (.slice ro n c), ?_, by simpa using hs, fun t ht => ?_⟩
  · simp [World.setCell, Array.getElem?_modify, hb]
  · rw [Array.getElem?_setIfInBounds]
    by_cases e : k = t
    · subst e; rw [if_pos rfl, if_pos (by omega)]; exact ⟨_, _, _, rfl, hA⟩
    · rw [if_neg e]; exact hc t (by omega)
theorem CutTo.grid {w0 w : World} {g m : Nat} {R : List (List Int)} (h : CutTo w0 w g m m R) (hl : R.length = m) (hm : m ≤ 9223372036854775807) (hb : Below w0.heap.size w0 w) : GridAt w (some ⟨g, 0, none⟩) m R := by
  obtain ⟨cur, hh, hs, hc⟩ := h.row
  refine ⟨hl, hm, fun _ => ⟨g, 0, rfl, fun t ht => ?_⟩⟩
  obtain ⟨ro, n, c, e, A⟩ := hc t ht
  refine ⟨ro, n, c, ?_, A.below hb⟩
  simp [World.cell?, hh, e]
theorem cutTo_made (w : World) (m : Nat) (R : List (List Int)) : CutTo w (w.alloc (.cells (madeCells #[.slice none 0 0] m) 72)) w.heap.size m 0 R := by
  obtain ⟨c, hb, hs, hc⟩ := World.rowIs_made w (.slice none 0 0) m 72
  exact ⟨c, hb, hs, fun t ht => by omega⟩
theorem Arg.part {w : World} {b o n ca : Nat} {A : List Int} (h : Arg w (some ⟨b, o, none⟩) n ca A) (i m : Nat) (him : i + m ≤ n) : Arg w (some ⟨b, o + i, none⟩) m (ca - i) (partOf A i m) :=
  ⟨h.row.part i m him, by have := h.fit; omega, by have := h.max; omega, (fun h => by cases h), fun b' o' e t ht => by
    simp only [Option.some.injEq, Addr.mk.injEq, and_true] at e
    obtain ⟨rfl, rfl⟩ := e
    rw [Nat.add_assoc]
    exact h.cold _ _ rfl _ (by omega)⟩
/-- The same part of each row. -/
def partsOf (R : List (List Int)) (i m : Nat) : List (List Int) := R.map fun r => partOf r i m
theorem rowOf_parts {R : List (List Int)} {i m t : Nat} (ht : t < R.length) : rowOf (partsOf R i m) t = partOf (rowOf R t) i m := by
  unfold rowOf partsOf
  simp [List.getD_eq_getElem?_getD, ht]
end Go.Proofs.Ytpplnjmjldhlbaa

/- Package heads: what one head makes, the errors of Attend, and Attend. -/
namespace Go.Proofs.Ytpplnjmjldhlbaa
open Go.ChangeShapes Go.WideShapes Go.ChangeAt Go.RowKit
/-- The scores of a row and m keys. -/
def scrs (Q : List Int) (K : List (List Int)) (m n : Nat) : List Int := tab m fun i => scoreN Q (rowOf K i) n
/-- What a head makes at a place of the values' rows. -/
def headEl (Q : List Int) (K V : List (List Int)) (m n j : Nat) : Int := dotN (tab m (wgt (scrs Q K m n) m)) (colOf V m j) m
theorem headEl_bd (Q : List Int) (K V : List (List Int)) (m n j : Nat) : -2147483647 ≤ headEl Q K V m n j ∧ headEl Q K V m n j ≤ 2147483647 := dotN_bd _ _ _
theorem mixedN_of {m n : Nat} {V : List (List Int)} (h1 : 1 ≤ m) (h4 : m ≤ 4096) (hl : V.length = m) (ha : ∀ t, t < m → (rowOf V t).length = n) : mixedN m V = 0 := by
  unfold mixedN
  rw [if_neg (by omega), if_neg (by omega), if_neg (by omega)]
  have e : alike V m = true := by
    have : ∀ k, k ≤ m → alike V k = true := by
      intro k
      induction k with
      | zero => intro _; rfl
      | succ k ih => intro hk; unfold alike; rw [ih (by omega), ha k (by omega), ha 0 (by omega)]; simp
    exact this m (Nat.le_refl _)
  rw [if_pos e]
/-- The error's number of what Attend is handed. -/
def hchkN (n m mv : Nat) (K V : List (List Int)) (h : Int) : Int :=
  if h < 1 ∨ 4 < h then 1 else if n = 0 ∨ m = 0 then 8 else if 32 < n ∨ 128 < m then 2 else if n % h.toNat ≠ 0 ∨ mv ≠ m ∨ longs K n m = false ∨ longs V n mv = false then 6 else 0
theorem hchkN_ok {n m mv : Nat} {K V : List (List Int)} {h : Int} (e : hchkN n m mv K V h = 0) : (1 ≤ h ∧ h ≤ 4) ∧ (1 ≤ n ∧ n ≤ 32) ∧ (1 ≤ m ∧ m ≤ 128) ∧ n % h.toNat = 0 ∧ mv = m ∧ (∀ t, t < m → (rowOf K t).length = n) ∧ ∀ t, t < m → (rowOf V t).length = n := by
  unfold hchkN at e
  split at e
  · omega
  · split at e
    · omega
    · split at e
      · omega
      · split at e
        · omega
        · rename_i a b c d
          have d1 : n % h.toNat = 0 := Decidable.byContradiction fun x => d (Or.inl x)
          have d2 : mv = m := Decidable.byContradiction fun x => d (Or.inr (Or.inl x))
          have d3 : longs K n m = true := by cases q : longs K n m with | true => rfl | false => exact absurd (Or.inr (Or.inr (Or.inl q))) d
          have d4 : longs V n mv = true := by cases q : longs V n mv with | true => rfl | false => exact absurd (Or.inr (Or.inr (Or.inr q))) d
          subst d2
          exact ⟨by omega, by omega, by omega, d1, rfl, fun t ht => longs_len d3 ht, fun t ht => longs_len d4 ht⟩
end Go.Proofs.Ytpplnjmjldhlbaa

/- Package heads: Attend, head by head. -/
namespace Go.Proofs.Ytpplnjmjldhlbaa
open Go.ChangeShapes Go.WideShapes Go.ChangeAt Go.RowKit
/-- What comes out at a place, heads of s numbers each. -/
def attEl (Q : List Int) (K V : List (List Int)) (m s j : Nat) : Int := headEl (partOf Q (j / s * s) s) (partsOf K (j / s * s) s) V m s j
theorem attEl_bd (Q : List Int) (K V : List (List Int)) (m s j : Nat) : -2147483647 ≤ attEl Q K V m s j ∧ attEl Q K V m s j ≤ 2147483647 := headEl_bd _ _ _ _ _ _
theorem tab_append (a b : Nat) (f : Nat → Int) : tab (a + b) f = tab a f ++ tab b fun j => f (a + j) := by
  unfold tab
  rw [List.range_add, List.map_append, List.map_map]
  rfl
theorem col_parts {V : List (List Int)} {m f s j : Nat} (hl : V.length = m) (hj : j < s) : colOf (partsOf V f s) m j = colOf V m (f + j) := by
  unfold colOf
  refine tab_congr fun k hk => ?_
  rw [rowOf_parts (by omega), el_part hj]
theorem head_att (Q : List Int) (K V : List (List Int)) (m s k : Nat) (hs : 1 ≤ s) (hl : V.length = m) : (tab s fun j => headEl (partOf Q (k * s) s) (partsOf K (k * s) s) (partsOf V (k * s) s) m s j) = tab s fun j => attEl Q K V m s (k * s + j) := by
  refine tab_congr fun j hj => ?_
  have e : (k * s + j) / s = k := by rw [Nat.add_comm, Nat.add_mul_div_right _ _ (by omega), Nat.div_eq_of_lt hj]; omega
  unfold attEl
  rw [e]
  unfold headEl
  rw [col_parts hl hj]
end Go.Proofs.Ytpplnjmjldhlbaa

/- What each call of the document's package for layer 1 answers, of every input in range. -/
namespace Go.Proofs.Ytpplnjmjldhlbaa
open Go.ChangeShapes Go.WideShapes Go.ChangeAt Go.RowKit
open Go.Lib (byteCells)
end Go.Proofs.Ytpplnjmjldhlbaa

/- What the laws of layer 3 call beside package vec: a copy of a row, the awake check, the document's own answers. -/
namespace Go.Proofs.Ytpplnjmjldhlbaa
open Go.ChangeShapes Go.WideShapes Go.ChangeAt Go.RowKit
set_option maxHeartbeats 800000 in
theorem few_any (ao : Option Addr) (n ca : Nat) (A : List Int) (lim : Nat) (li : Int) (w : World) (hli : li = lim) (hA : Arg w ao n ca A) (hl : lim ≤ 5000) :
   Calls Try.prog 53 #[.slice ao n ca, .int .i64 li] w fun e w' => ∃ g n' cap, e = .returned (.slice (some ⟨g, 0, none⟩) n' cap) ∧ n' ≤ lim ∧ Fresh w' w.heap.size g n' cap (A.take lim) ∧ Below w.heap.size w w' := by
  subst hli
  have hm := hA.max
  have hf := hA.fit
  have hlen := hA.row.len
  have F0 := fresh_empty w
  have B0 : Below w.heap.size w (w.alloc (.cells #[] 71)) := (Below.refl _ _).alloc (Nat.le_refl _) _
  by_cases hgt : lim < n
  · obtain ⟨b, o, rfl, hc⟩ := hA.row.cells (by omega)
    have R := (hA.row.part 0 lim (by omega)).below B0
    rw [Nat.add_zero, List.drop_zero] at R
    clear hA hc hlen
    go_enter Try.func53, Try.ntmps53
    go_wp2_with (at_builtin; refine wpList_append_row rfl _ _ rfl w.heap.size w.heap.size 0 0 [] rfl F0 (some ⟨b, o, none⟩) lim ca (A.take lim) rfl R (fun h => by cases h) (by omega) (by simp) ?_; intro g' cap' w' F1 B1)
    rw [Nat.zero_add, List.nil_append] at *
    go_ret
    exact ⟨_, _, _, rfl, Nat.le_refl _, F1, B0.trans B1⟩
  · have R := hA.row.below B0
    have ht : A.take lim = A := List.take_of_length_le (by omega)
    rw [ht]
    have hnil := hA.nil
    clear hA ht hlen
    go_enter Try.func53, Try.ntmps53
    go_wp2_with (at_builtin; refine wpList_append_row rfl _ _ rfl w.heap.size w.heap.size 0 0 [] rfl F0 ao n ca A rfl R hnil (by omega) (by simp) ?_; intro g' cap' w' F1 B1)
    rw [Nat.zero_add, List.nil_append] at *
    go_ret
    exact ⟨_, _, _, rfl, by omega, F1, B0.trans B1⟩
theorem dot_lit : dotN [65536, 32768] [65536, 65536] 2 = 98304 := by decide
theorem amax_lit : amax [3, 7, 7] 3 = 1 := by decide
set_option maxHeartbeats 800000 in
theorem same_any (ao bo : Option Addr) (n ca cb : Nat) (A : List Int) (w : World) (hA : RowAt w ao n A) (hB : RowAt w bo n A) :
   Calls Try.prog 50 #[.slice ao n ca, .slice bo n cb] w fun e w' => e = .returned (.bool true) ∧ ∃ m, w' = w.drewN m := by
  have hn := hA.max
  go_enter Try.func50, Try.ntmps50
  go_wp2
  go_loopg [13] n (fun r i wr => ∃ k : Nat, k ≤ n ∧ r = n - k ∧ i = .int .i64 k ∧ ∃ m, wr = w.drewN m)
  case atStart => exact ⟨0, by omega, by omega, rfl, 0, rfl⟩
  case round =>
    obtain ⟨k, hk, rfl, rfl, m0, hw0⟩ := hrel
    replace hA : RowAt wr ao n A := hw0 ▸ hA.drewN m0
    replace hB : RowAt wr bo n A := hw0 ▸ hB.drewN m0
    have HW : Hid (wr = w.drewN m0) := hw0
    clear hw0
    by_cases hlt : k < n
    · obtain ⟨b, o, rfl, hc⟩ := hA.cells (by omega)
      obtain ⟨b', o', rfl, hc'⟩ := hB.cells (by omega)
      have c1 := hc k hlt
      have c2 := hc' k hlt
      clear hA hB hc hc'
      go_wp2_with fail
      go_quiet (fail)
      go_wp2
      go_roundg (n - (k + 1))
      case measure => omega
      case rel => exact ⟨k + 1, by omega, rfl, by go_num, m0 + nq, by rw [HW.out, World.drewN_drewN]⟩
    · obtain rfl : k = n := by omega
      go_wp2
      go_ret
      exact ⟨rfl, m0, HW.out⟩
end Go.Proofs.Ytpplnjmjldhlbaa

/- Sums of products: by a row with one 65536 it picks a number; of rows joined it is nearly the sum. -/
namespace Go.Proofs.Ytpplnjmjldhlbaa
open Go.RowKit
theorem grow_in (s x : Int) (h : -9223372036854775807 ≤ s + x ∧ s + x ≤ 9223372036854775807) : grow s x = s + x := by unfold grow; omega
theorem fitN_comm (n m : Nat) : fitN n m = fitN m n := by unfold fitN; split <;> split <;> (try split) <;> (try split) <;> omega
def dotV (A B : List Int) (n m : Nat) : Int := if fitN n m = 0 then dotN A B n else 0
theorem fit_zero {n m : Nat} (h : fitN n m = 0) : n = m ∧ n ≤ 4096 := by
  unfold fitN at h
  split at h
  · omega
  · split at h
    · omega
    · omega
theorem fit_refl {n : Nat} (h : n ≤ 4096) : fitN n n = 0 := by unfold fitN; rw [if_neg (by omega), if_neg (by simp)]
theorem fit_six {n m : Nat} (h1 : n ≤ 4096) (h2 : m ≤ 4096) (h : n ≠ m) : fitN n m = 6 := by unfold fitN; rw [if_neg (by omega), if_pos h]
theorem dotV_comm (A B : List Int) (n m : Nat) : dotV A B n m = dotV B A m n := by
  unfold dotV
  rw [fitN_comm m n]
  by_cases h : fitN n m = 0
  · rw [if_pos h, if_pos h, (fit_zero h).1, dotN_comm]
  · rw [if_neg h, if_neg h]
/-- A row that has x at one place, elsewhere noughts. -/
theorem dsum_unit (A Z : List Int) (a : Nat) (hA : Small A) (hz : ∀ k, el Z k = if k = a then 65536 else 0) (k : Nat) : dsum A Z k = if a < k then el A a * 65536 else 0 := by
  induction k with
  | zero => rw [dsum_zero, if_neg (by omega)]
  | succ k ih =>
    rw [dsum_succ, ih, hz k]
    have hb := hA.el a
    by_cases h1 : k = a
    · subst h1
      rw [if_neg (by omega), if_pos rfl, if_pos (by omega), grow_in _ _ (by omega), Int.zero_add]
    · rw [if_neg h1, Int.mul_zero]
      by_cases h2 : a < k
      · rw [if_pos h2, if_pos (by omega), grow_in _ _ (by omega), Int.add_zero]
      · rw [if_neg h2, if_neg (by omega), grow_in _ _ (by omega), Int.add_zero]
theorem dotN_unit (A Z : List Int) (a n : Nat) (hA : Small A) (hz : ∀ k, el Z k = if k = a then 65536 else 0) (h : a < n) : dotN A Z n = sat (el A a) := by
  unfold dotN
  rw [dsum_unit A Z a hA hz n, if_pos h, rnd_whole _ _ (by omega)]
theorem el_tab_zero (n k : Nat) : el (tab n fun _ => 0) k = 0 := by
  by_cases h : k < n
  · exact el_tab h
  · exact el_over (by rw [tab_len]; omega)
theorem el_unit (n a : Nat) (h : a < n) (k : Nat) : el ((tab n fun _ => 0).set a 65536) k = if k = a then 65536 else 0 := by
  rw [el_set (by rw [tab_len]; exact h), el_tab_zero]
end Go.Proofs.Ytpplnjmjldhlbaa

/- More of what the laws of layer 3 call: dot products of any two rows; small numbers; the document's greatest place; rows that are overwritten. -/
namespace Go.Proofs.Ytpplnjmjldhlbaa
open Go.ChangeShapes Go.WideShapes Go.ChangeAt Go.RowKit
/-- Of what was there, only blocks among gs may have turned. -/
structure Kept (gs : List Nat) (w w' : World) : Prop where
  os : w'.os = w.os
  tape : w'.tape = w.tape
  output : w'.output = w.output
  size : w.heap.size ≤ w'.heap.size
  block : ∀ k, k < w.heap.size → k ∉ gs → w'.heap[k]? = w.heap[k]?
theorem Kept.refl (gs : List Nat) (w : World) : Kept gs w w := ⟨rfl, rfl, rfl, Nat.le_refl _, fun _ _ _ => rfl⟩
theorem Kept.set {gs : List Nat} {w w' : World} (h : Kept gs w w') {a : Addr} (ha : a.block ∈ gs) (v : Value) : Kept gs w (w'.setCell a v) :=
  ⟨h.os, h.tape, h.output, by simpa [World.setCell] using h.size, fun k hk hn => by
    have hne : k ≠ a.block := fun e => hn (by rw [e]; exact ha)
    rw [Below.heap_setCell _ _ _ _ hne]; exact h.block k hk hn⟩
theorem Kept.below {gs : List Nat} {w w' : World} (h : Kept gs w w') {B : Nat} (hB : B ≤ w.heap.size) (hg : ∀ g ∈ gs, B ≤ g) : Below B w w' :=
  ⟨h.os, h.tape, h.output, h.size, fun k hk => h.block k (by omega) (fun hm => by have := hg k hm; omega)⟩
theorem Fresh.kept {w w' : World} {B g n cap : Nat} {A : List Int} {gs : List Nat} (h : Fresh w B g n cap A) (hk : Kept gs w w') (hg : g ∉ gs) : Fresh w' B g n cap A := h.of_block (hk.block g h.lt hg)
end Go.Proofs.Ytpplnjmjldhlbaa

/- What each call of package mat answers, and that it changes nothing of what was there. -/
namespace Go.Proofs.Ytpplnjmjldhlbaa
open Go.ChangeShapes Go.WideShapes Go.ChangeAt Go.RowKit
/-- A matrix as a value. -/
def matV (r c : Int) (ao : Option Addr) (n ca : Nat) : Value := .agg #[.int .i64 r, .int .i64 c, .slice ao n ca]
def sideN (r c : Int) : Int := if r < 1 ∨ c < 1 then 1 else if 128 < r ∨ 128 < c then 2 else 0
def chkN (r c : Int) (n : Nat) : Int := if sideN r c ≠ 0 then sideN r c else if (n : Int) ≠ r * c then 6 else 0
theorem side_zero {r c : Int} (h : sideN r c = 0) : 1 ≤ r ∧ r ≤ 128 ∧ 1 ≤ c ∧ c ≤ 128 := by
  unfold sideN at h
  split at h
  · omega
  · split at h <;> omega
theorem chk_zero {r c : Int} {n : Nat} (h : chkN r c n = 0) : ∃ r' c' : Nat, r = r' ∧ c = c' ∧ 1 ≤ r' ∧ r' ≤ 128 ∧ 1 ≤ c' ∧ c' ≤ 128 ∧ n = r' * c' := by
  unfold chkN at h
  split at h
  · rename_i h1; exact absurd h h1
  · rename_i h1
    have h2 := side_zero (Classical.not_not.1 h1)
    split at h
    · omega
    · rename_i h3
      have h3 := Classical.not_not.1 h3
      refine ⟨r.toNat, c.toNat, by omega, by omega, by omega, by omega, by omega, by omega, ?_⟩
      have e : ((r.toNat * c.toNat : Nat) : Int) = r * c := by rw [Int.natCast_mul]; congr 1 <;> omega
      omega
theorem chk_ok {r c : Nat} {n : Nat} (h1 : 1 ≤ r) (h2 : r ≤ 128) (h3 : 1 ≤ c) (h4 : c ≤ 128) (h : n = r * c) : chkN r c n = 0 := by
  have e : sideN r c = 0 := by unfold sideN; rw [if_neg (by omega), if_neg (by omega)]
  unfold chkN
  rw [e, if_neg (by omega), if_neg (by subst h; simp)]
theorem mul_side {r c : Int} (h : 1 ≤ r ∧ r ≤ 128 ∧ 1 ≤ c ∧ c ≤ 128) : 1 ≤ r * c ∧ r * c ≤ 16384 := by
  have h1 := Int.mul_le_mul h.2.1 h.2.2.2 (by omega) (show (0 : Int) ≤ 128 by omega)
  have h2 := Int.mul_le_mul h.1 h.2.2.1 (by omega) (show (0 : Int) ≤ r by omega)
  omega
/-- Row i of a matrix of c columns; column j of one of r rows. -/
def rowN (D : List Int) (c i : Nat) : List Int := tab c fun j => el D (i * c + j)
def colN (D : List Int) (r c j : Nat) : List Int := tab r fun i => el D (i * c + j)
/-- A sound matrix in memory. -/
structure MatAt (w : World) (r c b o n ca : Nat) (D : List Int) : Prop where
  r1 : 1 ≤ r
  r2 : r ≤ 128
  c1 : 1 ≤ c
  c2 : c ≤ 128
  size : n = r * c
  fit : n ≤ ca
  max : ca ≤ 9223372036854775807
  row : RowAt w (some ⟨b, o, none⟩) n D
theorem MatAt.below {w w' : World} {r c b o n ca : Nat} {D : List Int} (h : MatAt w r c b o n ca D) (hb : Below w.heap.size w w') : MatAt w' r c b o n ca D := ⟨h.r1, h.r2, h.c1, h.c2, h.size, h.fit, h.max, h.row.below hb⟩
theorem row_in {r c i : Nat} (h : i < r) : i * c + c ≤ r * c := by
  have := Nat.mul_le_mul_right c (show i + 1 ≤ r from h)
  rw [Nat.add_mul, Nat.one_mul] at this
  exact this
theorem size_le {r c : Nat} (h1 : r ≤ 128) (h2 : c ≤ 128) : r * c ≤ 16384 := Nat.mul_le_mul h1 h2
theorem MatAt.rowAt {w : World} {r c b o n ca : Nat} {D : List Int} (h : MatAt w r c b o n ca D) {i : Nat} (hi : i < r) : RowAt w (some ⟨b, o + i * c, none⟩) c (rowN D c i) := by
  have h1 := row_in (c := c) hi
  have h2 := h.size
  have e : (D.drop (i * c)).take c = rowN D c i := by
    unfold rowN
    refine ext_el (by rw [tab_len, List.length_take, List.length_drop, h.row.len]; omega) fun k hk => ?_
    rw [List.length_take] at hk
    rw [el_take (by omega), el_drop, el_tab (by omega)]
  rw [← e]
  exact h.row.part (i * c) c (by omega)
theorem run_eql_nil (w : World) (t e : TypeId) (a : Option Addr) (l c : Nat) (h : Try.prog.underlying t = some (.slice e)) : (binOp .eql t (.slice a l c) (.slice none 0 0)).run Try.prog w = .ok (.bool a.isNone) w := by
  simp [binOp, run_equal_slice_nil w t e a l c h]
theorem clone_any (b o n ca : Nat) (A : List Int) (w : World) (hA : RowAt w (some ⟨b, o, none⟩) n A) (hn : n ≤ 1048576) :
   Calls Try.prog 54 #[.slice (some ⟨b, o, none⟩) n ca] w fun e w' => ∃ g cap, e = .returned (.slice (some ⟨g, 0, none⟩) n cap) ∧ Fresh w' w.heap.size g n cap A ∧ Below w.heap.size w w' := by
  have F0 := fresh_empty w
  have B0 : Below w.heap.size w (w.alloc (.cells #[] 71)) := (Below.refl _ _).alloc (Nat.le_refl _) _
  have R := hA.below B0
  have hq : ∀ w : World, (binOp .eql 72 (.slice (some ⟨b, o, none⟩) n ca) (.slice none 0 0)).run Try.prog w = .ok (.bool false) w := fun w => run_eql_nil w _ 71 _ _ _ Try.underlying72
  clear hA
  go_enter Try.func54, Try.ntmps54
  go_wp2_with (at_builtin; refine wpList_append_row rfl _ _ rfl w.heap.size w.heap.size 0 0 [] rfl F0 (some ⟨b, o, none⟩) n ca A rfl R (fun h => by cases h) (by omega) (by simp) ?_; intro g' cap' w' F1 B1)
  rw [Nat.zero_add, List.nil_append] at *
  go_ret
  exact ⟨_, _, rfl, F1, B0.trans B1⟩
end Go.Proofs.Ytpplnjmjldhlbaa

/- What mat.Apply, mat.blank and mat.Turn answer. -/
namespace Go.Proofs.Ytpplnjmjldhlbaa
open Go.ChangeShapes Go.WideShapes Go.ChangeAt Go.RowKit
theorem heap_setCell_at {w : World} {g k : Nat} {t : TypeId} {fr : Nat × Nat} {cs : Array Value} {v : Value} (h : w.heap[g]? = some (.cells cs t fr)) : (w.setCell ⟨g, k, none⟩ v).heap[g]? = some (.cells (cs.setIfInBounds k v) t fr) := by
  simp [World.setCell, Array.getElem?_modify, h]
theorem Below.put {B : Nat} {a w : World} (h : Below B a w) {g : Nat} (hg : B ≤ g) (u v x : Value) : Below B a (((w.setCell ⟨g, 0, none⟩ u).setCell ⟨g, 1, none⟩ v).setCell ⟨g, 2, none⟩ x) :=
  ((h.setCell (p := ⟨g, 0, none⟩) hg u).setCell (p := ⟨g, 1, none⟩) hg v).setCell (p := ⟨g, 2, none⟩) hg x
theorem Fresh.put {w : World} {B g n cap : Nat} {A : List Int} (h : Fresh w B g n cap A) {k : Nat} (hg : g ≠ k) (u v x : Value) : Fresh (((w.setCell ⟨k, 0, none⟩ u).setCell ⟨k, 1, none⟩ v).setCell ⟨k, 2, none⟩ x) B g n cap A :=
  ((h.setOther (a := ⟨k, 0, none⟩) hg u).setOther (a := ⟨k, 1, none⟩) hg v).setOther (a := ⟨k, 2, none⟩) hg x
/-- The turned matrix' numbers. -/
def turnN (D : List Int) (r c : Nat) : List Int := tab (c * r) fun q => el D ((q % r) * c + q / r)
theorem place_eq {r j k q : Nat} (hk : k < r) : q = j * r + k ↔ (q % r = k ∧ q / r = j) := by
  constructor
  · rintro rfl
    constructor
    · rw [Nat.add_comm, Nat.add_mul_mod_self_right, Nat.mod_eq_of_lt hk]
    · rw [Nat.add_comm, Nat.add_mul_div_right _ _ (by omega), Nat.div_eq_of_lt hk, Nat.zero_add]
  · rintro ⟨h1, h2⟩
    have := Nat.div_add_mod q r
    rw [h1, h2, Nat.mul_comm] at this
    omega
/-- What is there when k rows and j places of the next are done. -/
def turnK (D : List Int) (r c k j : Nat) : List Int := tab (c * r) fun q => if q % r < k ∨ (q % r = k ∧ q / r < j) then el D ((q % r) * c + q / r) else 0
theorem turnK_start (D : List Int) (r c : Nat) : turnK D r c 0 0 = tab (c * r) fun _ => 0 := tab_congr fun q _ => by
  generalize q % r = x
  generalize q / r = y
  rw [if_neg (by omega)]
theorem turnK_next (D : List Int) (r c k : Nat) (hk : k < r) : turnK D r c k c = turnK D r c (k + 1) 0 := tab_congr fun q hq => by
  have h1 : q / r < c := (Nat.div_lt_iff_lt_mul (by omega)).2 hq
  generalize q % r = x at *
  generalize q / r = y at *
  by_cases h : x < k ∨ x = k
  · rw [if_pos (by omega), if_pos (by omega)]
  · rw [if_neg (by omega), if_neg (by omega)]
theorem turnK_end (D : List Int) (r c : Nat) (hr : 1 ≤ r) : turnK D r c r 0 = turnN D r c := tab_congr fun q _ => by
  have := Nat.mod_lt q (show 0 < r by omega)
  rw [if_pos (by omega)]
theorem turnK_step (D : List Int) (r c k j : Nat) (hk : k < r) (hj : j < c) : (turnK D r c k j).set (j * r + k) (el D (k * c + j)) = turnK D r c k (j + 1) := by
  unfold turnK
  have hq : j * r + k < c * r := by have := row_in (c := r) hj; omega
  rw [tab_set hq]
  refine tab_congr fun q _ => ?_
  by_cases h : q = j * r + k
  · rw [if_pos h]
    obtain ⟨h1, h2⟩ := (place_eq hk).1 h
    rw [if_pos (by omega), h1, h2]
  · rw [if_neg h]
    have h' : ¬ (q % r = k ∧ q / r = j) := fun x => h ((place_eq hk).2 x)
    by_cases h3 : q % r < k ∨ (q % r = k ∧ q / r < j)
    · rw [if_pos h3, if_pos (by omega)]
    · rw [if_neg h3, if_neg (by omega)]
end Go.Proofs.Ytpplnjmjldhlbaa

/- Package pass: its norm, its sums, and what a matrix makes of a row, of numbers that fit. -/
namespace Go.Proofs.Ytpplnjmjldhlbaa
open Go.ChangeShapes Go.WideShapes Go.ChangeAt Go.RowKit
end Go.Proofs.Ytpplnjmjldhlbaa

/- append of one number onto a row of the call's own, as one step of a region that draws. -/
namespace Go.Proofs.Ytpplnjmjldhlbaa
open Go.ChangeShapes Go.WideShapes Go.ChangeAt Go.RowKit
/-- append of one number onto a row of the call's own, or nil, as one step of a region that draws. -/
theorem step_append_one {ops : Array Oper} {o : Oper} {a : Act} {w : World} {K : Act → World → Prop} {Q : Exit → Act → World → Prop} {E : Prop}
    (hg : o.guard = none) (s x : Operand) (hop : o.op = .call { callee := .builtin .append, args := #[s, x], argTypes := #[72, 72] })
    (B : Nat) (ao : Option Addr) (n cap : Nat) (A : List Int) (hs : a.eval s = .slice ao n cap) (hown : w.ownsRow B 71 1 (.slice ao n cap) n (A.map (Value.int .i32)))
    (bo : Nat) (y : Int) (hx : a.eval x = .slice (some ⟨bo, 0, none⟩) 1 1) (hX : RowAt w (some ⟨bo, 0, none⟩) 1 [y]) (hlen : n + 1 ≤ 1048576) (hB : B ≤ w.heap.size)
    (h : ∀ g' cap' w', w'.ownsRow B 71 1 (.slice (some ⟨g', 0, none⟩) (n + 1) cap') (n + 1) ((A ++ [y]).map (Value.int .i32)) → Below B w w' → B ≤ g' → K (a.put o.dst (.slice (some ⟨g', 0, none⟩) (n + 1) cap')) w') :
    if Region.wanted o (yielded ops a.tmps) = true then Oper.wp Try.prog o a w K Q else E := by
  have hw : Region.wanted o (yielded ops a.tmps) = true := by simp [Region.wanted, hg]
  rw [if_pos hw]
  obtain ⟨i0, hi, hz0, hz1, hz2⟩ := info_parts Try.infoNum
  refine wp_append_own w s x 72 hop B 71 i0 (.int .i32 0) 1 4 Try.underlying72 hi hz0 hz1 hz2 rfl (by decide) _ n _ hs hown ⟨bo, 0, none⟩ 1 1 [.int .i32 y] hx rfl ?_ (ints_oneCell .i32 [y]) (by unfold maxLen; omega) (by omega) hB ?_
  · intro j u hj
    obtain ⟨b, o', e, hcell⟩ := hX.cells (by omega)
    simp only [Option.some.injEq, Addr.mk.injEq, and_true] at e
    obtain ⟨rfl, rfl⟩ := e
    match j, hj with
    | 0, hj =>
      have h0 := hcell 0 (by omega)
      simp at hj
      subst hj
      have e2 : (Addr.mk bo 0 none).add 0 = ⟨bo, 0 + 0, none⟩ := by simp [Addr.add]
      rw [e2, h0]
      rfl
  · intro v' w' hown' hgr hnil
    have hb : Below B w w' := (Below.refl _ _).grown hgr hB (fun k hk => by
      cases ao with
      | none => simp [Value.ownBlock] at hk
      | some ad =>
        obtain ⟨_, h2⟩ := hown
        rcases h2 with ⟨h3, _⟩ | ⟨g, c', cur, hv, hg2, _⟩
        · cases h3
        · simp only [Value.slice.injEq] at hv
          obtain ⟨e1, _⟩ := hv
          rw [Option.some.inj e1] at hk
          simp [Value.ownBlock] at hk
          omega)
    obtain ⟨h1, h2⟩ := hown'
    rcases h2 with ⟨h3, h4⟩ | ⟨g', c', cur, hv, hg2, hr⟩
    · omega
    · subst hv
      have e : A.map (Value.int .i32) ++ [.int .i32 y] = (A ++ [y]).map (Value.int .i32) := by simp
      rw [e] at h1 hr
      exact h g' c' w' ⟨h1, Or.inr ⟨g', c', cur, rfl, hg2, hr⟩⟩ hb hg2
theorem owns_below {w w' : World} {B n : Nat} {e : TypeId} {v : Value} {xs : List Value} (h : w.ownsRow B e 1 v n xs) (hb : Below w.heap.size w w') : w'.ownsRow B e 1 v n xs := by
  obtain ⟨h1, h2⟩ := h
  refine ⟨h1, ?_⟩
  rcases h2 with h2 | ⟨g, cap, cur, hv, hg, hh, r⟩
  · exact Or.inl h2
  · exact Or.inr ⟨g, cap, cur, hv, hg, by rw [hb.block g (Array.getElem?_eq_some_iff.1 hh).1]; exact hh, r⟩
theorem tab_snoc1 (n : Nat) (f : Nat → Int) : tab (n + 1) f = tab n f ++ [f n] := by unfold tab; rw [List.range_succ, List.map_append]; rfl
end Go.Proofs.Ytpplnjmjldhlbaa

/- Package pass: a new list of rows with one more at its end. -/
namespace Go.Proofs.Ytpplnjmjldhlbaa
open Go.ChangeShapes Go.WideShapes Go.ChangeAt Go.RowKit
/-- The values of rows, and what they read as. -/
structure RowsAt (w : World) (vs : List Value) (R : List (List Int)) : Prop where
  len : vs.length = R.length
  rows : ∀ t, t < R.length → ∃ ro m c, vs[t]? = some (.slice ro m c) ∧ Arg w ro m c (rowOf R t)
theorem RowsAt.below {w w' : World} {vs : List Value} {R : List (List Int)} (h : RowsAt w vs R) (hb : Below w.heap.size w w') : RowsAt w' vs R :=
  ⟨h.len, fun t ht => let ⟨ro, m, c, e, A⟩ := h.rows t ht; ⟨ro, m, c, e, A.below hb⟩⟩
theorem RowsAt.one {w : World} {vs : List Value} {R : List (List Int)} (h : RowsAt w vs R) : ∀ u ∈ vs, u.oneCell' = true := by
  intro u hu
  obtain ⟨t, ht, e⟩ := List.mem_iff_getElem.1 hu
  obtain ⟨ro, m, c, e2, _⟩ := h.rows t (by rw [← h.len]; exact ht)
  rw [List.getElem?_eq_getElem ht] at e2
  simp only [Option.some.injEq] at e2
  rw [← e, e2]
  rfl
theorem GridAt.vals {w : World} {b o n : Nat} {R : List (List Int)} (h : GridAt w (some ⟨b, o, none⟩) n R) : ∃ vs, RowsAt w vs R ∧ ∀ j u, vs[j]? = some u → w.cell? ((Addr.mk b o none).add j) = some u := by
  refine ⟨(List.range n).map fun t => (w.cell? ⟨b, o + t, none⟩).getD default, ⟨by simp [h.len], fun t ht => ?_⟩, fun j u hj => ?_⟩
  · have hn : t < n := by rw [← h.len]; exact ht
    obtain ⟨b', o', e, hc⟩ := h.cells (by omega)
    simp only [Option.some.injEq, Addr.mk.injEq, and_true] at e
    obtain ⟨rfl, rfl⟩ := e
    obtain ⟨ro, m, c, h1, h2⟩ := hc t hn
    exact ⟨ro, m, c, by rw [List.getElem?_map, List.getElem?_range hn]; simp [h1], h2⟩
  · have hl : j < n := by
      have := (List.getElem?_eq_some_iff.1 hj).1
      simpa using this
    obtain ⟨b', o', e, hc⟩ := h.cells (by omega)
    simp only [Option.some.injEq, Addr.mk.injEq, and_true] at e
    obtain ⟨rfl, rfl⟩ := e
    obtain ⟨ro, m, c, h1, h2⟩ := hc j hl
    rw [List.getElem?_map, List.getElem?_range hl] at hj
    simp [h1] at hj
    have e2 : (Addr.mk b o none).add j = ⟨b, o + j, none⟩ := by simp [Addr.add]
    rw [e2, h1, hj]
/-- A list of rows of the call's own reads as they do. -/
theorem grid_of_owns {w : World} {B g n cap : Nat} {vs : List Value} {R : List (List Int)} (h : w.ownsRow B 72 1 (.slice (some ⟨g, 0, none⟩) n cap) n vs) (hR : RowsAt w vs R) (hn : n ≤ 9223372036854775807) : GridAt w (some ⟨g, 0, none⟩) n R := by
  have hl : R.length = n := by have h1 := h.1; have h2 := hR.len; omega
  refine ⟨hl, hn, fun _ => ⟨g, 0, rfl, fun t ht => ?_⟩⟩
  obtain ⟨ro, m, c, e, A⟩ := hR.rows t (by omega)
  have hc := h.cells (g := g) rfl t _ e
  have e2 : (Addr.mk g 0 none).add t = ⟨g, t, none⟩ := by simp [Addr.add]; intro h; exact h.symm
  rw [e2] at hc
  exact ⟨_, _, _, by rw [Nat.zero_add]; exact hc, A⟩
theorem RowsAt.snoc {w : World} {vs : List Value} {R : List (List Int)} (h : RowsAt w vs R) {ro : Option Addr} {m c : Nat} {Y : List Int} (hY : Arg w ro m c Y) : RowsAt w (vs ++ [.slice ro m c]) (R ++ [Y]) := by
  have hl := h.len
  refine ⟨by simp [hl], fun t ht => ?_⟩
  rw [List.length_append, List.length_singleton] at ht
  rcases Nat.lt_or_ge t R.length with h1 | h1
  · obtain ⟨ro', m', c', e, A⟩ := h.rows t h1
    refine ⟨ro', m', c', by rw [List.getElem?_append_left (by omega)]; exact e, ?_⟩
    have : rowOf (R ++ [Y]) t = rowOf R t := by unfold rowOf; simp only [List.getD_eq_getElem?_getD]; rw [List.getElem?_append_left h1]
    rw [this]
    exact A
  · obtain rfl : t = R.length := by omega
    refine ⟨ro, m, c, by rw [← hl]; simp, ?_⟩
    have : rowOf (R ++ [Y]) R.length = Y := by unfold rowOf; simp
    rw [this]
    exact hY
end Go.Proofs.Ytpplnjmjldhlbaa

/- Blocks of memory of the call's own whose cells are known one by one: structs. -/
namespace Go.Proofs.Ytpplnjmjldhlbaa
open Go.ChangeShapes Go.WideShapes Go.ChangeAt Go.RowKit
/-- Block g has the cells cs. -/
def Blk (w : World) (g : Nat) (T : TypeId) (cs : Array Value) : Prop := w.heap[g]? = some (.cells cs T (0, 0))
theorem blk_new (w : World) (T : TypeId) (cs : Array Value) : Blk (w.alloc (.cells cs T)) w.heap.size T cs := heap_alloc_new _ _
theorem Blk.lt {w : World} {g : Nat} {T : TypeId} {cs : Array Value} (h : Blk w g T cs) : g < w.heap.size := (Array.getElem?_eq_some_iff.1 h).1
theorem Blk.of_block {w w' : World} {g : Nat} {T : TypeId} {cs : Array Value} (h : Blk w g T cs) (e : w'.heap[g]? = w.heap[g]?) : Blk w' g T cs := Eq.trans e h
theorem Blk.below {w w' : World} {g : Nat} {T : TypeId} {cs : Array Value} (h : Blk w g T cs) (hb : Below w.heap.size w w') : Blk w' g T cs := h.of_block (hb.block g h.lt)
theorem Blk.cell {w : World} {g : Nat} {T : TypeId} {cs : Array Value} (h : Blk w g T cs) (i : Nat) {v : Value} (hv : cs[i]? = some v) : w.cell? ⟨g, i, none⟩ = some v := by
  unfold Blk at h; unfold World.cell?; simp only [h]; exact hv
theorem Blk.frozen {w : World} {g : Nat} {T : TypeId} {cs : Array Value} (h : Blk w g T cs) (k : Nat) : w.frozen? ⟨g, k, none⟩ = false := by unfold Blk at h; unfold World.frozen?; simp only [h]; rfl
theorem Blk.set {w : World} {g : Nat} {T : TypeId} {cs : Array Value} (h : Blk w g T cs) (i : Nat) (v : Value) : Blk (w.setCell ⟨g, i, none⟩ v) g T (cs.setIfInBounds i v) := by
  unfold Blk at *
  simp [World.setCell, Array.getElem?_modify, h]
theorem Blk.other {w : World} {g : Nat} {T : TypeId} {cs : Array Value} (h : Blk w g T cs) {a : Addr} (ha : g ≠ a.block) (v : Value) : Blk (w.setCell a v) g T cs := h.of_block (Below.heap_setCell _ _ _ _ ha)
theorem Blk.row {w : World} {g : Nat} {T : TypeId} {cs : Array Value} (h : Blk w g T cs) (ds : Array Value) : Blk (w.setRow g ds) g T ds := setRow_heap _ _ _ _ _ _ h
end Go.Proofs.Ytpplnjmjldhlbaa
