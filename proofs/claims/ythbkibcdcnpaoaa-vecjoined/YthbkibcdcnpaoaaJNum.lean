/- Sums of products of small numbers are exact; of rows joined they are nearly the sum; the first greatest place. -/
import Derived.Test.YthbkibcdcnpaoaaVNum
namespace Go.Proofs.Ythbkibcdcnpaoaa
open Go.RowKit
def Tiny (A : List Int) : Prop := ∀ k, -65535 ≤ el A k ∧ el A k ≤ 65535
theorem Tiny.append {A B : List Int} (h : Tiny A) (k : Tiny B) : Tiny (A ++ B) := by
  intro j
  by_cases hj : j < A.length
  · rw [el_append_left hj]; exact h j
  · have e : j = A.length + (j - A.length) := by omega
    rw [e, el_append_right]; exact k _
def esum (A B : List Int) : Nat → Int
  | 0 => 0
  | k + 1 => esum A B k + el A k * el B k
theorem esum_succ (A B : List Int) (k : Nat) : esum A B (k + 1) = esum A B k + el A k * el B k := rfl
theorem prod_tiny {a b : Int} (ha : -65535 ≤ a ∧ a ≤ 65535) (hb : -65535 ≤ b ∧ b ≤ 65535) : -4294836225 ≤ a * b ∧ a * b ≤ 4294836225 := by
  have := prod_bd (A := 65535) (B := 65535) (a := a) (b := b) (by omega) (by omega) (by omega) (by omega)
  omega
theorem esum_bd (A B : List Int) (hA : Tiny A) (hB : Tiny B) (k : Nat) : -(k * 4294836225 : Int) ≤ esum A B k ∧ esum A B k ≤ k * 4294836225 := by
  induction k with
  | zero => show -(((0 : Nat) : Int) * 4294836225) ≤ (0 : Int) ∧ (0 : Int) ≤ ((0 : Nat) : Int) * 4294836225; omega
  | succ k ih =>
    rw [esum_succ]
    have := prod_tiny (hA k) (hB k)
    omega
theorem dsum_exact (A B : List Int) (hA : Tiny A) (hB : Tiny B) (k : Nat) (hk : k ≤ 1000) : dsum A B k = esum A B k := by
  induction k with
  | zero => rfl
  | succ k ih =>
    rw [dsum_succ, ih (by omega), esum_succ]
    have h1 := prod_tiny (hA k) (hB k)
    have h2 := esum_bd A B hA hB k
    exact grow_in _ _ (by omega)
theorem esum_left (A B C D : List Int) (n : Nat) (hA : A.length = n) (hB : B.length = n) (k : Nat) (hk : k ≤ n) : esum (A ++ C) (B ++ D) k = esum A B k := by
  induction k with
  | zero => rfl
  | succ k ih => rw [esum_succ, esum_succ, ih (by omega), el_append_left (by omega), el_append_left (by omega)]
theorem esum_append (A B C D : List Int) (n : Nat) (hA : A.length = n) (hB : B.length = n) (k : Nat) : esum (A ++ C) (B ++ D) (n + k) = esum A B n + esum C D k := by
  induction k with
  | zero => rw [Nat.add_zero, esum_left A B C D n hA hB n (Nat.le_refl _)]; show _ = _ + (0 : Int); omega
  | succ k ih =>
    have e1 : el (A ++ C) (n + k) = el C k := by rw [← hA]; exact el_append_right
    have e2 : el (B ++ D) (n + k) = el D k := by rw [← hB]; exact el_append_right
    rw [← Nat.add_assoc, esum_succ, ih, esum_succ, e1, e2]
    omega
theorem near_sum (s t : Int) (h1 : -429483622500 ≤ s ∧ s ≤ 429483622500) (h2 : -429483622500 ≤ t ∧ t ≤ 429483622500) :
    -1 ≤ sat (rnd (s + t) 65536) - sat (rnd s 65536) - sat (rnd t 65536) ∧ sat (rnd (s + t) 65536) - sat (rnd s 65536) - sat (rnd t 65536) ≤ 1 := by
  have a1 := rnd_near s 65536 (by omega)
  have a2 := rnd_near t 65536 (by omega)
  have a3 := rnd_near (s + t) 65536 (by omega)
  have b1 := rnd_bd s 65536 10000000 (by omega) (by omega) (by omega)
  have b2 := rnd_bd t 65536 10000000 (by omega) (by omega) (by omega)
  have b3 := rnd_bd (s + t) 65536 20000000 (by omega) (by omega) (by omega)
  rw [sat_id _ (by omega), sat_id _ (by omega), sat_id _ (by omega)]
  obtain ⟨a1, a1', _⟩ := a1
  obtain ⟨a2, a2', _⟩ := a2
  obtain ⟨a3, a3', _⟩ := a3
  omega
theorem joined_near (A B C D : List Int) (n m : Nat) (hA : A.length = n) (hB : B.length = n) (tA : Tiny A) (tB : Tiny B) (tC : Tiny C) (tD : Tiny D) (hn : n ≤ 100) (hm : m ≤ 100) :
    -1 ≤ dotN (A ++ C) (B ++ D) (n + m) - dotN A B n - dotN C D m ∧ dotN (A ++ C) (B ++ D) (n + m) - dotN A B n - dotN C D m ≤ 1 := by
  unfold dotN
  rw [dsum_exact _ _ (tA.append tC) (tB.append tD) _ (by omega), dsum_exact _ _ tA tB _ (by omega), dsum_exact _ _ tC tD _ (by omega), esum_append A B C D n hA hB]
  have h1 := esum_bd A B tA tB n
  have h2 := esum_bd C D tC tD m
  exact near_sum _ _ (by omega) (by omega)
theorem amax_spec (A : List Int) (k : Nat) : (0 < k → 0 ≤ amax A k) ∧ (∀ i, i < k → el A i ≤ el A (amax A k).toNat) ∧ (∀ i : Nat, (i : Int) < amax A k → el A i < el A (amax A k).toNat) := by
  induction k with
  | zero => exact ⟨fun h => by omega, fun i h => by omega, fun i h => by have : amax A 0 = -1 := rfl; omega⟩
  | succ k ih =>
    obtain ⟨h0, h1, h2⟩ := ih
    have hb := amax_bd A k
    by_cases hc : amax A k < 0 ∨ el A (amax A k).toNat < el A k
    · have e : amax A (k + 1) = k := by show (if _ then _ else _) = _; rw [if_pos hc]
      rw [e, Int.toNat_natCast]
      have hk : ∀ i, i < k → el A i < el A k := by
        intro i hi
        rcases hc with hc | hc
        · have := h0 (by omega); omega
        · have := h1 i hi; omega
      refine ⟨fun _ => by omega, fun i hi => ?_, fun i hi => hk i (by omega)⟩
      by_cases he : i = k
      · subst he; omega
      · have := hk i (by omega); omega
    · have e : amax A (k + 1) = amax A k := by
        show (if _ then _ else _) = _
        rw [if_neg hc]
      rw [e]
      refine ⟨fun _ => by omega, fun i hi => ?_, h2⟩
      by_cases he : i = k
      · subst he; omega
      · exact h1 i (by omega)
end Go.Proofs.Ythbkibcdcnpaoaa
