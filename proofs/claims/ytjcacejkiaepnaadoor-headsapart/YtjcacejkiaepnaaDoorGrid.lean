/- Rows of rows in memory: what a slice of slices reads as. -/
import Derived.Test.YtjcacejkiaepnaaDoorSlcP
namespace Go.Proofs.YtjcacejkiaepnaaDoor
open Go.ChangeShapes Go.WideShapes Go.ChangeAt Go.RowKit
/-- Row t of several; beyond their end: none. -/
def rowOf (R : List (List Int)) (t : Nat) : List Int := R.getD t []
/-- In w the slice that begins at ao, of n rows, reads as R. -/
structure GridAt (w : World) (ao : Option Addr) (n : Nat) (R : List (List Int)) : Prop where
  len : R.length = n
  max : n ≤ 9223372036854775807
  cells : 0 < n → ∃ b o, ao = some ⟨b, o, none⟩ ∧ ∀ t, t < n → ∃ ro m c, w.cell? ⟨b, o + t, none⟩ = some (.slice ro m c) ∧ Arg w ro m c (rowOf R t)
theorem GridAt.nil (w : World) (ao : Option Addr) : GridAt w ao 0 [] := ⟨rfl, by omega, fun h => by omega⟩
theorem GridAt.below {w w' : World} {ao : Option Addr} {n : Nat} {R : List (List Int)} (h : GridAt w ao n R) (hb : Below w.heap.size w w') : GridAt w' ao n R := by
  refine ⟨h.len, h.max, fun hn => ?_⟩
  obtain ⟨b, o, e, hc⟩ := h.cells hn
  refine ⟨b, o, e, fun t ht => ?_⟩
  obtain ⟨ro, m, c, h1, h2⟩ := hc t ht
  have hlt : b < w.heap.size := by simpa using World.block_lt_of_cell? w _ h1
  exact ⟨ro, m, c, by rw [hb.cell (by exact hlt)]; exact h1, h2.below hb⟩
theorem GridAt.drewN {w : World} {ao : Option Addr} {n : Nat} {R : List (List Int)} (h : GridAt w ao n R) (m : Nat) : GridAt (w.drewN m) ao n R := h.below (below_drewN (Below.refl _ _) m)
/-- Are the first k rows as long as the first? -/
def alike (R : List (List Int)) : Nat → Bool
  | 0 => true
  | k + 1 => alike R k && ((rowOf R k).length == (rowOf R 0).length)
theorem alike_len {R : List (List Int)} {n : Nat} (h : alike R n = true) {t : Nat} (ht : t < n) : (rowOf R t).length = (rowOf R 0).length := by
  induction n with
  | zero => omega
  | succ n ih =>
    unfold alike at h
    rw [Bool.and_eq_true] at h
    rcases Nat.lt_or_ge t n with h1 | h1
    · exact ih h.1 h1
    · obtain rfl : t = n := by omega
      simpa using h.2
theorem alike_not {R : List (List Int)} {n t : Nat} (ht : t < n) (h : (rowOf R t).length ≠ (rowOf R 0).length) : alike R n = false := by
  cases e : alike R n with
  | false => rfl
  | true => exact absurd (alike_len e ht) h
/-- The error's number of a mix. -/
def mixedN (n : Nat) (R : List (List Int)) : Int := if n = 0 ∨ R.length = 0 then 8 else if 4096 < n then 2 else if R.length ≠ n then 6 else if alike R n = true then 0 else 6
/-- Column j of n rows. -/
def colOf (R : List (List Int)) (n j : Nat) : List Int := tab n fun i => el (rowOf R i) j
theorem mixedN_ok {n : Nat} {R : List (List Int)} (h : mixedN n R = 0) : 1 ≤ n ∧ n ≤ 4096 ∧ R.length = n ∧ ∀ t, t < n → (rowOf R t).length = (rowOf R 0).length := by
  unfold mixedN at h
  split at h
  · omega
  · split at h
    · omega
    · split at h
      · omega
      · split at h
        · rename_i h1 h2 h3 h4
          exact ⟨by omega, by omega, by omega, fun t ht => alike_len h4 ht⟩
        · omega
end Go.Proofs.YtjcacejkiaepnaaDoor
