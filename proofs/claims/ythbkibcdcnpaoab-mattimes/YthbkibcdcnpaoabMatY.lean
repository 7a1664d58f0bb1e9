/- Products and units, one contract for every input. -/
import Derived.Test.YthbkibcdcnpaoabMatX
namespace Go.Proofs.Ythbkibcdcnpaoab
open Go.ChangeShapes Go.WideShapes Go.ChangeAt Go.RowKit
/-- The error's number of a product. -/
def wantN (r1 c1 r2 c2 : Int) (n1 n2 : Nat) : Int := if chkN r1 c1 n1 ≠ 0 then chkN r1 c1 n1 else if chkN r2 c2 n2 ≠ 0 then chkN r2 c2 n2 else if c1 ≠ r2 then 6 else 0
theorem times_no2 (r1 c1 r2 c2 : Int) (g1 n1 k1 g2 n2 k2 : Nat) (A B : List Int) (w : World) (h1 : -9223372036854775808 ≤ r1 ∧ r1 ≤ 9223372036854775807) (h2 : -9223372036854775808 ≤ c1 ∧ c1 ≤ 9223372036854775807)
    (h3 : -9223372036854775808 ≤ r2 ∧ r2 ≤ 9223372036854775807) (h4 : -9223372036854775808 ≤ c2 ∧ c2 ≤ 9223372036854775807) (FA : Arg w (some ⟨g1, 0, none⟩) n1 k1 A) (FB : Arg w (some ⟨g2, 0, none⟩) n2 k2 B)
    (hno : ¬ (chkN r1 c1 n1 = 0 ∧ chkN r2 c2 n2 = 0 ∧ c1 = r2)) :
   Calls Try.prog 9 #[matV r1 c1 (some ⟨g1, 0, none⟩) n1 k1, matV r2 c2 (some ⟨g2, 0, none⟩) n2 k2] w fun e w' => e = .returned (.tuple #[matV 0 0 none 0 0, .int .i64 (wantN r1 c1 r2 c2 n1 n2)]) ∧ Below w.heap.size w w' := by
  unfold wantN
  by_cases ha : chkN r1 c1 n1 = 0
  · rw [if_neg (by omega)]
    by_cases hb : chkN r2 c2 n2 = 0
    · have hne : c1 ≠ r2 := fun e => hno ⟨ha, hb, e⟩
      rw [if_neg (by omega), if_pos hne]
      obtain ⟨r, m, rfl, rfl, q1, q2, q3, q4, hs⟩ := chk_zero ha
      obtain ⟨m', c, rfl, rfl, p1, p2, p3, p4, hs'⟩ := chk_zero hb
      exact times_len r m m' c g1 0 n1 k1 g2 0 n2 k2 A B w ⟨q1, q2, q3, q4, hs, FA.fit, FA.max, FA.row⟩ ⟨p1, p2, p3, p4, hs', FB.fit, FB.max, FB.row⟩ (fun e => hne (by rw [e]))
    · rw [if_pos hb]
      obtain ⟨r, m, rfl, rfl, q1, q2, q3, q4, hs⟩ := chk_zero ha
      exact times_badB r m r2 c2 _ _ n1 k1 n2 k2 w ha h3 h4 q2 q4 hb
  · rw [if_pos ha]
    exact times_badA r1 c1 r2 c2 _ _ n1 k1 n2 k2 w h1 h2 ha
theorem want_ne {r1 c1 r2 c2 : Int} {n1 n2 : Nat} (hno : ¬ (chkN r1 c1 n1 = 0 ∧ chkN r2 c2 n2 = 0 ∧ c1 = r2)) : wantN r1 c1 r2 c2 n1 n2 ≠ 0 := by
  unfold wantN
  by_cases ha : chkN r1 c1 n1 = 0
  · rw [if_neg (by omega)]
    by_cases hb : chkN r2 c2 n2 = 0
    · rw [if_neg (by omega), if_pos (fun e => hno ⟨ha, hb, e⟩)]; omega
    · rw [if_pos hb]; exact hb
  · rw [if_pos ha]; exact ha
theorem unit_all (n : Int) (w : World) (h1 : -9223372036854775808 ≤ n ∧ n ≤ 9223372036854775807) :
   Calls Try.prog 11 #[.int .i64 n] w fun e w' => ∃ ur uc uo un ucap U, e = .returned (.tuple #[matV ur uc uo un ucap, .int .i64 (sideN n n)]) ∧ RowAt w' uo un U ∧ Below w.heap.size w w' ∧
     (sideN n n ≠ 0 → ur = 0 ∧ uc = 0 ∧ un = 0) ∧ (∀ t : Nat, n = t → 1 ≤ t → t ≤ 128 → ur = t ∧ uc = t ∧ un = t * t ∧ U = unitN t) := by
  by_cases hs : sideN n n = 0
  · have hb := side_zero hs
    obtain ⟨t, rfl⟩ : ∃ t : Nat, n = t := ⟨n.toNat, by omega⟩
    rw [hs]
    exact (unit_any t w (by omega) (by omega)).mono fun e w' ⟨g, he, hF, hbl⟩ => ⟨t, t, some ⟨g, 0, none⟩, t * t, t * t, unitN t, he, hF.rowAt, hbl, fun x => absurd rfl x, fun t' e1 _ _ => by
      obtain rfl : t = t' := by omega
      exact ⟨rfl, rfl, rfl, rfl⟩⟩
  · exact (unit_bad n w h1 hs).mono fun e w' ⟨he, hbl⟩ => ⟨0, 0, none, 0, 0, [], he, RowAt.nil _ _, hbl, fun _ => ⟨rfl, rfl, rfl⟩, fun t e1 e2 e3 => absurd (by subst e1; unfold sideN; rw [if_neg (by omega), if_neg (by omega)]) hs⟩
end Go.Proofs.Ythbkibcdcnpaoab
