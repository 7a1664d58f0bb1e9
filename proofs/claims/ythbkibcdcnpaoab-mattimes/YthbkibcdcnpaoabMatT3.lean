/- Products of matrices: what doesn't go together; turned products; a product's columns. -/
import Derived.Test.YthbkibcdcnpaoabMatT2
import Derived.Deep.Cut
namespace Go.Proofs.Ythbkibcdcnpaoab
open Go.ChangeShapes Go.WideShapes Go.ChangeAt Go.RowKit
theorem times_no (r1 c1 r2 c2 : Int) (g1 n1 k1 g2 n2 k2 : Nat) (A B : List Int) (w : World) (h1 : -9223372036854775808 ≤ r1 ∧ r1 ≤ 9223372036854775807) (h2 : -9223372036854775808 ≤ c1 ∧ c1 ≤ 9223372036854775807)
    (h3 : -9223372036854775808 ≤ r2 ∧ r2 ≤ 9223372036854775807) (h4 : -9223372036854775808 ≤ c2 ∧ c2 ≤ 9223372036854775807) (FA : Arg w (some ⟨g1, 0, none⟩) n1 k1 A) (FB : Arg w (some ⟨g2, 0, none⟩) n2 k2 B)
    (hno : ¬ (chkN r1 c1 n1 = 0 ∧ chkN r2 c2 n2 = 0 ∧ c1 = r2)) :
   Calls Try.prog 9 #[matV r1 c1 (some ⟨g1, 0, none⟩) n1 k1, matV r2 c2 (some ⟨g2, 0, none⟩) n2 k2] w fun e w' => ∃ ev, ev ≠ 0 ∧ e = .returned (.tuple #[matV 0 0 none 0 0, .int .i64 ev]) ∧ Below w.heap.size w w' := by
  by_cases ha : chkN r1 c1 n1 = 0
  · obtain ⟨r, m, rfl, rfl, q1, q2, q3, q4, hs⟩ := chk_zero ha
    by_cases hb : chkN r2 c2 n2 = 0
    · obtain ⟨m', c, rfl, rfl, p1, p2, p3, p4, hs'⟩ := chk_zero hb
      exact (times_len r m m' c g1 0 n1 k1 g2 0 n2 k2 A B w ⟨q1, q2, q3, q4, hs, FA.fit, FA.max, FA.row⟩ ⟨p1, p2, p3, p4, hs', FB.fit, FB.max, FB.row⟩ (fun e => hno ⟨ha, hb, by rw [e]⟩)).mono fun e w' ⟨he, hbl⟩ => ⟨6, by omega, he, hbl⟩
    · exact (times_badB r m r2 c2 _ _ n1 k1 n2 k2 w ha h3 h4 q2 q4 hb).mono fun e w' ⟨he, hbl⟩ => ⟨_, hb, he, hbl⟩
  · exact (times_badA r1 c1 r2 c2 _ _ n1 k1 n2 k2 w h1 h2 ha).mono fun e w' ⟨he, hbl⟩ => ⟨_, ha, he, hbl⟩
theorem turn_col (A : List Int) (r m i : Nat) (hi : i < r) : colN (turnN A r m) m r i = rowN A m i := by
  unfold rowN colN
  refine tab_congr fun k hk => ?_
  have hq : k * r + i < m * r := by have := row_in (c := r) hk; omega
  have e : el (turnN A r m) (k * r + i) = el A (((k * r + i) % r) * m + (k * r + i) / r) := el_tab hq
  obtain ⟨h1, h2⟩ := (place_eq (r := r) (j := k) (k := i) hi).1 rfl
  rw [e, h1, h2]
theorem el_prod (A B : List Int) (r m c i j : Nat) (hi : i < r) (hj : j < c) : el (prodN A B r m c) (i * c + j) = dotN (rowN A m i) (colN B m c j) m := by
  have hq : i * c + j < r * c := by have := row_in (c := c) hi; omega
  have e : el (prodN A B r m c) (i * c + j) = prodF A B m c (i * c + j) := el_tab hq
  rw [e, prodF_at A B m c i j hj]
/-- A product that is turned is the product of the turned ones. -/
theorem prod_turned (A B : List Int) (r m c : Nat) (hr : 1 ≤ r) : prodN (turnN B m c) (turnN A r m) c m r = turnN (prodN A B r m c) r c := by
  unfold turnN
  show tab (c * r) _ = tab (c * r) _
  refine tab_congr fun q hq => ?_
  have hi : q % r < r := Nat.mod_lt q (by omega)
  have hj : q / r < c := (Nat.div_lt_iff_lt_mul (by omega)).2 hq
  rw [el_prod A B r m c (q % r) (q / r) hi hj]
  show dotN (rowN (turnN B m c) m (q / r)) (colN (turnN A r m) m r (q % r)) m = _
  rw [turn_row B m c _ hj, turn_col A r m _ hi, dotN_comm]
theorem prod_column (A B : List Int) (r m c j : Nat) (hj : j < c) : rowN (turnN (prodN A B r m c) r c) r j = tab r fun i => dotN (rowN A m i) (rowN (turnN B m c) m j) m := by
  rw [turn_row _ r c j hj]
  unfold colN
  refine tab_congr fun i hi => ?_
  rw [el_prod A B r m c i j hi hj, turn_row B m c j hj]
/-- Two matrices in boxes, with numbers of their own. -/
def Two (w : World) (r1 c1 r2 c2 : Int) (wc : World) : Prop :=
  ∃ g1 n1 k1 D1 g2 n2 k2 D2, n1 ≤ 2000 ∧ n2 ≤ 2000 ∧ Box wc w.heap.size r1 c1 (some ⟨g1, 0, none⟩) n1 k1 ∧ Box wc (w.heap.size + 1) r2 c2 (some ⟨g2, 0, none⟩) n2 k2 ∧ Fresh wc (w.heap.size + 2) g1 n1 k1 D1 ∧ Fresh wc (w.heap.size + 2) g2 n2 k2 D2 ∧ Below w.heap.size w wc
theorem two_start (w : World) (r1 c1 r2 c2 : Int) (a1 a2 : Option Addr) (n1 k1 n2 k2 : Nat) :
    ∃ w0 w1, w.alloc (.cells #[.int .i64 r1, .int .i64 c1, .slice a1 n1 k1] 24) = w0 ∧ w0.alloc (.cells #[.int .i64 r2, .int .i64 c2, .slice a2 n2 k2] 24) = w1 ∧
      w0.heap.size = w.heap.size + 1 ∧ w1.heap.size = w.heap.size + 2 ∧ Box w1 w.heap.size r1 c1 a1 n1 k1 ∧ Box w1 (w.heap.size + 1) r2 c2 a2 n2 k2 ∧ Below w.heap.size w w1 := by
  refine ⟨_, _, rfl, rfl, by simp, by simp, ?_, ?_, ?_⟩
  · exact (box_new w r1 c1 a1 n1 k1).below ((Below.refl _ _).alloc (Nat.le_refl _) _)
  · have h := box_new (w.alloc (.cells #[.int .i64 r1, .int .i64 c1, .slice a1 n1 k1] 24)) r2 c2 a2 n2 k2
    rwa [show (w.alloc (.cells #[.int .i64 r1, .int .i64 c1, .slice a1 n1 k1] 24)).heap.size = w.heap.size + 1 by simp] at h
  · exact ((Below.refl _ _).alloc (Nat.le_refl _) _).alloc (by simp) _
theorem two_put {w w3 : World} {r1 c1 r2 c2 x1 y1 x2 y2 : Int} {a1 a2 : Option Addr} {n1 k1 n2 k2 g1 m1 j1 g2 m2 j2 b1 b2 : Nat} {E1 E2 : List Int} (X0 : Box w3 w.heap.size x1 y1 a1 n1 k1) (X1 : Box w3 (w.heap.size + 1) x2 y2 a2 n2 k2)
    (F1 : Fresh w3 b1 g1 m1 j1 E1) (F2 : Fresh w3 b2 g2 m2 j2 E2) (hb1 : w.heap.size + 2 ≤ b1) (hb2 : w.heap.size + 2 ≤ b2) (B : Below w.heap.size w w3) (l1 : m1 ≤ 2000) (l2 : m2 ≤ 2000) :
    Two w r1 c1 r2 c2 ((((((w3.setCell ⟨w.heap.size, 0, none⟩ (.int .i64 r1)).setCell ⟨w.heap.size, 1, none⟩ (.int .i64 c1)).setCell ⟨w.heap.size, 2, none⟩ (.slice (some ⟨g1, 0, none⟩) m1 j1)).setCell ⟨w.heap.size + 1, 0, none⟩ (.int .i64 r2)).setCell ⟨w.heap.size + 1, 1, none⟩ (.int .i64 c2)).setCell ⟨w.heap.size + 1, 2, none⟩ (.slice (some ⟨g2, 0, none⟩) m2 j2)) := by
  have i1 := F1.base
  have i2 := F2.base
  exact ⟨g1, m1, j1, E1, g2, m2, j2, E2, l1, l2, (X0.put r1 c1 _ m1 j1).putOther (by omega) _ _ _, (X1.putOther (by omega) _ _ _).put r2 c2 _ m2 j2, ((F1.mono hb1).put (by omega) _ _ _).put (by omega) _ _ _, ((F2.mono hb2).put (by omega) _ _ _).put (by omega) _ _ _, Below.put (Below.put B (Nat.le_refl _) _ _ _) (by omega) _ _ _⟩
end Go.Proofs.Ythbkibcdcnpaoab
