/- What mat.Unit answers, and what a unit makes of a matrix. -/
import Derived.Test.YthbkibcdcnpaoabMatT3
namespace Go.Proofs.Ythbkibcdcnpaoab
open Go.ChangeShapes Go.WideShapes Go.ChangeAt Go.RowKit
def unitN (n : Nat) : List Int := tab (n * n) fun q => if q / n = q % n then 65536 else 0
def unitK (n k : Nat) : List Int := tab (n * n) fun q => if q / n = q % n ∧ q % n < k then 65536 else 0
theorem unitK_start (n : Nat) : unitK n 0 = tab (n * n) fun _ => 0 := tab_congr fun q _ => by rw [if_neg (fun h => Nat.not_lt_zero _ h.2)]
theorem unitK_end (n : Nat) (hn : 1 ≤ n) : unitK n n = unitN n := tab_congr fun q _ => by
  have h := Nat.mod_lt q (show 0 < n by omega)
  by_cases e : q / n = q % n
  · rw [if_pos ⟨e, h⟩, if_pos e]
  · rw [if_neg (fun x => e x.1), if_neg e]
theorem unitK_step (n k : Nat) (hk : k < n) : (unitK n k).set (k * n + k) 65536 = unitK n (k + 1) := by
  unfold unitK
  have hq : k * n + k < n * n := by have := row_in (c := n) hk; omega
  rw [tab_set hq]
  refine tab_congr fun q _ => ?_
  by_cases h : q = k * n + k
  · rw [if_pos h]
    obtain ⟨h1, h2⟩ := (place_eq hk).1 h
    rw [if_pos ⟨by rw [h1, h2], by omega⟩]
  · rw [if_neg h]
    have h' : ¬ (q % n = k ∧ q / n = k) := fun x => h ((place_eq hk).2 x)
    generalize q % n = x at *
    generalize q / n = y at *
    by_cases h3 : y = x ∧ x < k
    · rw [if_pos h3, if_pos (by omega)]
    · rw [if_neg h3, if_neg (by omega)]
theorem el_unitN (n i j : Nat) (hi : i < n) (hj : j < n) : el (unitN n) (i * n + j) = if i = j then 65536 else 0 := by
  have hq : i * n + j < n * n := by have := row_in (c := n) hi; omega
  have e : el (unitN n) (i * n + j) = if (i * n + j) / n = (i * n + j) % n then 65536 else 0 := el_tab hq
  obtain ⟨h1, h2⟩ := (place_eq (r := n) (j := i) (k := j) hj).1 rfl
  rw [e, h1, h2]
set_option maxHeartbeats 1600000 in
theorem unit_bad (n : Int) (w : World) (h1 : -9223372036854775808 ≤ n ∧ n ≤ 9223372036854775807) (hf : sideN n n ≠ 0) :
   Calls Try.prog 11 #[.int .i64 n] w fun e w' => e = .returned (.tuple #[matV 0 0 none 0 0, .int .i64 (sideN n n)]) ∧ Below w.heap.size w w' := by
  have hf' : (sideN n n == 0) = false := by simpa using hf
  have X0 := box_new w 0 0 none 0 0
  have B0 : Below w.heap.size w (w.alloc (.cells #[.int .i64 0, .int .i64 0, .slice none 0 0] 24)) := (Below.refl _ _).alloc (Nat.le_refl _) _
  generalize hw0 : w.alloc (.cells #[.int .i64 0, .int .i64 0, .slice none 0 0] 24) = w0 at X0 B0
  have C := checkSides_any n n w0 h1 h1
  generalize sideN n n = q at *
  go_enter Try.func11, Try.ntmps11
  unfold matV
  go_wp2_with fail
  refine C.mono ?_
  rintro e w1 ⟨rfl, rfl⟩
  clear hw0 C
  have p0 := X0.c0
  have p1 := X0.c1
  have p2 := X0.c2
  have f0 := X0.frozen 0
  have f1 := X0.frozen 1
  have f2 := X0.frozen 2
  go_wp2
  refine bodyPost_ret (results_mat rfl _ _ w.heap.size 0 0 none 0 0 rfl (X0.put _ _ _ _ _)) rfl ?_
  exact ⟨rfl, Below.put B0 (Nat.le_refl _) _ _ _⟩
set_option maxHeartbeats 1600000 in
theorem unit_any (n : Nat) (w : World) (h1 : 1 ≤ n) (h2 : n ≤ 128) :
   Calls Try.prog 11 #[.int .i64 n] w fun e w' => ∃ g, e = .returned (.tuple #[matV n n (some ⟨g, 0, none⟩) (n * n) (n * n), .int .i64 0]) ∧ Fresh w' w.heap.size g (n * n) (n * n) (unitN n) ∧ Below w.heap.size w w' := by
  have hsd : sideN n n = 0 := by unfold sideN; rw [if_neg (by omega), if_neg (by omega)]
  have hnn := size_le h2 h2
  have X0 := box_new w 0 0 none 0 0
  have B0 : Below w.heap.size w (w.alloc (.cells #[.int .i64 0, .int .i64 0, .slice none 0 0] 24)) := (Below.refl _ _).alloc (Nat.le_refl _) _
  generalize hw0 : w.alloc (.cells #[.int .i64 0, .int .i64 0, .slice none 0 0] 24) = w0 at X0 B0
  have C := checkSides_any n n w0 (by omega) (by omega)
  rw [hsd] at C
  clear hsd
  go_enter Try.func11, Try.ntmps11
  unfold matV
  go_wp2_with fail
  refine C.mono ?_
  rintro e w1 ⟨rfl, rfl⟩
  clear hw0 C
  go_wp2_with fail
  refine (blank_any n n w1 h2 h2).mono ?_
  rintro e w3 ⟨g, rfl, F3, B3⟩
  unfold matV
  have i0 := X0.lt
  have j3 := F3.base
  have i3 := F3.lt
  replace X0 := X0.below B3
  replace B3 := below_then B0 B3
  have X4 := box_new w3 n n (some ⟨g, 0, none⟩) (n * n) (n * n)
  have B4 : Below w3.heap.size w3 (w3.alloc (.cells #[.int .i64 n, .int .i64 n, .slice (some ⟨g, 0, none⟩) (n * n) (n * n)] 24)) := (Below.refl _ _).alloc (Nat.le_refl _) _
  generalize hw4 : w3.alloc (.cells #[.int .i64 n, .int .i64 n, .slice (some ⟨g, 0, none⟩) (n * n) (n * n)] 24) = w4 at X4 B4
  replace X0 := X0.below B4
  replace F3 := F3.below B4
  replace B4 := below_then B3 B4
  go_wp2_with fail
  clear hw4 B0 B3
  rw [← unitK_start] at F3
  replace F3 := F3.mono (show w.heap.size + 1 ≤ w1.heap.size by omega)
  go_loopg [18] n (fun k0 ii wr => ∃ k : Nat, k ≤ n ∧ k0 = n - k ∧ ii = .int .i64 k ∧ Fresh wr (w.heap.size + 1) g (n * n) (n * n) (unitK n k) ∧ Box wr w.heap.size 0 0 none 0 0 ∧ Box wr w3.heap.size n n (some ⟨g, 0, none⟩) (n * n) (n * n) ∧ Below w.heap.size w wr)
  case atStart => exact ⟨0, by omega, by omega, rfl, F3, X0, X4, B4⟩
  case round =>
    clear F3 X0 X4 B4
    obtain ⟨k, hk, rfl, rfl, F5, X0, X4, B5⟩ := hrel
    by_cases hlt : k < n
    · have hq : k * n + k < n * n := by have := row_in (c := n) hlt; omega
      have f1 := F5.frozen (k * n + k)
      have f2 := F5.cell hq
      have p2 := X4.c2
      have e1 : (k : Int) * (n : Int) = ((k * n : Nat) : Int) := by rw [Int.natCast_mul]
      have F6 := F5.set (k * n + k) 65536 hq (by omega)
      rw [unitK_step n k hlt] at F6
      generalize k * n = kn at *
      go_wp2
      go_roundg (n - (k + 1))
      case measure => omega
      case rel => exact ⟨k + 1, by omega, rfl, by go_num, F6, X0.block (Below.heap_setCell _ _ _ _ (by show w.heap.size ≠ g; omega)), X4.block (Below.heap_setCell _ _ _ _ (by show w3.heap.size ≠ g; omega)), B5.setCell (p := ⟨g, kn + k, none⟩) (by show w.heap.size ≤ g; omega) _⟩
    · obtain rfl : k = n := by omega
      rw [unitK_end k h1] at F5
      have p0 := X4.c0
      have p1 := X4.c1
      have p2 := X4.c2
      have u0 := X0.c0
      have u1 := X0.c1
      have u2 := X0.c2
      have f0 := X0.frozen 0
      have f1 := X0.frozen 1
      have f2 := X0.frozen 2
      go_wp2
      refine bodyPost_ret (results_mat rfl _ _ w.heap.size k k (some ⟨g, 0, none⟩) (k * k) (k * k) rfl (X0.put _ _ _ _ _)) rfl ?_
      exact ⟨g, rfl, (F5.mono (by omega)).put (by omega) _ _ _, Below.put B5 (Nat.le_refl _) _ _ _⟩
/-- Times a unit, on either side, a matrix of numbers above the least one is itself. -/
theorem unit_left (A : List Int) (r c : Nat) (hA : A.length = r * c) (hs : Small A) (hb : ∀ k, -2147483647 ≤ el A k) : prodN (unitN r) A r r c = A := by
  refine ext_el (by rw [hA]; exact tab_len _ _) fun q hq => ?_
  rw [show (prodN (unitN r) A r r c).length = r * c from tab_len _ _] at hq
  have hc : 0 < c := Nat.pos_of_ne_zero fun h => by subst h; simp at hq
  have hi : q / c < r := (Nat.div_lt_iff_lt_mul hc).2 hq
  have hj : q % c < c := Nat.mod_lt q hc
  have e0 : q = (q / c) * c + q % c := by rw [Nat.mul_comm]; exact (Nat.div_add_mod q c).symm
  rw [e0, el_prod (unitN r) A r r c (q / c) (q % c) hi hj, dotN_comm]
  generalize q / c = i at *
  generalize q % c = j at *
  have hz : ∀ k, el (rowN (unitN r) r i) k = if k = i then 65536 else 0 := fun k => by
    by_cases hk : k < r
    · have e1 : el (rowN (unitN r) r i) k = el (unitN r) (i * r + k) := el_tab hk
      rw [e1, el_unitN r i k hi hk]
      by_cases e : i = k
      · subst e; rfl
      · rw [if_neg e, if_neg (fun x => e x.symm)]
    · rw [el_over (by rw [show (rowN (unitN r) r i).length = r from tab_len _ _]; omega), if_neg (by omega)]
  rw [dotN_unit (colN A r c j) _ i r (small_tab fun k _ => hs.el _) hz hi]
  have e2 : el (colN A r c j) i = el A (i * c + j) := el_tab hi
  have h1 := hb (i * c + j)
  have h2 := hs.el (i * c + j)
  rw [e2, sat_id _ ⟨h1, h2.2⟩]
theorem unit_right (A : List Int) (r c : Nat) (hA : A.length = r * c) (hs : Small A) (hb : ∀ k, -2147483647 ≤ el A k) : prodN A (unitN c) r c c = A := by
  refine ext_el (by rw [hA]; exact tab_len _ _) fun q hq => ?_
  rw [show (prodN A (unitN c) r c c).length = r * c from tab_len _ _] at hq
  have hc : 0 < c := Nat.pos_of_ne_zero fun h => by subst h; simp at hq
  have hi : q / c < r := (Nat.div_lt_iff_lt_mul hc).2 hq
  have hj : q % c < c := Nat.mod_lt q hc
  have e0 : q = (q / c) * c + q % c := by rw [Nat.mul_comm]; exact (Nat.div_add_mod q c).symm
  rw [e0, el_prod A (unitN c) r c c (q / c) (q % c) hi hj]
  generalize q / c = i at *
  generalize q % c = j at *
  have hz : ∀ k, el (colN (unitN c) c c j) k = if k = j then 65536 else 0 := fun k => by
    by_cases hk : k < c
    · have e1 : el (colN (unitN c) c c j) k = el (unitN c) (k * c + j) := el_tab hk
      rw [e1, el_unitN c k j hk hj]
    · rw [el_over (by rw [show (colN (unitN c) c c j).length = c from tab_len _ _]; omega), if_neg (by omega)]
  rw [dotN_unit (rowN A c i) _ j c (small_tab fun k _ => hs.el _) hz hj]
  have e2 : el (rowN A c i) j = el A (i * c + j) := el_tab hj
  have h1 := hb (i * c + j)
  have h2 := hs.el (i * c + j)
  rw [e2, sat_id _ ⟨h1, h2.2⟩]
theorem turn_twice (A : List Int) (r c : Nat) (hA : A.length = r * c) : turnN (turnN A r c) c r = A := by
  refine ext_el (by rw [hA]; exact tab_len _ _) fun q hq => ?_
  rw [show (turnN (turnN A r c) c r).length = r * c from tab_len _ _] at hq
  have hc : 0 < c := Nat.pos_of_ne_zero fun h => by subst h; simp at hq
  have hi : q / c < r := (Nat.div_lt_iff_lt_mul hc).2 hq
  have hj : q % c < c := Nat.mod_lt q hc
  have e0 : q = (q / c) * c + q % c := by rw [Nat.mul_comm]; exact (Nat.div_add_mod q c).symm
  have e1 : el (turnN (turnN A r c) c r) q = el (turnN A r c) ((q % c) * r + q / c) := el_tab hq
  have e2 : el (rowN (turnN A r c) r (q % c)) (q / c) = el (turnN A r c) ((q % c) * r + q / c) := el_tab hi
  rw [turn_row A r c _ hj] at e2
  have e3 : el (colN A r c (q % c)) (q / c) = el A ((q / c) * c + q % c) := el_tab hi
  rw [e1, ← e2, e3, ← e0]
/-- What a matrix makes of a row of the unit is a column. -/
theorem unit_apply (A : List Int) (r c j : Nat) (hs : Small A) (hb : ∀ k, -2147483647 ≤ el A k) (hj : j < c) : (tab r fun i => dotN (rowN A c i) (rowN (unitN c) c j) c) = rowN (turnN A r c) r j := by
  rw [turn_row A r c j hj]
  unfold colN
  refine tab_congr fun i hi => ?_
  have hz : ∀ k, el (rowN (unitN c) c j) k = if k = j then 65536 else 0 := fun k => by
    by_cases hk : k < c
    · have e1 : el (rowN (unitN c) c j) k = el (unitN c) (j * c + k) := el_tab hk
      rw [e1, el_unitN c j k hj hk]
      by_cases e : j = k
      · subst e; rfl
      · rw [if_neg e, if_neg (fun x => e x.symm)]
    · rw [el_over (by rw [show (rowN (unitN c) c j).length = c from tab_len _ _]; omega), if_neg (by omega)]
  rw [dotN_unit (rowN A c i) _ j c (small_tab fun k _ => hs.el _) hz hj]
  have e2 : el (rowN A c i) j = el A (i * c + j) := el_tab hj
  have h1 := hb (i * c + j)
  have h2 := hs.el (i * c + j)
  rw [e2, sat_id _ ⟨h1, h2.2⟩]
end Go.Proofs.Ythbkibcdcnpaoab
