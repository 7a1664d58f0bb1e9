/- The walk of VecTurns: at every two rows and every place the law returns true, and what was there stays. -/
import Derived.Test.YthbkibcdcnpaoaaVecX
namespace Go.Proofs.Ythbkibcdcnpaoaa
open Go.ChangeShapes Go.WideShapes Go.ChangeAt Go.RowKit
set_option maxHeartbeats 6400000 in
theorem vecTurns_walk (ao : Option Addr) (n ca : Nat) (A : List Int) (bo : Option Addr) (m cb : Nat) (B : List Int) (at0 : Int) (w : World) (hA : Arg w ao n ca A) (hB : Arg w bo m cb B)
    (ha0 : -9223372036854775808 ≤ at0 ∧ at0 ≤ 9223372036854775807) :
    Calls Try.prog 5 #[.slice ao n ca, .slice bo m cb, .int .i64 at0] w fun e w' => e = .returned (.bool true) ∧ Below w.heap.size w w' := by
  go_enter Try.func5, Try.ntmps5
  go_wp2_with fail
  refine (few_any ao n ca A 300 300 _ rfl (by exact hA) (by omega)).mono ?_
  rintro e w1 ⟨g1, n1, c1, rfl, l1, F1, B1⟩
  replace hB := hB.below B1
  go_wp2_with fail
  refine (few_any bo m cb B 300 300 _ rfl (by exact hB) (by omega)).mono ?_
  rintro e w2 ⟨g2, n2, c2, rfl, l2, F2, B2⟩
  replace F1 := F1.below B2
  replace B2 := below_then B1 B2
  clear hA hB B1
  generalize A.take 300 = A' at *
  generalize B.take 300 = B' at *
  go_wp2_with fail
  refine (dot_all _ _ n1 n2 _ _ A' B' _ (by exact F1.rowAt) (by exact F2.rowAt)).mono ?_
  rintro e w3 ⟨rfl, m3, hw3⟩
  have B3 : Below w2.heap.size w2 w3 := hw3 ▸ below_drewN (Below.refl _ _) m3
  clear hw3
  replace F1 := F1.below B3
  replace F2 := F2.below B3
  replace B3 := below_then B2 B3
  go_wp2_with fail
  refine (dot_all _ _ n2 n1 _ _ B' A' _ (by exact F2.rowAt) (by exact F1.rowAt)).mono ?_
  rintro e w4 ⟨rfl, m4, hw4⟩
  have B4 : Below w3.heap.size w3 w4 := hw4 ▸ below_drewN (Below.refl _ _) m4
  clear hw4
  replace F1 := F1.below B4
  replace B4 := below_then B3 B4
  clear B2 B3 F2
  rw [dotV_comm, fitN_comm]
  generalize dotV A' B' n1 n2 = d
  generalize fitN n1 n2 = f
  go_wp2_with fail
  refine (few_any _ n1 _ A' 300 300 _ rfl (by exact F1.arg) (by omega)).mono ?_
  rintro e w5 ⟨g5, n5, c5, rfl, l5, F5, B5⟩
  have ht : A'.take 300 = A' := List.take_of_length_le (by rw [F1.len]; omega)
  rw [ht] at F5
  obtain rfl : n5 = n1 := by rw [← F5.len, F1.len]
  replace F1 := F1.below B5
  replace B5 := below_then B4 B5
  clear B4 ht l5
  have hmk := run_make_row' (P := Try.prog) 22 24 (.int .i32 0) 4 Try.underlying22 Try.infoNum rfl .i64 .i64 n5 (by omega) (by omega)
  have F6 := fresh_made w5 n5 (by omega)
  have B6 : Below w5.heap.size w5 (w5.alloc (.cells (madeCells #[.int .i32 0] n5) 24)) := (Below.refl _ _).alloc (Nat.le_refl _) _
  generalize hw6 : w5.alloc (.cells (madeCells #[.int .i32 0] n5) 24) = w6 at F6 B6
  have i1 := F1.lt
  have i5 := F5.lt
  replace F1 := F1.below B6
  replace F5 := F5.below B6
  replace B6 := below_then B5 B6
  have h56 : w.heap.size ≤ w5.heap.size := B5.size
  have h65 : w5.heap.size < w6.heap.size := F6.lt
  clear B5
  rcases (show at0 < 0 ∨ (n5 : Int) ≤ at0 ∨ ∃ t : Nat, at0 = t ∧ t < n5 from by
    by_cases h : at0 < 0
    · exact Or.inl h
    · by_cases h2 : at0 < n5
      · exact Or.inr (Or.inr ⟨at0.toNat, by omega, by omega⟩)
      · exact Or.inr (Or.inl (by omega))) with h | h | ⟨t, rfl, h⟩
  rotate_left 2
  have f1 := F6.frozen t
  have f2 := F6.cell h
  go_wp2_with fail
  clear hw6 f1 f2 hmk
  replace F6 := F6.set t 65536 h (by omega)
  replace F1 := F1.setOther (a := ⟨w5.heap.size, t, none⟩) (by show g1 ≠ w5.heap.size; omega) (.int .i32 65536)
  replace F5 := F5.setOther (a := ⟨w5.heap.size, t, none⟩) (by show g5 ≠ w5.heap.size; omega) (.int .i32 65536)
  replace B6 := B6.setCell (p := ⟨w5.heap.size, t, none⟩) h56 (.int .i32 65536)
  generalize w6.setCell ⟨w5.heap.size, t, none⟩ (.int .i32 65536) = w6 at *
  have hz := el_unit n5 t h
  generalize (tab n5 fun _ => 0).set t 65536 = Z at *
  refine (dot_any _ _ n5 _ _ A' Z _ (by exact F1.rowAt) (by exact F6.rowAt) (by omega)).mono ?_
  rintro e w7 ⟨rfl, m7, hw7⟩
  have B7 : Below w6.heap.size w6 w7 := hw7 ▸ below_drewN (Below.refl _ _) m7
  clear hw7
  rw [dotN_unit A' Z t n5 F1.small hz h]
  replace F1 := F1.below B7
  replace F5 := F5.below B7
  replace F6 := F6.below B7
  replace B6 := below_then B6 B7
  clear B7 hz h65 i1 i5 h56
  have q := F1.cell h
  have bq := F1.small.el t
  have hq : sat (el A' t) = max (el A' t) (-2147483647) := by unfold sat; omega
  rw [hq]
  clear hq
  generalize el A' t = x at q bq ⊢
  generalize w7 = w6 at *
  rcases (show x = -2147483648 ∨ -2147483647 ≤ x by omega) with rfl | hx
  all_goals
    go_wp2_with fail
    first | clear hw6 hmk h65 h56 i1 i5 | clear q bq
    have i1 := F1.lt
    have s6 := B6.size
    have i5 := F5.lt
    have i6 := F6.lt
    refine (scale_any _ n5 _ A' 7 _ (by exact F1.rowAt) (by omega) (by omega) (by omega)).mono ?_
    rintro e w7 ⟨g7, rfl, F7, B7⟩
    have s67 := B7.size
    have i7 := F7.lt
    have j7 := F7.base
    replace F1 := F1.below B7
    replace F5 := F5.below B7
    replace F6 := F6.below B7
    replace B7 := below_then B6 B7
    go_wp2_with fail
    refine (rise_any _ n5 _ A' _ (by exact F1.rowAt) (by omega)).mono ?_
    rintro e w8 ⟨g8, rfl, F8, B8⟩
    have s78 := B8.size
    have i8 := F8.lt
    have j8 := F8.base
    replace F1 := F1.below B8
    replace F5 := F5.below B8
    replace F6 := F6.below B8
    replace F7 := F7.below B8
    replace B8 := below_then B7 B8
    have L9 := heap_alloc_new w8 (.cells #[.slice (some ⟨g7, 0, none⟩) n5 n5, .slice (some ⟨g8, 0, none⟩) n5 n5] 22)
    have B9 : Below w8.heap.size w8 (w8.alloc (.cells #[.slice (some ⟨g7, 0, none⟩) n5 n5, .slice (some ⟨g8, 0, none⟩) n5 n5] 22)) := (Below.refl _ _).alloc (Nat.le_refl _) _
    generalize hw9 : w8.alloc (.cells #[.slice (some ⟨g7, 0, none⟩) n5 n5, .slice (some ⟨g8, 0, none⟩) n5 n5] 22) = w9 at L9 B9
    have s89 : w8.heap.size < w9.heap.size := by rw [← hw9]; simp
    have HL : Hid (w9.heap[w8.heap.size]? = some (.cells #[.slice (some ⟨g7, 0, none⟩) n5 n5, .slice (some ⟨g8, 0, none⟩) n5 n5] 22)) := L9
    clear L9
    go_wp2_with fail
    clear hw9
    replace F1 := F1.below B9
    replace F5 := F5.below B9
    replace F6 := F6.below B9
    replace F7 := F7.below B9
    replace F8 := F8.below B9
    replace B9 := below_then B8 B9
    clear B6 B7 B8
    go_loopg [84] 2 (fun r i wr => ∃ k : Nat, k ≤ 2 ∧ r = 2 - k ∧ i = .int .i64 k ∧ (∃ Z, Fresh wr w6.heap.size g7 n5 n5 Z) ∧ (∃ Z, Fresh wr w7.heap.size g8 n5 n5 Z) ∧ Kept [g7, g8] w9 wr)
    case atStart => exact ⟨0, by omega, by omega, rfl, ⟨_, F7⟩, ⟨_, F8⟩, Kept.refl _ _⟩
    case round =>
      obtain ⟨k, hk, rfl, rfl, ⟨Z7, E7⟩, ⟨Z8, E8⟩, K9⟩ := hrel
      clear F7 F8
      have LR := (K9.block w8.heap.size (by omega) (by simp; omega)).trans HL.out
      rcases (show k = 0 ∨ k = 1 ∨ k = 2 by omega) with rfl | rfl | rfl
      · have c0 : wr.cell? ⟨w8.heap.size, 0, none⟩ = some (.slice (some ⟨g7, 0, none⟩) n5 n5) := by unfold World.cell?; simp only [LR]; rfl
        clear LR
        go_wp2_with fail
        clear c0
        go_loopg [90] n5 (fun r i wr => ∃ k : Nat, k ≤ n5 ∧ r = n5 - k ∧ i = .int .i64 k ∧ (∃ Z, Fresh wr w6.heap.size g7 n5 n5 Z) ∧ (∃ Z, Fresh wr w7.heap.size g8 n5 n5 Z) ∧ Kept [g7, g8] w9 wr)
        case atStart => exact ⟨0, by omega, by omega, rfl, ⟨_, E7⟩, ⟨_, E8⟩, K9⟩
        case round =>
          clear E7 E8 K9
          obtain ⟨j, hj, rfl, rfl, ⟨Z7, E7⟩, ⟨Z8, E8⟩, K9⟩ := hrel
          by_cases hlt : j < n5
          · have f1 := E7.frozen j
            have f2 := E7.cell hlt
            go_wp2
            go_roundg (n5 - (j + 1))
            case measure => omega
            case rel => exact ⟨j + 1, by omega, rfl, by go_num, ⟨_, E7.set j 77 hlt (by omega)⟩, ⟨_, E8.setOther (by show g8 ≠ g7; omega) _⟩, K9.set (by simp) _⟩
          · go_wp2
            go_roundg 1
            case measure => omega
            case rel => exact ⟨1, by omega, rfl, by go_num, ⟨_, E7⟩, ⟨_, E8⟩, K9⟩
      · have c0 : wr.cell? ⟨w8.heap.size, 1, none⟩ = some (.slice (some ⟨g8, 0, none⟩) n5 n5) := by unfold World.cell?; simp only [LR]; rfl
        clear LR
        go_wp2_with fail
        clear c0
        go_loopg [90] n5 (fun r i wr => ∃ k : Nat, k ≤ n5 ∧ r = n5 - k ∧ i = .int .i64 k ∧ (∃ Z, Fresh wr w6.heap.size g7 n5 n5 Z) ∧ (∃ Z, Fresh wr w7.heap.size g8 n5 n5 Z) ∧ Kept [g7, g8] w9 wr)
        case atStart => exact ⟨0, by omega, by omega, rfl, ⟨_, E7⟩, ⟨_, E8⟩, K9⟩
        case round =>
          clear E7 E8 K9
          obtain ⟨j, hj, rfl, rfl, ⟨Z7, E7⟩, ⟨Z8, E8⟩, K9⟩ := hrel
          by_cases hlt : j < n5
          · have f1 := E8.frozen j
            have f2 := E8.cell hlt
            go_wp2
            go_roundg (n5 - (j + 1))
            case measure => omega
            case rel => exact ⟨j + 1, by omega, rfl, by go_num, ⟨_, E7.setOther (by show g7 ≠ g8; omega) _⟩, ⟨_, E8.set j 77 hlt (by omega)⟩, K9.set (by simp) _⟩
          · go_wp2
            go_roundg 0
            case measure => omega
            case rel => exact ⟨2, by omega, rfl, by go_num, ⟨_, E7⟩, ⟨_, E8⟩, K9⟩
      · clear LR E7 E8
        replace F1 := F1.kept K9 (by simp; omega)
        replace F5 := F5.kept K9 (by simp; omega)
        replace F6 := F6.kept K9 (by simp; omega)
        have B10 : Below w.heap.size w wr := B9.trans (K9.below B9.size (by simp; omega))
        clear B9 K9 HL
        go_wp2_with fail
        have i1 := F1.lt
        have i5 := F5.lt
        refine (vadd_any _ _ n5 _ _ A' _ _ (by exact F1.rowAt) (by exact F6.rowAt) (by omega)).mono ?_
        rintro e w11 ⟨g11, rfl, F11, B11⟩
        have i11 := F11.lt
        have j11 := F11.base
        have s11 := B10.size
        replace F1 := F1.below B11
        replace F5 := F5.below B11
        replace B11 := below_then B10 B11
        clear F6 B10
        go_wp2_with fail
        go_loopg [106] n5 (fun r i wr => ∃ k : Nat, k ≤ n5 ∧ r = n5 - k ∧ i = .int .i64 k ∧ (∃ Z, Fresh wr w.heap.size g11 n5 n5 Z) ∧ Kept [g11] w11 wr)
        case atStart => exact ⟨0, by omega, by omega, rfl, ⟨_, F11.mono s11⟩, Kept.refl _ _⟩
        case round =>
          clear F11
          obtain ⟨j, hj, rfl, rfl, ⟨Z11, E11⟩, K11⟩ := hrel
          by_cases hlt : j < n5
          · have f1 := E11.frozen j
            have f2 := E11.cell hlt
            go_wp2
            go_roundg (n5 - (j + 1))
            case measure => omega
            case rel => exact ⟨j + 1, by omega, rfl, by go_num, ⟨_, E11.set j 77 hlt (by omega)⟩, K11.set (by simp) _⟩
          · clear E11
            replace F1 := F1.kept K11 (by simp; omega)
            replace F5 := F5.kept K11 (by simp; omega)
            replace B11 := B11.trans (K11.below B11.size (by simp; omega))
            clear K11
            go_wp2_with fail
            refine (vawake_any _).mono ?_
            rintro e w12 ⟨rfl, B12⟩
            replace F1 := F1.below B12
            replace F5 := F5.below B12
            replace B12 := below_then B11 B12
            go_wp2_with fail
            refine (same_any _ _ n5 _ _ A' _ (by exact F1.rowAt) (by exact F5.rowAt)).mono ?_
            rintro e w13 ⟨rfl, m13, rfl⟩
            go_wp2
            go_ret
            exact ⟨rfl, below_drewN B12 m13⟩
end Go.Proofs.Ythbkibcdcnpaoaa
