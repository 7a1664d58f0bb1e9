/- The Go text of SoftLike returns true at every input, where the table of steps lies as the program's text lays it. -/
import Derived.Test.YtmocofkcaamnoaaDoorSoftA
namespace Go.Proofs.YtmocofkcaamnoaaDoor
open Go.ChangeShapes Go.WideShapes Go.ChangeAt Go.RowKit
theorem tab_snoc2 (n : Nat) (f : Nat → Int) : tab (n + 1) f = tab n f ++ [f n] := by unfold tab; rw [List.range_succ, List.map_append]; rfl
theorem Tab.of_block {w w' : World} (h : Tab w) (e : w'.heap[0]? = w.heap[0]?) : Tab w' := by
  obtain ⟨t, fr, h'⟩ := h
  exact ⟨t, fr, e.trans h'⟩
theorem tdiv_bd (x d : Int) (B : Int) (hd : 0 < d) (h1 : -(B * d) ≤ x) (h2 : x ≤ B * d) : -B ≤ x.tdiv d ∧ x.tdiv d ≤ B := by
  rcases Int.le_total 0 x with h | h
  · rw [Int.tdiv_eq_ediv_of_nonneg h]
    have := Int.ediv_nonneg h (by omega : 0 ≤ d)
    have : x / d ≤ B := Int.ediv_le_of_le_mul hd h2
    omega
  · obtain ⟨y, rfl⟩ : ∃ y, x = -y := ⟨-x, by omega⟩
    rw [Int.neg_tdiv, Int.tdiv_eq_ediv_of_nonneg (by omega)]
    have := Int.ediv_nonneg (show 0 ≤ y by omega) (by omega : 0 ≤ d)
    have : y / d ≤ B := Int.ediv_le_of_le_mul hd (by omega)
    omega
set_option maxHeartbeats 1600000 in
theorem softLike_walk (ao : Option Addr) (n ca : Nat) (Z : List Int) (c : Int) (w : World) (hA : Arg w ao n ca Z) (bc : -2147483648 ≤ c ∧ c ≤ 2147483647) (hT : Tab w) :
    Calls Tryd.prog 7 #[.slice ao n ca, .int .i32 c] w fun e w' => e = .returned (.bool true) ∧ Below w.heap.size w w' := by
  go_enter Tryd.func7, Tryd.ntmps7
  go_wp2_with fail
  refine (few_any _ _ _ _ 400 _ _ rfl hA (by omega)).mono ?_
  rintro e w1 ⟨g, m, cap, rfl, hm, F1, B1⟩
  have HZ := hT.lt
  replace hT := hT.next B1
  clear hA
  generalize Z.take 400 = A at *
  have sA := F1.small
  have hg := F1.lt
  have F2 := fresh_empty w1
  have B2 : Below w1.heap.size w1 (w1.alloc (.cells #[] 24)) := (Below.refl _ _).alloc (Nat.le_refl _) _
  have G1 := F1.below B2
  have T2 := hT.next B2
  have s1 := B1.size
  have s2 := B2.size
  replace B2 := below_then B1 B2
  obtain ⟨c4, hc4⟩ : ∃ c4, c.tdiv 4 = c4 := ⟨_, rfl⟩
  have bc4 := tdiv_bd c 4 536870912 (by omega) (by omega) (by omega)
  rw [hc4] at bc4
  clear hT F1
  go_wp2
  generalize w1.alloc (.cells #[] 24) = w2 at *
  go_loopg [5, 17] m (fun r s i wr => ∃ k g2 cap2 : Nat, k ≤ m ∧ r = m - k ∧ i = .int .i64 k ∧ s = .slice (some ⟨g2, 0, none⟩) k cap2 ∧ Fresh wr w.heap.size g m cap (tab m fun j => if j < k then (el A j).tdiv 2 else el A j) ∧ Fresh wr w1.heap.size g2 k cap2 (tab k fun j => (el A j).tdiv 2 + c4) ∧ Tab wr ∧ Below w.heap.size w wr ∧ w1.heap.size ≤ wr.heap.size)
  case atStart =>
    refine ⟨0, _, _, by omega, by omega, rfl, rfl, ?_, F2, T2, B2, s2⟩
    have e : tab m (fun j => if j < 0 then (el A j).tdiv 2 else el A j) = A := by
      rw [tab_congr (g := el A) (fun j _ => by rw [if_neg (by omega)])]; exact tab_el G1.len
    rw [e]; exact G1
  case round =>
    obtain ⟨k, g2, cap2, hk, rfl, rfl, rfl, F3, F4, T3, B3, s3⟩ := hrel
    clear F2 B2 T2 G1
    by_cases hlt : k < m
    · have c1 := F3.cell hlt
      have f1 := F3.frozen k
      rw [el_tab hlt, if_neg (by omega)] at c1
      have bx := sA.el k
      have by2 := tdiv_bd (el A k) 2 1073741824 (by omega) (by omega) (by omega)
      have F5 := F3.set k ((el A k).tdiv 2) hlt (by omega)
      rw [tab_set hlt] at F5
      have HE : Hid (tab m (fun j => if j = k then (el A k).tdiv 2 else if j < k then (el A j).tdiv 2 else el A j) = tab m (fun j => if j < k + 1 then (el A j).tdiv 2 else el A j)) := tab_congr fun j _ => by
        by_cases e : j = k
        · subst e; rw [if_pos rfl, if_pos (by omega)]
        · rw [if_neg e]
          by_cases h2 : j < k
          · rw [if_pos h2, if_pos (by omega)]
          · rw [if_neg h2, if_neg (by omega)]
      rw [HE.out] at F5
      have HX : Hid (tab (k + 1) (fun j => (el A j).tdiv 2 + c4) = tab k (fun j => (el A j).tdiv 2 + c4) ++ [(el A k).tdiv 2 + c4]) := tab_snoc2 k _
      have ne : g2 ≠ g := by have := F4.base; omega
      have F6 : Fresh (wr.setCell ⟨g, k, none⟩ (.int .i32 ((el A k).tdiv 2))) w1.heap.size g2 k cap2 _ := F4.setOther ne _
      have B6 : Below w.heap.size w (wr.setCell ⟨g, k, none⟩ (.int .i32 ((el A k).tdiv 2))) := B3.setCell F3.base _
      have c2 := F5.cell hlt
      rw [el_tab hlt, if_pos (by omega)] at c2
      have BS : (wr.setCell ⟨g, k, none⟩ (.int .i32 ((el A k).tdiv 2))).heap.size = wr.heap.size := by simp [World.setCell]
      have T5 : Tab (wr.setCell ⟨g, k, none⟩ (.int .i32 ((el A k).tdiv 2))) := T3.of_block (Below.heap_setCell _ _ _ _ (by have := F3.base; have := HZ; show 0 ≠ g; omega))
      clear HE F3 F4 B3
      generalize hw5 : wr.setCell ⟨g, k, none⟩ (.int .i32 ((el A k).tdiv 2)) = w5 at *
      have R := rowAt_one w5 ((el A k).tdiv 2 + c4) (by omega)
      have BA : Below w5.heap.size w5 (w5.alloc (.cells #[.int .i32 ((el A k).tdiv 2 + c4)] 24)) := (Below.refl _ _).alloc (Nat.le_refl _) _
      have T6 := T5.next BA
      replace F5 := F5.below BA
      replace F6 := F6.below BA
      have s6 := BA.size
      replace B6 := below_then B6 BA
      generalize hw6 : w5.alloc (.cells #[.int .i32 ((el A k).tdiv 2 + c4)] 24) = w6 at *
      rw [BS] at R
      generalize hy : (el A k).tdiv 2 = y at *
      go_wp2_with (at_builtin; refine wpList_append_row rfl _ _ rfl w1.heap.size g2 k cap2 _ rfl (by exact F6) (some ⟨wr.heap.size, 0, none⟩) 1 1 _ rfl (by exact R) (fun h => by cases h) (by omega) (by omega) ?_; intro g' cap' w' F7 B7)
      go_roundg (m - (k + 1))
      case measure => omega
      case rel => exact ⟨k + 1, _, _, by omega, rfl, by go_num, rfl, F5.of_block (B7.block _ hg), by rw [HX.out]; exact F7, T6.of_block (B7.block 0 (by omega)), B6.trans (B7.mono s1), by have := B7.size; omega⟩
    · obtain rfl : k = m := by omega
      generalize wr = w3 at *
      rw [tab_congr (g := fun j => (el A j).tdiv 2) (fun j hj => by rw [if_pos hj])] at F3
      have hsh : ∀ j, j < k → el (tab k fun j => (el A j).tdiv 2 + c4) j = el (tab k fun j => (el A j).tdiv 2) j + c4 := fun j hj => by rw [el_tab hj, el_tab hj]
      generalize (tab k fun j => (el A j).tdiv 2 + c4) = V at *
      generalize (tab k fun j => (el A j).tdiv 2) = U at *
      by_cases h0 : k = 0
      · subst h0
        go_wp2_with (first | (go_at_call 17; refine (weights_bad _ _ _ _ (by omega) (by decide)).mono ?_; rintro e w3 ⟨rfl, rfl⟩; rw [show sizeN 0 = 8 by rfl]))
        go_loopg [61] 0 (fun r i wr => r = 0 ∧ i = .int .i64 0 ∧ wr = w3)
        case atStart => exact ⟨rfl, rfl, rfl⟩
        case round =>
          obtain ⟨rfl, rfl, rfl⟩ := hrel
          go_wp2_with (go_at_call 13; refine (sawake_any _ T3).mono ?_; rintro e w2 ⟨rfl, B4⟩)
          go_ret
          exact ⟨rfl, below_then B3 B4⟩
      have hs : sizeN k = 0 := by unfold sizeN; rw [if_neg h0, if_neg (by omega)]
      have hwt : ∀ j, j < k → wgt V k j = wgt U k j := fun j hj => wgt_shift (by omega) hsh hj
      clear hsh
      go_wp2_with fail
      refine (weights_any _ _ _ _ _ T3 F3.rowAt hs).mono ?_
      rintro e w4 ⟨g4, rfl, F8, B8⟩
      replace T3 := T3.next B8
      replace F4 := F4.below B8
      replace B8 := below_then B3 B8
      clear F3 B3
      go_wp2_with fail
      refine (weights_any _ _ _ _ _ T3 F4.rowAt hs).mono ?_
      rintro e w5 ⟨g5, rfl, F9, B9⟩
      replace T3 := T3.next B9
      replace F8 := F8.below B9
      replace B9 := below_then B8 B9
      clear F4 B8 hs
      go_wp2
      go_loopg [61] k (fun r i wr => ∃ j : Nat, j ≤ k ∧ r = k - j ∧ i = .int .i64 j ∧ ∃ m, wr = w5.drewN m)
      case atStart => exact ⟨0, by omega, by omega, rfl, 0, rfl⟩
      case round =>
        obtain ⟨j, hj, rfl, rfl, m0, hw0⟩ := hrel
        replace F8 : Fresh wr _ _ _ _ _ := hw0 ▸ F8.drewN m0
        replace F9 : Fresh wr _ _ _ _ _ := hw0 ▸ F9.drewN m0
        have B10 : Below w.heap.size w wr := hw0 ▸ below_drewN B9 m0
        have T10 : Tab wr := hw0 ▸ T3.next (below_drewN (Below.refl _ _) m0)
        have HW : Hid (wr = w5.drewN m0) := hw0
        clear hw0
        by_cases hlt : j < k
        · have c1 := F8.cell hlt
          have c2 := F9.cell hlt
          rw [el_tab hlt] at c1 c2
          rw [hwt j hlt] at c2
          clear F8 F9 hwt
          go_wp2_with fail
          go_quiet (fail)
          go_wp2
          go_roundg (k - (j + 1))
          case measure => omega
          case rel => exact ⟨j + 1, by omega, rfl, by go_num, m0 + nq, by rw [HW.out, World.drewN_drewN]⟩
        · obtain rfl : j = k := by omega
          go_wp2_with (go_at_call 13; refine (sawake_any _ T10).mono ?_; rintro e w2 ⟨rfl, B4⟩)
          go_ret
          exact ⟨rfl, below_then B10 B4⟩
end Go.Proofs.YtmocofkcaamnoaaDoor
