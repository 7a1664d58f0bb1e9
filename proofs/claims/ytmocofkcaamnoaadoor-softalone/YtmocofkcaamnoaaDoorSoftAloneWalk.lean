/- The Go text of SoftAlone returns true at every input, where the table of steps lies as the program's text lays it. -/
import Derived.Test.YtmocofkcaamnoaaDoorSoftM
import Derived.Test.YtmocofkcaamnoaaDoorSoftA
import Derived.Test.YtmocofkcaamnoaaDoorApp2
import Derived.Deep.CutRange
namespace Go.Proofs.YtmocofkcaamnoaaDoor
open Go.ChangeShapes Go.WideShapes Go.ChangeAt Go.RowKit
theorem tab_snoc3 (n : Nat) (f : Nat → Int) : tab (n + 1) f = tab n f ++ [f n] := by unfold tab; rw [List.range_succ, List.map_append]; rfl
theorem mulN_zero (k : Int) : mulN 0 k = 0 := by unfold mulN; rw [Int.zero_mul]; rfl
theorem normN_zero (G : List Int) (n j : Nat) (hj : j < n) : normN (tab n fun _ => 0) G n j = 0 := by unfold normN; rw [el_tab hj, mulN_zero, mulN_zero]
theorem wgt_one (x : Int) : wgt [x] 1 0 = 65536 := by rw [wgt_same (x := x) (by omega) (fun j hj => by obtain rfl : j = 0 := by omega
                                                                                                       rfl) (by omega)]; rfl
theorem mixed_one (A : List Int) : mixedN 1 [A] = 0 := by
  unfold mixedN
  rw [if_neg (by simp), if_neg (by omega), if_neg (by simp), if_pos (by simp [alike])]
theorem dot_one (A : List Int) (hA : Small A) (j : Nat) : dotN [65536] (colOf [A] 1 j) 1 = if el A j < -2147483647 then -2147483647 else el A j := by
  have b := hA.el j
  have e : el (colOf [A] 1 j) 0 = el A j := by unfold colOf; rw [el_tab (by omega)]; rfl
  unfold dotN
  rw [dsum_succ, dsum_zero, e, show el [65536] 0 = 65536 from rfl]
  unfold grow rnd sat
  omega
theorem grid_one {w : World} {B g m c : Nat} {A : List Int} (hF : Fresh w B g m c A) : GridAt (w.alloc (.cells #[.slice (some ⟨g, 0, none⟩) m c] 22)) (some ⟨w.heap.size, 0, none⟩) 1 [A] := by
  refine ⟨rfl, by omega, fun _ => ⟨_, _, rfl, fun t ht => ?_⟩⟩
  obtain rfl : t = 0 := by omega
  refine ⟨_, _, _, ?_, (hF.below ((Below.refl _ w).alloc (Nat.le_refl _) _)).arg⟩
  have e := heap_alloc_new w (.cells #[.slice (some ⟨g, 0, none⟩) m c] 22)
  unfold World.cell?
  simp only [Nat.add_zero, e]
  rfl
section
variable (w : World) (o1 o2 o3 : Obj)
theorem three_a : (((w.alloc o1).alloc o2).alloc o3).heap[w.heap.size]? = some o1 := by
  rw [Below.heap_alloc _ _ _ (by simp; omega), Below.heap_alloc _ _ _ (by simp), heap_alloc_new]
theorem three_b : (((w.alloc o1).alloc o2).alloc o3).heap[w.heap.size + 1]? = some o2 := by
  have := heap_alloc_new (w.alloc o1) o2
  rw [Below.heap_alloc _ _ _ (by simp)]
  simpa using this
theorem three_c : (((w.alloc o1).alloc o2).alloc o3).heap[w.heap.size + 1 + 1]? = some o3 := by
  have := heap_alloc_new ((w.alloc o1).alloc o2) o3
  simpa using this
theorem three_d : Below w.heap.size w (((w.alloc o1).alloc o2).alloc o3) := (((Below.refl _ w).alloc (Nat.le_refl _) _).alloc (by simp) _).alloc (by simp; omega) _
end
theorem fresh_nought {w : World} {B g : Nat} (h : w.heap[g]? = some (.cells #[] 24)) (hB : B ≤ g) : Fresh w B g 0 0 [] := ⟨hB, rfl, Nat.le_refl _, by omega, small_nil, #[], h, rfl, fun t ht => by omega⟩
theorem fresh_zeros {w : World} {B g N : Nat} (h : w.heap[g]? = some (.cells (madeCells #[.int .i32 0] N) 24)) (hB : B ≤ g) (hN : N ≤ 40) : Fresh w B g N N (tab N fun _ => 0) := by
  have F := fresh_made w N (by omega)
  obtain ⟨c, hb, hs, hc⟩ := F.row
  rw [heap_alloc_new] at hb
  exact ⟨hB, F.len, F.fit, F.max, F.small, c, h.trans hb, hs, hc⟩
set_option maxRecDepth 100000 in
set_option maxHeartbeats 3200000 in
theorem softAlone_walk (x n : Int) (ao : Option Addr) (k ca : Nat) (Z : List Int) (w : World) (bx : -2147483648 ≤ x ∧ x ≤ 2147483647) (bn : -9223372036854775808 ≤ n ∧ n ≤ 9223372036854775807) (hA : Arg w ao k ca Z) (hT : Tab w) :
    Calls Tryd.prog 8 #[.int .i32 x, .int .i64 n, .slice ao k ca] w fun e w' => e = .returned (.bool true) ∧ Below w.heap.size w w' := by
  go_enter Tryd.func8, Tryd.ntmps8
  go_wp2_with fail
  refine (few_any _ _ _ _ 40 _ _ rfl hA (by omega)).mono ?_
  rintro e w1 ⟨g, m, cap, rfl, hm, F1, B1⟩
  replace hT := hT.next B1
  clear hA
  generalize Z.take 40 = A at *
  have F2 : Fresh (w1.alloc (.cells #[.int .i32 x] 24)) w1.heap.size w1.heap.size 1 1 [x] := fresh_lit w1 [x] (fun y hy => by simp at hy; subst hy; exact bx) (by show 1 ≤ 1048576; omega)
  have B2 : Below w1.heap.size w1 (w1.alloc (.cells #[.int .i32 x] 24)) := (Below.refl _ _).alloc (Nat.le_refl _) _
  generalize hw2 : w1.alloc (.cells #[.int .i32 x] 24) = w2 at F2 B2
  replace hT := hT.next B2
  replace F1 := F1.below B2
  replace B2 := below_then B1 B2
  go_wp2_with fail
  refine (weights_any _ 1 1 _ _ hT F2.rowAt (by decide)).mono ?_
  rintro e w3 ⟨g3, rfl, F3, B3⟩
  replace hT := hT.next B3
  replace F1 := F1.below B3
  replace B3 := below_then B2 B3
  clear F2 B2 B1 hw2
  have F4 : Fresh (w3.alloc (.cells #[.int .i32 65536] 24)) w3.heap.size w3.heap.size 1 1 [65536] := fresh_lit w3 [65536] (by unfold Small; decide) (by decide)
  have B4 : Below w3.heap.size w3 (w3.alloc (.cells #[.int .i32 65536] 24)) := (Below.refl _ _).alloc (Nat.le_refl _) _
  have s4 : (w3.alloc (.cells #[.int .i32 65536] 24)).heap.size = w3.heap.size + 1 := by simp
  generalize hw4 : w3.alloc (.cells #[.int .i32 65536] 24) = w4 at F4 B4 s4
  replace hT := hT.next B4
  replace F1 := F1.below B4
  replace F3 := F3.below B4
  replace B4 := below_then B3 B4
  have G5 := grid_one F1
  have B5 : Below w4.heap.size w4 (w4.alloc (.cells #[.slice (some ⟨g, 0, none⟩) m cap] 22)) := (Below.refl _ _).alloc (Nat.le_refl _) _
  rw [s4] at G5
  generalize hw5 : w4.alloc (.cells #[.slice (some ⟨g, 0, none⟩) m cap] 22) = w5 at G5 B5
  replace hT := hT.next B5
  replace F1 := F1.below B5
  replace F3 := F3.below B5
  replace F4 := F4.below B5
  replace B5 := below_then B4 B5
  have hrow : rowOf [A] 0 = A := rfl
  have hlen := F1.len
  go_wp2_with fail
  refine (mix_any _ _ 1 1 1 1 _ _ _ F4.rowAt G5 (mixed_one A) (by rw [hrow]; omega)).mono ?_
  rw [hrow, hlen]
  rintro e w6 ⟨g6, rfl, F6, B6⟩
  replace hT := hT.next B6
  replace F1 := F1.below B6
  replace F3 := F3.below B6
  replace B6 := below_then B5 B6
  clear F4 G5 B5 B4 B3 hw4 hw5 s4 hrow hlen
  have c3 := F3.cell (t := 0) (by omega)
  rw [el_tab (by omega), wgt_one] at c3
  have sA := F1.small
  go_wp2_with fail
  clear c3
  go_loopg [63] m (fun r i wr => ∃ k : Nat, k ≤ m ∧ r = m - k ∧ i = .int .i64 k ∧ wr = w6)
  case atStart => exact ⟨0, by omega, by omega, rfl, rfl⟩
  case round =>
    obtain ⟨k, hk, rfl, rfl, rfl⟩ := hrel
    by_cases hlt : k < m
    · have c1 := F1.cell hlt
      have c2 := F6.cell hlt
      rw [el_tab hlt, dot_one A sA k] at c2
      have b1 := sA.el k
      clear F1 F6 F3
      by_cases hq : el A k < -2147483647
      · rw [if_pos hq] at c2
        go_wp2
        go_roundg (m - (k + 1))
        case measure => omega
        case rel => exact ⟨k + 1, by omega, rfl, by go_num, rfl⟩
      · rw [if_neg hq] at c2
        go_wp2
        go_roundg (m - (k + 1))
        case measure => omega
        case rel => exact ⟨k + 1, by omega, rfl, by go_num, rfl⟩
    · obtain rfl : k = m := by omega
      generalize wr = w6 at *
      have hT0 := hT
      clear F1 F3 F6 sA
      by_cases hin : 1 ≤ n ∧ n ≤ 40
      · obtain ⟨N, rfl⟩ : ∃ N : Nat, n = N := ⟨n.toNat, by omega⟩
        have h1 : 1 ≤ N := by omega
        have h4 : N ≤ 40 := by omega
        have hmk := run_make_row' (P := Tryd.prog) 22 24 (.int .i32 0) 4 Tryd.underlying22 Tryd.infoNum rfl .i64 .i64 N (by omega) (by omega)
        go_upto_region 14 with fail
        go_cut [13, 14, 15] from 22 (fun s13 s14 s15 wc => ∃ gs gz gg, s13 = .slice (some ⟨gs, 0, none⟩) 0 0 ∧ s14 = .slice (some ⟨gz, 0, none⟩) N N ∧ s15 = .slice (some ⟨gg, 0, none⟩) 0 0 ∧ Fresh wc w6.heap.size gs 0 0 [] ∧ Fresh wc w6.heap.size gz N N (tab N fun _ => 0) ∧ Fresh wc w6.heap.size gg 0 0 [] ∧ gs ≠ gg ∧ gs ≠ gz ∧ gz ≠ gg ∧ Below w6.heap.size w6 wc)
        case first =>
          go_region
          all_goals
            go_wp2_with fail
            go_meet
            case rel =>
              first
              | exact ⟨_, _, _, rfl, rfl, rfl, (fresh_nought (three_a _ _ _ _) (by omega)).drew, (fresh_zeros (three_b _ _ _ _) (by omega) h4).drew, (fresh_nought (three_c _ _ _ _) (by omega)).drew, by omega, by omega, by omega, (three_d _ _ _ _).drew⟩
              | exact ⟨_, _, _, rfl, rfl, rfl, (fresh_nought (three_a _ _ _ _) (by omega)).drew, (fresh_zeros (three_c _ _ _ _) (by omega) h4).drew, (fresh_nought (three_b _ _ _ _) (by omega)).drew, by omega, by omega, by omega, (three_d _ _ _ _).drew⟩
              | exact ⟨_, _, _, rfl, rfl, rfl, (fresh_nought (three_b _ _ _ _) (by omega)).drew, (fresh_zeros (three_a _ _ _ _) (by omega) h4).drew, (fresh_nought (three_c _ _ _ _) (by omega)).drew, by omega, by omega, by omega, (three_d _ _ _ _).drew⟩
              | exact ⟨_, _, _, rfl, rfl, rfl, (fresh_nought (three_b _ _ _ _) (by omega)).drew, (fresh_zeros (three_c _ _ _ _) (by omega) h4).drew, (fresh_nought (three_a _ _ _ _) (by omega)).drew, by omega, by omega, by omega, (three_d _ _ _ _).drew⟩
              | exact ⟨_, _, _, rfl, rfl, rfl, (fresh_nought (three_c _ _ _ _) (by omega)).drew, (fresh_zeros (three_a _ _ _ _) (by omega) h4).drew, (fresh_nought (three_b _ _ _ _) (by omega)).drew, by omega, by omega, by omega, (three_d _ _ _ _).drew⟩
              | exact ⟨_, _, _, rfl, rfl, rfl, (fresh_nought (three_c _ _ _ _) (by omega)).drew, (fresh_zeros (three_b _ _ _ _) (by omega) h4).drew, (fresh_nought (three_a _ _ _ _) (by omega)).drew, by omega, by omega, by omega, (three_d _ _ _ _).drew⟩
        case rest =>
          obtain ⟨gs, gz, gg, rfl, rfl, rfl, FS, FZ, FG, n1, n2, n3, B7⟩ := hcut
          generalize wc = w7 at *
          replace hT := hT.next B7
          have s7 := B7.size
          have b7 := B6.size
          have TB : 0 < w6.heap.size := by have := hT0.lt; omega
          go_wp2_with fail
          go_loopg [13, 15, 16] N (fun r s q i wr => ∃ (k gs cs gg cg : Nat), k ≤ N ∧ r = N - k ∧ i = .int .i64 k ∧ s = .slice (some ⟨gs, 0, none⟩) k cs ∧ q = .slice (some ⟨gg, 0, none⟩) k cg ∧ Fresh wr w6.heap.size gs k cs (tab k fun _ => x) ∧ Fresh wr w6.heap.size gg k cg (tab k fun _ => x) ∧ Fresh wr w6.heap.size gz N N (tab N fun _ => 0) ∧ gs ≠ gg ∧ gs ≠ gz ∧ gz ≠ gg ∧ Below w6.heap.size w6 wr)
          case atStart => exact ⟨0, gs, 0, gg, 0, by omega, by omega, rfl, rfl, rfl, FS, FG, FZ, n1, n2, n3, B7⟩
          case round =>
            clear FS FG FZ n1 n2 n3 B7 hT s7 gs gg
            obtain ⟨k, gs, cs, gg, cg, hk, rfl, rfl, rfl, rfl, FS, FG, FZ, n1, n2, n3, B7⟩ := hrel
            by_cases hlt : k < N
            · have HX : Hid (tab (k + 1) (fun _ => x) = tab k (fun _ => x) ++ [x]) := tab_snoc3 k _
              have s7 := B7.size
              have R := rowAt_one wr x bx
              have BA : Below wr.heap.size wr (wr.alloc (.cells #[.int .i32 x] 24)) := (Below.refl _ _).alloc (Nat.le_refl _) _
              have sa : (wr.alloc (.cells #[.int .i32 x] 24)).heap.size = wr.heap.size + 1 := by simp
              have lS := FS.lt
              have lG := FG.lt
              have lZ := FZ.lt
              replace FS := FS.below BA
              replace FG := FG.below BA
              replace FZ := FZ.below BA
              replace BA := below_then B7 BA
              generalize hw8 : wr.alloc (.cells #[.int .i32 x] 24) = w8 at *
              clear B7
              go_wp2_with (first | (at_builtin; refine wpList_append_one2 rfl (.tmp 92) _ rfl w6.heap.size gs k cs _ rfl (by exact FS) wr.heap.size x rfl (by exact R) (by omega) (by omega) ?_; intro g' c' w9 FS9 B9 K9 W9; have FG9 := FG.of_block (K9 gg (by omega) (by omega)); have FZ9 := FZ.of_block (K9 gz (by omega) (by omega)); have B10 := BA.trans B9; have s9 := B9.size; have m1 : g' ≠ gg := (by omega); have m2 : g' ≠ gz := (by omega); have lS9 := FS9.lt; have lG9 := FG9.lt; have lZ9 := FZ9.lt; clear FS FG FZ BA K9 W9 B9 R hw8; have R := rowAt_one w9 x bx; have BA : Below w9.heap.size w9 (w9.alloc (.cells #[.int .i32 x] 24)) := (Below.refl _ _).alloc (Nat.le_refl _) _; have sb : (w9.alloc (.cells #[.int .i32 x] 24)).heap.size = w9.heap.size + 1 := (by simp); replace FS9 := FS9.below BA; replace FG9 := FG9.below BA; replace FZ9 := FZ9.below BA; replace BA := below_then B10 BA; generalize hw11 : w9.alloc (.cells #[.int .i32 x] 24) = w11 at *) | (at_builtin; refine wpList_append_one2 rfl (.tmp 96) _ rfl w6.heap.size gg k cg _ rfl (by exact FG9) w9.heap.size x rfl (by exact R) (by omega) (by omega) ?_; intro g'' c'' w12 FG12 B12 K12 W12))
              go_roundg (N - (k + 1))
              case measure => omega
              case rel => exact ⟨k + 1, g', c', g'', c'', by omega, rfl, by go_num, rfl, rfl, by rw [HX.out]; exact FS9.of_block (K12 g' (by omega) (by omega)), by rw [HX.out]; exact FG12, FZ9.of_block (K12 gz (by omega) (by omega)), by omega, by omega, by omega, BA.trans B12⟩
            · obtain rfl : k = N := by omega
              generalize wr = w7 at *
              have T7 := hT0.next B7
              have hs : sizeN k = 0 := by unfold sizeN; rw [if_neg (by omega), if_neg (by omega)]
              go_wp2_with fail
              refine (weights_any _ _ _ _ _ T7 FS.rowAt hs).mono ?_
              rintro e w8 ⟨g8, rfl, F8, B8⟩
              replace FG := FG.below B8
              replace FZ := FZ.below B8
              replace T7 := T7.next B8
              replace B8 := below_then B7 B8
              clear FS
              go_wp2_with fail
              refine (norm_any _ _ _ _ _ _ _ _ FZ.rowAt FG.rowAt hs).mono ?_
              rintro e w9 ⟨g9, rfl, F9, B9⟩
              replace F8 := F8.below B9
              replace T7 := T7.next B9
              replace B9 := below_then B6 (below_then B8 B9)
              clear FG FZ B8 B7
              have hk0 : (k : Int) ≠ 0 := by omega
              have hq1 := Int.ediv_nonneg (show (0 : Int) ≤ 65536 by omega) (show (0 : Int) ≤ k by omega)
              have hq2 : (65536 : Int) / k ≤ 65536 := Int.ediv_le_self _ (by omega)
              go_wp2_with fail
              go_loopg [21] k (fun r i wr => ∃ j : Nat, j ≤ k ∧ r = k - j ∧ i = .int .i64 j ∧ ∃ m, wr = w9.drewN m)
              case atStart => exact ⟨0, by omega, by omega, rfl, 0, rfl⟩
              case round =>
                obtain ⟨j, hj, rfl, rfl, m0, hw0⟩ := hrel
                replace F8 : Fresh wr _ _ _ _ _ := hw0 ▸ F8.drewN m0
                replace F9 : Fresh wr _ _ _ _ _ := hw0 ▸ F9.drewN m0
                have B10 : Below w.heap.size w wr := hw0 ▸ below_drewN B9 m0
                have T10 : Tab wr := hw0 ▸ T7.next (below_drewN (Below.refl _ _) m0)
                have HW : Hid (wr = w9.drewN m0) := hw0
                clear hw0
                by_cases hlj : j < k
                · have c1 := F8.cell hlj
                  have c2 := F9.cell hlj
                  rw [el_tab hlj, wgt_same (x := x) h1 (fun j hj => el_tab hj) hlj] at c1
                  rw [el_tab hlj, normN_zero _ _ _ hlj] at c2
                  generalize hQ : (65536 : Int) / k = Q at *
                  have hw32 : wrap32 Q = Q := by unfold wrap32; omega
                  clear F8 F9
                  go_wp2_with fail
                  go_quiet (fail)
                  go_wp2
                  go_roundg (k - (j + 1))
                  case measure => omega
                  case rel => exact ⟨j + 1, by omega, rfl, by go_num, m0 + nq, by rw [HW.out, World.drewN_drewN]⟩
                · obtain rfl : j = k := by omega
                  go_wp2_with (go_at_call 13; refine (sawake_any _ T10).mono ?_; rintro e w2 ⟨rfl, B4⟩)
                  go_ret
                  exact ⟨rfl, below_then B10 B4⟩
      · have hor : n < 1 ∨ (1 ≤ n ∧ 40 < n) := by omega
        clear hin
        rcases hor with hq | hq
        all_goals
          go_wp2_with (go_at_call 13; refine (sawake_any _ hT).mono ?_; rintro e w2 ⟨rfl, B3⟩)
          go_ret
          exact ⟨rfl, below_then B6 B3⟩
end Go.Proofs.YtmocofkcaamnoaaDoor
