/- The walk of VecOnes: at every two rows the law returns true, and what was there stays. -/
import Derived.Test.YthbkibcdcnpaoaaVecL
namespace Go.Proofs.Ythbkibcdcnpaoaa
open Go.ChangeShapes Go.WideShapes Go.ChangeAt Go.RowKit
theorem fit_six {n m : Nat} (h1 : n ≤ 4096) (h2 : m ≤ 4096) (h : n ≠ m) : fitN n m = 6 := by unfold fitN; rw [if_neg (by omega), if_pos h]
set_option maxHeartbeats 3200000 in
theorem vecOnes_walk (ao : Option Addr) (n ca : Nat) (A : List Int) (bo : Option Addr) (m cb : Nat) (B : List Int) (w : World) (hA : Arg w ao n ca A) (hB : Arg w bo m cb B) :
    Calls Try.prog 7 #[.slice ao n ca, .slice bo m cb] w fun e w' => e = .returned (.bool true) ∧ Below w.heap.size w w' := by
  go_enter Try.func7, Try.ntmps7
  go_wp2_with fail
  refine (few_any ao n ca A 300 300 _ rfl (by exact hA) (by omega)).mono ?_
  rintro e w1 ⟨g1, n1, c1, rfl, l1, F1, B1⟩
  replace hB := hB.below B1
  go_wp2_with fail
  refine (few_any bo m cb B 300 300 _ rfl (by exact hB) (by omega)).mono ?_
  rintro e w2 ⟨g2, n2, c2, rfl, l2, F2, B2⟩
  replace F1 := F1.below B2
  replace B2 := below_then B1 B2
  clear hA hB B1
  generalize A.take 300 = A' at *
  generalize B.take 300 = B' at *
  by_cases hne : n1 = n2
  · subst hne
    have hmk := run_make_row' (P := Try.prog) 22 24 (.int .i32 0) 4 Try.underlying22 Try.infoNum rfl .i64 .i64 n1 (by omega) (by omega)
    go_wp2_with fail
    refine (scale_any _ n1 _ A' 65536 _ (by exact F1.rowAt) (by omega) (by omega) (by omega)).mono ?_
    rintro e w3 ⟨g3, rfl, F3, B3⟩
    replace F1 := F1.below B3
    replace F2 := F2.below B3
    replace B3 := below_then B2 B3
    have F4 := fresh_made w3 n1 (by omega)
    have B4 : Below w3.heap.size w3 (w3.alloc (.cells (madeCells #[.int .i32 0] n1) 24)) := (Below.refl _ _).alloc (Nat.le_refl _) _
    generalize hw4 : w3.alloc (.cells (madeCells #[.int .i32 0] n1) 24) = w4 at F4 B4
    go_wp2_with fail
    clear hmk hw4
    replace F1 := F1.below B4
    replace F2 := F2.below B4
    replace F3 := F3.below B4
    replace B4 := below_then B3 B4
    refine (vadd_any _ _ n1 _ _ A' _ _ (by exact F1.rowAt) (by exact F4.rowAt) (by omega)).mono ?_
    rintro e w5 ⟨g5, rfl, F5, B5⟩
    replace F1 := F1.below B5
    replace F2 := F2.below B5
    replace F3 := F3.below B5
    replace B5 := below_then B4 B5
    clear F4
    go_wp2_with fail
    refine (vadd_any _ _ n1 _ _ A' B' _ (by exact F1.rowAt) (by exact F2.rowAt) (by omega)).mono ?_
    rintro e w6 ⟨g6, rfl, F6, B6⟩
    replace F1 := F1.below B6
    replace F2 := F2.below B6
    replace F3 := F3.below B6
    replace F5 := F5.below B6
    replace B6 := below_then B5 B6
    go_wp2_with fail
    refine (vadd_any _ _ n1 _ _ B' A' _ (by exact F2.rowAt) (by exact F1.rowAt) (by omega)).mono ?_
    rintro e w7 ⟨g7, rfl, F7, B7⟩
    replace F1 := F1.below B7
    replace F3 := F3.below B7
    replace F5 := F5.below B7
    replace F6 := F6.below B7
    replace B7 := below_then B6 B7
    clear F2 B2 B3 B4 B5 B6
    go_wp2_with fail
    go_loopg [98] n1 (fun r i wr => ∃ k : Nat, k ≤ n1 ∧ r = n1 - k ∧ i = .int .i64 k ∧ ∃ m, wr = w7.drewN m)
    case atStart => exact ⟨0, by omega, by omega, rfl, 0, rfl⟩
    case round =>
      obtain ⟨k, hk, rfl, rfl, m0, hw0⟩ := hrel
      have B8 : Below w7.heap.size w7 wr := hw0 ▸ below_drewN (Below.refl _ _) m0
      have HW : Hid (wr = w7.drewN m0) := hw0
      clear hw0
      replace F1 := F1.below B8
      replace F3 := F3.below B8
      replace F5 := F5.below B8
      replace F6 := F6.below B8
      replace F7 := F7.below B8
      replace B8 := below_then B7 B8
      by_cases hlt : k < n1
      · have q1 := F1.cell hlt
        have q3 := F3.cell hlt
        have q5 := F5.cell hlt
        have q6 := F6.cell hlt
        have q7 := F7.cell hlt
        rw [el_tab hlt] at q3 q5 q6 q7
        rw [mulN_one] at q3
        rw [el_tab hlt, addN_zero] at q5
        rw [addN_comm] at q7
        have b1 := F1.small.el k
        clear F1 F3 F5 F6 F7
        generalize el A' k = x at *
        generalize addN x (el B' k) = z at *
        by_cases hx : x = -2147483648
        · subst hx
          go_wp2_with fail
          go_quiet (fail)
          go_wp2
          go_roundg (n1 - (k + 1))
          case measure => omega
          case rel => exact ⟨k + 1, by omega, rfl, by go_num, m0 + nq, by rw [HW.out, World.drewN_drewN]⟩
        · have hs : sat x = x := sat_id x (by omega)
          rw [hs] at q3 q5
          clear hs
          go_wp2_with fail
          go_quiet (fail)
          go_wp2
          go_roundg (n1 - (k + 1))
          case measure => omega
          case rel => exact ⟨k + 1, by omega, rfl, by go_num, m0 + nq, by rw [HW.out, World.drewN_drewN]⟩
      · go_wp2_with fail
        refine (vawake_any _).mono ?_
        rintro e w9 ⟨rfl, B9⟩
        replace B9 := below_then B8 B9
        go_wp2
        go_ret
        exact ⟨rfl, B9⟩
  · have h6 := fit_six (show n1 ≤ 4096 by omega) (show n2 ≤ 4096 by omega) hne
    go_wp2_with fail
    refine (add_bad _ _ n1 n2 _ _ _ (by omega) (by omega) (by rw [h6]; omega)).mono ?_
    rintro e w3 ⟨rfl, rfl⟩
    rw [h6]
    go_wp2_with fail
    refine (vawake_any _).mono ?_
    rintro e w9 ⟨rfl, B9⟩
    replace B9 := below_then B2 B9
    go_wp2
    go_ret
    exact ⟨rfl, B9⟩
end Go.Proofs.Ythbkibcdcnpaoaa
