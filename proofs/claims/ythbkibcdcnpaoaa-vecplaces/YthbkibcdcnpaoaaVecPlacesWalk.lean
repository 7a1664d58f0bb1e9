/- The walk of VecPlaces: at every two rows and every number the law returns true, and what was there stays. -/
import Derived.Test.YthbkibcdcnpaoaaVecX
namespace Go.Proofs.Ythbkibcdcnpaoaa
open Go.ChangeShapes Go.WideShapes Go.ChangeAt Go.RowKit
set_option maxHeartbeats 6400000 in
set_option maxRecDepth 100000 in
theorem vecPlaces_walk (ao : Option Addr) (n ca : Nat) (A : List Int) (bo : Option Addr) (m cb : Nat) (B : List Int) (c : Int) (w : World) (hA : Arg w ao n ca A) (hB : Arg w bo m cb B)
    (hc0 : -2147483648 ≤ c ∧ c ≤ 2147483647) :
    Calls Try.prog 4 #[.slice ao n ca, .slice bo m cb, .int .i32 c] w fun e w' => e = .returned (.bool true) ∧ Below w.heap.size w w' := by
  go_enter Try.func4, Try.ntmps4
  go_wp2_with fail
  refine (few_any ao n ca A 5000 5000 _ rfl (by exact hA) (by omega)).mono ?_
  rintro e w1 ⟨g1, n1, c1, rfl, l1, F1, B1⟩
  replace hB := hB.below B1
  go_wp2_with fail
  refine (few_any bo m cb B 5000 5000 _ rfl (by exact hB) (by omega)).mono ?_
  rintro e w2 ⟨g2, n2, c2, rfl, l2, F2, B2⟩
  replace F1 := F1.below B2
  replace B2 := below_then B1 B2
  clear hA hB B1
  generalize A.take 5000 = A' at *
  generalize B.take 5000 = B' at *
  by_cases hf : fitN n1 n2 = 0
  · obtain ⟨rfl, h4⟩ := fit_zero hf
    go_wp2_with fail
    refine (vadd_any _ _ n1 _ _ A' B' _ (by exact F1.rowAt) (by exact F2.rowAt) (by omega)).mono ?_
    rintro e w3 ⟨g3, rfl, F3, B3⟩
    replace F1 := F1.below B3
    replace F2 := F2.below B3
    replace B3 := below_then B2 B3
    go_wp2_with fail
    refine (scale_any _ n1 _ A' c _ (by exact F1.rowAt) (by omega) (by omega) (by omega)).mono ?_
    rintro e w4 ⟨g4, rfl, F4, B4⟩
    replace F1 := F1.below B4
    replace F2 := F2.below B4
    replace F3 := F3.below B4
    replace B4 := below_then B3 B4
    go_wp2_with fail
    refine (rise_any _ n1 _ A' _ (by exact F1.rowAt) (by omega)).mono ?_
    rintro e w5 ⟨g5, rfl, F5, B5⟩
    replace F1 := F1.below B5
    replace F2 := F2.below B5
    replace F3 := F3.below B5
    replace F4 := F4.below B5
    replace B5 := below_then B4 B5
    clear B2 B3 B4
    go_wp2_with fail
    refine (refFit_any _ _ n1 n1 _ _ _ (by omega) (by omega)).mono ?_
    rintro e w6 ⟨rfl, rfl⟩
    rw [hf]
    go_wp2_with fail
    refine (vawake_any _).mono ?_
    rintro e w7 ⟨rfl, B7⟩
    replace F1 := F1.below B7
    replace F2 := F2.below B7
    replace F3 := F3.below B7
    replace F4 := F4.below B7
    replace F5 := F5.below B7
    replace B7 := below_then B5 B7
    go_wp2_with fail
    refine (argmax_any _ n1 _ A' _ (by exact F1.rowAt)).mono ?_
    rintro e w8 ⟨rfl, rfl⟩
    go_wp2_with fail
    refine (refArgmax_any _ n1 _ A' _ (by exact F1.rowAt)).mono ?_
    rintro e w9 ⟨rfl, m9, hw9⟩
    have B9 : Below w8.heap.size w8 w9 := hw9 ▸ below_drewN (Below.refl _ _) m9
    clear hw9
    replace F1 := F1.below B9
    replace F2 := F2.below B9
    replace F3 := F3.below B9
    replace F4 := F4.below B9
    replace F5 := F5.below B9
    replace B9 := below_then B7 B9
    clear B7 B5
    go_wp2_with fail
    go_loopg [82] n1 (fun r i wr => ∃ k : Nat, k ≤ n1 ∧ r = n1 - k ∧ i = .int .i64 k ∧ ∃ m, wr = w9.drewN m)
    case atStart => exact ⟨0, by omega, by omega, rfl, 0, rfl⟩
    case round =>
      obtain ⟨k, hk, rfl, rfl, m0, hw0⟩ := hrel
      have B8 : Below w9.heap.size w9 wr := hw0 ▸ below_drewN (Below.refl _ _) m0
      have HW : Hid (wr = w9.drewN m0) := hw0
      clear hw0
      replace F1 := F1.below B8
      replace F2 := F2.below B8
      replace F3 := F3.below B8
      replace F4 := F4.below B8
      replace F5 := F5.below B8
      replace B8 := below_then B9 B8
      by_cases hlt : k < n1
      · have q1 := F1.cell hlt
        have q2 := F2.cell hlt
        have q3 := F3.cell hlt
        have q4 := F4.cell hlt
        have q5 := F5.cell hlt
        rw [el_tab hlt] at q3 q4 q5
        have b1 := F1.small.el k
        have b2 := F2.small.el k
        have W1 : IntKind.i64.wrap (el A' k) = el A' k := wrap_in (by omega)
        have W2 : IntKind.i64.wrap (el B' k) = el B' k := wrap_in (by omega)
        have W3 : IntKind.i64.wrap (el A' k + el B' k) = el A' k + el B' k := wrap_in (by omega)
        unfold addN at q3
        unfold mulN at q4
        clear F1 F2 F3 F4 F5
        generalize el A' k = x at *
        generalize el B' k = y at *
        by_cases hx : 0 ≤ x
        · have hmx : max x 0 = x := by omega
          rw [hmx] at q5
          clear hmx
          have d1 : decide (x < 0) = false := decide_eq_false (by omega)
          have d2 : decide (0 ≤ x) = true := decide_eq_true hx
          go_wp2_with fail
          go_quiet (first | (go_at_call 21; exact Calls.quiet_of_same (refSat_any _ _ (by omega) (by omega))) | (go_at_call 22; exact Calls.quiet_of (refMul_any _ _ _ (by omega) (by omega) (by omega) (by omega))))
          go_wp2
          go_roundg (n1 - (k + 1))
          case measure => omega
          case rel => exact ⟨k + 1, by omega, rfl, by go_num, m0 + nq, by rw [HW.out, World.drewN_drewN]⟩
        · have hmx : max x 0 = 0 := by omega
          rw [hmx] at q5
          clear hmx
          have d1 : decide (x < 0) = true := decide_eq_true (by omega)
          have d2 : decide (0 ≤ x) = false := decide_eq_false hx
          go_wp2_with fail
          go_quiet (first | (go_at_call 21; exact Calls.quiet_of_same (refSat_any _ _ (by omega) (by omega))) | (go_at_call 22; exact Calls.quiet_of (refMul_any _ _ _ (by omega) (by omega) (by omega) (by omega))))
          go_wp2
          go_roundg (n1 - (k + 1))
          case measure => omega
          case rel => exact ⟨k + 1, by omega, rfl, by go_num, m0 + nq, by rw [HW.out, World.drewN_drewN]⟩
      · go_wp2
        go_ret
        exact ⟨rfl, B8⟩
  · have hq' : fitN n1 n2 ≠ 0 := hf
    have hf' : (fitN n1 n2 == 0) = false := by simpa using hf
    generalize hq : fitN n1 n2 = q at *
    have d0 : decide (q = 0) = false := decide_eq_false hf
    go_wp2_with fail
    refine (add_bad _ _ n1 n2 _ _ _ (by omega) (by omega) (by rw [hq]; exact hf)).mono ?_
    rintro e w3 ⟨rfl, rfl⟩
    rw [hq]
    have B3 := B2
    go_wp2_with fail
    refine (scale_any _ n1 _ A' c _ (by exact F1.rowAt) (by omega) (by omega) (by omega)).mono ?_
    rintro e w4 ⟨g4, rfl, F4, B4⟩
    replace F1 := F1.below B4
    replace B4 := below_then B3 B4
    go_wp2_with fail
    refine (rise_any _ n1 _ A' _ (by exact F1.rowAt) (by omega)).mono ?_
    rintro e w5 ⟨g5, rfl, F5, B5⟩
    replace F1 := F1.below B5
    replace F4 := F4.below B5
    replace B5 := below_then B4 B5
    clear B2 B3 B4 F2
    go_wp2_with fail
    refine (refFit_any _ _ n1 n2 _ _ _ (by omega) (by omega)).mono ?_
    rintro e w6 ⟨rfl, rfl⟩
    rw [hq]
    clear hq hq'
    go_wp2_with fail
    refine (vawake_any _).mono ?_
    rintro e w7 ⟨rfl, B7⟩
    replace F1 := F1.below B7
    replace F4 := F4.below B7
    replace F5 := F5.below B7
    replace B7 := below_then B5 B7
    go_wp2_with fail
    refine (argmax_any _ n1 _ A' _ (by exact F1.rowAt)).mono ?_
    rintro e w8 ⟨rfl, rfl⟩
    go_wp2_with fail
    refine (refArgmax_any _ n1 _ A' _ (by exact F1.rowAt)).mono ?_
    rintro e w9 ⟨rfl, m9, hw9⟩
    have B9 : Below w8.heap.size w8 w9 := hw9 ▸ below_drewN (Below.refl _ _) m9
    clear hw9
    replace F1 := F1.below B9
    replace F4 := F4.below B9
    replace F5 := F5.below B9
    replace B9 := below_then B7 B9
    clear B7 B5
    go_wp2_with fail
    go_loopg [82] n1 (fun r i wr => ∃ k : Nat, k ≤ n1 ∧ r = n1 - k ∧ i = .int .i64 k ∧ ∃ m, wr = w9.drewN m)
    case atStart => exact ⟨0, by omega, by omega, rfl, 0, rfl⟩
    case round =>
      obtain ⟨k, hk, rfl, rfl, m0, hw0⟩ := hrel
      have B8 : Below w9.heap.size w9 wr := hw0 ▸ below_drewN (Below.refl _ _) m0
      have HW : Hid (wr = w9.drewN m0) := hw0
      clear hw0
      replace F1 := F1.below B8
      replace F4 := F4.below B8
      replace F5 := F5.below B8
      replace B8 := below_then B9 B8
      by_cases hlt : k < n1
      · have q1 := F1.cell hlt
        have q4 := F4.cell hlt
        have q5 := F5.cell hlt
        rw [el_tab hlt] at q4 q5
        have b1 := F1.small.el k
        have W1 : IntKind.i64.wrap (el A' k) = el A' k := wrap_in (by omega)
        unfold mulN at q4
        clear F1 F4 F5
        generalize el A' k = x at *
        by_cases hx : 0 ≤ x
        · have hmx : max x 0 = x := by omega
          rw [hmx] at q5
          clear hmx
          have d1 : decide (x < 0) = false := decide_eq_false (by omega)
          have d2 : decide (0 ≤ x) = true := decide_eq_true hx
          go_wp2_with fail
          go_quiet (first | (go_at_call 21; exact Calls.quiet_of_same (refSat_any _ _ (by omega) (by omega))) | (go_at_call 22; exact Calls.quiet_of (refMul_any _ _ _ (by omega) (by omega) (by omega) (by omega))))
          go_wp2
          go_roundg (n1 - (k + 1))
          case measure => omega
          case rel => exact ⟨k + 1, by omega, rfl, by go_num, m0 + nq, by rw [HW.out, World.drewN_drewN]⟩
        · have hmx : max x 0 = 0 := by omega
          rw [hmx] at q5
          clear hmx
          have d1 : decide (x < 0) = true := decide_eq_true (by omega)
          have d2 : decide (0 ≤ x) = false := decide_eq_false hx
          go_wp2_with fail
          go_quiet (first | (go_at_call 21; exact Calls.quiet_of_same (refSat_any _ _ (by omega) (by omega))) | (go_at_call 22; exact Calls.quiet_of (refMul_any _ _ _ (by omega) (by omega) (by omega) (by omega))))
          go_wp2
          go_roundg (n1 - (k + 1))
          case measure => omega
          case rel => exact ⟨k + 1, by omega, rfl, by go_num, m0 + nq, by rw [HW.out, World.drewN_drewN]⟩
      · go_wp2
        go_ret
        exact ⟨rfl, B8⟩
end Go.Proofs.Ythbkibcdcnpaoaa
