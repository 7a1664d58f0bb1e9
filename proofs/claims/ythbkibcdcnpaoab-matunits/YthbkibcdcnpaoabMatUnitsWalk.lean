/- The walk of MatUnits: at every matrix and every number the law returns true, and what was there stays. -/
import Derived.Test.YthbkibcdcnpaoabMatU
namespace Go.Proofs.Ythbkibcdcnpaoab
open Go.ChangeShapes Go.WideShapes Go.ChangeAt Go.RowKit
set_option maxHeartbeats 3200000 in
set_option maxRecDepth 100000 in
theorem matUnits_walk (r c : Int) (ao : Option Addr) (n ca : Nat) (D : List Int) (jj : Int) (w : World)
    (hr : -9223372036854775808 ≤ r ∧ r ≤ 9223372036854775807) (hc : -9223372036854775808 ≤ c ∧ c ≤ 9223372036854775807) (hD : Arg w ao n ca D) (hj0 : -9223372036854775808 ≤ jj ∧ jj ≤ 9223372036854775807) :
    Calls Try.prog 4 #[matV r c ao n ca, .int .i64 jj] w fun e w' => e = .returned (.bool true) ∧ Below w.heap.size w w' := by
  have X0 := box_new w r c ao n ca
  have B0 : Below w.heap.size w (w.alloc (.cells #[.int .i64 r, .int .i64 c, .slice ao n ca] 24)) := (Below.refl _ _).alloc (Nat.le_refl _) _
  generalize hw0 : w.alloc (.cells #[.int .i64 r, .int .i64 c, .slice ao n ca] 24) = w0 at X0 B0
  have q0 := X0.c0
  have q1 := X0.c1
  have q2 := X0.c2
  have i0 := X0.lt
  go_enter Try.func4, Try.ntmps4
  unfold matV
  go_wp2_with fail
  refine (mfew_any r c ao n ca D w0 (hD.below B0)).mono ?_
  rintro e w1 ⟨g1, n1, k1, A, rfl, l1, F1, B1⟩
  unfold matV
  clear hD hw0 q0 q1 q2
  have j1 := F1.base
  replace X0 := X0.below B1
  replace B1 := below_then B0 B1
  have q0 := X0.c0
  have q1 := X0.c1
  have q2 := X0.c2
  have f0 := X0.frozen 0
  have f1 := X0.frozen 1
  have f2 := X0.frozen 2
  have X3 := X0.put r c (some ⟨g1, 0, none⟩) n1 k1
  have F1' := F1.put (k := w.heap.size) (by omega) (.int .i64 r) (.int .i64 c) (.slice (some ⟨g1, 0, none⟩) n1 k1)
  have B3 := Below.put B1 (g := w.heap.size) (by omega) (.int .i64 r) (.int .i64 c) (.slice (some ⟨g1, 0, none⟩) n1 k1)
  generalize hw3 : ((w1.setCell ⟨w.heap.size, 0, none⟩ (.int .i64 r)).setCell ⟨w.heap.size, 1, none⟩ (.int .i64 c)).setCell ⟨w.heap.size, 2, none⟩ (.slice (some ⟨g1, 0, none⟩) n1 k1) = w3 at X3 F1' B3
  have p0 := X3.c0
  have p1 := X3.c1
  have p2 := X3.c2
  go_wp2_with fail
  clear hw3 X0 F1 B1 B0 q0 q1 q2 f0 f1 f2
  refine (check_any r c _ n1 k1 w3 hr hc).mono ?_
  rintro e w4 ⟨rfl, B4⟩
  replace X3 := X3.below B4
  replace F1 := F1'.below B4
  replace B4 := below_then B3 B4
  clear F1' B3 p0 p1 p2
  by_cases hk : chkN r c n1 = 0
  · rw [hk]
    obtain ⟨r, c, rfl, rfl, r1, r2, k1', k2', hsz⟩ := chk_zero hk
    subst hsz
    have hrc := size_le r2 k2'
    have lA := F1.len
    clear hk hr hc l1
    have p2 := X3.c2
    go_wp2_with fail
    clear p2
    go_loopg [34] (r * c) (fun k0 ii wr => ∃ (k : Nat) (Z : List Int), k ≤ r * c ∧ k0 = r * c - k ∧ ii = .int .i64 k ∧ Fresh wr w0.heap.size g1 (r * c) k1 Z ∧ (∀ i, i < k → -2147483647 ≤ el Z i) ∧ Box wr w.heap.size r c (some ⟨g1, 0, none⟩) (r * c) k1 ∧ Below w.heap.size w wr)
    case atStart => exact ⟨0, A, by omega, by omega, rfl, F1, fun i hi => by omega, X3, B4⟩
    case round =>
      clear F1 X3 B4 lA
      obtain ⟨k, Z, hk, rfl, rfl, F1, hZ, X3, B5⟩ := hrel
      by_cases hlt : k < r * c
      · have f1 := F1.frozen k
        have f2 := F1.cell hlt
        have bz := F1.small.el k
        have p2 := X3.c2
        have lZ := F1.len
        have HZ : Hid (∀ y, y = el Z k ∨ y = -2147483647 → -2147483647 ≤ y → ∀ i, i < k + 1 → -2147483647 ≤ el (Z.set k y) i) := fun y _ hy i hi => by
          rw [el_set (by rw [lZ]; exact hlt)]
          by_cases e : i = k
          · rw [if_pos e]; exact hy
          · rw [if_neg e]; exact hZ i (by omega)
        clear hZ
        rcases (show el Z k = -2147483648 ∨ -2147483647 ≤ el Z k by omega) with hx | hx
        · rw [hx] at f2
          have F2 := F1.set k (-2147483647) hlt (by omega)
          have HZ2 : Hid (∀ i, i < k + 1 → -2147483647 ≤ el (Z.set k (-2147483647)) i) := HZ.out _ (Or.inr rfl) (by omega)
          clear hx HZ bz lZ
          go_wp2
          go_roundg (r * c - (k + 1))
          case measure => omega
          case rel => exact ⟨k + 1, _, by omega, rfl, by go_num, F2, HZ2.out, X3.block (Below.heap_setCell _ _ _ _ (by show w.heap.size ≠ g1; omega)), B5.setCell (p := ⟨g1, k, none⟩) (by show w.heap.size ≤ g1; omega) _⟩
        · have F2 := F1.set k (el Z k) hlt (by omega)
          have HZ2 : Hid (∀ i, i < k + 1 → -2147483647 ≤ el (Z.set k (el Z k)) i) := HZ.out _ (Or.inl rfl) hx
          clear HZ lZ
          go_wp2
          go_roundg (r * c - (k + 1))
          case measure => omega
          case rel => exact ⟨k + 1, _, by omega, rfl, by go_num, F2, HZ2.out, X3.block (Below.heap_setCell _ _ _ _ (by show w.heap.size ≠ g1; omega)), B5.setCell (p := ⟨g1, k, none⟩) (by show w.heap.size ≤ g1; omega) _⟩
      · have hb : ∀ i, -2147483647 ≤ el Z i := fun i => by
          by_cases h : i < r * c
          · exact hZ i (by omega)
          · rw [el_over (by rw [F1.len]; omega)]; omega
        have lZ := F1.len
        have sZ := F1.small
        have M : MatAt wr r c g1 0 (r * c) k1 Z := ⟨r1, r2, k1', k2', rfl, F1.fit, F1.max, F1.rowAt⟩
        have HB : Hid (∀ i, -2147483647 ≤ el Z i) := hb
        have HL : Hid (Z.length = r * c) := lZ
        clear hZ F1 hb lZ
        have q0 := X3.c0
        have q1 := X3.c1
        have q2 := X3.c2
        go_wp2_with fail
        clear q0 q1 q2
        refine (unit_any r wr r1 r2).mono ?_
        rintro e w6 ⟨gL, rfl, FL, B6⟩
        replace X3 := X3.below B6
        replace M := M.below B6
        replace B6 := below_then B5 B6
        unfold matV
        have XL := box_new w6 r r (some ⟨gL, 0, none⟩) (r * r) (r * r)
        have B7 : Below w6.heap.size w6 (w6.alloc (.cells #[.int .i64 r, .int .i64 r, .slice (some ⟨gL, 0, none⟩) (r * r) (r * r)] 24)) := (Below.refl _ _).alloc (Nat.le_refl _) _
        generalize hw7 : w6.alloc (.cells #[.int .i64 r, .int .i64 r, .slice (some ⟨gL, 0, none⟩) (r * r) (r * r)] 24) = w7 at XL B7
        replace X3 := X3.below B7
        replace M := M.below B7
        replace FL := FL.below B7
        replace B7 := below_then B6 B7
        have q0 := X3.c0
        have q1 := X3.c1
        have q2 := X3.c2
        go_wp2_with fail
        clear hw7 q0 q1 q2
        refine (unit_any c w7 k1' k2').mono ?_
        rintro e w8 ⟨gR, rfl, FR, B8⟩
        replace X3 := X3.below B8
        replace M := M.below B8
        replace FL := FL.below B8
        replace XL := XL.below B8
        replace B8 := below_then B7 B8
        unfold matV
        have XR := box_new w8 c c (some ⟨gR, 0, none⟩) (c * c) (c * c)
        have B9 : Below w8.heap.size w8 (w8.alloc (.cells #[.int .i64 c, .int .i64 c, .slice (some ⟨gR, 0, none⟩) (c * c) (c * c)] 24)) := (Below.refl _ _).alloc (Nat.le_refl _) _
        generalize hw9 : w8.alloc (.cells #[.int .i64 c, .int .i64 c, .slice (some ⟨gR, 0, none⟩) (c * c) (c * c)] 24) = w9 at XR B9
        replace X3 := X3.below B9
        replace M := M.below B9
        replace FL := FL.below B9
        replace XL := XL.below B9
        replace FR := FR.below B9
        replace B9 := below_then B8 B9
        have q0 := X3.c0
        have q1 := X3.c1
        have q2 := X3.c2
        have q3 := XL.c0
        have q4 := XL.c1
        have q5 := XL.c2
        go_wp2_with fail
        clear hw9 q0 q1 q2 q3 q4 q5
        refine (times_any r r c gL 0 (r * r) (r * r) g1 0 (r * c) k1 (unitN r) Z w9 ⟨r1, r2, r1, r2, rfl, FL.fit, FL.max, FL.rowAt⟩ M).mono ?_
        rintro e w10 ⟨gA, rfl, FA, B10⟩
        replace X3 := X3.below B10
        replace M := M.below B10
        replace FL := FL.below B10
        replace XL := XL.below B10
        replace FR := FR.below B10
        replace XR := XR.below B10
        replace B10 := below_then B9 B10
        unfold matV
        rw [unit_left Z r c HL.out sZ HB.out] at FA
        clear FL XL
        have XA := box_new w10 r c (some ⟨gA, 0, none⟩) (r * c) (r * c)
        have B11 : Below w10.heap.size w10 (w10.alloc (.cells #[.int .i64 r, .int .i64 c, .slice (some ⟨gA, 0, none⟩) (r * c) (r * c)] 24)) := (Below.refl _ _).alloc (Nat.le_refl _) _
        generalize hw11 : w10.alloc (.cells #[.int .i64 r, .int .i64 c, .slice (some ⟨gA, 0, none⟩) (r * c) (r * c)] 24) = w11 at XA B11
        replace X3 := X3.below B11
        replace M := M.below B11
        replace FR := FR.below B11
        replace XR := XR.below B11
        replace FA := FA.below B11
        replace B11 := below_then B10 B11
        have q0 := X3.c0
        have q1 := X3.c1
        have q2 := X3.c2
        have q3 := XR.c0
        have q4 := XR.c1
        have q5 := XR.c2
        go_wp2_with fail
        clear hw11 q0 q1 q2 q3 q4 q5
        refine (times_any r c c g1 0 (r * c) k1 gR 0 (c * c) (c * c) Z (unitN c) w11 M ⟨k1', k2', k1', k2', rfl, FR.fit, FR.max, FR.rowAt⟩).mono ?_
        rintro e w12 ⟨gB, rfl, FB, B12⟩
        replace X3 := X3.below B12
        replace M := M.below B12
        replace FR := FR.below B12
        replace XR := XR.below B12
        replace FA := FA.below B12
        replace XA := XA.below B12
        replace B12 := below_then B11 B12
        unfold matV
        rw [unit_right Z r c HL.out sZ HB.out] at FB
        have XB := box_new w12 r c (some ⟨gB, 0, none⟩) (r * c) (r * c)
        have B13 : Below w12.heap.size w12 (w12.alloc (.cells #[.int .i64 r, .int .i64 c, .slice (some ⟨gB, 0, none⟩) (r * c) (r * c)] 24)) := (Below.refl _ _).alloc (Nat.le_refl _) _
        generalize hw13 : w12.alloc (.cells #[.int .i64 r, .int .i64 c, .slice (some ⟨gB, 0, none⟩) (r * c) (r * c)] 24) = w13 at XB B13
        replace X3 := X3.below B13
        replace M := M.below B13
        replace FR := FR.below B13
        replace XR := XR.below B13
        replace FA := FA.below B13
        replace XA := XA.below B13
        replace FB := FB.below B13
        replace B13 := below_then B12 B13
        have q0 := X3.c0
        have q1 := X3.c1
        have q2 := X3.c2
        go_wp2_with fail
        clear hw13 q0 q1 q2
        refine (turn_any r c g1 0 (r * c) k1 Z w13 M).mono ?_
        rintro e w14 ⟨gT, rfl, FT, B14⟩
        replace X3 := X3.below B14
        replace M := M.below B14
        replace FR := FR.below B14
        replace XR := XR.below B14
        replace FA := FA.below B14
        replace XA := XA.below B14
        replace FB := FB.below B14
        replace XB := XB.below B14
        replace B14 := below_then B13 B14
        unfold matV
        have XT := box_new w14 c r (some ⟨gT, 0, none⟩) (c * r) (c * r)
        have B15 : Below w14.heap.size w14 (w14.alloc (.cells #[.int .i64 c, .int .i64 r, .slice (some ⟨gT, 0, none⟩) (c * r) (c * r)] 24)) := (Below.refl _ _).alloc (Nat.le_refl _) _
        generalize hw15 : w14.alloc (.cells #[.int .i64 c, .int .i64 r, .slice (some ⟨gT, 0, none⟩) (c * r) (c * r)] 24) = w15 at XT B15
        replace X3 := X3.below B15
        replace M := M.below B15
        replace FR := FR.below B15
        replace XR := XR.below B15
        replace FA := FA.below B15
        replace XA := XA.below B15
        replace FB := FB.below B15
        replace XB := XB.below B15
        replace FT := FT.below B15
        replace B15 := below_then B14 B15
        have q0 := XT.c0
        have q1 := XT.c1
        have q2 := XT.c2
        go_wp2_with fail
        clear hw15 q0 q1 q2
        refine (turn_any c r gT 0 (c * r) (c * r) (turnN Z r c) w15 ⟨k1', k2', r1, r2, rfl, FT.fit, FT.max, FT.rowAt⟩).mono ?_
        rintro e w16 ⟨gC, rfl, FC, B16⟩
        replace X3 := X3.below B16
        replace M := M.below B16
        replace FR := FR.below B16
        replace XR := XR.below B16
        replace FA := FA.below B16
        replace XA := XA.below B16
        replace FB := FB.below B16
        replace XB := XB.below B16
        replace FT := FT.below B16
        replace XT := XT.below B16
        replace B16 := below_then B15 B16
        unfold matV
        rw [turn_twice Z r c HL.out] at FC
        have XC := box_new w16 r c (some ⟨gC, 0, none⟩) (r * c) (r * c)
        have B17 : Below w16.heap.size w16 (w16.alloc (.cells #[.int .i64 r, .int .i64 c, .slice (some ⟨gC, 0, none⟩) (r * c) (r * c)] 24)) := (Below.refl _ _).alloc (Nat.le_refl _) _
        generalize hw17 : w16.alloc (.cells #[.int .i64 r, .int .i64 c, .slice (some ⟨gC, 0, none⟩) (r * c) (r * c)] 24) = w17 at XC B17
        replace X3 := X3.below B17
        replace M := M.below B17
        replace FR := FR.below B17
        replace XR := XR.below B17
        replace FA := FA.below B17
        replace XA := XA.below B17
        replace FB := FB.below B17
        replace XB := XB.below B17
        replace FT := FT.below B17
        replace XT := XT.below B17
        replace FC := FC.below B17
        replace B17 := below_then B16 B17
        clear B5 B6 B7 B8 B9 B10 B11 B12 B13 B14 B15 B16
        have q0 := X3.c0
        have q1 := X3.c1
        have q2 := X3.c2
        have q3 := XA.c0
        have q4 := XA.c1
        have q5 := XA.c2
        go_wp2_with fail
        clear hw17 q0 q1 q2 q3 q4 q5
        refine (msame_any r c _ _ (r * c) _ _ Z w17 FA.rowAt M.row).mono ?_
        rintro e w18 ⟨rfl, B18⟩
        replace X3 := X3.below B18
        replace M := M.below B18
        replace FR := FR.below B18
        replace XR := XR.below B18
        replace FA := FA.below B18
        replace XA := XA.below B18
        replace FB := FB.below B18
        replace XB := XB.below B18
        replace FT := FT.below B18
        replace XT := XT.below B18
        replace FC := FC.below B18
        replace XC := XC.below B18
        replace B18 := below_then B17 B18
        clear FA XA
        have q0 := X3.c0
        have q1 := X3.c1
        have q2 := X3.c2
        have q3 := XB.c0
        have q4 := XB.c1
        have q5 := XB.c2
        go_wp2_with fail
        clear q0 q1 q2 q3 q4 q5
        refine (msame_any r c _ _ (r * c) _ _ Z w18 FB.rowAt M.row).mono ?_
        rintro e w19 ⟨rfl, B19⟩
        replace X3 := X3.below B19
        replace M := M.below B19
        replace FR := FR.below B19
        replace XR := XR.below B19
        replace FB := FB.below B19
        replace XB := XB.below B19
        replace FT := FT.below B19
        replace XT := XT.below B19
        replace FC := FC.below B19
        replace XC := XC.below B19
        replace B19 := below_then B18 B19
        clear FB XB
        have q0 := X3.c0
        have q1 := X3.c1
        have q2 := X3.c2
        have q3 := XC.c0
        have q4 := XC.c1
        have q5 := XC.c2
        go_wp2_with fail
        clear q0 q1 q2 q3 q4 q5
        refine (msame_any r c _ _ (r * c) _ _ Z w19 FC.rowAt M.row).mono ?_
        rintro e w20 ⟨rfl, B20⟩
        replace X3 := X3.below B20
        replace M := M.below B20
        replace FR := FR.below B20
        replace XR := XR.below B20
        replace FT := FT.below B20
        replace XT := XT.below B20
        replace FC := FC.below B20
        replace XC := XC.below B20
        replace B20 := below_then B19 B20
        clear FC XC
        have q0 := X3.c0
        have q1 := X3.c1
        have q2 := X3.c2
        have q3 := XR.c0
        have q4 := XR.c1
        have q5 := XR.c2
        rcases (show jj < 0 ∨ (c : Int) ≤ jj ∨ ∃ t : Nat, jj = t ∧ t < c from by
          by_cases h : jj < 0
          · exact Or.inl h
          · by_cases h2 : jj < c
            · exact Or.inr (Or.inr ⟨jj.toNat, by omega, by omega⟩)
            · exact Or.inr (Or.inl (by omega))) with hJ | hJ | ⟨t, rfl, hJ⟩
        · go_wp2_with fail
          refine (mawake_any w20).mono ?_
          rintro e w21 ⟨rfl, B21⟩
          replace B21 := below_then B20 B21
          clear q0 q1 q2 q3 q4 q5
          go_wp2
          go_ret
          exact ⟨rfl, B21⟩
        · go_wp2_with fail
          refine (mawake_any w20).mono ?_
          rintro e w21 ⟨rfl, B21⟩
          replace B21 := below_then B20 B21
          clear q0 q1 q2 q3 q4 q5
          go_wp2
          go_ret
          exact ⟨rfl, B21⟩
        · go_wp2_with fail
          clear q0 q1 q2 q3 q4 q5
          refine (row_any c c gR 0 (c * c) (c * c) (unitN c) t w20 ⟨k1', k2', k1', k2', rfl, FR.fit, FR.max, FR.rowAt⟩ hJ).mono ?_
          rintro e w21 ⟨g21, k21, rfl, F21, B21⟩
          replace X3 := X3.below B21
          replace M := M.below B21
          replace FR := FR.below B21
          replace XR := XR.below B21
          replace FT := FT.below B21
          replace XT := XT.below B21
          replace B21 := below_then B20 B21
          clear FR XR
          have q0 := X3.c0
          have q1 := X3.c1
          have q2 := X3.c2
          go_wp2_with fail
          clear q0 q1 q2
          refine (apply_any r c g1 0 (r * c) k1 Z _ _ _ w21 M F21.rowAt).mono ?_
          rintro e w22 ⟨g22, rfl, F22, B22⟩
          replace X3 := X3.below B22
          replace M := M.below B22
          replace FT := FT.below B22
          replace XT := XT.below B22
          replace F21 := F21.below B22
          replace B22 := below_then B21 B22
          have q0 := XT.c0
          have q1 := XT.c1
          have q2 := XT.c2
          go_wp2_with fail
          clear q0 q1 q2
          refine (row_any c r gT 0 (c * r) (c * r) (turnN Z r c) t w22 ⟨k1', k2', r1, r2, rfl, FT.fit, FT.max, FT.rowAt⟩ hJ).mono ?_
          rintro e w23 ⟨g23, k23, rfl, F23, B23⟩
          replace X3 := X3.below B23
          replace M := M.below B23
          replace FT := FT.below B23
          replace XT := XT.below B23
          replace F21 := F21.below B23
          replace F22 := F22.below B23
          replace B23 := below_then B22 B23
          rw [unit_apply Z r c t sZ HB.out hJ] at F22
          go_wp2_with fail
          refine (mawake_any w23).mono ?_
          rintro e w24 ⟨rfl, B24⟩
          replace X3 := X3.below B24
          replace M := M.below B24
          replace FT := FT.below B24
          replace XT := XT.below B24
          replace F21 := F21.below B24
          replace F22 := F22.below B24
          replace F23 := F23.below B24
          replace B24 := below_then B23 B24
          go_wp2_with fail
          refine (same_any _ _ r _ _ _ w24 F22.rowAt F23.rowAt).mono ?_
          rintro e w25 ⟨rfl, m25, rfl⟩
          go_wp2
          go_ret
          exact ⟨rfl, below_drewN B24 m25⟩
  · have hk' : (chkN r c n1 == 0) = false := by simpa using hk
    generalize chkN r c n1 = q at *
    go_wp2_with fail
    refine (mawake_any w4).mono ?_
    rintro e w5 ⟨rfl, B5⟩
    replace B5 := below_then B4 B5
    go_wp2
    go_ret
    exact ⟨rfl, B5⟩
end Go.Proofs.Ythbkibcdcnpaoab
