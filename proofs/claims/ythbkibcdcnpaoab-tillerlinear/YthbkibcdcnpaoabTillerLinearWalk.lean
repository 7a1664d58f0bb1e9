/- The walk of TillerLinear: at every matrix and row the law returns true, and what was there stays. -/
import Derived.Test.YthbkibcdcnpaoabMatT2
namespace Go.Proofs.Ythbkibcdcnpaoab
open Go.ChangeShapes Go.WideShapes Go.ChangeAt Go.RowKit
theorem col_one (V : List Int) (c : Nat) (h : V.length = c) : colN V c 1 0 = V := by
  unfold colN
  rw [tab_congr (g := el V) (fun k _ => by rw [Nat.mul_one, Nat.add_zero]), tab_el h]
theorem prod_one (A V : List Int) (r c i : Nat) (h : V.length = c) (hi : i < r) : el (prodN A V r c 1) i = dotN (rowN A c i) V c := by
  have e : el (prodN A V r c 1) i = prodF A V c 1 i := el_tab (by omega)
  have e2 := prodF_at A V c 1 i 0 (by omega)
  rw [Nat.mul_one, Nat.add_zero, col_one V c h] at e2
  rw [e, e2]
set_option maxHeartbeats 1600000 in
set_option maxRecDepth 100000 in
theorem tillerLinear_walk (r c : Int) (ao : Option Addr) (n ca : Nat) (D : List Int) (vo : Option Addr) (m cv : Nat) (V : List Int) (w : World)
    (hr : -9223372036854775808 ≤ r ∧ r ≤ 9223372036854775807) (hc : -9223372036854775808 ≤ c ∧ c ≤ 9223372036854775807) (hD : Arg w ao n ca D) (hV : Arg w vo m cv V) :
    Calls Try.prog 7 #[matV r c ao n ca, .slice vo m cv] w fun e w' => e = .returned (.bool true) ∧ Below w.heap.size w w' := by
  have X0 := box_new w r c ao n ca
  have B0 : Below w.heap.size w (w.alloc (.cells #[.int .i64 r, .int .i64 c, .slice ao n ca] 24)) := (Below.refl _ _).alloc (Nat.le_refl _) _
  generalize hw0 : w.alloc (.cells #[.int .i64 r, .int .i64 c, .slice ao n ca] 24) = w0 at X0 B0
  have hs0 : w0.heap.size = w.heap.size + 1 := by rw [← hw0]; simp
  have F1 : Fresh (w0.alloc (.cells #[.int .i32 65536, .int .i32 32768] 33)) w0.heap.size w0.heap.size 2 2 [65536, 32768] := fresh_lit w0 [65536, 32768] (by unfold Small; decide) (by decide)
  have B1 : Below w0.heap.size w0 (w0.alloc (.cells #[.int .i32 65536, .int .i32 32768] 33)) := (Below.refl _ _).alloc (Nat.le_refl _) _
  generalize hw1 : w0.alloc (.cells #[.int .i32 65536, .int .i32 32768] 33) = w1 at F1 B1
  have hs1 : w1.heap.size = w.heap.size + 2 := by rw [← hw1]; simp [hs0]
  have F2 : Fresh (w1.alloc (.cells #[.int .i32 65536, .int .i32 65536] 33)) w1.heap.size w1.heap.size 2 2 [65536, 65536] := fresh_lit w1 [65536, 65536] (by unfold Small; decide) (by decide)
  have B2 : Below w1.heap.size w1 (w1.alloc (.cells #[.int .i32 65536, .int .i32 65536] 33)) := (Below.refl _ _).alloc (Nat.le_refl _) _
  generalize hw2 : w1.alloc (.cells #[.int .i32 65536, .int .i32 65536] 33) = w2 at F2 B2
  replace F1 := F1.below B2
  replace X0 := (X0.below B1).below B2
  replace B2 := below_then (below_then B0 B1) B2
  rw [hs0] at F1
  rw [hs1] at F2
  clear B0 B1
  go_enter Try.func7, Try.ntmps7
  unfold matV
  go_wp2_with fail
  clear hw0 hw1 hw2
  refine (dot_any _ _ 2 2 2 _ _ w2 F1.rowAt F2.rowAt (by omega)).mono ?_
  rintro e w3 ⟨rfl, m3, hw3⟩
  rw [dot_lit]
  have B3 : Below w2.heap.size w2 w3 := hw3 ▸ below_drewN (Below.refl _ _) m3
  clear hw3 F1 F2 hs0 hs1
  replace X0 := X0.below B3
  replace B3 := below_then B2 B3
  clear B2
  have q0 := X0.c0
  have q1 := X0.c1
  have q2 := X0.c2
  have i0 := X0.lt
  go_wp2_with fail
  refine (mfew_any r c ao n ca D w3 (hD.below B3)).mono ?_
  rintro e w4 ⟨g1, n1, c1, D1, rfl, l1, F1, B4⟩
  unfold matV
  clear hD q0 q1 q2
  have j1 := F1.base
  have s1 := B4.size
  replace X0 := X0.below B4
  replace B4 := below_then B3 B4
  go_wp2_with fail
  refine (few_any vo m cv V 200 200 _ rfl (by exact hV.below B4) (by omega)).mono ?_
  rintro e w5 ⟨g2, n2, c2, rfl, l2, F2, B5⟩
  generalize V.take 200 = V' at *
  have j2 := F2.base
  replace X0 := X0.below B5
  replace F1 := F1.below B5
  replace B5 := below_then B4 B5
  clear hV B3 B4
  have q0 := X0.c0
  have q1 := X0.c1
  have q2 := X0.c2
  have f0 := X0.frozen 0
  have f1 := X0.frozen 1
  have f2 := X0.frozen 2
  have X3 := X0.put r c (some ⟨g1, 0, none⟩) n1 c1
  have F1' := F1.put (k := w.heap.size) (by omega) (.int .i64 r) (.int .i64 c) (.slice (some ⟨g1, 0, none⟩) n1 c1)
  have F2' := F2.put (k := w.heap.size) (by omega) (.int .i64 r) (.int .i64 c) (.slice (some ⟨g1, 0, none⟩) n1 c1)
  have B6 := Below.put B5 (g := w.heap.size) (by omega) (.int .i64 r) (.int .i64 c) (.slice (some ⟨g1, 0, none⟩) n1 c1)
  generalize hw6 : ((w5.setCell ⟨w.heap.size, 0, none⟩ (.int .i64 r)).setCell ⟨w.heap.size, 1, none⟩ (.int .i64 c)).setCell ⟨w.heap.size, 2, none⟩ (.slice (some ⟨g1, 0, none⟩) n1 c1) = w6 at X3 F1' F2' B6
  have p0 := X3.c0
  have p1 := X3.c1
  have p2 := X3.c2
  go_wp2_with fail
  clear hw6 X0 F1 F2 B5 q0 q1 q2 f0 f1 f2
  by_cases hk : chkN r c n1 = 0
  · obtain ⟨r, c, rfl, rfl, r1, r2, k1, k2, hsz⟩ := chk_zero hk
    have M : MatAt w6 r c g1 0 n1 c1 D1 := ⟨r1, r2, k1, k2, hsz, F1'.fit, F1'.max, F1'.rowAt⟩
    clear hk hsz F1' hr hc
    rcases Decidable.em (c = n2) with rfl | hv
    · have lV := F2'.len
      refine (apply_any r c g1 0 n1 c1 D1 _ _ V' w6 M F2'.rowAt).mono ?_
      rintro e w7 ⟨g7, rfl, F7, B7⟩
      replace X3 := X3.below B7
      replace M := M.below B7
      replace F2 := F2'.below B7
      replace B7 := below_then B6 B7
      clear p0 p1 p2 F2' B6
      have p0 := X3.c0
      have p1 := X3.c1
      have p2 := X3.c2
      go_wp2_with fail
      have MV : MatAt w7 c 1 g2 0 c c2 V' := ⟨k1, k2, by omega, by omega, (Nat.mul_one c).symm, F2.fit, F2.max, F2.rowAt⟩
      have CT := times_any r c 1 g1 0 n1 c1 g2 0 c c2 D1 V' w7 M MV
      rw [Nat.mul_one] at CT
      refine CT.mono ?_
      rintro e w8 ⟨g8, rfl, F8, B8⟩
      unfold matV
      clear CT MV
      replace X3 := X3.below B8
      replace M := M.below B8
      replace F2 := F2.below B8
      replace F7 := F7.below B8
      replace B8 := below_then B7 B8
      have X9 := box_new w8 r 1 (some ⟨g8, 0, none⟩) r r
      have B9 : Below w8.heap.size w8 (w8.alloc (.cells #[.int .i64 r, .int .i64 1, .slice (some ⟨g8, 0, none⟩) r r] 24)) := (Below.refl _ _).alloc (Nat.le_refl _) _
      generalize hw9 : w8.alloc (.cells #[.int .i64 r, .int .i64 1, .slice (some ⟨g8, 0, none⟩) r r] 24) = w9 at X9 B9
      replace X3 := X3.below B9
      replace M := M.below B9
      replace F2 := F2.below B9
      replace F7 := F7.below B9
      replace F8 := F8.below B9
      replace B9 := below_then B8 B9
      clear p0 p1 p2 B7 B8
      have p0 := X3.c0
      have z1 := X9.c1
      have z2 := X9.c2
      go_wp2_with fail
      clear hw9 p0 z1 z2
      go_loopg [77] r (fun k0 ii wr => ∃ i : Nat, i ≤ r ∧ k0 = r - i ∧ ii = .int .i64 i ∧ Below w9.heap.size w9 wr)
      case atStart => exact ⟨0, by omega, by omega, rfl, Below.refl _ _⟩
      case round =>
        obtain ⟨i, hi, rfl, rfl, B10⟩ := hrel
        replace X3 := X3.below B10
        replace X9 := X9.below B10
        replace M := M.below B10
        replace F2 := F2.below B10
        replace F7 := F7.below B10
        replace F8 := F8.below B10
        have B11 := below_then B9 B10
        by_cases hlt : i < r
        · have p0 := X3.c0
          have p1 := X3.c1
          have p2 := X3.c2
          have a7 := F7.cell hlt
          rw [el_tab hlt] at a7
          go_wp2_with fail
          refine (row_any r c g1 0 n1 c1 D1 i wr M hlt).mono ?_
          rintro e w12 ⟨g12, c12, rfl, F12, B12⟩
          clear p0 p1 p2 a7
          replace X9 := X9.below B12
          replace F2 := F2.below B12
          replace F8 := F8.below B12
          replace B12 := below_then B10 B12
          go_wp2_with fail
          refine (dot_any _ _ c _ _ (rowN D1 c i) V' w12 F12.rowAt F2.rowAt (by omega)).mono ?_
          rintro e w13 ⟨rfl, m13, hw13⟩
          have B13 : Below w12.heap.size w12 w13 := hw13 ▸ below_drewN (Below.refl _ _) m13
          clear hw13
          replace X9 := X9.below B13
          replace F8 := F8.below B13
          replace B13 := below_then B12 B13
          have a8 := F8.cell hlt
          rw [prod_one D1 V' r c i lV hlt] at a8
          have z2 := X9.c2
          clear F8 F12 F2 F7 M X3 X9 B10 B11 B12
          generalize dotN (rowN D1 c i) V' c = y at *
          go_wp2
          go_roundg (r - (i + 1))
          case measure => omega
          case rel => exact ⟨i + 1, by omega, rfl, by go_num, B13⟩
        · go_wp2
          go_ret
          exact ⟨rfl, B11⟩
    · refine (apply_len r c g1 0 n1 c1 D1 _ n2 _ w6 M (fun e => hv e.symm)).mono ?_
      rintro e w7 ⟨rfl, B7⟩
      replace B7 := below_then B6 B7
      go_wp2
      go_ret
      exact ⟨rfl, B7⟩
  · have hk' : (chkN r c n1 == 0) = false := by simpa using hk
    refine (apply_bad r c _ n1 c1 _ w6 hr hc hk).mono ?_
    rintro e w7 ⟨rfl, B7⟩
    replace B7 := below_then B6 B7
    generalize chkN r c n1 = q at *
    go_wp2
    go_ret
    exact ⟨rfl, B7⟩
end Go.Proofs.Ythbkibcdcnpaoab
