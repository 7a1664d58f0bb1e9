/- The walk of VecJoined: at every four rows the law returns true, and what was there stays. -/
import Derived.Test.YthbkibcdcnpaoaaVecJ
namespace Go.Proofs.Ythbkibcdcnpaoaa
open Go.ChangeShapes Go.WideShapes Go.ChangeAt Go.RowKit
set_option maxHeartbeats 1000000 in
theorem vecJoined_walk (ao : Option Addr) (n ca : Nat) (A : List Int) (bo : Option Addr) (m cb : Nat) (B : List Int) (co : Option Addr) (n' cc : Nat) (C : List Int) (d : Option Addr) (m' cd : Nat) (D : List Int) (w : World)
    (hA : Arg w ao n ca A) (hB : Arg w bo m cb B) (hC : Arg w co n' cc C) (hD : Arg w d m' cd D) :
    Calls Try.prog 6 #[.slice ao n ca, .slice bo m cb, .slice co n' cc, .slice d m' cd] w fun e w' => e = .returned (.bool true) ∧ Below w.heap.size w w' := by
  have hn := hA.row.max
  have hm := hB.row.max
  have hn' := hC.row.max
  have hm' := hD.row.max
  go_enter Try.func6, Try.ntmps6
  go_wp2_with (first
    | (refine wpList_min3 rfl (.tmp 26) (.tmp 28) _ rfl n m 100 100 rfl rfl rfl rfl ?_; intro N hN1 hN2 hN3)
    | (refine wpList_min3 rfl (.tmp 31) (.tmp 33) _ rfl n' m' 100 100 rfl rfl rfl rfl ?_; intro M hM1 hM2 hM3))
  refine (small_any ao n ca A N _ (by exact hA.row) hN1 (by omega)).mono ?_
  rintro e w1 ⟨g1, c1, X, rfl, F1, T1, B1⟩
  replace hB := hB.below B1
  replace hC := hC.below B1
  replace hD := hD.below B1
  go_wp2_with fail
  refine (small_any bo m cb B N _ (by exact hB.row) hN2 (by omega)).mono ?_
  rintro e w2 ⟨g2, c2, Y, rfl, F2, T2, B2⟩
  replace hC := hC.below B2
  replace hD := hD.below B2
  replace F1 := F1.below B2
  replace B2 := below_then B1 B2
  go_wp2_with fail
  refine (small_any co n' cc C M _ (by exact hC.row) hM1 (by omega)).mono ?_
  rintro e w3 ⟨g3, c3, Z, rfl, F3, T3, B3⟩
  replace hD := hD.below B3
  replace F1 := F1.below B3
  replace F2 := F2.below B3
  replace B3 := below_then B2 B3
  go_wp2_with fail
  refine (small_any d m' cd D M _ (by exact hD.row) hM2 (by omega)).mono ?_
  rintro e w4 ⟨g4, c4, V, rfl, F4, T4, B4⟩
  replace F1 := F1.below B4
  replace F2 := F2.below B4
  replace F3 := F3.below B4
  replace B4 := below_then B3 B4
  clear B1 B2 B3 hA hB hC hD hN1 hN2 hM1 hM2 hn hm hn' hm'
  go_wp2_with fail
  refine (dot_any _ _ N _ _ X Y _ (by exact F1.rowAt) (by exact F2.rowAt) (by omega)).mono ?_
  rintro e w5 ⟨rfl, m5, hw5⟩
  have B5 : Below w4.heap.size w4 w5 := hw5 ▸ below_drewN (Below.refl _ _) m5
  clear hw5
  replace F1 := F1.below B5
  replace F2 := F2.below B5
  replace F3 := F3.below B5
  replace F4 := F4.below B5
  replace B5 := below_then B4 B5
  go_wp2_with fail
  refine (dot_any _ _ M _ _ Z V _ (by exact F3.rowAt) (by exact F4.rowAt) (by omega)).mono ?_
  rintro e w6 ⟨rfl, m6, hw6⟩
  have B6 : Below w5.heap.size w5 w6 := hw6 ▸ below_drewN (Below.refl _ _) m6
  clear hw6
  replace F1 := F1.below B6
  replace F2 := F2.below B6
  replace F3 := F3.below B6
  replace F4 := F4.below B6
  replace B6 := below_then B5 B6
  clear B4 B5
  have i1 := F1.lt
  have i2 := F2.lt
  have i3 := F3.lt
  have i4 := F4.lt
  have s6 := B6.size
  go_wp2_with fail
  refine (few_any _ N _ X N N _ rfl (by exact F1.arg) (by omega)).mono ?_
  rintro e w7 ⟨g7, n7, c7, rfl, l7, F7, B7⟩
  rw [List.take_of_length_le (by rw [F1.len]; omega)] at F7
  obtain rfl : n7 = N := by rw [← F7.len, F1.len]
  clear l7
  have s7 := B7.size
  replace F1 := F1.below B7
  replace F2 := F2.below B7
  replace F3 := F3.below B7
  replace F4 := F4.below B7
  replace B7 := below_then B6 B7
  go_wp2_with (at_builtin; refine wpList_append_row rfl _ _ rfl w6.heap.size g7 n7 c7 X rfl (by exact F7) (some ⟨g3, 0, none⟩) M c3 Z rfl (by exact F3.rowAt) (fun h => by cases h) (by omega) (by exact s7) ?_; intro g8 c8 w8 F8 B8)
  have s8 := B8.size
  have i8 := F8.lt
  replace F1 := F1.belowAt B8 i1
  replace F2 := F2.belowAt B8 i2
  replace F4 := F4.belowAt B8 i4
  replace B8 := B7.trans (B8.mono s6)
  clear F7 F3
  refine (few_any _ n7 _ Y n7 n7 _ rfl (by exact F2.arg) (by omega)).mono ?_
  rintro e w9 ⟨g9, n9, c9, rfl, l9, F9, B9⟩
  rw [List.take_of_length_le (by rw [F2.len]; omega)] at F9
  obtain rfl : n9 = n7 := by rw [← F9.len, F2.len]
  clear l9
  have s9 := B9.size
  replace F1 := F1.below B9
  replace F2 := F2.below B9
  replace F4 := F4.below B9
  replace F8 := F8.below B9
  replace B9 := below_then B8 B9
  go_wp2_with (at_builtin; refine wpList_append_row rfl _ _ rfl w8.heap.size g9 n9 c9 Y rfl (by exact F9) (some ⟨g4, 0, none⟩) M c4 V rfl (by exact F4.rowAt) (fun h => by cases h) (by omega) (by exact s9) ?_; intro g10 c10 w10 F10 B10)
  replace F1 := F1.belowAt B10 (by omega)
  replace F8 := F8.belowAt B10 i8
  replace B10 := B9.trans (B10.mono (by omega))
  have lX := F1.len
  have lY := F2.len
  refine (dot_any _ _ (n9 + M) _ _ (X ++ Z) (Y ++ V) _ (by exact F8.rowAt) (by exact F10.rowAt) (by omega)).mono ?_
  rintro e w11 ⟨rfl, m11, hw11⟩
  have B11 : Below w10.heap.size w10 w11 := hw11 ▸ below_drewN (Below.refl _ _) m11
  clear hw11
  replace F1 := F1.below B11
  replace B11 := below_then B10 B11
  have HJ := joined_near X Y Z V n9 M lX lY T1 T2 T3 T4 hN3 hM3
  have b1 := dotN_bd X Y n9
  have b2 := dotN_bd Z V M
  have b3 := dotN_bd (X ++ Z) (Y ++ V) (n9 + M)
  clear F2 F4 F8 F9 F10 B6 B7 B8 B9 B10 T2 T3 T4 lY i1 i2 i3 i4 i8 s6 s7 s8 s9
  generalize dotN X Y n9 = p at *
  generalize dotN Z V M = q at *
  generalize dotN (X ++ Z) (Y ++ V) (n9 + M) = r at *
  go_wp2_with fail
  refine (argmax_any _ n9 _ X _ (by exact F1.rowAt)).mono ?_
  rintro e w12 ⟨rfl, rfl⟩
  obtain ⟨am0, am1, am2⟩ := amax_spec X n9
  have am3 := amax_bd X n9
  generalize amax X n9 = a at *
  go_wp2_with fail
  go_loopg [95] n9 (fun r i wr => ∃ k : Nat, k ≤ n9 ∧ r = n9 - k ∧ i = .int .i64 k ∧ wr = w12)
  case atStart => exact ⟨0, by omega, by omega, rfl, rfl⟩
  case round =>
    obtain ⟨k, hk, rfl, rfl, rfl⟩ := hrel
    by_cases hlt : k < n9
    · have q1 := F1.cell hlt
      have a0 := am0 (by omega)
      obtain ⟨t, rfl⟩ : ∃ t : Nat, a = t := ⟨a.toNat, by omega⟩
      rw [Int.toNat_natCast] at am1 am2
      have q2 := F1.cell (t := t) (by omega)
      have h1 := am1 k hlt
      have ht : t < n9 := by omega
      by_cases hkt : k < t
      · have h2 := am2 k (by omega)
        have h3 : (el X k == el X t) = false := by simp; omega
        clear am0 am1 am2 F1
        generalize el X k = x at *
        generalize el X t = y at *
        go_wp2
        go_roundg (n9 - (k + 1))
        case measure => omega
        case rel => exact ⟨k + 1, by omega, rfl, by go_num, rfl⟩
      · clear am0 am1 am2 F1
        generalize el X k = x at *
        generalize el X t = y at *
        go_wp2
        go_roundg (n9 - (k + 1))
        case measure => omega
        case rel => exact ⟨k + 1, by omega, rfl, by go_num, rfl⟩
    · clear am0 am1 am2
      go_wp2_with fail
      refine (vawake_any _).mono ?_
      rintro e w13 ⟨rfl, B13⟩
      replace B13 := below_then B11 B13
      go_wp2
      go_ret
      exact ⟨rfl, B13⟩
end Go.Proofs.Ythbkibcdcnpaoaa
