/- The Go text of HeadsTurns returns true at every input, where the table of steps lies as the program's text lays it. -/
import Derived.Test.YtjcacejkiaepnaaDoorHSwap
import Derived.Test.YtjcacejkiaepnaaDoorHRows
import Derived.Test.YtjcacejkiaepnaaDoorHAwake
namespace Go.Proofs.YtjcacejkiaepnaaDoor
open Go.ChangeShapes Go.WideShapes Go.ChangeAt Go.RowKit
theorem rowsN_rowsN (R : List (List Int)) : rowsN (rowsN R 60) 60 = rowsN R 60 := by
  unfold rowsN
  rw [← List.map_take, List.take_take, List.map_map, Nat.min_self]
  congr 1
  funext x
  simp [List.take_take]
set_option maxRecDepth 100000 in
set_option maxHeartbeats 3200000 in
theorem headsTurns_walk (ao : Option Addr) (n0 ca : Nat) (Z : List Int) (ko : Option Addr) (nk ck : Nat) (Y : List (List Int)) (vo : Option Addr) (nv cv : Nat) (X : List (List Int)) (h i j : Int) (w : World) (hA : Arg w ao n0 ca Z) (hK : GridAt w ko nk Y) (hV : GridAt w vo nv X) (bh : -9223372036854775808 ≤ h ∧ h ≤ 9223372036854775807) (bi : -9223372036854775808 ≤ i ∧ i ≤ 9223372036854775807) (bj : -9223372036854775808 ≤ j ∧ j ≤ 9223372036854775807) (hT : Tab w) :
    Calls Tryd.prog 7 #[.slice ao n0 ca, .slice ko nk ck, .slice vo nv cv, .int .i64 h, .int .i64 i, .int .i64 j] w fun e w' => e = .returned (.bool true) ∧ Below w.heap.size w w' := by
  have T0 := hT
  go_enter Tryd.func7, Tryd.ntmps7
  go_wp2_with fail
  refine (few_any _ _ _ _ 32 _ _ rfl hA (by omega)).mono ?_
  rintro e w1 ⟨g, n, cap, rfl, hn, F1, B1⟩
  replace hT := hT.next B1
  replace hK := hK.below B1
  replace hV := hV.below B1
  clear hA
  go_wp2_with fail
  refine (hrows_any _ _ _ _ 60 _ _ rfl hK (by omega)).mono ?_
  rintro e w2 ⟨gk, m, kk, rfl, hm, O2, B2⟩
  replace hT := hT.next B2
  replace F1 := F1.below B2
  replace hV := hV.below B2
  replace B2 := below_then B1 B2
  clear hK B1
  go_wp2_with fail
  refine (hrows_any _ _ _ _ 60 _ _ rfl hV (by omega)).mono ?_
  rintro e w3 ⟨gv, mv, kv, rfl, hmv, O3, B3⟩
  replace hT := hT.next B3
  replace F1 := F1.below B3
  replace O2 := O2.below B3
  replace B3 := below_then B2 B3
  clear hV B2
  have GK := O2.grid (by omega)
  have GV := O3.grid (by omega)
  clear O2 O3
  generalize Z.take 32 = Q at *
  have rK := rowsN_rowsN Y
  have rV := rowsN_rowsN X
  generalize rowsN Y 60 = K at *
  generalize rowsN X 60 = V at *
  by_cases hf : chkN n m mv K V h = 0
  · have ok := chkN_ok hf
    obtain ⟨-, hn2, hm2, -, rfl, hlk, hlv⟩ := ok
    go_wp2_with fail
    refine (attend_any _ _ _ _ _ _ _ _ _ _ _ _ _ _ hT F1.arg GK GV hf).mono ?_
    rintro e w4 ⟨g4, c4, rfl, F4, B4⟩
    replace hT := hT.next B4
    replace F1 := F1.below B4
    replace GK := GK.below B4
    replace GV := GV.below B4
    replace B4 := below_then B3 B4
    clear B3
    by_cases hin : 0 ≤ i ∧ 0 ≤ j ∧ i < mv ∧ j < mv
    · obtain ⟨I, rfl⟩ : ∃ I : Nat, i = I := ⟨i.toNat, by omega⟩
      obtain ⟨J, rfl⟩ : ∃ J : Nat, j = J := ⟨j.toNat, by omega⟩
      obtain ⟨-, -, hI, hJ⟩ := hin
      replace hI : I < mv := by omega
      replace hJ : J < mv := by omega
      have sV : ∀ i, i < mv → Small (rowOf V i) := fun i hi => by
        obtain ⟨b, o, e, hc⟩ := GV.cells (by omega)
        obtain ⟨ro, m1, c1, q1, A1⟩ := hc i hi
        exact A1.row.small
      have HE : Hid (tab n (attEl Q (swapR K I J) (swapR V I J) mv (n / h.toNat)) = tab n (attEl Q K V mv (n / h.toNat))) := tab_congr fun t _ => att_swap Q K V mv _ t I J hm2.1 hI hJ GK.len GV.len sV
      have hf2 := chk_swap hf hI hJ GK.len GV.len
      have c1 : ¬ (I : Int) < 0 := by omega
      have c2 : ¬ (J : Int) < 0 := by omega
      clear sV hf
      have lt1 := F1.lt
      have lt4 := F4.lt
      go_wp2_with fail
      refine (hrows_any _ _ _ _ 60 _ _ rfl GK (by omega)).mono ?_
      rintro e w5 ⟨gk5, m5, k5, rfl, hm5, O5, B5⟩
      replace hT := hT.next B5
      replace F1 := F1.below B5
      replace F4 := F4.below B5
      replace GV := GV.below B5
      have B4s := B4.size
      have hw45 := B5.size
      replace B5 := below_then B4 B5
      have lenK := GK.len
      clear GK B4
      rw [rK] at O5
      go_wp2_with fail
      refine (hrows_any _ _ _ _ 60 _ _ rfl GV (by omega)).mono ?_
      rintro e w6 ⟨gv6, m6, k6, rfl, hm6, O6, B6⟩
      rw [rV] at O6
      obtain rfl : m5 = mv := by rw [← O5.len, lenK]
      obtain rfl : m6 = m5 := by rw [← O6.len]; exact GV.len
      have R5 := (O5.gr).below B6
      have R6 := O6.gr
      have b5 := O5.base
      have b6 := O6.base
      have l5 := O5.gr.lt
      have s4 := B4s
      have s5 := B5.size
      replace hT := hT.next B6
      replace F1 := F1.below B6
      replace F4 := F4.below B6
      have f4 := F4.lt
      have f1 := F1.lt
      replace B6 := below_then B5 B6
      have h45 := hw45
      clear GV B5 O5 O6 rK rV
      go_upto_region 6 with fail
      go_cut [] from 19 (fun wc => Gr wc gk5 m6 (swapR K I J) ∧ Gr wc gv6 m6 V ∧ Fresh wc w.heap.size g n cap Q ∧ Fresh wc w3.heap.size g4 n c4 (tab n (attEl Q K V m6 (n / h.toNat))) ∧ Below w.heap.size w wc)
      case first =>
        obtain ⟨bI, mI, cI, qI, FI⟩ := R5.cell hI
        obtain ⟨bJ, mJ, cJ, qJ, FJ⟩ := R5.cell hJ
        have z1 := R5.frozen I
        have z2 := R5.frozen J
        have SW := R5.swap hI hJ FI FJ
        have SO := ((R6.other (i := I) R5 (by omega) (.slice (some ⟨bJ, 0, none⟩) mJ cJ))).other (i := J) (R5.set hI FJ) (by omega) (.slice (some ⟨bI, 0, none⟩) mI cI)
        obtain ⟨b7, m7, c7, z3, -⟩ := (R5.set hI FJ).cell hJ
        have z4 := (R5.set hI FJ).frozen J
        go_region
        all_goals
          go_wp2_with fail
          go_meet
          case rel => exact ⟨SW.below (Below.refl _ _).drew, SO.below (Below.refl _ _).drew, ((F1.setOther (show g ≠ gk5 by omega) _).setOther (show g ≠ gk5 by omega) _).drew, ((F4.setOther (show g4 ≠ gk5 by omega) _).setOther (show g4 ≠ gk5 by omega) _).drew, ((B6.setCell (show w.heap.size ≤ gk5 by omega) _).setCell (show w.heap.size ≤ gk5 by omega) _).drew⟩
      case rest =>
        obtain ⟨R7, R8, F7, F8, B7⟩ := hcut
        generalize wc = w7 at *
        clear R5 R6 F1 F4 B6 hT
        go_upto_region 7 with fail
        go_cut [] from 19 (fun wc => Gr wc gk5 m6 (swapR K I J) ∧ Gr wc gv6 m6 (swapR V I J) ∧ Fresh wc w.heap.size g n cap Q ∧ Fresh wc w3.heap.size g4 n c4 (tab n (attEl Q K V m6 (n / h.toNat))) ∧ Below w.heap.size w wc)
        case first =>
          obtain ⟨bI, mI, cI, qI, FI⟩ := R8.cell hI
          obtain ⟨bJ, mJ, cJ, qJ, FJ⟩ := R8.cell hJ
          have z1 := R8.frozen I
          have z2 := R8.frozen J
          have SW := R8.swap hI hJ FI FJ
          have SO := ((R7.other (i := I) R8 (by omega) (.slice (some ⟨bJ, 0, none⟩) mJ cJ))).other (i := J) (R8.set hI FJ) (by omega) (.slice (some ⟨bI, 0, none⟩) mI cI)
          obtain ⟨b7, m7, c7, z3, -⟩ := (R8.set hI FJ).cell hJ
          have z4 := (R8.set hI FJ).frozen J
          go_region
          all_goals
            go_wp2_with fail
            go_meet
            case rel => exact ⟨SO.below (Below.refl _ _).drew, SW.below (Below.refl _ _).drew, ((F7.setOther (show g ≠ gv6 by omega) _).setOther (show g ≠ gv6 by omega) _).drew, ((F8.setOther (show g4 ≠ gv6 by omega) _).setOther (show g4 ≠ gv6 by omega) _).drew, ((B7.setCell (show w.heap.size ≤ gv6 by omega) _).setCell (show w.heap.size ≤ gv6 by omega) _).drew⟩
        case rest =>
          clear R7 R8 F7 F8 B7
          obtain ⟨R7, R8, F7, F8, B7⟩ := hcut
          generalize wc = w8 at *
          have GK := R7.grid (by omega)
          have GV := R8.grid (by omega)
          clear R7 R8
          go_wp2_with fail
          refine (attend_any _ _ _ _ _ _ _ _ _ _ _ _ _ _ (T0.next B7) F7.arg GK GV hf2).mono ?_
          rw [HE.out]
          rintro e w9 ⟨g9, c9, rfl, F9, B9⟩
          replace F8 := F8.below B9
          replace B9 := below_then B7 B9
          clear F7 GK GV B7
          go_wp2_with fail
          refine (hawake_any _ (T0.next B9)).mono ?_
          rintro e w10 ⟨rfl, B10⟩
          replace F8 := F8.below B10
          replace F9 := F9.below B10
          replace B10 := below_then B9 B10
          go_wp2_with (go_at_call 14; refine (same_any _ _ _ _ _ _ _ (by exact F8.rowAt) (by exact F9.rowAt)).mono ?_; rintro e w11 ⟨rfl, m11, hw11⟩; have B11 : Below w.heap.size w w11 := hw11 ▸ below_drewN B10 m11; clear hw11)
          go_ret
          exact ⟨rfl, B11⟩
    · have hor : i < 0 ∨ (0 ≤ i ∧ j < 0) ∨ (0 ≤ i ∧ 0 ≤ j ∧ (mv : Int) ≤ i) ∨ (0 ≤ i ∧ 0 ≤ j ∧ i < mv ∧ (mv : Int) ≤ j) := by omega
      clear hin F1 F4 GK GV hf
      rcases hor with hq | hq | hq | hq
      all_goals
        go_wp2_with (go_at_call 13; refine (hawake_any _ hT).mono ?_; rintro e w5 ⟨rfl, B5⟩)
        go_ret
        exact ⟨rfl, below_then B4 B5⟩
  · have hf' : (chkN n m mv K V h == 0) = false := by simpa using hf
    go_wp2_with fail
    refine (attend_bad _ _ _ _ _ _ _ _ _ _ _ _ _ (by omega) GK GV bh.1 bh.2 hf).mono ?_
    rintro e w3 ⟨rfl, rfl⟩
    generalize chkN n m mv K V h = q at *
    go_wp2_with (go_at_call 13; refine (hawake_any _ hT).mono ?_; rintro e w5 ⟨rfl, B5⟩)
    go_ret
    exact ⟨rfl, below_then B3 B5⟩
end Go.Proofs.YtjcacejkiaepnaaDoor
