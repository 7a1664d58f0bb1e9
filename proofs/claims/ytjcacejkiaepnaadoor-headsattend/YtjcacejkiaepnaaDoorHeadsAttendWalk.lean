/- The Go text of HeadsAttend returns true at every input, where the table of steps lies as the program's text lays it. -/
import Derived.Test.YtjcacejkiaepnaaDoorHRows
import Derived.Test.YtjcacejkiaepnaaDoorHRef2
import Derived.Test.YtjcacejkiaepnaaDoorHAwake
namespace Go.Proofs.YtjcacejkiaepnaaDoor
open Go.ChangeShapes Go.WideShapes Go.ChangeAt Go.RowKit
set_option maxRecDepth 100000 in
set_option maxHeartbeats 3200000 in
theorem headsAttend_walk (ao : Option Addr) (n0 ca : Nat) (Z : List Int) (ko : Option Addr) (nk ck : Nat) (Y : List (List Int)) (vo : Option Addr) (nv cv : Nat) (X : List (List Int)) (h : Int) (w : World) (hA : Arg w ao n0 ca Z) (hK : GridAt w ko nk Y) (hV : GridAt w vo nv X) (bh : -9223372036854775808 ≤ h ∧ h ≤ 9223372036854775807) (hT : Tab w) :
    Calls Tryd.prog 3 #[.slice ao n0 ca, .slice ko nk ck, .slice vo nv cv, .int .i64 h] w fun e w' => e = .returned (.bool true) ∧ Below w.heap.size w w' := by
  have T0 := hT
  go_enter Tryd.func3, Tryd.ntmps3
  go_wp2_with fail
  refine (few_any _ _ _ _ 40 _ _ rfl hA (by omega)).mono ?_
  rintro e w1 ⟨g, n, cap, rfl, hn, F1, B1⟩
  replace hK := hK.below B1
  replace hV := hV.below B1
  clear hA hT
  go_wp2_with fail
  refine (hrows_any _ _ _ _ 140 _ _ rfl hK (by omega)).mono ?_
  rintro e w2 ⟨gk, m, kk, rfl, hm, O2, B2⟩
  replace F1 := F1.below B2
  replace hV := hV.below B2
  replace B2 := below_then B1 B2
  clear hK B1
  go_wp2_with fail
  refine (hrows_any _ _ _ _ 140 _ _ rfl hV (by omega)).mono ?_
  rintro e w3 ⟨gv, mv, kv, rfl, hmv, O3, B3⟩
  replace F1 := F1.below B3
  replace O2 := O2.below B3
  replace B3 := below_then B2 B3
  clear hV B2
  have GK := O2.grid (by omega)
  have GV := O3.grid (by omega)
  clear O2 O3
  generalize Z.take 40 = Q at *
  generalize rowsN Y 140 = K at *
  generalize rowsN X 140 = V at *
  by_cases hf : chkN n m mv K V h = 0
  · obtain ⟨-, -, -, -, rfl, -, -⟩ := chkN_ok hf
    go_wp2_with fail
    refine (attend_any _ _ _ _ _ _ _ _ _ _ _ _ _ _ (T0.next B3) F1.arg GK GV hf).mono ?_
    rintro e w4 ⟨g4, c4, rfl, F4, B4⟩
    replace F1 := F1.below B4
    replace GK := GK.below B4
    replace GV := GV.below B4
    replace B4 := below_then B3 B4
    clear B3
    go_wp2_with fail
    refine (refFit7_any _ _ _ _ _ _ _ _ _ _ _ _ _ (by omega) GK GV bh.1 bh.2).mono ?_
    rw [hf]
    rintro e w5 ⟨rfl, d5, hw5⟩
    have B5 : Below w4.heap.size w4 w5 := hw5 ▸ below_drewN (Below.refl _ _) d5
    clear hw5
    replace F1 := F1.below B5
    replace F4 := F4.below B5
    replace GK := GK.below B5
    replace GV := GV.below B5
    replace B5 := below_then B4 B5
    clear B4
    go_wp2_with fail
    refine (hawake_any _ (T0.next B5)).mono ?_
    rintro e w6 ⟨rfl, B6⟩
    replace F1 := F1.below B6
    replace F4 := F4.below B6
    replace GK := GK.below B6
    replace GV := GV.below B6
    replace B6 := below_then B5 B6
    clear B5
    go_wp2_with (first | (go_at_call 15; refine (refAttend_any _ _ g 0 _ _ _ _ _ _ _ _ _ _ F1.arg GK GV hf).mono ?_; rintro e w7 ⟨g7, c7, rfl, F7, B7⟩; have F8 := F4.below B7; have B8 := below_then B6 B7) | (go_at_call 14; refine (same_any _ _ _ _ _ _ _ (by exact F8.rowAt) (by exact F7.rowAt)).mono ?_; rintro e w9 ⟨rfl, m9, hw9⟩; have B9 : Below w.heap.size w w9 := hw9 ▸ below_drewN B8 m9; clear hw9))
    go_ret
    exact ⟨rfl, B9⟩
  · have hf' : (chkN n m mv K V h == 0) = false := by simpa using hf
    go_wp2_with fail
    refine (attend_bad _ _ _ _ _ _ _ _ _ _ _ _ _ (by omega) GK GV bh.1 bh.2 hf).mono ?_
    rintro e w3 ⟨rfl, rfl⟩
    go_wp2_with fail
    refine (refFit7_any _ _ _ _ _ _ _ _ _ _ _ _ _ (by omega) GK GV bh.1 bh.2).mono ?_
    rintro e w5 ⟨rfl, d5, hw5⟩
    have B5 : Below w3.heap.size w3 w5 := hw5 ▸ below_drewN (Below.refl _ _) d5
    clear hw5
    replace B5 := below_then B3 B5
    clear B3 GK GV F1
    generalize chkN n m mv K V h = q at *
    go_wp2_with (go_at_call 13; refine (hawake_any _ (T0.next B5)).mono ?_; rintro e w6 ⟨rfl, B6⟩)
    go_ret
    exact ⟨rfl, below_then B5 B6⟩
end Go.Proofs.YtjcacejkiaepnaaDoor
