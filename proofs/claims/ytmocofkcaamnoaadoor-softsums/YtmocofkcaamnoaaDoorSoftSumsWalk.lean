/- The Go text of SoftSums returns true at every input, where the table of steps lies as the program's text lays it. -/
import Derived.Test.YtmocofkcaamnoaaDoorSoftA
namespace Go.Proofs.YtmocofkcaamnoaaDoor
open Go.ChangeShapes Go.WideShapes Go.ChangeAt Go.RowKit
theorem Fresh.cell_nxt {w : World} {B g n cap : Nat} {A : List Int} (h : Fresh w B g n cap A) {i : Int} (h0 : 0 ≤ i) (h1 : i < n) (p : Nxt w) : p.to.cell? ⟨g, i.toNat, none⟩ = some (.int .i32 (el A i.toNat)) := (h.below p.ok).cell (by omega)
set_option maxHeartbeats 1600000 in
theorem softSums_walk (ao : Option Addr) (n ca : Nat) (Z : List Int) (i j : Int) (w : World) (hA : Arg w ao n ca Z) (bi : -9223372036854775808 ≤ i ∧ i ≤ 9223372036854775807) (bj : -9223372036854775808 ≤ j ∧ j ≤ 9223372036854775807) (hT : Tab w) :
    Calls Tryd.prog 6 #[.slice ao n ca, .int .i64 i, .int .i64 j] w fun e w' => e = .returned (.bool true) ∧ Below w.heap.size w w' := by
  go_enter Tryd.func6, Tryd.ntmps6
  go_wp2_with fail
  refine (few_any _ _ _ _ 400 _ _ rfl hA (by omega)).mono ?_
  rintro e w1 ⟨g, m, cap, rfl, hm, F1, B1⟩
  replace hT := hT.next B1
  clear hA
  generalize Z.take 400 = A at *
  by_cases h0 : m = 0
  · subst h0
    go_wp2_with (first | (go_at_call 17; refine (weights_bad _ _ _ _ (by omega) (by decide)).mono ?_; rintro e w' ⟨rfl, rfl⟩; rw [show sizeN 0 = 8 by rfl]) | (go_at_call 13; refine (sawake_any _ hT).mono ?_; rintro e w2 ⟨rfl, B2⟩))
    go_ret
    exact ⟨rfl, below_then B1 B2⟩
  have hs : sizeN m = 0 := by unfold sizeN; rw [if_neg h0, if_neg (by omega)]
  go_wp2_with fail
  refine (weights_any _ _ _ _ _ hT F1.rowAt hs).mono ?_
  rintro e w2 ⟨g2, rfl, F2, B2⟩
  replace hT := hT.next B2
  replace F1 := F1.below B2
  replace B2 := below_then B1 B2
  obtain ⟨s1, s2⟩ := wgt_sum A (n := m) (by omega)
  clear B1 hs
  go_wp2
  go_loopg [9, 29] m (fun r s i wr => ∃ k : Nat, k ≤ m ∧ r = m - k ∧ i = .int .i64 k ∧ s = .int .i64 (sumTo (wgt A m) k) ∧ wr = w2)
  case atStart => exact ⟨0, by omega, by omega, rfl, rfl, rfl⟩
  case round =>
    obtain ⟨k, hk, rfl, rfl, rfl, rfl⟩ := hrel
    by_cases hlt : k < m
    · have c1 := F2.cell hlt
      rw [el_tab hlt] at c1
      have b1 := wgt_bd A hlt
      have HS : Hid (sumTo (wgt A m) (k + 1) = sumTo (wgt A m) k + wgt A m k) := sumTo_succ _ _
      have b2 : 0 ≤ sumTo (wgt A m) k ∧ sumTo (wgt A m) k ≤ 65536 * k := by
        have e : sumTo (wgt A m) k = sumTo (fun j => if j < m then wgt A m j else 0) k := sumTo_congr fun j hj => by rw [if_pos (by omega)]
        rw [e]
        exact sumTo_bd (fun j => by split; exact wgt_bd A (by assumption); omega) k
      generalize sumTo (wgt A m) k = s at *
      generalize wgt A m k = x at *
      clear F2 F1
      go_wp2
      go_roundg (m - (k + 1))
      case measure => omega
      case rel => exact ⟨k + 1, by omega, rfl, by go_num, by rw [HS.out], rfl⟩
    · obtain rfl : k = m := by omega
      generalize sumTo (wgt A k) k = s at *
      by_cases hin : 0 ≤ i ∧ 0 ≤ j ∧ i < k ∧ j < k
      · obtain ⟨i0, j0, i1, j1⟩ := hin
        have c1 := F1.cell_nxt i0 i1
        have c2 := F1.cell_nxt j0 j1
        have c3 := F2.cell_nxt i0 i1
        have c4 := F2.cell_nxt j0 j1
        rw [el_tab (by omega)] at c3 c4
        have hmono : el A i.toNat ≤ el A j.toNat → wgt A k i.toNat ≤ wgt A k j.toNat := wgt_mono A (by omega)
        generalize el A i.toNat = xi at *
        generalize el A j.toNat = xj at *
        generalize wgt A k i.toNat = yi at *
        generalize wgt A k j.toNat = yj at *
        have hne := nxt_ne wr
        obtain ⟨bb, hd, hmono⟩ : ∃ bb : Bool, decide (xj < xi) = bb ∧ (bb = true ∨ (bb = false ∧ yi ≤ yj)) := by
          by_cases hgt : xj < xi
          · exact ⟨true, by simpa using hgt, Or.inl rfl⟩
          · exact ⟨false, by simpa using hgt, Or.inr ⟨rfl, hmono (by omega)⟩⟩
        rcases hmono with rfl | ⟨rfl, hmono⟩
        all_goals
          have HD : Hid (decide (xj < xi) = _) := hd
          clear hd
          go_wp2_with fail
          refine wp_region_nxt (by kernel_rfl) (by kernel_rfl) ?_
          repeat (first | go_big_quiet_skip | (go_big_quiet_want; go_big_quiet_op; first | go_big_quiet_on | (apply Exists.intro; refine ⟨fun pq => ?_, ?_⟩; (first | (go_at_call 13; exact calls_nxt (sawake_any _ (hT.next pq.ok)))); go_big_quiet_on)) | rw [HD.out])
          refine wpQuiet_nil ?_
          intro _ hw'
          obtain ⟨⟨wq, hwq⟩, hw''⟩ := hw'
          subst hw''
          go_wp2
          go_ret
          exact ⟨rfl, below_then B2 hwq⟩
      · have hor : i < 0 ∨ (0 ≤ i ∧ j < 0) ∨ (0 ≤ i ∧ 0 ≤ j ∧ k ≤ i) ∨ (0 ≤ i ∧ 0 ≤ j ∧ i < k ∧ k ≤ j) := by omega
        clear hin
        rcases hor with hq | hq | hq | hq
        all_goals
          go_wp2_with (go_at_call 13; refine (sawake_any _ hT).mono ?_; rintro e w2 ⟨rfl, B3⟩)
          go_ret
          exact ⟨rfl, below_then B2 B3⟩
end Go.Proofs.YtmocofkcaamnoaaDoor
