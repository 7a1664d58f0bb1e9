/- Weights: the greatest number, powers below it, and each by their sum, where the table of steps lies as the program's text lays it. -/
import Derived.Test.YtjcacejkiaepnaaDoorSoft
namespace Go.Proofs.YtjcacejkiaepnaaDoor
open Go.ChangeShapes Go.WideShapes Go.ChangeAt Go.RowKit
set_option maxHeartbeats 800000 in
theorem max_any (ao : Option Addr) (n ca : Nat) (A : List Int) (w : World) (hA : RowAt w ao n A) (h1 : 1 ≤ n) :
   Calls Tryd.prog 45 #[.slice ao n ca] w fun e w' => e = .returned (.int .i32 (maxTo A n)) ∧ w' = w := by
  have hn := hA.max
  obtain ⟨b, o, rfl, hc⟩ := hA.cells (by omega)
  have c0 := hc 0 (by omega)
  rw [Nat.add_zero] at c0
  go_enter Tryd.func45, Tryd.ntmps45
  go_wp2
  go_loopg [3, 4] (n - 1) (fun r s i wr => ∃ k : Nat, 1 ≤ k ∧ k ≤ n ∧ r = n - k ∧ i = .int .i64 k ∧ s = .int .i32 (maxTo A k) ∧ wr = w)
  case atStart => exact ⟨1, by omega, by omega, by omega, rfl, by rw [maxTo_one], rfl⟩
  case round =>
    obtain ⟨k, hk1, hk, rfl, rfl, rfl, rfl⟩ := hrel
    by_cases hlt : k < n
    · have c1 := hc k hlt
      by_cases hgt : maxTo A k < el A k
      · have HS : Hid (maxTo A (k + 1) = el A k) := by show _ = _; unfold maxTo; rw [if_pos hgt]
        generalize maxTo A k = s at *
        generalize el A k = x at *
        clear hA hc c0
        go_wp2
        go_roundg (n - (k + 1))
        case measure => omega
        case rel => exact ⟨k + 1, by omega, by omega, rfl, by go_num, by rw [HS.out], rfl⟩
      · have HS : Hid (maxTo A (k + 1) = maxTo A k) := by
          show _ = _
          conv => lhs; unfold maxTo
          rw [if_neg hgt]
        generalize maxTo A k = s at *
        generalize el A k = x at *
        clear hA hc c0
        go_wp2
        go_roundg (n - (k + 1))
        case measure => omega
        case rel => exact ⟨k + 1, by omega, by omega, rfl, by go_num, by rw [HS.out], rfl⟩
    · obtain rfl : k = n := by omega
      clear hA hc c0
      go_wp2
      go_ret
      exact ⟨rfl, rfl⟩
set_option maxHeartbeats 800000 in
theorem powersBelow_any (ao : Option Addr) (n ca : Nat) (A : List Int) (w : World) (hT : Tab w) (hA : RowAt w ao n A) (hn : n ≤ 4096) :
   Calls Tryd.prog 44 #[.slice ao n ca, .int .i32 (maxTo A n)] w fun e w' => ∃ g, e = .returned (.slice (some ⟨g, 0, none⟩) n n) ∧ Fresh w' w.heap.size g n n (tab n (powW A n)) ∧ Below w.heap.size w w' := by
  have hmk := run_make_row' (P := Tryd.prog) 22 35 (.int .i32 0) 4 Tryd.underlying22 Tryd.infoNum rfl .i64 .i64 n (by omega) (by omega)
  have F0 := fresh_made w n (by omega)
  have B0 : Below w.heap.size w (w.alloc (.cells (madeCells #[.int .i32 0] n) 35)) := (Below.refl _ _).alloc (Nat.le_refl _) _
  go_enter Tryd.func44, Tryd.ntmps44
  go_wp2
  clear hmk
  generalize w.alloc (.cells (madeCells #[.int .i32 0] n) 35) = w0 at *
  have mb := maxTo_bd hA.small n
  go_loopg [13] n (fun r i wr => ∃ k : Nat, k ≤ n ∧ r = n - k ∧ i = .int .i64 k ∧ Fresh wr w.heap.size w.heap.size n n (tab n fun j => if j < k then powW A n j else 0) ∧ Below w.heap.size w wr)
  case atStart => exact ⟨0, by omega, by omega, rfl, by rw [tab_start]; exact F0, B0⟩
  case round =>
    obtain ⟨k, hk, rfl, rfl, F1, B1⟩ := hrel
    clear F0 B0
    by_cases hlt : k < n
    · obtain ⟨b, o, rfl, hc⟩ := (hA.below B1).cells (by omega)
      have T1 := hT.next B1
      have b2 := hA.small.el k
      have c1 := hc k hlt
      have f1 := F1.frozen k
      have f2 := F1.cell hlt
      have HP : Hid (powI (sat (el A k - maxTo A n)) = powW A n k) := rfl
      have b3 := powW_bd A n k
      have b4 := sat_bd (el A k - maxTo A n)
      clear hA hc hT
      go_wp2_with (first | (go_at_call 49; refine (sub_any _ _ _ (by omega) (by omega) (by omega) (by omega)).mono ?_; rintro e w' ⟨rfl, rfl⟩) | (go_at_call 48; refine (pow_any _ _ T1 (by omega) (by omega)).mono ?_; rintro e w' ⟨rfl, m1, rfl⟩; rw [HP.out]))
      go_roundg (n - (k + 1))
      case measure => omega
      case rel => exact ⟨k + 1, by omega, rfl, by go_num, (F1.drewN m1).step _ hlt rfl (by omega), (below_drewN B1 m1).setCell (Nat.le_refl _) _⟩
    · obtain rfl : k = n := by omega
      go_wp2
      go_ret
      exact ⟨_, rfl, by rw [← tab_done]; exact F1, B1⟩
theorem weights_bad (ao : Option Addr) (n ca : Nat) (w : World) (hn : n ≤ 9223372036854775807) (hf : sizeN n ≠ 0) :
   Calls Tryd.prog 31 #[.slice ao n ca] w fun e w' => e = .returned (.tuple #[.slice none 0 0, .int .i64 (sizeN n)]) ∧ w' = w := by
  have hf' : (sizeN n == 0) = false := by simpa using hf
  generalize hq : sizeN n = q at *
  go_enter Tryd.func31, Tryd.ntmps31
  go_wp2_with (go_at_call 43; refine (checkRow_any _ _ _ _ hn).mono ?_; rintro e w ⟨rfl, rfl⟩; rw [hq])
  go_ret2
  exact ⟨rfl, rfl⟩
set_option maxHeartbeats 1600000 in
theorem weights_any (ao : Option Addr) (n ca : Nat) (A : List Int) (w : World) (hT : Tab w) (hA : RowAt w ao n A) (hf : sizeN n = 0) :
   Calls Tryd.prog 31 #[.slice ao n ca] w fun e w' => ∃ g, e = .returned (.tuple #[.slice (some ⟨g, 0, none⟩) n n, .int .i64 0]) ∧ Fresh w' w.heap.size g n n (tab n (wgt A n)) ∧ Below w.heap.size w w' := by
  obtain ⟨h1, h4⟩ := sizeN_ok hf
  have hmk := run_make_row' (P := Tryd.prog) 22 35 (.int .i32 0) 4 Tryd.underlying22 Tryd.infoNum rfl .i64 .i64 n (by omega) (by omega)
  go_enter Tryd.func31, Tryd.ntmps31
  go_wp2_with (first | (go_at_call 43; refine (checkRow_any _ _ _ _ (by omega)).mono ?_; rintro e w ⟨rfl, rfl⟩; rw [hf]) | (go_at_call 45; refine (max_any _ _ _ _ _ hA h1).mono ?_; rintro e w ⟨rfl, rfl⟩) | (go_at_call 44; refine (powersBelow_any _ _ _ _ _ hT hA h4).mono ?_; rintro e w1 ⟨g1, rfl, F1, B1⟩))
  have cc : ∀ k, k < n → w1.cell? ⟨g1, k, none⟩ = some (.int .i32 (powW A n k)) := fun k hk => by
    have := F1.cell hk
    rwa [el_tab hk] at this
  have hg1 := F1.lt
  have pb : ∀ k, 0 ≤ powW A n k ∧ powW A n k ≤ 65536 := powW_bd A n
  go_loopg [6, 23] n (fun r s i wr => ∃ k : Nat, k ≤ n ∧ r = n - k ∧ i = .int .i64 k ∧ s = .int .i64 (psum A n k) ∧ wr = w1)
  case atStart => exact ⟨0, by omega, by omega, rfl, rfl, rfl⟩
  case round =>
    obtain ⟨k, hk, rfl, rfl, rfl, rfl⟩ := hrel
    by_cases hlt : k < n
    · have c1 := cc k hlt
      have HS : Hid (psum A n (k + 1) = psum A n k + powW A n k) := psum_succ A n k
      have b1 := psum_bd A n k
      have b2 := pb k
      generalize psum A n k = s at *
      generalize powW A n k = x at *
      clear hmk cc pb
      go_wp2
      go_roundg (n - (k + 1))
      case measure => omega
      case rel => exact ⟨k + 1, by omega, rfl, by go_num, by rw [HS.out], rfl⟩
    · obtain rfl : k = n := by omega
      generalize wr = w1 at *
      have sb := psum_bd A k k
      have st := psum_top A h1
      have F2 := fresh_made w1 k (by omega)
      have B2 : Below w1.heap.size w1 (w1.alloc (.cells (madeCells #[.int .i32 0] k) 35)) := (Below.refl _ _).alloc (Nat.le_refl _) _
      have s2 : w.heap.size ≤ w1.heap.size := B1.size
      replace F1 := F1.below B2
      go_wp2
      clear hmk cc
      generalize w1.alloc (.cells (madeCells #[.int .i32 0] k) 35) = w2 at *
      go_loopg [37] k (fun r i wx => ∃ j : Nat, j ≤ k ∧ r = k - j ∧ i = .int .i64 j ∧ Fresh wx w1.heap.size w1.heap.size k k (tab k fun i => if i < j then wgt A k i else 0) ∧ Fresh wx w.heap.size g1 k k (tab k (powW A k)) ∧ Below w1.heap.size w1 wx)
      case atStart => exact ⟨0, by omega, by omega, rfl, by rw [tab_start]; exact F2, F1, B2⟩
      case round =>
        obtain ⟨j, hj, rfl, rfl, F3, F4, B3⟩ := hrel
        clear F1 F2 B2
        by_cases hlj : j < k
        · have c1 := F4.cell hlj
          rw [el_tab hlj] at c1
          have f1 := F3.frozen j
          have f2 := F3.cell hlj
          have b2 := pb j
          have HW : Hid (65536 * powW A k j / psum A k k = wgt A k j) := rfl
          have b3 := wgt_bd A hlj
          have F5 := F3.step (wgt A k j) hlj rfl (by omega)
          have ne : g1 ≠ w1.heap.size := by omega
          have F6 : Fresh (wr.setCell ⟨w1.heap.size, j, none⟩ (.int .i32 (wgt A k j))) w.heap.size g1 k k (tab k (powW A k)) := F4.setOther ne _
          have hne : psum A k k ≠ 0 := by omega
          have E9 : Hid (wrap32 (wgt A k j) = wgt A k j) := by show _ = _; unfold wrap32; omega
          generalize psum A k k = S at *
          generalize powW A k j = x at *
          have hq1 : 0 ≤ 65536 * x := by omega
          clear pb hT hA F4
          go_wp2
          go_roundg (k - (j + 1))
          case measure => omega
          case rel => exact ⟨j + 1, by omega, rfl, by go_num, by rw [HW.out, E9.out]; exact F5, by rw [HW.out, E9.out]; exact F6, B3.setCell (Nat.le_refl _) _⟩
        · obtain rfl : j = k := by omega
          go_wp2
          go_ret2
          exact ⟨_, rfl, by rw [← tab_done]; exact F3.mono s2, B1.trans (B3.mono s2)⟩
end Go.Proofs.YtjcacejkiaepnaaDoor
