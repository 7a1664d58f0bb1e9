/- What each call of package vec answers: sums of products, and that they change nothing. -/
import Derived.Test.YthbkibcdcnpaoaaRows
import Derived.Test.YthbkibcdcnpaoaaSlcP
import Derived.Test.YthbkibcdcnpaoaaFix
namespace Go.Proofs.Ythbkibcdcnpaoaa
open Go.ChangeShapes Go.WideShapes Go.ChangeAt Go.RowKit
theorem grow_any (s x : Int) (w : World) (h1 : -9223372036854775807 ≤ s) (h2 : s ≤ 9223372036854775807) (h3 : -9223372036854775807 ≤ x) (h4 : x ≤ 9223372036854775807) :
   Calls Try.prog 13 #[.int .i64 s, .int .i64 x] w fun e w' => e = .returned (.int .i64 (grow s x)) ∧ w' = w := by
  by_cases ho : 9223372036854775807 < s + x
  · have HG : Hid (grow s x = 9223372036854775807) := by show _ = _; unfold grow; rw [if_pos ho]
    have hw : wrap64 (s + x) < 0 := by unfold wrap64; omega
    go_enter Try.func13, Try.ntmps13
    go_wp2
    go_ret
    exact ⟨ret_int HG.out.symm, rfl⟩
  by_cases hu : s + x < -9223372036854775808
  · have HG : Hid (grow s x = -9223372036854775807) := by show _ = _; unfold grow; omega
    have hw : 0 ≤ wrap64 (s + x) := by unfold wrap64; omega
    go_enter Try.func13, Try.ntmps13
    go_wp2
    go_ret
    exact ⟨ret_int HG.out.symm, rfl⟩
  go_enter Try.func13, Try.ntmps13
  go_wp2
  all_goals
    go_ret
    exact ⟨ret_int (by unfold grow; omega), rfl⟩
theorem checkPair_any (ao bo : Option Addr) (n m ca cb : Nat) (w : World) (hn : n ≤ 9223372036854775807) (hm : m ≤ 9223372036854775807) :
   Calls Try.prog 36 #[.slice ao n ca, .slice bo m cb] w fun e w' => e = .returned (.int .i64 (fitN n m)) ∧ w' = w := by
  by_cases c1 : 4096 < n
  · have HF : Hid (fitN n m = 2) := by show _ = _; unfold fitN; rw [if_pos (Or.inl c1)]
    go_enter Try.func36, Try.ntmps36
    go_wp2
    go_ret
    exact ⟨ret_int HF.out.symm, rfl⟩
  by_cases c2 : 4096 < m
  · have HF : Hid (fitN n m = 2) := by show _ = _; unfold fitN; rw [if_pos (Or.inr c2)]
    go_enter Try.func36, Try.ntmps36
    go_wp2
    go_ret
    exact ⟨ret_int HF.out.symm, rfl⟩
  by_cases c3 : n = m
  · subst c3
    have HF : Hid (fitN n n = 0) := by show _ = _; unfold fitN; rw [if_neg (by omega), if_neg (by simp)]
    go_enter Try.func36, Try.ntmps36
    go_wp2
    go_ret
    exact ⟨ret_int HF.out.symm, rfl⟩
  · have HF : Hid (fitN n m = 6) := by show _ = _; unfold fitN; rw [if_neg (by omega), if_pos c3]
    go_enter Try.func36, Try.ntmps36
    go_wp2
    go_ret
    exact ⟨ret_int HF.out.symm, rfl⟩
set_option maxHeartbeats 800000 in
theorem dot_any (ao bo : Option Addr) (n ca cb : Nat) (A B : List Int) (w : World) (hA : RowAt w ao n A) (hB : RowAt w bo n B) (h4 : n ≤ 4096) :
   Calls Try.prog 10 #[.slice ao n ca, .slice bo n cb] w fun e w' => e = .returned (.tuple #[.int .i32 (dotN A B n), .int .i64 0]) ∧ ∃ m, w' = w.drewN m := by
  have hf : fitN n n = 0 := by unfold fitN; rw [if_neg (by omega), if_neg (by simp)]
  go_enter Try.func10, Try.ntmps10
  go_wp2_with (go_at_call 36; refine (checkPair_any _ _ _ _ _ _ _ (by omega) (by omega)).mono ?_; rintro e w ⟨rfl, rfl⟩; rw [hf])
  clear hf
  go_loopg [7, 17] n (fun r s i wr => ∃ k : Nat, k ≤ n ∧ r = n - k ∧ i = .int .i64 k ∧ s = .int .i64 (dsum A B k) ∧ ∃ m, wr = w.drewN m)
  case atStart => exact ⟨0, by omega, by omega, rfl, rfl, 0, rfl⟩
  case round =>
    obtain ⟨k, hk, rfl, rfl, rfl, m0, hw0⟩ := hrel
    replace hA : RowAt wr ao n A := hw0 ▸ hA.drewN m0
    replace hB : RowAt wr bo n B := hw0 ▸ hB.drewN m0
    have HW : Hid (wr = w.drewN m0) := hw0
    clear hw0
    by_cases hlt : k < n
    · obtain ⟨b, o, rfl, hc⟩ := hA.cells (by omega)
      obtain ⟨b', o', rfl, hc'⟩ := hB.cells (by omega)
      have e1 : Hid (dsum A B (k + 1) = grow (dsum A B k) (el A k * el B k)) := dsum_succ A B k
      have b1 := dsum_bd A B k
      have b2 := hA.small.el k
      have b3 := hB.small.el k
      have c1 := hc k hlt
      have c2 := hc' k hlt
      have b4 := prod_bd (A := 2147483648) (B := 2147483648) (a := el A k) (b := el B k) b2.1 (by omega) b3.1 (by omega)
      generalize dsum A B k = s at *
      generalize el A k = x at *
      generalize el B k = y at *
      have w1 : IntKind.i64.wrap x = x := wrap_in (by omega)
      have w2 : IntKind.i64.wrap y = y := wrap_in (by omega)
      have w3 : IntKind.i64.wrap (x * y) = x * y := wrap_in (by omega)
      clear hA hB hc hc'
      go_wp2_with fail
      go_quiet (first | (go_at_call 13; exact Calls.quiet_of_same (grow_any _ _ _ (by omega) (by omega) (by omega) (by omega))))
      go_wp2
      go_roundg (n - (k + 1))
      case measure => omega
      case rel => exact ⟨k + 1, by omega, rfl, by go_num, by rw [e1.out], m0 + nq, by rw [HW.out, World.drewN_drewN]⟩
    · obtain rfl : k = n := by omega
      have b1 := dsum_bd A B k
      have b2 := rnd_bd (dsum A B k) 65536 140737488355328 (by omega) (by omega) (by omega)
      go_wp2_with (first | (go_at_call 38; refine (round_any _ _ _ (by omega) (by omega) (by omega) (by omega)).mono ?_; rintro e w' ⟨rfl, n1, rfl⟩) | (go_at_call 37; refine (sat_any _ _ (by omega) (by omega)).mono ?_; rintro e w' ⟨rfl, rfl⟩))
      go_ret2
      exact ⟨rfl, m0 + n1, by rw [HW.out, World.drewN_drewN]⟩
theorem dot_bad (ao bo : Option Addr) (n m ca cb : Nat) (w : World) (hn : n ≤ 9223372036854775807) (hm : m ≤ 9223372036854775807) (hf : fitN n m ≠ 0) :
   Calls Try.prog 10 #[.slice ao n ca, .slice bo m cb] w fun e w' => e = .returned (.tuple #[.int .i32 0, .int .i64 (fitN n m)]) ∧ w' = w := by
  have hf' : (fitN n m == 0) = false := by simpa using hf
  generalize hq : fitN n m = q at *
  go_enter Try.func10, Try.ntmps10
  go_wp2_with (go_at_call 36; refine (checkPair_any _ _ _ _ _ _ _ hn hm).mono ?_; rintro e w ⟨rfl, rfl⟩; rw [hq])
  go_ret2
  exact ⟨rfl, rfl⟩
set_option maxHeartbeats 800000 in
theorem scale_any (ao : Option Addr) (n ca : Nat) (A : List Int) (c : Int) (w : World) (hA : RowAt w ao n A) (hn : n ≤ 1048576) (hc1 : -2147483648 ≤ c) (hc2 : c ≤ 2147483647) :
   Calls Try.prog 17 #[.slice ao n ca, .int .i32 c] w fun e w' => ∃ g, e = .returned (.slice (some ⟨g, 0, none⟩) n n) ∧ Fresh w' w.heap.size g n n (tab n fun j => mulN (el A j) c) ∧ Below w.heap.size w w' := by
  have hmk := run_make_row' (P := Try.prog) 22 24 (.int .i32 0) 4 Try.underlying22 Try.infoNum rfl .i64 .i64 n (by omega) (by omega)
  have F0 := fresh_made w n (by omega)
  have B0 : Below w.heap.size w (w.alloc (.cells (madeCells #[.int .i32 0] n) 24)) := (Below.refl _ _).alloc (Nat.le_refl _) _
  have A0 := hA.below B0
  go_enter Try.func17, Try.ntmps17
  go_wp2
  clear hmk
  generalize w.alloc (.cells (madeCells #[.int .i32 0] n) 24) = w0 at *
  go_loopg [13] n (fun r i wr => ∃ k : Nat, k ≤ n ∧ r = n - k ∧ i = .int .i64 k ∧ Fresh wr w.heap.size w.heap.size n n (tab n fun j => if j < k then mulN (el A j) c else 0) ∧ Below w.heap.size w wr)
  case atStart => exact ⟨0, by omega, by omega, rfl, by rw [tab_start]; exact F0, B0⟩
  case round =>
    obtain ⟨k, hk, rfl, rfl, F1, B1⟩ := hrel
    clear F0 B0 A0
    by_cases hlt : k < n
    · obtain ⟨b, o, rfl, hc⟩ := (hA.below B1).cells (by omega)
      have b2 := hA.small.el k
      have c1 := hc k hlt
      have f1 := F1.frozen k
      have f2 := F1.cell hlt
      have HM : Hid (mulN (el A k) c = sat (rnd (el A k * c) 65536)) := rfl
      have b3 := mulN_bd (el A k) c
      clear hA hc
      go_wp2_with (go_at_call 41; refine (mul_any _ _ _ (by omega) (by omega) (by omega) (by omega)).mono ?_; rintro e w' ⟨rfl, m1, rfl⟩; rw [← HM.out])
      go_roundg (n - (k + 1))
      case measure => omega
      case rel => exact ⟨k + 1, by omega, rfl, by go_num, (F1.drewN m1).step _ hlt rfl (by omega), (below_drewN B1 m1).setCell (Nat.le_refl _) _⟩
    · obtain rfl : k = n := by omega
      go_wp2
      go_ret
      exact ⟨_, rfl, by rw [← tab_done]; exact F1, B1⟩
set_option maxHeartbeats 800000 in
theorem rise_any (ao : Option Addr) (n ca : Nat) (A : List Int) (w : World) (hA : RowAt w ao n A) (hn : n ≤ 1048576) :
   Calls Try.prog 18 #[.slice ao n ca] w fun e w' => ∃ g, e = .returned (.slice (some ⟨g, 0, none⟩) n n) ∧ Fresh w' w.heap.size g n n (tab n fun j => max (el A j) 0) ∧ Below w.heap.size w w' := by
  have hmk := run_make_row' (P := Try.prog) 22 24 (.int .i32 0) 4 Try.underlying22 Try.infoNum rfl .i64 .i64 n (by omega) (by omega)
  have F0 := fresh_made w n (by omega)
  have B0 : Below w.heap.size w (w.alloc (.cells (madeCells #[.int .i32 0] n) 24)) := (Below.refl _ _).alloc (Nat.le_refl _) _
  go_enter Try.func18, Try.ntmps18
  go_wp2
  clear hmk
  generalize w.alloc (.cells (madeCells #[.int .i32 0] n) 24) = w0 at *
  go_loopg [11] n (fun r i wr => ∃ k : Nat, k ≤ n ∧ r = n - k ∧ i = .int .i64 k ∧ Fresh wr w.heap.size w.heap.size n n (tab n fun j => if j < k then max (el A j) 0 else 0) ∧ Below w.heap.size w wr)
  case atStart => exact ⟨0, by omega, by omega, rfl, by rw [tab_start]; exact F0, B0⟩
  case round =>
    obtain ⟨k, hk, rfl, rfl, F1, B1⟩ := hrel
    clear F0 B0
    by_cases hlt : k < n
    · obtain ⟨b, o, rfl, hc⟩ := (hA.below B1).cells (by omega)
      have b2 := hA.small.el k
      have c1 := hc k hlt
      have f1 := F1.frozen k
      have f2 := F1.cell hlt
      have b3 := sat_bd (el A k)
      clear hA hc
      go_wp2_with (go_at_call 37; refine (sat_any _ _ (by omega) (by omega)).mono ?_; rintro e w' ⟨rfl, rfl⟩)
      all_goals
        go_roundg (n - (k + 1))
        case measure => omega
        case rel => exact ⟨k + 1, by omega, rfl, by go_num, F1.step _ hlt (by unfold sat at *; omega) (by omega), B1.setCell (Nat.le_refl _) _⟩
    · obtain rfl : k = n := by omega
      go_wp2
      go_ret
      exact ⟨_, rfl, by rw [← tab_done]; exact F1, B1⟩
set_option maxHeartbeats 800000 in
theorem argmax_any (ao : Option Addr) (n ca : Nat) (A : List Int) (w : World) (hA : RowAt w ao n A) :
   Calls Try.prog 19 #[.slice ao n ca] w fun e w' => e = .returned (.int .i64 (amax A n)) ∧ w' = w := by
  have hn := hA.max
  go_enter Try.func19, Try.ntmps19
  go_wp2
  go_loopg [3, 8] n (fun r s i wr => ∃ k : Nat, k ≤ n ∧ r = n - k ∧ i = .int .i64 k ∧ s = .int .i64 (amax A k) ∧ wr = w)
  case atStart => exact ⟨0, by omega, by omega, rfl, rfl, rfl⟩
  case round =>
    obtain ⟨k, hk, rfl, rfl, rfl, rfl⟩ := hrel
    by_cases hlt : k < n
    · obtain ⟨b, o, rfl, hc⟩ := hA.cells (by omega)
      have c1 := hc k hlt
      have b1 := amax_bd A k
      by_cases hneg : amax A k < 0
      · have HS : Hid (amax A (k + 1) = k) := by show _ = _; unfold amax; rw [if_pos (Or.inl hneg)]
        clear hA hc
        go_wp2
        go_roundg (n - (k + 1))
        case measure => omega
        case rel => exact ⟨k + 1, by omega, rfl, by go_num, by rw [HS.out], rfl⟩
      · have c2 := hc (amax A k).toNat (by omega)
        by_cases hgt : el A (amax A k).toNat < el A k
        · have HS : Hid (amax A (k + 1) = k) := by show _ = _; unfold amax; rw [if_pos (Or.inr hgt)]
          clear hA hc
          go_wp2
          go_roundg (n - (k + 1))
          case measure => omega
          case rel => exact ⟨k + 1, by omega, rfl, by go_num, by rw [HS.out], rfl⟩
        · have HS : Hid (amax A (k + 1) = amax A k) := by
            show _ = _
            conv => lhs; unfold amax
            rw [if_neg (by omega)]
          clear hA hc
          go_wp2
          go_roundg (n - (k + 1))
          case measure => omega
          case rel => exact ⟨k + 1, by omega, rfl, by go_num, by rw [HS.out], rfl⟩
    · obtain rfl : k = n := by omega
      go_wp2
      go_ret
      exact ⟨rfl, rfl⟩
theorem add_bad (ao bo : Option Addr) (n m ca cb : Nat) (w : World) (hn : n ≤ 9223372036854775807) (hm : m ≤ 9223372036854775807) (hf : fitN n m ≠ 0) :
   Calls Try.prog 16 #[.slice ao n ca, .slice bo m cb] w fun e w' => e = .returned (.tuple #[.slice none 0 0, .int .i64 (fitN n m)]) ∧ w' = w := by
  have hf' : (fitN n m == 0) = false := by simpa using hf
  generalize hq : fitN n m = q at *
  go_enter Try.func16, Try.ntmps16
  go_wp2_with (go_at_call 36; refine (checkPair_any _ _ _ _ _ _ _ hn hm).mono ?_; rintro e w ⟨rfl, rfl⟩; rw [hq])
  go_ret2
  exact ⟨rfl, rfl⟩
set_option maxHeartbeats 1600000 in
theorem vadd_any (ao bo : Option Addr) (n ca cb : Nat) (A B : List Int) (w : World) (hA : RowAt w ao n A) (hB : RowAt w bo n B) (hn : n ≤ 4096) :
   Calls Try.prog 16 #[.slice ao n ca, .slice bo n cb] w fun e w' => ∃ g, e = .returned (.tuple #[.slice (some ⟨g, 0, none⟩) n n, .int .i64 0]) ∧ Fresh w' w.heap.size g n n (tab n fun j => addN (el A j) (el B j)) ∧ Below w.heap.size w w' := by
  have hf : fitN n n = 0 := by unfold fitN; rw [if_neg (by omega), if_neg (by simp)]
  have hmk := run_make_row' (P := Try.prog) 22 24 (.int .i32 0) 4 Try.underlying22 Try.infoNum rfl .i64 .i64 n (by omega) (by omega)
  have F0 := fresh_made w n (by omega)
  have B0 : Below w.heap.size w (w.alloc (.cells (madeCells #[.int .i32 0] n) 24)) := (Below.refl _ _).alloc (Nat.le_refl _) _
  go_enter Try.func16, Try.ntmps16
  go_wp2_with (go_at_call 36; refine (checkPair_any _ _ _ _ _ _ _ (by omega) (by omega)).mono ?_; rintro e w ⟨rfl, rfl⟩; rw [hf])
  clear hmk hf
  generalize w.alloc (.cells (madeCells #[.int .i32 0] n) 24) = w0 at *
  go_loopg [20] n (fun r i wr => ∃ k : Nat, k ≤ n ∧ r = n - k ∧ i = .int .i64 k ∧ Fresh wr w.heap.size w.heap.size n n (tab n fun j => if j < k then addN (el A j) (el B j) else 0) ∧ Below w.heap.size w wr)
  case atStart => exact ⟨0, by omega, by omega, rfl, by rw [tab_start]; exact F0, B0⟩
  case round =>
    obtain ⟨k, hk, rfl, rfl, F1, B1⟩ := hrel
    clear F0 B0
    by_cases hlt : k < n
    · obtain ⟨b, o, rfl, hc⟩ := (hA.below B1).cells (by omega)
      obtain ⟨b', o', rfl, hc'⟩ := (hB.below B1).cells (by omega)
      have b2 := hA.small.el k
      have b4 := hB.small.el k
      have c1 := hc k hlt
      have c2 := hc' k hlt
      have f1 := F1.frozen k
      have f2 := F1.cell hlt
      have HM : Hid (addN (el A k) (el B k) = sat (el A k + el B k)) := rfl
      have b3 := addN_bd (el A k) (el B k)
      clear hA hc hB hc'
      go_wp2_with fail
      go_region_with (go_at_call 40; refine (add_any _ _ _ (by omega) (by omega) (by omega) (by omega)).mono ?_; rintro e w' ⟨rfl, rfl⟩; rw [← HM.out])
      all_goals
        go_wp2
        go_roundg (n - (k + 1))
        case measure => omega
        case rel => exact ⟨k + 1, by omega, rfl, by go_num, (F1.step _ hlt rfl (by omega)).drew, (B1.setCell (p := ⟨w.heap.size, k, none⟩) (Nat.le_refl _) _).drew⟩
    · obtain rfl : k = n := by omega
      go_wp2
      go_ret2
      exact ⟨_, rfl, by rw [← tab_done]; exact F1, B1⟩
end Go.Proofs.Ythbkibcdcnpaoaa
