/- What each call of package vec answers: sums of products, and that they change nothing. -/
import Derived.Test.YtjcacejkiaepnaaDoorRows
import Derived.Test.YtjcacejkiaepnaaDoorSlcP
import Derived.Test.YtjcacejkiaepnaaDoorFix
namespace Go.Proofs.YtjcacejkiaepnaaDoor
open Go.ChangeShapes Go.WideShapes Go.ChangeAt Go.RowKit
theorem grow_any (s x : Int) (w : World) (h1 : -9223372036854775807 ≤ s) (h2 : s ≤ 9223372036854775807) (h3 : -9223372036854775807 ≤ x) (h4 : x ≤ 9223372036854775807) :
   Calls Tryd.prog 40 #[.int .i64 s, .int .i64 x] w fun e w' => e = .returned (.int .i64 (grow s x)) ∧ w' = w := by
  by_cases ho : 9223372036854775807 < s + x
  · have HG : Hid (grow s x = 9223372036854775807) := by show _ = _; unfold grow; rw [if_pos ho]
    have hw : wrap64 (s + x) < 0 := by unfold wrap64; omega
    go_enter Tryd.func40, Tryd.ntmps40
    go_wp2
    go_ret
    exact ⟨ret_int HG.out.symm, rfl⟩
  by_cases hu : s + x < -9223372036854775808
  · have HG : Hid (grow s x = -9223372036854775807) := by show _ = _; unfold grow; omega
    have hw : 0 ≤ wrap64 (s + x) := by unfold wrap64; omega
    go_enter Tryd.func40, Tryd.ntmps40
    go_wp2
    go_ret
    exact ⟨ret_int HG.out.symm, rfl⟩
  go_enter Tryd.func40, Tryd.ntmps40
  go_wp2
  all_goals
    go_ret
    exact ⟨ret_int (by unfold grow; omega), rfl⟩
theorem checkPair_any (ao bo : Option Addr) (n m ca cb : Nat) (w : World) (hn : n ≤ 9223372036854775807) (hm : m ≤ 9223372036854775807) :
   Calls Tryd.prog 39 #[.slice ao n ca, .slice bo m cb] w fun e w' => e = .returned (.int .i64 (fitN n m)) ∧ w' = w := by
  by_cases c1 : 4096 < n
  · have HF : Hid (fitN n m = 2) := by show _ = _; unfold fitN; rw [if_pos (Or.inl c1)]
    go_enter Tryd.func39, Tryd.ntmps39
    go_wp2
    go_ret
    exact ⟨ret_int HF.out.symm, rfl⟩
  by_cases c2 : 4096 < m
  · have HF : Hid (fitN n m = 2) := by show _ = _; unfold fitN; rw [if_pos (Or.inr c2)]
    go_enter Tryd.func39, Tryd.ntmps39
    go_wp2
    go_ret
    exact ⟨ret_int HF.out.symm, rfl⟩
  by_cases c3 : n = m
  · subst c3
    have HF : Hid (fitN n n = 0) := by show _ = _; unfold fitN; rw [if_neg (by omega), if_neg (by simp)]
    go_enter Tryd.func39, Tryd.ntmps39
    go_wp2
    go_ret
    exact ⟨ret_int HF.out.symm, rfl⟩
  · have HF : Hid (fitN n m = 6) := by show _ = _; unfold fitN; rw [if_neg (by omega), if_pos c3]
    go_enter Tryd.func39, Tryd.ntmps39
    go_wp2
    go_ret
    exact ⟨ret_int HF.out.symm, rfl⟩
set_option maxHeartbeats 800000 in
theorem dot_any (ao bo : Option Addr) (n ca cb : Nat) (A B : List Int) (w : World) (hA : RowAt w ao n A) (hB : RowAt w bo n B) (h4 : n ≤ 4096) :
   Calls Tryd.prog 25 #[.slice ao n ca, .slice bo n cb] w fun e w' => e = .returned (.tuple #[.int .i32 (dotN A B n), .int .i64 0]) ∧ ∃ m, w' = w.drewN m := by
  have hf : fitN n n = 0 := by unfold fitN; rw [if_neg (by omega), if_neg (by simp)]
  go_enter Tryd.func25, Tryd.ntmps25
  go_wp2_with (go_at_call 39; refine (checkPair_any _ _ _ _ _ _ _ (by omega) (by omega)).mono ?_; rintro e w ⟨rfl, rfl⟩; rw [hf])
  clear hf
  go_loopg [7, 17] n (fun r s i wr => ∃ k : Nat, k ≤ n ∧ r = n - k ∧ i = .int .i64 k ∧ s = .int .i64 (dsum A B k) ∧ ∃ m, wr = w.drewN m)
  case atStart => exact ⟨0, by omega, by omega, rfl, rfl, 0, rfl⟩
  case round =>
    obtain ⟨k, hk, rfl, rfl, rfl, m0, hw0⟩ := hrel
    replace hA : RowAt wr ao n A := hw0 ▸ hA.drewN m0
    replace hB : RowAt wr bo n B := hw0 ▸ hB.drewN m0
    have HW : Hid (wr = w.drewN m0) := hw0
    clear hw0
    by_cases hlt : k < n
    · obtain ⟨b, o, rfl, hc⟩ := hA.cells (by omega)
      obtain ⟨b', o', rfl, hc'⟩ := hB.cells (by omega)
      have e1 : Hid (dsum A B (k + 1) = grow (dsum A B k) (el A k * el B k)) := dsum_succ A B k
      have b1 := dsum_bd A B k
      have b2 := hA.small.el k
      have b3 := hB.small.el k
      have c1 := hc k hlt
      have c2 := hc' k hlt
      have b4 := prod_bd (A := 2147483648) (B := 2147483648) (a := el A k) (b := el B k) b2.1 (by omega) b3.1 (by omega)
      generalize dsum A B k = s at *
      generalize el A k = x at *
      generalize el B k = y at *
      have w1 : IntKind.i64.wrap x = x := wrap_in (by omega)
      have w2 : IntKind.i64.wrap y = y := wrap_in (by omega)
      have w3 : IntKind.i64.wrap (x * y) = x * y := wrap_in (by omega)
      clear hA hB hc hc'
      go_wp2_with fail
      go_quiet (first | (go_at_call 40; exact Calls.quiet_of_same (grow_any _ _ _ (by omega) (by omega) (by omega) (by omega))))
      go_wp2
      go_roundg (n - (k + 1))
      case measure => omega
      case rel => exact ⟨k + 1, by omega, rfl, by go_num, by rw [e1.out], m0 + nq, by rw [HW.out, World.drewN_drewN]⟩
    · obtain rfl : k = n := by omega
      have b1 := dsum_bd A B k
      have b2 := rnd_bd (dsum A B k) 65536 140737488355328 (by omega) (by omega) (by omega)
      go_wp2_with (first | (go_at_call 41; refine (round_any _ _ _ (by omega) (by omega) (by omega) (by omega)).mono ?_; rintro e w' ⟨rfl, n1, rfl⟩) | (go_at_call 38; refine (sat_any _ _ (by omega) (by omega)).mono ?_; rintro e w' ⟨rfl, rfl⟩))
      go_ret2
      exact ⟨rfl, m0 + n1, by rw [HW.out, World.drewN_drewN]⟩
theorem dot_bad (ao bo : Option Addr) (n m ca cb : Nat) (w : World) (hn : n ≤ 9223372036854775807) (hm : m ≤ 9223372036854775807) (hf : fitN n m ≠ 0) :
   Calls Tryd.prog 25 #[.slice ao n ca, .slice bo m cb] w fun e w' => e = .returned (.tuple #[.int .i32 0, .int .i64 (fitN n m)]) ∧ w' = w := by
  have hf' : (fitN n m == 0) = false := by simpa using hf
  generalize hq : fitN n m = q at *
  go_enter Tryd.func25, Tryd.ntmps25
  go_wp2_with (go_at_call 39; refine (checkPair_any _ _ _ _ _ _ _ hn hm).mono ?_; rintro e w ⟨rfl, rfl⟩; rw [hq])
  go_ret2
  exact ⟨rfl, rfl⟩
end Go.Proofs.YtjcacejkiaepnaaDoor
