/- What the laws of layer 3 call beside package vec: a copy of a row, the awake check, the document's own answers. -/
import Derived.Test.YtjcacejkiaepnaaDoorVec
import Derived.Test.YtjcacejkiaepnaaDoorRef
namespace Go.Proofs.YtjcacejkiaepnaaDoor
open Go.ChangeShapes Go.WideShapes Go.ChangeAt Go.RowKit
set_option maxHeartbeats 800000 in
theorem few_any (ao : Option Addr) (n ca : Nat) (A : List Int) (lim : Nat) (li : Int) (w : World) (hli : li = lim) (hA : Arg w ao n ca A) (hl : lim ≤ 5000) :
   Calls Tryd.prog 9 #[.slice ao n ca, .int .i64 li] w fun e w' => ∃ g n' cap, e = .returned (.slice (some ⟨g, 0, none⟩) n' cap) ∧ n' ≤ lim ∧ Fresh w' w.heap.size g n' cap (A.take lim) ∧ Below w.heap.size w w' := by
  subst hli
  have hm := hA.max
  have hf := hA.fit
  have hlen := hA.row.len
  have F0 := fresh_empty w
  have B0 : Below w.heap.size w (w.alloc (.cells #[] 35)) := (Below.refl _ _).alloc (Nat.le_refl _) _
  by_cases hgt : lim < n
  · obtain ⟨b, o, rfl, hc⟩ := hA.row.cells (by omega)
    have R := (hA.row.part 0 lim (by omega)).below B0
    rw [Nat.add_zero, List.drop_zero] at R
    clear hA hc hlen
    go_enter Tryd.func9, Tryd.ntmps9
    go_wp2_with (at_builtin; refine wpList_append_row rfl _ _ rfl w.heap.size w.heap.size 0 0 [] rfl F0 (some ⟨b, o, none⟩) lim ca (A.take lim) rfl R (fun h => by cases h) (by omega) (by simp) ?_; intro g' cap' w' F1 B1)
    rw [Nat.zero_add, List.nil_append] at *
    go_ret
    exact ⟨_, _, _, rfl, Nat.le_refl _, F1, B0.trans B1⟩
  · have R := hA.row.below B0
    have ht : A.take lim = A := List.take_of_length_le (by omega)
    rw [ht]
    have hnil := hA.nil
    clear hA ht hlen
    go_enter Tryd.func9, Tryd.ntmps9
    go_wp2_with (at_builtin; refine wpList_append_row rfl _ _ rfl w.heap.size w.heap.size 0 0 [] rfl F0 ao n ca A rfl R hnil (by omega) (by simp) ?_; intro g' cap' w' F1 B1)
    rw [Nat.zero_add, List.nil_append] at *
    go_ret
    exact ⟨_, _, _, rfl, by omega, F1, B0.trans B1⟩
theorem dot_lit : dotN [65536, 32768] [65536, 65536] 2 = 98304 := by decide
theorem amax_lit : amax [3, 7, 7] 3 = 1 := by decide
theorem refGrow_any (s x : Int) (w : World) (h1 : -9223372036854775807 ≤ s) (h2 : s ≤ 9223372036854775807) (h3 : -9223372036854775807 ≤ x) (h4 : x ≤ 9223372036854775807) :
   Calls Tryd.prog 33 #[.int .i64 s, .int .i64 x] w fun e w' => e = .returned (.int .i64 (grow s x)) ∧ w' = w := by
  by_cases ho : 9223372036854775807 < s + x
  · have HG : Hid (grow s x = 9223372036854775807) := by show _ = _; unfold grow; rw [if_pos ho]
    go_enter Tryd.func33, Tryd.ntmps33
    go_wp2
    go_ret
    exact ⟨ret_int HG.out.symm, rfl⟩
  by_cases hu : s + x < -9223372036854775807
  · have HG : Hid (grow s x = -9223372036854775807) := by show _ = _; unfold grow; omega
    go_enter Tryd.func33, Tryd.ntmps33
    go_wp2
    go_ret
    exact ⟨ret_int HG.out.symm, rfl⟩
  have HG : Hid (grow s x = s + x) := by show _ = _; unfold grow; omega
  by_cases hs : 0 ≤ s
  · by_cases hx : 0 ≤ x
    all_goals
      go_enter Tryd.func33, Tryd.ntmps33
      go_wp2
      go_ret
      exact ⟨ret_int HG.out.symm, rfl⟩
  · by_cases hx : 0 ≤ x
    all_goals
      go_enter Tryd.func33, Tryd.ntmps33
      go_wp2
      go_ret
      exact ⟨ret_int HG.out.symm, rfl⟩
set_option maxHeartbeats 800000 in
theorem refDot_any (ao bo : Option Addr) (n ca cb : Nat) (A B : List Int) (w : World) (hA : RowAt w ao n A) (hB : RowAt w bo n B) :
   Calls Tryd.prog 21 #[.slice ao n ca, .slice bo n cb] w fun e w' => e = .returned (.int .i32 (dotN A B n)) ∧ ∃ m, w' = w.drewN m := by
  have hn := hA.max
  go_enter Tryd.func21, Tryd.ntmps21
  go_wp2
  go_loopg [5, 6] n (fun r s i wr => ∃ k : Nat, k ≤ n ∧ r = n - k ∧ i = .int .i64 k ∧ s = .int .i64 (dsum A B k) ∧ ∃ m, wr = w.drewN m)
  case atStart => exact ⟨0, by omega, by omega, rfl, rfl, 0, rfl⟩
  case round =>
    obtain ⟨k, hk, rfl, rfl, rfl, m0, hw0⟩ := hrel
    replace hA : RowAt wr ao n A := hw0 ▸ hA.drewN m0
    replace hB : RowAt wr bo n B := hw0 ▸ hB.drewN m0
    have HW : Hid (wr = w.drewN m0) := hw0
    clear hw0
    by_cases hlt : k < n
    · obtain ⟨b, o, rfl, hc⟩ := hA.cells (by omega)
      obtain ⟨b', o', rfl, hc'⟩ := hB.cells (by omega)
      have e1 : Hid (dsum A B (k + 1) = grow (dsum A B k) (el A k * el B k)) := dsum_succ A B k
      have b1 := dsum_bd A B k
      have b2 := hA.small.el k
      have b3 := hB.small.el k
      have c1 := hc k hlt
      have c2 := hc' k hlt
      have b4 := prod_bd (A := 2147483648) (B := 2147483648) (a := el A k) (b := el B k) b2.1 (by omega) b3.1 (by omega)
      have w1 : IntKind.i64.wrap (el A k) = el A k := wrap_in (by omega)
      have w2 : IntKind.i64.wrap (el B k) = el B k := wrap_in (by omega)
      have w3 : IntKind.i64.wrap (el A k * el B k) = el A k * el B k := wrap_in (by omega)
      clear hA hB hc hc'
      go_wp2_with fail
      go_quiet (first | (go_at_call 33; exact Calls.quiet_of_same (refGrow_any _ _ _ (by omega) (by omega) (by omega) (by omega))))
      go_wp2
      go_roundg (n - (k + 1))
      case measure => omega
      case rel => exact ⟨k + 1, by omega, rfl, by go_num, by rw [e1.out], m0 + nq, by rw [HW.out, World.drewN_drewN]⟩
    · obtain rfl : k = n := by omega
      have b1 := dsum_bd A B k
      have b2 := rnd_bd (dsum A B k) 65536 140737488355328 (by omega) (by omega) (by omega)
      go_wp2_with (first | (go_at_call 34; refine (refRound_any _ _ _ (by omega) (by omega) (by omega) (by omega)).mono ?_; rintro e w' ⟨rfl, n1, rfl⟩) | (go_at_call 29; refine (refSat_any _ _ (by omega) (by omega)).mono ?_; rintro e w' ⟨rfl, rfl⟩))
      go_ret
      exact ⟨rfl, m0 + n1, by rw [HW.out, World.drewN_drewN]⟩
set_option maxHeartbeats 800000 in
theorem same_any (ao bo : Option Addr) (n ca cb : Nat) (A : List Int) (w : World) (hA : RowAt w ao n A) (hB : RowAt w bo n A) :
   Calls Tryd.prog 14 #[.slice ao n ca, .slice bo n cb] w fun e w' => e = .returned (.bool true) ∧ ∃ m, w' = w.drewN m := by
  have hn := hA.max
  go_enter Tryd.func14, Tryd.ntmps14
  go_wp2
  go_loopg [13] n (fun r i wr => ∃ k : Nat, k ≤ n ∧ r = n - k ∧ i = .int .i64 k ∧ ∃ m, wr = w.drewN m)
  case atStart => exact ⟨0, by omega, by omega, rfl, 0, rfl⟩
  case round =>
    obtain ⟨k, hk, rfl, rfl, m0, hw0⟩ := hrel
    replace hA : RowAt wr ao n A := hw0 ▸ hA.drewN m0
    replace hB : RowAt wr bo n A := hw0 ▸ hB.drewN m0
    have HW : Hid (wr = w.drewN m0) := hw0
    clear hw0
    by_cases hlt : k < n
    · obtain ⟨b, o, rfl, hc⟩ := hA.cells (by omega)
      obtain ⟨b', o', rfl, hc'⟩ := hB.cells (by omega)
      have c1 := hc k hlt
      have c2 := hc' k hlt
      clear hA hB hc hc'
      go_wp2_with fail
      go_quiet (fail)
      go_wp2
      go_roundg (n - (k + 1))
      case measure => omega
      case rel => exact ⟨k + 1, by omega, rfl, by go_num, m0 + nq, by rw [HW.out, World.drewN_drewN]⟩
    · obtain rfl : k = n := by omega
      go_wp2
      go_ret
      exact ⟨rfl, m0, HW.out⟩
end Go.Proofs.YtjcacejkiaepnaaDoor
