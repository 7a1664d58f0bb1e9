/- What each call of the document's package for layer 2 answers, of every input in range. -/
import Derived.Test.YtjcacejkiaepnaaDoorCurve
namespace Go.Proofs.YtjcacejkiaepnaaDoor
open Go.ChangeShapes Go.WideShapes Go.ChangeAt Go.RowKit
theorem refRoot_any (x : Nat) (w : World) :
   Calls Tryd.prog 42 #[.int .u64 (x : Int)] w fun e w' => e = .returned (.int .u64 (rt x : Int)) ∧ w' = w := by
  go_enter Tryd.func42, Tryd.ntmps42
  go_wp2
  go_loop [3, 4] (fun rv bv => ∃ (k r : Nat), k ≤ 32 ∧ rv = .int .u64 (r : Int) ∧ bv = .int .u64 ((2 ^ k / 2 : Nat) : Int) ∧ r % 2 ^ k = 0 ∧ r + 2 ^ k ≤ 4294967296 ∧ rtFrom k r x = rt x) (fun _ bv => (intOf bv).toNat)
  case atStart => exact ⟨32, 0, by decide, rfl, rfl, rfl, by decide, rfl⟩
  case round =>
    obtain ⟨k, r, hk, rfl, rfl, hm, hle, hrt⟩ := hrel
    cases k with
    | zero =>
      have HR : Hid (rtFrom 0 r x = rt x) := hrt
      clear hrt
      go_wp2
      go_ret
      exact ⟨ret_int (by rw [← HR.out]; rfl), rfl⟩
    | succ k =>
      obtain ⟨b, hb⟩ : ∃ b, b = 2 ^ k := ⟨_, rfl⟩
      have e1 : 2 ^ (k + 1) = 2 * b := by rw [hb, Nat.pow_succ]; omega
      have e2 : (2 : Nat) ^ (k + 1) / 2 = b := by omega
      have hb1 : 1 ≤ b := by rw [hb]; exact Nat.pow_pos (by decide)
      rw [e2]
      rw [e1] at hm hle
      obtain ⟨q1, q2, q3⟩ := sq_bd r b x hle hb1
      have HB : Hid (b = 2 ^ k) := hb
      have HM : Hid (r % (2 * b) = 0) := hm
      by_cases hc : (r + b) * (r + b) ≤ x
      · have HR : Hid (rtFrom k (r + b) x = rt x) := rt_yes k r x b hb hrt hc
        have hc' := q3.2 hc
        clear hrt hb e1 e2 q3 hc hm
        go_wp2
        go_round
        case rel => have hb := HB.out; have hm := (mod_half HM.out).2; exact ⟨k, r + b, by omega, by go_num, by rw [← hb]; go_num, by rw [← hb]; exact hm, by rw [← hb]; omega, HR.out⟩
        case measure => simp [intOf]; omega
      · have HR : Hid (rtFrom k r x = rt x) := rt_no k r x b hb hrt hc
        have hc' : ¬ ((r : Int) + (b : Int)) * ((r : Int) + (b : Int)) ≤ (x : Int) := fun h => hc (q3.1 h)
        clear hrt hb e1 e2 q3 hc hm
        go_wp2
        go_round
        case rel => have hb := HB.out; have hm := (mod_half HM.out).1; exact ⟨k, r, by omega, by go_num, by rw [← hb]; go_num, by rw [← hb]; exact hm, by rw [← hb]; omega, HR.out⟩
        case measure => simp [intOf]; omega
theorem refInv_any (x : Int) (w : World) (h1 : -2147483648 ≤ x) (h2 : x ≤ 2147483647) :
   Calls Tryd.prog 28 #[.int .i32 x] w fun e w' => e = .returned (.int .i32 (invN x)) ∧ w' = w := by
  by_cases hx : x ≤ 0
  · have HI : Hid (invN x = 2147483647) := by show _ = _; unfold invN; rw [if_pos hx]
    go_enter Tryd.func28, Tryd.ntmps28
    go_wp2
    go_ret
    exact ⟨by rw [HI.out]; rfl, rfl⟩
  · obtain ⟨n, rfl⟩ : ∃ n : Nat, x = n := ⟨x.toNat, by omega⟩
    have HI : Hid (invN (n : Int) = (rt (281474976710656 / n) : Int)) := by show _ = _; unfold invN; rw [if_neg hx]; rfl
    have hb := inv_small n
    go_enter Tryd.func28, Tryd.ntmps28
    go_wp2_with (go_at_call 42; refine (refRoot_any (281474976710656 / n) _).mono ?_; rintro e w' ⟨rfl, rfl⟩)
    go_ret
    exact ⟨by rw [HI.out]; rfl, rfl⟩
end Go.Proofs.YtjcacejkiaepnaaDoor
