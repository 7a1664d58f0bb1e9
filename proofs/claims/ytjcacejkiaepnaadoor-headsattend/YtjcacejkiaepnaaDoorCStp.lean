/- What the document's steps and powers answer, of every input in range. -/
import Derived.Test.YtjcacejkiaepnaaDoorCPow
namespace Go.Proofs.YtjcacejkiaepnaaDoor
open Go.ChangeShapes Go.WideShapes Go.ChangeAt Go.RowKit
theorem refs_at (l : List Value) (i : Nat) (h : i < l.length) (e : l = stp.map fun (n : Nat) => Value.int .i64 (n : Int)) : l[i]'h = .int .i64 (stepAt i : Int) := by
  subst e
  have hl : i < stp.length := by simpa using h
  simp [stepAt, hl]
set_option maxRecDepth 100000 in
theorem refStep_any (i : Nat) (w : World) (hi : i < 65) :
   Calls Tryd.prog 47 #[.int .i64 (i : Int)] w fun e w' => e = .returned (.int .i64 (stepAt i : Int)) ∧ Below w.heap.size w w' := by
  go_enter Tryd.func47, Tryd.ntmps47
  go_wp2
  go_ret
  exact ⟨congrArg Ending.returned (refs_at _ i _ rfl), (Below.refl _ _).alloc (Nat.le_refl _) _⟩
theorem refStep_int (i : Int) (w : World) (h0 : 0 ≤ i) (hi : i < 65) :
   Calls Tryd.prog 47 #[.int .i64 i] w fun e w' => e = .returned (.int .i64 (stepAt i.toNat : Int)) ∧ Below w.heap.size w w' := by
  obtain ⟨n, rfl⟩ : ∃ n : Nat, i = n := ⟨i.toNat, by omega⟩
  exact refStep_any n w (by omega)
theorem below3 {w w1 w2 w3 : World} (h1 : Below w.heap.size w w1) (h2 : Below w1.heap.size w1 w2) (h3 : Below w2.heap.size w2 w3) : Below w.heap.size w w3 := below_then (below_then h1 h2) h3
set_option maxHeartbeats 1600000 in
theorem refPow_pos (x : Int) (w : World) (h0 : 0 ≤ x) :
   Calls Tryd.prog 36 #[.int .i32 x] w fun e w' => e = .returned (.int .i32 65536) ∧ Below w.heap.size w w' := by
  have e0 : stepAt 0 = 65536 := rfl
  have e1 : stepAt 1 = 64830 := rfl
  go_enter Tryd.func36, Tryd.ntmps36
  go_wp2_with (go_at_call 47; refine (refStep_int _ _ (by omega) (by omega)).mono ?_; rintro e w1 ⟨rfl, hb1⟩)
  refine wp_loop_rounds 1 ?_
  rw [rounds_succ]
  go_wp2
  go_ret
  exact ⟨rfl, below3 (by assumption) (by assumption) (by assumption)⟩
set_option maxHeartbeats 1600000 in
theorem refPow_neg (y : Nat) (w : World) (hy : y ≤ 2147483648) (hy0 : 0 < y) :
   Calls Tryd.prog 36 #[.int .i32 (-(y : Int))] w fun e w' => e = .returned (.int .i32 (powN y : Int)) ∧ Below w.heap.size w w' := by
  have hi : y / 1024 % 64 < 64 := Nat.mod_lt _ (by decide)
  obtain ⟨s1, s2, s3, s4⟩ := step_at _ hi
  have pb := prod_bd2 y
  have sv := v_int y
  have vb := (vN_bd y).2.2
  have n1 : ((y : Int) / 1024 % 64).toNat = y / 1024 % 64 := by omega
  have n2 : ((y : Int) / 1024 % 64 + 1).toNat = y / 1024 % 64 + 1 := by omega
  have hd : ∀ j, vN y / 2 ^ j ≤ vN y := fun j => Nat.div_le_self _ _
  have HD : Hid (∀ j, vN y / 2 ^ j ≤ vN y) := hd
  clear hd
  go_enter Tryd.func36, Tryd.ntmps36
  go_wp2_with (go_at_call 47; refine (refStep_int _ _ (by omega) (by omega)).mono ?_; rintro e w1 ⟨rfl, hb1⟩)
  have hbb : Below w.heap.size w w1 := below3 (by assumption) (by assumption) (by assumption)
  go_loop [6, 7] (fun v k => ∃ j a : Nat, j ≤ y / 65536 ∧ a = vN y / 2 ^ j ∧ v = .int .i64 (a : Int) ∧ k = .int .i64 ((y : Int) / 65536 - (j : Int))) (fun _ k => (intOf k).toNat)
  case atStart => exact ⟨0, vN y, Nat.zero_le _, by simp, rfl, by simp⟩
  case round =>
    obtain ⟨j, a, hj, ha, rfl, rfl⟩ := hrel
    have hle : a ≤ 65536 := by have := HD.out j; omega
    have HA : Hid (a = vN y / 2 ^ j) := ha
    clear ha
    by_cases hj2 : j < y / 65536
    · by_cases ha0 : a = 0
      · subst ha0
        have HP : Hid (powN y = 0) := by show _ = _; unfold powN; exact div_zero_up _ j _ HA.out.symm (by omega)
        go_wp2
        go_ret
        exact ⟨by rw [HP.out]; rfl, hbb⟩
      · go_wp2
        go_round
        case rel => exact ⟨j + 1, a / 2, by omega, by rw [← div_div, ← HA.out], by go_num, by simp; omega⟩
        case measure => simp [intOf]; omega
    · have hjj : j = y / 65536 := by omega
      have HP : Hid (powN y = a) := by show _ = _; unfold powN; rw [← hjj]; exact HA.out.symm
      go_wp2
      go_ret
      exact ⟨by rw [HP.out]; rfl, hbb⟩
theorem refPow_any (x : Int) (w : World) (h1 : -2147483648 ≤ x) (h2 : x ≤ 2147483647) :
   Calls Tryd.prog 36 #[.int .i32 x] w fun e w' => e = .returned (.int .i32 (powI x)) ∧ Below w.heap.size w w' := by
  by_cases hx : 0 ≤ x
  · rw [show powI x = 65536 by unfold powI; rw [show (-x).toNat = 0 by omega]; rfl]; exact refPow_pos x w hx
  · obtain ⟨y, rfl⟩ : ∃ y : Nat, x = -(y : Int) := ⟨(-x).toNat, by omega⟩
    rw [powI_neg]; exact refPow_neg y w (by omega) (by omega)
end Go.Proofs.YtjcacejkiaepnaaDoor
