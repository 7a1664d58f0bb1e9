/- The awake check of the laws of layer 2 is true, and powers of every number, where the table of steps lies as the program's text lays it. -/
import Derived.Test.YtijjghlfamebaabDoorCurve
import Derived.Test.YtijjghlfamebaabDoorCRef
import Derived.Test.YtijjghlfamebaabDoorCNum2
namespace Go.Proofs.YtijjghlfamebaabDoor
open Go.ChangeShapes Go.WideShapes Go.ChangeAt Go.RowKit
theorem pow_any (x : Int) (w : World) (h : Tab w) (h1 : -2147483648 ≤ x) (h2 : x ≤ 2147483647) :
   Calls Tryd.prog 13 #[.int .i32 x] w fun e w' => e = .returned (.int .i32 (powI x)) ∧ ∃ n, w' = w.drewN n := by
  by_cases hx : 0 < x
  · rw [powI_pos x hx]; exact pow_pos x w h hx
  · obtain ⟨y, rfl⟩ : ∃ y : Nat, x = -(y : Int) := ⟨(-x).toNat, by omega⟩
    rw [powI_neg]; exact pow_neg y w h (by omega)
theorem idx_any (i : Nat) (hi : i < 65) (w : World) : (Instr.index 30 (.agg tabCells) (.int .i64 (i : Int))).run Tryd.prog w = .ok (.int .i32 (stepAt i : Int)) w := by
  have hz : (Tryd.prog.info? 22).map (·.size) = some 1 := by kernel_rfl
  obtain ⟨inf, hinf, hsz⟩ := Option.map_eq_some_iff.1 hz
  have hc := tab_get i hi
  simp [Instr.index, run_underlying Tryd.underlying30, asIntOf, go_sem, sizeOf, typeInfo, hinf, hsz, hc]
  omega
theorem awake2_any (w : World) (h : Tab w) : Calls Tryd.prog 12 #[] w fun e w' => e = .returned (.bool true) ∧ Below w.heap.size w w' := by
  have q1 : powI (-65536) = 32768 := by decide
  have q2 : rt 15 = 3 := by decide
  have q3 : invN 65536 = 65536 := by
    unfold invN; rw [if_neg (by decide)]
    have : rt (281474976710656 / (65536 : Int).toNat) = 65536 := rt_of _ _ (by decide) (by decide) (by decide)
    rw [this]; rfl
  have q4 : ∀ w, (Instr.index 30 (.agg tabCells) (.int .i64 32)).run Tryd.prog w = .ok (.int .i32 46341) w := fun w => idx_any 32 (by decide) w
  have HT : Hid (∀ n, Tab (w.drewN n)) := fun n => h.next (below_drewN (Below.refl _ _) n)
  have h0 := h
  clear h
  go_enter Tryd.func12, Tryd.ntmps12
  go_wp2_with (first | (go_at_call 13; refine (pow_any _ _ h0 (by omega) (by omega)).mono ?_; rintro e w1 ⟨rfl, n1, rfl⟩) | (go_at_call 17; refine (root_any 15 _).mono ?_; rintro e w2 ⟨rfl, rfl⟩) | (go_at_call 19; refine (inv_any _ _ (by omega) (by omega)).mono ?_; rintro e w3 ⟨rfl, rfl⟩) | (go_at_call 15; refine (steps_any _ (HT.out _)).mono ?_; rintro e w4 ⟨rfl, hb⟩))
  go_ret
  exact ⟨rfl, below_then (below_drewN (Below.refl _ _) _) (by assumption)⟩
end Go.Proofs.YtijjghlfamebaabDoor
