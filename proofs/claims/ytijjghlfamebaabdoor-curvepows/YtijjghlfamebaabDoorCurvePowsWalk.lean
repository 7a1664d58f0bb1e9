/- The Go text of CurvePows returns true at every input, where the table of steps lies as the program's text lays it. -/
import Derived.Test.YtijjghlfamebaabDoorCStep
namespace Go.Proofs.YtijjghlfamebaabDoor
set_option linter.unusedVariables false
open Go.ChangeShapes Go.WideShapes Go.ChangeAt Go.RowKit
theorem step_nought (w : World) : Calls Tryd.prog 16 #[.int .i64 0] w fun e w' => e = .returned (.int .i64 65536) ∧ Below w.heap.size w w' := refStep_any 0 w (by decide)
set_option maxHeartbeats 3200000 in
theorem pows_in (x : Int) (i : Nat) (x1 : -2147483648 ≤ x) (x2 : x ≤ 2147483647) (i1 : i < 65) (v : Int) (hv : (v = (i : Int)) ∨ (i = 0 ∧ (v < 0 ∨ 64 < v))) (v1 : -9223372036854775808 ≤ v) (v2 : v ≤ 9223372036854775807) (w : World) (h : Tab w) :
    Calls Tryd.prog 4 #[.int .i32 x, .int .i64 v] w fun e w' => e = .returned (.bool true) ∧ Below w.heap.size w w' := by
  have hne := nxt_ne w
  have ix := idx_any i i1
  have sb : stepAt i ≤ 65536 := by
    by_cases h64 : i = 64
    · subst h64; decide
    · exact (step_at i (by omega)).2.2.2
  rcases hv with rfl | ⟨rfl, hv⟩
  · go_enter Tryd.func4, Tryd.ntmps4
    go_wp2_with fail
    refine wp_region_nxt (by kernel_rfl) (by kernel_rfl) ?_
    repeat (first | go_big_quiet_skip | (go_big_quiet_want; go_big_quiet_op; first | go_big_quiet_on | (apply Exists.intro; refine ⟨fun pq => ?_, ?_⟩; (first | (go_at_call 12; exact calls_nxt (awake2_any _ (h.next pq.ok))) | (go_at_call 13; exact calls_nxt_drew (pow_any _ _ (h.next pq.ok) x1 x2)) | (go_at_call 14; exact calls_nxt (refPow_any _ _ x1 x2)) | (go_at_call 15; exact calls_nxt (steps_any _ (h.next pq.ok))) | (go_at_call 16; exact calls_nxt (refStep_any i _ i1))); go_big_quiet_on)))
    refine wpQuiet_nil ?_
    intro _ hw'
    obtain ⟨⟨wq, hwq⟩, hw''⟩ := hw'
    subst hw''
    go_wp2
    go_ret
    exact ⟨rfl, hwq⟩
  · have ix0 : ∀ w, (Instr.index 30 (.agg tabCells) (.int .i64 0)).run Tryd.prog w = .ok (.int .i32 65536) w := fun w => idx_any 0 (by decide) w
    rcases hv with hv | hv
    all_goals
      go_enter Tryd.func4, Tryd.ntmps4
      go_wp2_with fail
      refine wp_region_nxt (by kernel_rfl) (by kernel_rfl) ?_
      repeat (first | go_big_quiet_skip | (go_big_quiet_want; go_big_quiet_op; first | go_big_quiet_on | (apply Exists.intro; refine ⟨fun pq => ?_, ?_⟩; (first | (go_at_call 12; exact calls_nxt (awake2_any _ (h.next pq.ok))) | (go_at_call 13; exact calls_nxt_drew (pow_any _ _ (h.next pq.ok) x1 x2)) | (go_at_call 14; exact calls_nxt (refPow_any _ _ x1 x2)) | (go_at_call 15; exact calls_nxt (steps_any _ (h.next pq.ok))) | (go_at_call 16; exact calls_nxt (step_nought _))); go_big_quiet_on)))
      refine wpQuiet_nil ?_
      intro _ hw'
      obtain ⟨⟨wq, hwq⟩, hw''⟩ := hw'
      subst hw''
      go_wp2
      go_ret
      exact ⟨rfl, hwq⟩
theorem curvePows_walk (x v : Int) (x1 : -2147483648 ≤ x) (x2 : x ≤ 2147483647) (v1 : -9223372036854775808 ≤ v) (v2 : v ≤ 9223372036854775807) (w : World) (h : Tab w) :
    Calls Tryd.prog 4 #[.int .i32 x, .int .i64 v] w fun e w' => e = .returned (.bool true) ∧ Below w.heap.size w w' := by
  by_cases hv : v < 0 ∨ 64 < v
  · exact pows_in x 0 x1 x2 (by decide) v (.inr ⟨rfl, hv⟩) v1 v2 w h
  · exact pows_in x v.toNat x1 x2 (by omega) v (.inl (by omega)) v1 v2 w h
end Go.Proofs.YtijjghlfamebaabDoor
