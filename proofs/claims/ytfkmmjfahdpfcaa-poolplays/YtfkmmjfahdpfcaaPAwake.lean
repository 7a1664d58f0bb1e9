/- The answers that the document fixes of a pool. -/
import Derived.Test.YtfkmmjfahdpfcaaPDrop
namespace Go.Proofs.Ytfkmmjfahdpfcaa
open Go.ChangeShapes Go.WideShapes Go.ChangeAt Go.RowKit
theorem replicate_one : List.replicate 1 (default : Pg) = [default] := rfl
theorem idx_new : idxN Pg.free [default] = ((0 : Nat) : Int) := by decide
theorem idx_taken : idxN Pg.free [one] = -1 := by decide
set_option maxHeartbeats 1000000 in
theorem pawake_any (w : World) : Calls Try.prog 9 #[] w fun e w' => e = .returned (.bool true) ∧ Below w.heap.size w w' := by
  have C := pnew_any 1 w (by omega) (by omega)
  have T1 := fun w b (h : PoolAt w b [default] []) => take_free b 0 [default] [] w h (by decide) (by decide) idx_new
  have T2 := fun w b (h : PoolAt w b [one] []) => take_full b [one] w h (by decide) idx_taken
  have T3 := fun w b (h : PoolAt w b [one] []) => open_any b 0 [one] [] w h (by omega)
  have T4 := fun w b (h : PoolAt w b [one] []) => refs_any b 0 [one] [] w h (by omega)
  have e3 : (atN [one] 0).open = true := by decide
  have e4 : (atN [one] 0).r = 1 := by decide
  rw [replicate_one] at C
  simp only [Int.natCast_zero, List.set_cons_zero] at T1
  simp only [e3] at T3
  simp only [e4, Int.natCast_one] at T4
  simp only [Int.natCast_one] at C
  go_enter Try.func9, Try.ntmps9
  go_wp2_with first
    | (go_at_call 8; refine C.mono ?_; rintro e w1 ⟨rfl, h1, B1⟩; have C1 := T1 _ _ h1; have t1 := B1.size)
    | (go_at_call 12; refine C2.mono ?_; rintro e w3 ⟨rfl, B3⟩; have h3 := h2.below B3; have C3 := T3 _ _ h3)
    | (go_at_call 12; refine C1.mono ?_; rintro e w2 ⟨rfl, h2, B2, _⟩; have C2 := T2 _ _ h2)
    | (go_at_call 19; refine C3.mono ?_; rintro e w4 ⟨rfl, B4⟩; have h4 := h3.below B4; have C4 := T4 _ _ h4)
    | (go_at_call 20; refine C4.mono ?_; rintro e w5 ⟨rfl, B5⟩)
  go_ret
  exact ⟨rfl, (((B1.trans B2).trans (B3.mono (by have := B2.size; omega))).trans (B4.mono (by have := B2.size; have := B3.size; omega))).trans (B5.mono (by have := B2.size; have := B3.size; have := B4.size; omega))⟩
end Go.Proofs.Ytfkmmjfahdpfcaa
