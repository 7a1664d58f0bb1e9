/- Parcels held against one another; the answers that the document fixes of a net. -/
import Derived.Test.YtgbljkbiigcofaaNLook
import Derived.Laws.StructEq
namespace Go.Proofs.Ytgbljkbiigcofaa
open Go.ChangeShapes Go.WideShapes Go.ChangeAt Go.RowKit
theorem net_new (w : World) : NetAt (w.alloc (.cells #[.slice none 0 0, .int .i64 0] 25)) w.heap.size [] 0 := ⟨_, blk_new _ _ _, PRow.nil _ _ _⟩
set_option maxHeartbeats 1000000 in
theorem nawake_any (w : World) : Calls Try.prog 8 #[] w fun e w' => e = .returned (.bool true) ∧ Below w.heap.size w w' := by
  have N0 := net_new w
  have B0 : Below w.heap.size w (w.alloc (.cells #[.slice none 0 0, .int .i64 0] 25)) := (Below.refl _ _).alloc (Nat.le_refl _) _
  generalize hw0 : w.alloc (.cells #[.slice none 0 0, .int .i64 0] 25) = w0 at *
  go_enter Try.func8, Try.ntmps8
  go_wp2_with fail
  refine (send_ok w.heap.size 1 _ [] 0 w0 N0 (by omega) (by omega) (by decide) (by decide)).mono ?_
  rintro e w1 ⟨rfl, N1, T1⟩
  go_wp2_with fail
  refine (send_ok w.heap.size 2 _ _ 0 w1 N1 (by omega) (by omega) (by decide) (by simp)).mono ?_
  rintro e w2 ⟨rfl, N2, T2⟩
  go_wp2_with fail
  refine (move_ok w.heap.size 0 _ 0 w2 N2 (by simp) (by simp)).mono ?_
  rintro e w3 ⟨rfl, N3, T3⟩
  go_wp2_with fail
  refine (len_any w.heap.size _ 0 w3 N3).mono ?_
  rintro e w4 ⟨rfl, rfl⟩
  go_wp2_with fail
  refine (take_ok w.heap.size 0 _ 0 w4 N3 (by simp) (by simp)).mono ?_
  rintro e w5 ⟨rfl, N5, T5⟩
  have e0 : (pc (List.eraseIdx ([] ++ [⟨1, ⟨#[97, 98]⟩, false⟩] ++ [⟨2, ⟨#[99]⟩, false⟩]) 0 ++ [pc ([] ++ [⟨1, ⟨#[97, 98]⟩, false⟩] ++ [⟨2, ⟨#[99]⟩, false⟩]) 0]) 0).val = .agg #[.int .i64 2, .string ⟨#[99]⟩, .bool false] := rfl
  rw [e0]
  go_wp2_with fail
  go_ret
  have B5 := (((B0.trans T1.below).trans T2.below).trans T3.below).trans T5.below
  exact ⟨rfl, B5.alloc (by have := B5.size; omega) _⟩
end Go.Proofs.Ytgbljkbiigcofaa
