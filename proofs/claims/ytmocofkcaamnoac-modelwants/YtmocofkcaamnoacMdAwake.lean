/- The awake check of the laws of layer 6 is true; the document's made number; configurations as arguments. -/
import Derived.Test.YtmocofkcaamnoacMdMake2
namespace Go.Proofs.Ytmocofkcaamnoac
open Go.ChangeShapes Go.WideShapes Go.ChangeAt Go.RowKit
theorem first_two : numR 0 0 2 131072 = [100482, -17950] := by decide +kernel
theorem make_lit (w : World) : Calls Try.prog 4 #[.agg #[.int .i64 2, .int .i64 1, .int .i64 1, .int .i64 1, .int .i64 1], .int .u64 0] w fun e w' => ∃ ge gB gl go, e = .returned (.tuple #[.agg #[.int .i64 2, .int .i64 1, .slice (some ⟨ge, 0, none⟩) 2 2, .slice (some ⟨gB, 0, none⟩) 1 1, .slice (some ⟨gl, 0, none⟩) 1 1, .int .i64 2, .int .i64 1, .slice (some ⟨go, 0, none⟩) 2 2], .int .i64 0]) ∧ Fresh w' w.heap.size ge 2 2 [100482, -17950] ∧ Below w.heap.size w w' := by
  refine (make_any 2 1 1 1 1 0 w (by omega) (by decide)).mono ?_
  rintro e w' ⟨ge, gB, gl, go, rfl, M, B⟩
  refine ⟨ge, gB, gl, go, rfl, ?_, B⟩
  have := M.e
  rw [show 2 * 1 = 2 from rfl, first_two] at this
  exact this
theorem shape_lit (w : World) : Calls Try.prog 7 #[.agg #[.int .i64 2, .int .i64 4, .int .i64 3, .int .i64 1, .int .i64 1]] w fun e w' => e = .returned (.int .i64 4) ∧ Below w.heap.size w w' :=
  shape_any 2 4 3 1 1 w (by unfold I64; omega) (by unfold I64; omega) (by unfold I64; omega) (by unfold I64; omega) (by unfold I64; omega)
set_option maxHeartbeats 1600000 in
theorem awake6_any (w : World) : Calls Try.prog 5 #[] w fun e w' => e = .returned (.bool true) ∧ Below w.heap.size w w' := by
  go_enter Try.func5, Try.ntmps5
  go_wp2_with fail
  refine (make_lit _).mono ?_
  rintro e w2 ⟨ge, gB, gl, go, rfl, F, B⟩
  have X := blk_new w2 30 #[.int .i64 2, .int .i64 1, .slice (some ⟨ge, 0, none⟩) 2 2, .slice (some ⟨gB, 0, none⟩) 1 1, .slice (some ⟨gl, 0, none⟩) 1 1, .int .i64 2, .int .i64 1, .slice (some ⟨go, 0, none⟩) 2 2]
  have B2 : Below w2.heap.size w2 (w2.alloc (.cells #[.int .i64 2, .int .i64 1, .slice (some ⟨ge, 0, none⟩) 2 2, .slice (some ⟨gB, 0, none⟩) 1 1, .slice (some ⟨gl, 0, none⟩) 1 1, .int .i64 2, .int .i64 1, .slice (some ⟨go, 0, none⟩) 2 2] 30)) := (Below.refl _ _).alloc (Nat.le_refl _) _
  generalize hw3 : w2.alloc (.cells #[.int .i64 2, .int .i64 1, .slice (some ⟨ge, 0, none⟩) 2 2, .slice (some ⟨gB, 0, none⟩) 1 1, .slice (some ⟨gl, 0, none⟩) 1 1, .int .i64 2, .int .i64 1, .slice (some ⟨go, 0, none⟩) 2 2] 30) = w3 at *
  replace F := F.below B2
  replace B2 := below_then B B2
  have c2 : w3.cell? ⟨w2.heap.size, 2, none⟩ = some (.slice (some ⟨ge, 0, none⟩) 2 2) := X.cell 2 rfl
  have d0 : w3.cell? ⟨ge, 0, none⟩ = some (.int .i32 100482) := F.cell (t := 0) (by omega)
  have d1 : w3.cell? ⟨ge, 1, none⟩ = some (.int .i32 (-17950)) := F.cell (t := 1) (by omega)
  go_wp2_with (go_at_call 7; refine (shape_lit _).mono ?_; rintro e w4 ⟨rfl, B3⟩)
  go_ret
  exact ⟨rfl, below_then B2 B3⟩
theorem stN_at (seed i : Nat) : (seed + (i + 1) * 11400714819323198485 % 18446744073709551616) % 18446744073709551616 = stN seed (i + 1) := by unfold stN; omega
end Go.Proofs.Ytmocofkcaamnoac
