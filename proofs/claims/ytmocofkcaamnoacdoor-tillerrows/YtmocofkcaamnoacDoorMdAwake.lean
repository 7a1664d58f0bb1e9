/- The awake check of the laws of layer 6 is true; the document's made number; configurations as arguments. -/
import Derived.Test.YtmocofkcaamnoacDoorMdMake2
namespace Go.Proofs.YtmocofkcaamnoacDoor
open Go.ChangeShapes Go.WideShapes Go.ChangeAt Go.RowKit
theorem first_two : numR 0 0 2 131072 = [100482, -17950] := by decide +kernel
theorem make_lit (w : World) : Calls Tryd.prog 5 #[.agg #[.int .i64 2, .int .i64 1, .int .i64 1, .int .i64 1, .int .i64 1], .int .u64 0] w fun e w' => ∃ ge gB gl go, e = .returned (.tuple #[.agg #[.int .i64 2, .int .i64 1, .slice (some ⟨ge, 0, none⟩) 2 2, .slice (some ⟨gB, 0, none⟩) 1 1, .slice (some ⟨gl, 0, none⟩) 1 1, .int .i64 2, .int .i64 1, .slice (some ⟨go, 0, none⟩) 2 2], .int .i64 0]) ∧ Fresh w' w.heap.size ge 2 2 [100482, -17950] ∧ Below w.heap.size w w' := by
  refine (make_any 2 1 1 1 1 0 w (by omega) (by decide)).mono ?_
  rintro e w' ⟨ge, gB, gl, go, rfl, M, B⟩
  refine ⟨ge, gB, gl, go, rfl, ?_, B⟩
  have := M.e
  rw [show 2 * 1 = 2 from rfl, first_two] at this
  exact this
theorem shape_lit (w : World) : Calls Tryd.prog 4 #[.agg #[.int .i64 2, .int .i64 4, .int .i64 3, .int .i64 1, .int .i64 1]] w fun e w' => e = .returned (.int .i64 4) ∧ Below w.heap.size w w' :=
  shape_any 2 4 3 1 1 w (by unfold I64; omega) (by unfold I64; omega) (by unfold I64; omega) (by unfold I64; omega) (by unfold I64; omega)
theorem stN_at (seed i : Nat) : (seed + (i + 1) * 11400714819323198485 % 18446744073709551616) % 18446744073709551616 = stN seed (i + 1) := by unfold stN; omega
end Go.Proofs.YtmocofkcaamnoacDoor
