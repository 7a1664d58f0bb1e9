/- The error of a configuration. -/
import Derived.Test.YtklgaokhillinaaMdBlock
namespace Go.Proofs.Ytklgaokhillinaa
open Go.ChangeShapes Go.WideShapes Go.ChangeAt Go.RowKit
/-- The error's number of a configuration. -/
def shapeN (V D Hd H L : Int) : Int := if V < 2 ∨ D < 1 ∨ Hd < 1 ∨ H < 1 ∨ L < 1 then 1 else if 64 < V ∨ 32 < D ∨ 4 < Hd ∨ 64 < H ∨ 4 < L then 2 else if D.tmod Hd ≠ 0 then 4 else 0
/-- A number of 64 bits. -/
def I64 (x : Int) : Prop := -9223372036854775808 ≤ x ∧ x ≤ 9223372036854775807
theorem shape_ok {V D Hd H L : Int} (h : shapeN V D Hd H L = 0) : 2 ≤ V ∧ V ≤ 64 ∧ 1 ≤ D ∧ D ≤ 32 ∧ 1 ≤ Hd ∧ Hd ≤ 4 ∧ 1 ≤ H ∧ H ≤ 64 ∧ 1 ≤ L ∧ L ≤ 4 := by
  unfold shapeN at h
  split at h
  · omega
  · split at h
    · omega
    · omega
set_option maxHeartbeats 1600000 in
theorem shape_any (V D Hd H L : Int) (w : World) (b1 : I64 V) (b2 : I64 D) (b3 : I64 Hd) (b4 : I64 H) (b5 : I64 L) :
   Calls Try.prog 10 #[.agg (cfgC V D Hd H L)] w fun e w' => e = .returned (.int .i64 (shapeN V D Hd H L)) ∧ Below w.heap.size w w' := by
  unfold I64 at *
  have X0 := blk_new w 23 (cfgC V D Hd H L)
  have B0 : Below w.heap.size w (w.alloc (.cells (cfgC V D Hd H L) 23)) := (Below.refl _ _).alloc (Nat.le_refl _) _
  unfold cfgC at *
  generalize hw0 : w.alloc (.cells #[.int .i64 V, .int .i64 D, .int .i64 Hd, .int .i64 H, .int .i64 L] 23) = w0 at *
  have c0 : w0.cell? ⟨w.heap.size, 0, none⟩ = some (.int .i64 V) := X0.cell 0 rfl
  have c1 : w0.cell? ⟨w.heap.size, 1, none⟩ = some (.int .i64 D) := X0.cell 1 rfl
  have c2 : w0.cell? ⟨w.heap.size, 2, none⟩ = some (.int .i64 Hd) := X0.cell 2 rfl
  have c3 : w0.cell? ⟨w.heap.size, 3, none⟩ = some (.int .i64 H) := X0.cell 3 rfl
  have c4 : w0.cell? ⟨w.heap.size, 4, none⟩ = some (.int .i64 L) := X0.cell 4 rfl
  clear X0
  have one : V < 2 ∨ D < 1 ∨ Hd < 1 ∨ H < 1 ∨ L < 1 → Calls Try.prog 10 #[.agg #[.int .i64 V, .int .i64 D, .int .i64 Hd, .int .i64 H, .int .i64 L]] w fun e w' => e = .returned (.int .i64 (shapeN V D Hd H L)) ∧ Below w.heap.size w w' := by
    intro h
    have HF : Hid (shapeN V D Hd H L = 1) := by show _ = _; unfold shapeN; rw [if_pos h]
    have h' : V < 2 ∨ (2 ≤ V ∧ D < 1) ∨ (2 ≤ V ∧ 1 ≤ D ∧ Hd < 1) ∨ (2 ≤ V ∧ 1 ≤ D ∧ 1 ≤ Hd ∧ H < 1) ∨ (2 ≤ V ∧ 1 ≤ D ∧ 1 ≤ Hd ∧ 1 ≤ H ∧ L < 1) := by omega
    clear h
    rcases h' with h | h | h | h | h
    all_goals
      go_enter Try.func10, Try.ntmps10
      go_wp2
      go_ret
      exact ⟨ret_int HF.out.symm, B0⟩
  by_cases h1 : V < 2 ∨ D < 1 ∨ Hd < 1 ∨ H < 1 ∨ L < 1
  · exact one h1
  clear one
  have g1 : 2 ≤ V ∧ 1 ≤ D ∧ 1 ≤ Hd ∧ 1 ≤ H ∧ 1 ≤ L := by omega
  by_cases h2 : 64 < V ∨ 32 < D ∨ 4 < Hd ∨ 64 < H ∨ 4 < L
  · have HF : Hid (shapeN V D Hd H L = 2) := by show _ = _; unfold shapeN; rw [if_neg h1, if_pos h2]
    have h' : 64 < V ∨ (V ≤ 64 ∧ 32 < D) ∨ (V ≤ 64 ∧ D ≤ 32 ∧ 4 < Hd) ∨ (V ≤ 64 ∧ D ≤ 32 ∧ Hd ≤ 4 ∧ 64 < H) ∨ (V ≤ 64 ∧ D ≤ 32 ∧ Hd ≤ 4 ∧ H ≤ 64 ∧ 4 < L) := by omega
    clear h1 h2
    rcases h' with h | h | h | h | h
    all_goals
      go_enter Try.func10, Try.ntmps10
      go_wp2
      go_ret
      exact ⟨ret_int HF.out.symm, B0⟩
  have g2 : V ≤ 64 ∧ D ≤ 32 ∧ Hd ≤ 4 ∧ H ≤ 64 ∧ L ≤ 4 := by omega
  have hz : Hd ≠ 0 := by omega
  have tq : 0 ≤ D.tmod Hd ∧ D.tmod Hd ≤ 32 := by
    rw [Int.tmod_eq_emod_of_nonneg (by omega)]
    have a := Int.emod_nonneg D hz
    have b := Int.emod_lt_of_pos D (show 0 < Hd by omega)
    omega
  by_cases h3 : D.tmod Hd = 0
  · have HF : Hid (shapeN V D Hd H L = 0) := by show _ = _; unfold shapeN; rw [if_neg h1, if_neg h2, if_neg (by omega)]
    have e3 : D % Hd = 0 := by rw [← Int.tmod_eq_emod_of_nonneg (by omega)]; exact h3
    clear h1 h2
    go_enter Try.func10, Try.ntmps10
    go_wp2
    go_ret
    exact ⟨ret_int HF.out.symm, B0⟩
  · have HF : Hid (shapeN V D Hd H L = 4) := by show _ = _; unfold shapeN; rw [if_neg h1, if_neg h2, if_pos h3]
    have e3 : (D % Hd == 0) = false := by rw [← Int.tmod_eq_emod_of_nonneg (by omega)]; simpa using h3
    have e4 : (D.tmod Hd == 0) = false := by simpa using h3
    clear h1 h2
    go_enter Try.func10, Try.ntmps10
    go_wp2
    go_ret
    exact ⟨ret_int HF.out.symm, B0⟩
end Go.Proofs.Ytklgaokhillinaa
