/- The awake check of the laws of layer 6 is true; the document's made number; configurations as arguments. -/
import Derived.Test.YtklgaokhillinaaMdMake2
namespace Go.Proofs.Ytklgaokhillinaa
open Go.ChangeShapes Go.WideShapes Go.ChangeAt Go.RowKit
theorem first_two : numR 0 0 2 131072 = [100482, -17950] := by decide +kernel
theorem make_lit (w : World) : Calls Try.prog 16 #[.agg #[.int .i64 2, .int .i64 1, .int .i64 1, .int .i64 1, .int .i64 1], .int .u64 0] w fun e w' => ∃ ge gB gl go, e = .returned (.tuple #[.agg #[.int .i64 2, .int .i64 1, .slice (some ⟨ge, 0, none⟩) 2 2, .slice (some ⟨gB, 0, none⟩) 1 1, .slice (some ⟨gl, 0, none⟩) 1 1, .int .i64 2, .int .i64 1, .slice (some ⟨go, 0, none⟩) 2 2], .int .i64 0]) ∧ Fresh w' w.heap.size ge 2 2 [100482, -17950] ∧ Below w.heap.size w w' := by
  refine (make_any 2 1 1 1 1 0 w (by omega) (by decide)).mono ?_
  rintro e w' ⟨ge, gB, gl, go, rfl, M, B⟩
  refine ⟨ge, gB, gl, go, rfl, ?_, B⟩
  have := M.e
  rw [show 2 * 1 = 2 from rfl, first_two] at this
  exact this
theorem shape_lit (w : World) : Calls Try.prog 10 #[.agg #[.int .i64 2, .int .i64 4, .int .i64 3, .int .i64 1, .int .i64 1]] w fun e w' => e = .returned (.int .i64 4) ∧ Below w.heap.size w w' :=
  shape_any 2 4 3 1 1 w (by unfold I64; omega) (by unfold I64; omega) (by unfold I64; omega) (by unfold I64; omega) (by unfold I64; omega)
set_option maxHeartbeats 1600000 in
theorem awake6_any (w : World) : Calls Try.prog 9 #[] w fun e w' => e = .returned (.bool true) ∧ Below w.heap.size w w' := by
  go_enter Try.func9, Try.ntmps9
  go_wp2_with fail
  refine (make_lit _).mono ?_
  rintro e w2 ⟨ge, gB, gl, go, rfl, F, B⟩
  have X := blk_new w2 29 #[.int .i64 2, .int .i64 1, .slice (some ⟨ge, 0, none⟩) 2 2, .slice (some ⟨gB, 0, none⟩) 1 1, .slice (some ⟨gl, 0, none⟩) 1 1, .int .i64 2, .int .i64 1, .slice (some ⟨go, 0, none⟩) 2 2]
  have B2 : Below w2.heap.size w2 (w2.alloc (.cells #[.int .i64 2, .int .i64 1, .slice (some ⟨ge, 0, none⟩) 2 2, .slice (some ⟨gB, 0, none⟩) 1 1, .slice (some ⟨gl, 0, none⟩) 1 1, .int .i64 2, .int .i64 1, .slice (some ⟨go, 0, none⟩) 2 2] 29)) := (Below.refl _ _).alloc (Nat.le_refl _) _
  generalize hw3 : w2.alloc (.cells #[.int .i64 2, .int .i64 1, .slice (some ⟨ge, 0, none⟩) 2 2, .slice (some ⟨gB, 0, none⟩) 1 1, .slice (some ⟨gl, 0, none⟩) 1 1, .int .i64 2, .int .i64 1, .slice (some ⟨go, 0, none⟩) 2 2] 29) = w3 at *
  replace F := F.below B2
  replace B2 := below_then B B2
  have c2 : w3.cell? ⟨w2.heap.size, 2, none⟩ = some (.slice (some ⟨ge, 0, none⟩) 2 2) := X.cell 2 rfl
  have d0 : w3.cell? ⟨ge, 0, none⟩ = some (.int .i32 100482) := F.cell (t := 0) (by omega)
  have d1 : w3.cell? ⟨ge, 1, none⟩ = some (.int .i32 (-17950)) := F.cell (t := 1) (by omega)
  go_wp2_with (go_at_call 10; refine (shape_lit _).mono ?_; rintro e w4 ⟨rfl, B3⟩)
  go_ret
  exact ⟨rfl, below_then B2 B3⟩
theorem stN_at (seed i : Nat) : (seed + (i + 1) * 11400714819323198485 % 18446744073709551616) % 18446744073709551616 = stN seed (i + 1) := by unfold stN; omega
set_option maxRecDepth 100000 in
set_option maxHeartbeats 800000 in
theorem random_any (seed i m : Nat) (w : World) (hi : i ≤ 1000000) (hm : m ≤ 131072) (h0 : 1 ≤ m) :
   Calls Try.prog 42 #[.int .u64 (seed : Int), .int .i64 (i : Int), .int .i64 (m : Int)] w fun e w' => e = .returned (.int .i32 (numN seed i m)) ∧ w' = w := by
  obtain ⟨s, hs⟩ : ∃ s, s = stN seed (i + 1) := ⟨_, rfl⟩
  have hsl : s < 18446744073709551616 := by rw [hs]; exact stN_lt _ _
  have HN : Hid (numN seed i m = genN s m) := by show _ = _; unfold numN; rw [hs]
  have em : IntKind.u64.wrap (((i : Int) + 1) * 11400714819323198485) = (((i + 1) * 11400714819323198485 % 18446744073709551616 : Nat) : Int) := by rw [IntKind.wrap_u64]; omega
  have e0 : IntKind.u64.wrap ((seed : Int) + (((i + 1) * 11400714819323198485 % 18446744073709551616 : Nat) : Int)) = (s : Int) := by rw [IntKind.wrap_u64, hs, ← stN_at]; omega
  generalize (i + 1) * 11400714819323198485 % 18446744073709551616 = p at *
  have st1 := step_xor s 1073741824 13787848793156543929 1073741824 13787848793156543929 rfl rfl hsl
  have st2 := step_xor (sprN s 1073741824 13787848793156543929) 134217728 10723151780598845931 134217728 10723151780598845931 rfl rfl (sprN_lt _ _ _)
  have st3 := xor_div (sprN (sprN s 1073741824 13787848793156543929) 134217728 10723151780598845931) 2147483648 2147483648 rfl (sprN_lt _ _ _)
  obtain ⟨y3, a1, a2⟩ := st1
  obtain ⟨y4, b1, b2⟩ := st2
  obtain ⟨g1, g2, g3⟩ := gen_in s m hm
  have gb := genN_bd s m hm h0
  have HG : Hid (genN s m = ((mixN s / 4294967296 * (2 * m) / 4294967296 : Nat) : Int) - m) := rfl
  have HZ : Hid (mixN s = sprN (sprN s 1073741824 13787848793156543929) 134217728 10723151780598845931 ^^^ (sprN (sprN s 1073741824 13787848793156543929) 134217728 10723151780598845931 / 2147483648)) := rfl
  rw [← HZ.out] at st3
  have hz1 := mixN_lt s
  have hz2 := sprN_lt (sprN s 1073741824 13787848793156543929) 134217728 10723151780598845931
  have hz3 := sprN_lt s 1073741824 13787848793156543929
  generalize mixN s = z at *
  generalize sprN (sprN s 1073741824 13787848793156543929) 134217728 10723151780598845931 = y2 at *
  generalize sprN s 1073741824 13787848793156543929 = y1 at *
  have e6 : ((z : Int) / 4294967296) * 2 * (m : Int) = ((z / 4294967296 * (2 * m) : Nat) : Int) := by rw [Int.mul_assoc, Int.natCast_mul]; rfl
  generalize hq : z / 4294967296 * (2 * m) = q at *
  clear hq hs HZ
  go_enter Try.func42, Try.ntmps42
  go_wp2_with fail
  go_ret
  exact ⟨ret_int (by rw [HN.out, HG.out]; go_num), rfl⟩
end Go.Proofs.Ytklgaokhillinaa
