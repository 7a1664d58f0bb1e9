/- A model's source of numbers: the next number. -/
import Derived.Test.YtklgaokhillinaaRows
import Derived.Test.YtklgaokhillinaaBlk
import Derived.Test.YtklgaokhillinaaMdNum
import Derived.Test.YtklgaokhillinaaKin
import Derived.Laws.Bits64
namespace Go.Proofs.Ytklgaokhillinaa
open Go.ChangeShapes Go.WideShapes Go.ChangeAt Go.RowKit
/-- The source lies in block g, at state st. -/
def SrcAt (w : World) (g st : Nat) : Prop := Blk w g 66 #[.int .u64 (st : Int)]
theorem xor_div (x p : Nat) (P : Int) (hP : P = (p : Int)) (hx : x < 18446744073709551616) : bits BinOp.xor IntKind.u64 (x : Int) ((x : Int) / P) = ((x ^^^ (x / p) : Nat) : Int) := by
  have e : ((x : Int) / (p : Int)) = ((x / p : Nat) : Int) := rfl
  rw [hP, e, bits_xor_u64_nat x (x / p) hx (Nat.lt_of_le_of_lt (Nat.div_le_self _ _) hx)]
theorem step_xor (x p c : Nat) (P C : Int) (hP : P = (p : Int)) (hC : C = (c : Int)) (hx : x < 18446744073709551616) : ∃ y : Nat, bits BinOp.xor IntKind.u64 (x : Int) ((x : Int) / P) = (y : Int) ∧ IntKind.u64.wrap ((y : Int) * C) = (sprN x p c : Int) := by
  refine ⟨_, xor_div x p P hP hx, ?_⟩
  rw [IntKind.wrap_u64, hC]
  unfold sprN
  omega
set_option maxHeartbeats 800000 in
theorem next_any (g st m : Nat) (w : World) (h : SrcAt w g st) (hm : m ≤ 131072) (h0 : 1 ≤ m) :
   Calls Try.prog 40 #[.pointer (some ⟨g, 0, none⟩), .int .u64 (m : Int)] w fun e w' => e = .returned (.int .i32 (genN ((st + 11400714819323198485) % 18446744073709551616) m)) ∧ w' = w.setCell ⟨g, 0, none⟩ (.int .u64 (((st + 11400714819323198485) % 18446744073709551616 : Nat) : Int)) := by
  have c0 : w.cell? ⟨g, 0, none⟩ = some (.int .u64 (st : Int)) := h.cell 0 rfl
  have f0 := h.frozen 0
  obtain ⟨s, hs⟩ : ∃ s, s = (st + 11400714819323198485) % 18446744073709551616 := ⟨_, rfl⟩
  have hsl : s < 18446744073709551616 := by omega
  rw [← hs]
  have h2 := Blk.set h 0 (.int .u64 (s : Int))
  have c2 : (w.setCell ⟨g, 0, none⟩ (.int .u64 (s : Int))).cell? ⟨g, 0, none⟩ = some (.int .u64 (s : Int)) := h2.cell 0 rfl
  clear h h2
  have e0 : IntKind.u64.wrap ((st : Int) + 11400714819323198485) = (s : Int) := by rw [IntKind.wrap_u64]; omega
  have st1 := step_xor s 1073741824 13787848793156543929 1073741824 13787848793156543929 rfl rfl hsl
  have st2 := step_xor (sprN s 1073741824 13787848793156543929) 134217728 10723151780598845931 134217728 10723151780598845931 rfl rfl (sprN_lt _ _ _)
  have st3 := xor_div (sprN (sprN s 1073741824 13787848793156543929) 134217728 10723151780598845931) 2147483648 2147483648 rfl (sprN_lt _ _ _)
  obtain ⟨y3, a1, a2⟩ := st1
  obtain ⟨y4, b1, b2⟩ := st2
  obtain ⟨g1, g2, g3⟩ := gen_in s m hm
  have gb := genN_bd s m hm h0
  have HG : Hid (genN s m = ((mixN s / 4294967296 * (2 * m) / 4294967296 : Nat) : Int) - m) := rfl
  have HZ : Hid (mixN s = sprN (sprN s 1073741824 13787848793156543929) 134217728 10723151780598845931 ^^^ (sprN (sprN s 1073741824 13787848793156543929) 134217728 10723151780598845931 / 2147483648)) := rfl
  rw [← HZ.out] at st3
  generalize mixN s = z at *
  generalize sprN (sprN s 1073741824 13787848793156543929) 134217728 10723151780598845931 = y2 at *
  generalize sprN s 1073741824 13787848793156543929 = y1 at *
  have e6 : ((z : Int) / 4294967296) * (2 * (m : Int)) = ((z / 4294967296 * (2 * m) : Nat) : Int) := by rw [Int.natCast_mul]; rfl
  generalize hq : z / 4294967296 * (2 * m) = q at *
  clear hq hs HZ
  go_enter Try.func40, Try.ntmps40
  go_wp2_with fail
  go_ret
  exact ⟨ret_int (by rw [HG.out]; go_num), rfl⟩
end Go.Proofs.Ytklgaokhillinaa
