/- The answers that the document fixes of a holder. -/
import Derived.Test.YtifbnnffejamaaaHdGr
namespace Go.Proofs.Ytifbnnffejamaaa
open Go.ChangeShapes Go.WideShapes Go.ChangeAt Go.RowKit Go.Maps
theorem svar (W : World) (a b : Int) (m n : Option Nat) : Blk (W.alloc (.cells #[.int .i64 0, .int .i64 0, .map none, .map none] 26)) W.heap.size 26 #[.int .i64 0, .int .i64 0, .map none, .map none] ∧
    Blk ((W.alloc (.cells #[.int .i64 0, .int .i64 0, .map none, .map none] 26)).setRow W.heap.size #[.int .i64 a, .int .i64 b, .map m, .map n]) W.heap.size 26 #[.int .i64 a, .int .i64 b, .map m, .map n] ∧
    Below W.heap.size W ((W.alloc (.cells #[.int .i64 0, .int .i64 0, .map none, .map none] 26)).setRow W.heap.size #[.int .i64 a, .int .i64 b, .map m, .map n]) ∧
    W.heap.size + 1 ≤ ((W.alloc (.cells #[.int .i64 0, .int .i64 0, .map none, .map none] 26)).setRow W.heap.size #[.int .i64 a, .int .i64 b, .map m, .map n]).heap.size :=
  ⟨blk_new _ _ _, (blk_new W _ _).row _, belowR (belowA _ _) (Nat.le_refl _) _, by rw [setRow_size]; simp⟩
theorem WnM.some {w : World} {b : Nat} {L : List (Int × Wn)} (h : MapAt Wn.val w b L) : WnM w (some b) L := Or.inr ⟨b, rfl, h⟩
theorem WnM.nil (w : World) : WnM w none [] := Or.inl ⟨rfl, rfl⟩
theorem HvM.some {w : World} {b : Nat} {L : List (Int × Hv)} (h : MapAt Hv.val w b L) : HvM w (some b) L := Or.inr ⟨b, rfl, h⟩
theorem HvM.nil (w : World) : HvM w none [] := Or.inl ⟨rfl, rfl⟩
set_option maxRecDepth 100000 in
set_option maxHeartbeats 8000000 in
theorem hawake_any (w : World) : Calls Try.prog 5 #[] w fun e w' => e = .returned (.bool true) ∧ Below w.heap.size w w' := by
  have C1 := hask_ok 0 0 none none 5 1 [] [] w (WnM.nil w) (HvM.nil w) (by simp) (by simp) (by omega) (by decide)
  have e1 : putM ([] : List (Int × Wn)) 1 ⟨0 * 1048576 + (0 + 1), 5⟩ = [(1, ⟨1, 5⟩)] := rfl
  rw [e1] at C1
  clear e1
  have C2 := fun (W : World) (b c : Nat) (h : MapAt Wn.val W b [(1, ⟨1, 5⟩)]) (k : MapAt Hv.val W c []) => hgr_ok 0 1 (some b) (some c) 8 10 3 1 1 7 _ _ W (WnM.some h) (HvM.some k) (by simp) (by simp) (by omega) ⟨1, 5⟩ rfl rfl (by decide) (by simp only; omega) (by omega)
  have e2 : putM ([] : List (Int × Hv)) 1 ⟨7, grU [] 1 7 (5 + 10 - 3)⟩ = [(1, ⟨7, 12⟩)] := rfl
  simp only [] at C2
  rw [e2] at C2
  clear e2
  have C3 := fun (W : World) (m : Option Nat) (b : Nat) (h : MapAt Hv.val W b [(1, ⟨7, 12⟩)]) => hbel_any 0 1 m (some b) 11 1 _ W (HvM.some h) (by omega)
  have e3 : belL 11 ([(1, ⟨7, 12⟩)] : List (Int × Hv)) 1 = some 7 := by rfl
  rw [e3] at C3
  clear e3
  have C4 := fun (W : World) (m : Option Nat) (b : Nat) (h : MapAt Hv.val W b [(1, ⟨7, 12⟩)]) => hbel_any 0 1 m (some b) 12 1 _ W (HvM.some h) (by omega)
  have e4 : belL 12 ([(1, ⟨7, 12⟩)] : List (Int × Hv)) 1 = none := by rfl
  rw [e4] at C4
  clear e4
  have HV : Hid (∀ (W : World) (a b : Int) (m n : Option Nat), _) := svar
  unfold hsV New at *
  simp only [Option.getD_some, Option.isSome_some] at C3
  simp only [Option.getD_none, Option.isSome_none] at C4
  simp only [Int.reduceAdd, Int.reduceMul] at C1
  go_enter Try.func5, Try.ntmps5
  go_wp2_with (first
    | (go_at_call 6; refine C1.mono ?_; rintro e w1 ⟨b1, c1, rfl, ⟨M1, N1, _, _, _⟩, B1⟩; obtain ⟨XA1, XB1, BB1, z1⟩ := HV.out w1 0 1 (some b1) (some c1); generalize hwA1 : w1.alloc (.cells #[.int .i64 0, .int .i64 0, .map none, .map none] 26) = wA1 at *; generalize hwB1 : wA1.setRow w1.heap.size #[.int .i64 0, .int .i64 1, .map (some b1), .map (some c1)] = wB1 at *; have D2 := C2 wB1 b1 c1 (M1.below BB1) (N1.below BB1); clear C2)
    | (go_at_call 8; refine D2.mono ?_; rintro e w2 ⟨b2, c2, rfl, ⟨_, N2, _, _, hc2⟩, B2⟩; have X2 := XB1.below B2; have X3 := X2.row #[.int .i64 0, .int .i64 1, .map (some b2), .map (some c2)]; have N3 := N2.keep (setRow_other w2 w1.heap.size c2 #[.int .i64 0, .int .i64 1, .map (some b2), .map (some c2)] (by omega)); have B3 := belowR (below_then (below_then B1 BB1) B2) (show w.heap.size ≤ w1.heap.size from B1.size) #[.int .i64 0, .int .i64 1, .map (some b2), .map (some c2)]; generalize hw3 : w2.setRow w1.heap.size #[.int .i64 0, .int .i64 1, .map (some b2), .map (some c2)] = w3 at *; have D3 := C3 w3 (some b2) c2 N3)
    | (go_at_call_of 21 (11 : Int); refine D3.mono ?_; rintro e w4 ⟨rfl, B4⟩; have X4 := X3.below B4; have D4 := C4 w4 (some b2) c2 (N3.below B4))
    | (go_at_call_of 21 (12 : Int); refine D4.mono ?_; rintro e w5 ⟨rfl, B5⟩)
    | (refine wpList_load_row rfl 26 _ rfl w1.heap.size rfl 26 _ (0, 0) _ XB1 Try.underlying26 rfl Try.infoHs ?_)
    | (refine wpList_load_row rfl 26 _ rfl w1.heap.size rfl 26 _ (0, 0) _ X3 Try.underlying26 rfl Try.infoHs ?_)
    | (refine wpList_load_row rfl 26 _ rfl w1.heap.size rfl 26 _ (0, 0) _ X4 Try.underlying26 rfl Try.infoHs ?_)
    | (refine wpList_store_row rfl 26 _ _ rfl w1.heap.size _ rfl rfl 26 _ XA1 Try.infoHs rfl (sall _ _ _ _) ?_; rw [hwB1])
    | (refine wpList_store_row rfl 26 _ _ rfl w1.heap.size _ rfl rfl 26 _ X2 Try.infoHs rfl (sall _ _ _ _) ?_; rw [hw3]))
  go_ret
  exact ⟨rfl, below_then B3 (below_then B4 B5)⟩
end Go.Proofs.Ytifbnnffejamaaa
