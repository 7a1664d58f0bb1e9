/- The statements' awake of leases; a state in a variable of its own. -/
import Derived.Test.YtacmphckmjangaaLsLet
namespace Go.Proofs.Ytacmphckmjangaa
open Go.ChangeShapes Go.WideShapes Go.ChangeAt Go.RowKit Go.Maps
theorem lvar (W : World) (a b : Int) (m : Option Nat) : Blk (W.alloc (.cells #[.int .i64 0, .int .i64 0, .map none] 26)) W.heap.size 26 #[.int .i64 0, .int .i64 0, .map none] ∧
    Blk ((W.alloc (.cells #[.int .i64 0, .int .i64 0, .map none] 26)).setRow W.heap.size #[.int .i64 a, .int .i64 b, .map m]) W.heap.size 26 #[.int .i64 a, .int .i64 b, .map m] ∧
    Below W.heap.size W ((W.alloc (.cells #[.int .i64 0, .int .i64 0, .map none] 26)).setRow W.heap.size #[.int .i64 a, .int .i64 b, .map m]) ∧
    W.heap.size + 1 ≤ ((W.alloc (.cells #[.int .i64 0, .int .i64 0, .map none] 26)).setRow W.heap.size #[.int .i64 a, .int .i64 b, .map m]).heap.size :=
  ⟨blk_new _ _ _, (blk_new W _ _).row _, below_row (below_alloc' _ _) (Nat.le_refl _) _, by rw [setRow_size]; simp⟩
theorem hvar (W : World) (a b c : Int) : Blk (W.alloc (.cells #[.int .i64 0, .int .i64 0, .int .i64 0] 51)) W.heap.size 51 #[.int .i64 0, .int .i64 0, .int .i64 0] ∧
    Blk ((W.alloc (.cells #[.int .i64 0, .int .i64 0, .int .i64 0] 51)).setRow W.heap.size #[.int .i64 a, .int .i64 b, .int .i64 c]) W.heap.size 51 #[.int .i64 a, .int .i64 b, .int .i64 c] ∧
    Below W.heap.size W ((W.alloc (.cells #[.int .i64 0, .int .i64 0, .int .i64 0] 51)).setRow W.heap.size #[.int .i64 a, .int .i64 b, .int .i64 c]) ∧
    W.heap.size + 1 ≤ ((W.alloc (.cells #[.int .i64 0, .int .i64 0, .int .i64 0] 51)).setRow W.heap.size #[.int .i64 a, .int .i64 b, .int .i64 c]).heap.size :=
  ⟨blk_new _ _ _, (blk_new W _ _).row _, below_row (below_alloc' _ _) (Nat.le_refl _) _, by rw [setRow_size]; simp⟩
theorem HgM.some {w : World} {b : Nat} {L : List (Int × Hg)} (h : MapAt Hg.val w b L) : HgM w (some b) L := Or.inr ⟨b, rfl, h⟩
theorem HgM.nil (w : World) : HgM w none [] := Or.inl ⟨rfl, rfl⟩
set_option maxHeartbeats 4000000 in
theorem lawake_any (w : World) : Calls Try.prog 5 #[] w fun e w' => e = .returned (.bool true) ∧ Below w.heap.size w w' := by
  have C1 := lgrant_ok 0 0 none 5 10 1 7 [] w (HgM.nil w) (by simp) (by omega) (by omega) (by decide)
  have e1 : putM (lastM 5 ([] : List (Int × Hg))) 1 ⟨7, 0 + 1, 5 + 10⟩ = [(1, ⟨7, 1, 15⟩)] := rfl
  rw [e1] at C1
  clear e1
  have C2 := fun (W : World) (b : Nat) (h : MapAt Hg.val W b [(1, ⟨7, 1, 15⟩)]) => lgrant_bad 1 0 (some b) 14 10 1 8 _ W (HgM.some h) (by simp) (by omega) (by decide)
  have e2 : mayN 1 0 14 10 1 8 [(1, ⟨7, 1, 15⟩)] = 15 := by decide
  rw [e2] at C2
  clear e2
  have C3 := fun (W : World) (b : Nat) (h : MapAt Hg.val W b [(1, ⟨7, 1, 15⟩)]) => lgrant_ok 1 0 (some b) 15 10 1 8 _ W (HgM.some h) (by simp) (by omega) (by omega) (by decide)
  have e3 : putM (lastM 15 ([(1, ⟨7, 1, 15⟩)] : List (Int × Hg))) 1 ⟨8, 1 + 1, 15 + 10⟩ = [(1, ⟨8, 2, 25⟩)] := by rfl
  rw [e3] at C3
  clear e3
  have C4 := fun (W : World) (b : Nat) (h : MapAt Hg.val W b [(1, ⟨8, 2, 25⟩)]) => lwho_any 2 0 (some b) 24 1 _ W (HgM.some h) (by omega)
  have e4 : whoL 24 ([(1, ⟨8, 2, 25⟩)] : List (Int × Hg)) 1 = some ⟨8, 2, 25⟩ := by rfl
  rw [e4] at C4
  clear e4
  have C5 := fun (W : World) (b : Nat) (h : MapAt Hg.val W b [(1, ⟨8, 2, 25⟩)]) => lcount_any 2 0 (some b) 25 _ W (HgM.some h) (by simp)
  have e5 : lastM 25 ([(1, ⟨8, 2, 25⟩)] : List (Int × Hg)) = [] := by rfl
  rw [e5] at C5
  clear e5
  have HV : Hid (∀ (W : World) (a b : Int) (m : Option Nat), _) := lvar
  have HW : Hid (∀ (W : World) (a b c : Int), _) := hvar
  unfold lsV at *
  unfold Hg.val at C4
  simp only [Option.getD_some, Option.isSome_some] at C4
  simp only [List.length_nil, Int.reduceAdd] at C1 C3 C5
  go_enter Try.func5, Try.ntmps5
  go_wp2_with (first
    | (go_at_call_of 6 (5 : Int); refine C1.mono ?_; rintro e w1 ⟨b1, rfl, M1, _, B1⟩; obtain ⟨XA1, XB1, BB1, z1⟩ := HV.out w1 1 0 (some b1); generalize hwA1 : w1.alloc (.cells #[.int .i64 0, .int .i64 0, .map none] 26) = wA1 at *; generalize hwB1 : wA1.setRow w1.heap.size #[.int .i64 1, .int .i64 0, .map (some b1)] = wB1 at *; have M1' := M1.below BB1; have D2 := C2 wB1 b1 M1')
    | (go_at_call_of 6 (14 : Int); refine D2.mono ?_; rintro e w2 ⟨b2, rfl, M2, _, B2⟩; obtain ⟨XA2, XB2, BB2, z2⟩ := HV.out w2 1 0 (some b2); generalize hwA2 : w2.alloc (.cells #[.int .i64 0, .int .i64 0, .map none] 26) = wA2 at *; generalize hwB2 : wA2.setRow w2.heap.size #[.int .i64 1, .int .i64 0, .map (some b2)] = wB2 at *; have XC1 := (XB1.below B2).below BB2; have D3 := C3 wB2 b1 ((M1'.below B2).below BB2))
    | (go_at_call_of 6 (15 : Int); refine D3.mono ?_; rintro e w3 ⟨b3, rfl, M3, _, B3⟩; obtain ⟨XA3, XB3, BB3, z3⟩ := HV.out w3 2 0 (some b3); generalize hwA3 : w3.alloc (.cells #[.int .i64 0, .int .i64 0, .map none] 26) = wA3 at *; generalize hwB3 : wA3.setRow w3.heap.size #[.int .i64 2, .int .i64 0, .map (some b3)] = wB3 at *; have M3' := M3.below BB3; have D4 := C4 wB3 b3 M3')
    | (go_at_call 13; refine D4.mono ?_; rintro e w4 ⟨rfl, B4⟩; obtain ⟨XA4, XB4, BB4, z4⟩ := HW.out w4 8 2 25; generalize hwA4 : w4.alloc (.cells #[.int .i64 0, .int .i64 0, .int .i64 0] 51) = wA4 at *; generalize hwB4 : wA4.setRow w4.heap.size #[.int .i64 8, .int .i64 2, .int .i64 25] = wB4 at *; have XC3 := (XB3.below B4).below BB4; have D5 := C5 wB4 b3 ((M3'.below B4).below BB4); have k0 : wB4.cell? ⟨w3.heap.size, 0, none⟩ = some (.int .i64 2) := XC3.cell 0 rfl; have k1 : wB4.cell? ⟨w3.heap.size, 1, none⟩ = some (.int .i64 0) := XC3.cell 1 rfl; have k2 : wB4.cell? ⟨w3.heap.size, 2, none⟩ = some (.map (some b3)) := XC3.cell 2 rfl)
    | (go_at_call 14; refine D5.mono ?_; rintro e w5 ⟨rfl, B5⟩)
    | (refine wpList_load_row rfl 26 _ rfl w1.heap.size rfl 26 _ (0, 0) _ XB1 Try.underlying26 rfl Try.infoLs ?_)
    | (refine wpList_load_row rfl 26 _ rfl w1.heap.size rfl 26 _ (0, 0) _ XC1 Try.underlying26 rfl Try.infoLs ?_)
    | (refine wpList_load_row rfl 26 _ rfl w3.heap.size rfl 26 _ (0, 0) _ XB3 Try.underlying26 rfl Try.infoLs ?_)
    | (refine wpList_store_row rfl 26 _ _ rfl w1.heap.size _ rfl rfl 26 _ XA1 Try.infoLs rfl (lall _ _ _) ?_; rw [hwB1])
    | (refine wpList_store_row rfl 26 _ _ rfl w2.heap.size _ rfl rfl 26 _ XA2 Try.infoLs rfl (lall _ _ _) ?_; rw [hwB2])
    | (refine wpList_store_row rfl 26 _ _ rfl w3.heap.size _ rfl rfl 26 _ XA3 Try.infoLs rfl (lall _ _ _) ?_; rw [hwB3])
    | (refine wpList_store_row rfl 51 _ _ rfl w4.heap.size _ rfl rfl 51 _ XA4 Try.infoHg rfl (hall3 _ _ _) ?_; rw [hwB4]))
  go_ret
  exact ⟨rfl, below_then (below_then (below_then B1 BB1) (below_then (below_then B2 BB2) (below_then B3 BB3))) (below_then (below_then B4 BB4) B5)⟩
end Go.Proofs.Ytacmphckmjangaa
