/- What the statements of send ask ahead of all. -/
import Derived.Test.YtmblaigiipjmfaaSdNext
namespace Go.Proofs.Ytmblaigiipjmfaa
open Go.ChangeShapes Go.WideShapes Go.ChangeAt Go.RowKit
theorem awS : cutS [97, 98, 99, 100, 101] 2 = [txt [97, 98], txt [99, 100], txt [101]] := rfl
theorem awC : gotB (List.replicate 3 false) 3 1 = [false, true, false] := rfl
theorem awL : leftL [false, true, false] 3 = [0, 2] := rfl
theorem awP : partsL 7 3 [txt [97, 98], txt [99, 100], txt [101]] [0, 2] = [partR 7 0 3 (txt [97, 98]), partR 7 2 3 (txt [101])] := rfl
set_option maxHeartbeats 8000000 in
theorem sawake_any (w : World) : Calls Try.prog 11 #[] w fun e w' => e = .returned (.bool true) ∧ Below w.heap.size w w' := by
  have BG : ∀ W, Calls Try.prog 9 #[.int .i64 7, .string ⟨#[97, 98, 99, 100, 101]⟩, .int .i64 2] W fun e w' => ∃ a c a2 c2, e = .returned (.tuple #[.agg #[.int .i64 7, .slice a 3 c, .slice a2 3 c2], .int .i64 0]) ∧ VOwn w' W.heap.size 9 (.slice a 3 c) 3 (strs [txt [97, 98], txt [99, 100], txt [101]]) ∧ VOwn w' W.heap.size 4 (.slice a2 3 c2) 3 (bools (List.replicate 3 false)) ∧ Below W.heap.size W w' := fun W => sbegin_ok 7 [97, 98, 99, 100, 101] 2 W rfl (by decide) (by decide)
  have hz : ∀ s ∈ [txt [97, 98], txt [99, 100], txt [101]], s.size ≤ 140737488355328 := by
    intro s hs
    simp at hs
    rcases hs with rfl | rfl | rfl <;> (rw [txt_size]; decide)
  have GT : Hid (∀ W a c a2 c2, VArg W a 3 c (strs [txt [97, 98], txt [99, 100], txt [101]]) → VArg W a2 3 c2 (bools (List.replicate 3 false)) → Calls Try.prog 13 #[.agg #[.int .i64 7, .slice a 3 c, .slice a2 3 c2], .int .i64 7, .int .i64 1] W fun e w' => ∃ a c a2 c2, e = .returned (.tuple #[.agg #[.int .i64 7, .slice a 3 c, .slice a2 3 c2], .int .i64 0]) ∧ VOwn w' W.heap.size 9 (.slice a 3 c) 3 (strs [txt [97, 98], txt [99, 100], txt [101]]) ∧ VOwn w' W.heap.size 4 (.slice a2 3 c2) 3 (bools [false, true, false]) ∧ Below W.heap.size W w') := fun W a c a2 c2 h1 h2 => sgot_ok 7 a a2 3 c 3 c2 1 _ _ W h1 h2 (by decide) (by decide) hz (by decide)
  have NX : Hid (∀ W a c a2 c2, VArg W a 3 c (strs [txt [97, 98], txt [99, 100], txt [101]]) → VArg W a2 3 c2 (bools [false, true, false]) → Calls Try.prog 18 #[.agg #[.int .i64 7, .slice a 3 c, .slice a2 3 c2], .int .i64 5] W fun e w' => ∃ a c, e = .returned (.slice a 2 c) ∧ PRow w' W.heap.size (.slice a 2 c) [partR 7 0 3 (txt [97, 98]), partR 7 2 3 (txt [101])] ∧ Below W.heap.size W w') := fun W a c a2 c2 h1 h2 => snext_any 7 5 a a2 3 c 3 c2 2 _ _ W h1 h2 (by decide) hz rfl
  clear hz
  go_enter Try.func11, Try.ntmps11
  go_wp2_with (first
    | (go_at_call 9; refine (BG _).mono ?_; rintro e w1 ⟨a, c, a2, c2, rfl, PO1, CO1, B1⟩; have X1 := blk_new w1 30 #[.int .i64 0, .slice none 0 0, .slice none 0 0]; have BA := belowA w1 (.cells #[.int .i64 0, .slice none 0 0, .slice none 0 0] 30); have s1 : (w1.alloc (.cells #[.int .i64 0, .slice none 0 0, .slice none 0 0] 30)).heap.size = w1.heap.size + 1 := (by simp); have P2 := (VOwn.varg PO1).below BA; have C2 := (VOwn.varg CO1).below BA; have BB := below_then B1 BA; generalize hwa : w1.alloc (.cells #[.int .i64 0, .slice none 0 0, .slice none 0 0] 30) = wa at *; have X2 := X1.row #[.int .i64 7, .slice a 3 c, .slice a2 3 c2]; have ltP := fun g h => (World.ownsRow.lt PO1 g h).2; have ltC := fun g h => (World.ownsRow.lt CO1 g h).2; have P3 := P2.of_block (w' := wa.setRow w1.heap.size #[.int .i64 7, .slice a 3 c, .slice a2 3 c2]) (fun b o s e _ => setRow_other _ _ _ _ (by have := ltP b (by rw [e]; rfl); omega)); have C3 := C2.of_block (w' := wa.setRow w1.heap.size #[.int .i64 7, .slice a 3 c, .slice a2 3 c2]) (fun b o s e _ => setRow_other _ _ _ _ (by have := ltC b (by rw [e]; rfl); omega)); have z1 := B1.size; have BC := belowR BB (show w.heap.size ≤ w1.heap.size by omega) #[.int .i64 7, .slice a 3 c, .slice a2 3 c2]; generalize hwb : wa.setRow w1.heap.size #[.int .i64 7, .slice a 3 c, .slice a2 3 c2] = wb at *; have G := GT.out wb a c a2 c2 P3 C3)
    | (refine wpList_store_row rfl 30 _ _ rfl w1.heap.size _ rfl rfl 30 _ X1 Try.infoSs rfl (stall _ _ _ _ _ _ _) ?_; rw [hwb])
    | (refine wpList_load_row rfl 30 _ rfl w1.heap.size rfl 30 _ (0, 0) _ X2 Try.underlying30 rfl Try.infoSs ?_)
    | (go_at_call 13; refine G.mono ?_; rintro e w3 ⟨b, d, b2, d2, rfl, PO3, CO3, B3⟩; have X3 := X2.below B3; have X4 := X3.row #[.int .i64 7, .slice b 3 d, .slice b2 3 d2]; have lt3 := X2.lt; have P4 := (VOwn.varg PO3).of_block (w' := w3.setRow w1.heap.size #[.int .i64 7, .slice b 3 d, .slice b2 3 d2]) (fun x o s e _ => setRow_other _ _ _ _ (by have := (World.ownsRow.lt PO3 x (by rw [e]; rfl)).1; omega)); have C4 := (VOwn.varg CO3).of_block (w' := w3.setRow w1.heap.size #[.int .i64 7, .slice b 3 d, .slice b2 3 d2]) (fun x o s e _ => setRow_other _ _ _ _ (by have := (World.ownsRow.lt CO3 x (by rw [e]; rfl)).1; omega)); have BD := belowR (below_then BC B3) (show w.heap.size ≤ w1.heap.size by omega) #[.int .i64 7, .slice b 3 d, .slice b2 3 d2]; generalize hwc : w3.setRow w1.heap.size #[.int .i64 7, .slice b 3 d, .slice b2 3 d2] = wc at *; have NN := NX.out wc b d b2 d2 P4 C4)
    | (refine wpList_store_row rfl 30 _ _ rfl w1.heap.size _ rfl rfl 30 _ X3 Try.infoSs rfl (stall _ _ _ _ _ _ _) ?_; rw [hwc])
    | (refine wpList_load_row rfl 30 _ rfl w1.heap.size rfl 30 _ (0, 0) _ X4 Try.underlying30 rfl Try.infoSs ?_)
    | (go_at_call 18; refine NN.mono ?_; rintro e w5 ⟨x, xc, rfl, R5, B5⟩; obtain ⟨g, rfl, hg1, hg2, kc⟩ := R5.cells (by decide); have q0 : w5.cell? ⟨g, 4, none⟩ = some (.int .i64 7) := kc 1 0 (by decide) (by decide); have q1 : w5.cell? ⟨g, 5, none⟩ = some (.int .i64 2) := kc 1 1 (by decide) (by decide); have q2 : w5.cell? ⟨g, 6, none⟩ = some (.int .i64 3) := kc 1 2 (by decide) (by decide); have q3 : w5.cell? ⟨g, 7, none⟩ = some (.string ⟨#[101]⟩) := kc 1 3 (by decide) (by decide); have hxm := R5.max; clear kc))
  go_ret
  exact ⟨rfl, below_then BD B5⟩
end Go.Proofs.Ytmblaigiipjmfaa
