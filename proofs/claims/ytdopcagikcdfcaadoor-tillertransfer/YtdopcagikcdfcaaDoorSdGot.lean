/- send's Got. -/
import Derived.Test.YtdopcagikcdfcaaDoorSdCopy
namespace Go.Proofs.YtdopcagikcdfcaaDoor
open Go.ChangeShapes Go.WideShapes Go.ChangeAt Go.RowKit
/-- Came with as many places as there are parts. -/
def fillB (C : List Bool) (n : Nat) : List Bool := C.take n ++ List.replicate (n - C.length) false
theorem fillB_len (C : List Bool) (n : Nat) : (fillB C n).length = n := by
  unfold fillB; rw [List.length_append, List.length_take, List.length_replicate]; omega
theorem fillB_be (C : List Bool) (n i : Nat) (h : i < n) : be (fillB C n) i = be C i := by
  unfold fillB be
  rw [List.getD_eq_getElem?_getD, List.getD_eq_getElem?_getD]
  by_cases h1 : i < C.length
  · rw [List.getElem?_append_left (by rw [List.length_take]; omega), List.getElem?_take, if_pos h]
  · rw [List.getElem?_append_right (by rw [List.length_take]; omega), List.getElem?_replicate]
    rw [List.getElem?_eq_none (l := C) (by omega)]
    split <;> rfl
def gotB (C : List Bool) (n at_ : Nat) : List Bool := (fillB C n).set at_ true
theorem gotB_len (C : List Bool) (n k : Nat) : (gotB C n k).length = n := by unfold gotB; rw [List.length_set, fillB_len]
theorem gotB_be (C : List Bool) (n k i : Nat) (h : i < n) : be (gotB C n k) i = (decide (i = k) || be C i) := by
  have h1 := fillB_be C n i h
  unfold gotB be at *
  rw [List.getD_eq_getElem?_getD, List.getElem?_set]
  by_cases e : k = i
  · subst e
    rw [if_pos rfl, if_pos (by rw [fillB_len]; exact h)]
    simp
  · rw [if_neg e, ← List.getD_eq_getElem?_getD, h1]
    have e2 : ¬ i = k := fun h => e h.symm
    simp [e2]
theorem bools_fill (C : List Bool) (n m : Nat) (hm : C.length = m) : (bools C).take (Nat.min m n) ++ (List.replicate n (Value.bool false)).drop (Nat.min m n) = bools (fillB C n) := by
  unfold bools fillB
  rw [List.map_append, List.map_take, List.drop_replicate, List.map_replicate]
  have : Nat.min m n = min m n := rfl
  rw [this]
  by_cases h : m ≤ n
  · rw [Nat.min_eq_left h, List.take_of_length_le (by rw [List.length_map]; omega), List.take_of_length_le (by rw [List.length_map]; omega), hm]
  · rw [Nat.min_eq_right (by omega), show n - n = 0 by omega, show n - C.length = 0 by omega]
theorem copy_came {w : World} {B g n m c2 : Nat} {a2 : Option Addr} {C : List Bool} (O : VOwn w B 4 (.slice (some ⟨g, 0, none⟩) n n) n (bools (List.replicate n false))) (A : VArg w a2 m c2 (bools C)) :
    ∃ q w5, (Builtin.copy_ #[28, 28] 3 #[.slice (some ⟨g, 0, none⟩) n n, .slice a2 m c2]).run Tryd.prog w = .ok (goInt q) w5 ∧ VOwn w5 B 4 (.slice (some ⟨g, 0, none⟩) n n) n (bools (fillB C n)) ∧ But g w w5 ∧ w5.heap.size = w.heap.size := by
  have hl : C.length = m := by rw [← bools_len]; exact A.len
  have hs : (Tryd.prog.info? 4).map (·.size) = some 1 := by kernel_rfl
  have eB : bools (List.replicate n false) = List.replicate n (Value.bool false) := by simp [bools]
  have hf := bools_fill C n m hl
  by_cases h0 : Nat.min m n = 0
  · refine ⟨0, w, run_copy_none w _ _ _ 4 _ _ n n m c2 Tryd.underlying28 hs h0, ?_, But.refl _ _, rfl⟩
    rw [h0, List.take_zero, List.drop_zero, List.nil_append, ← eB] at hf
    rw [← hf]
    exact O
  · have hm0 : Nat.min m n = min m n := rfl
    obtain ⟨b, o, rfl, hc⟩ := A.cells (by omega)
    rcases O.2 with ⟨h2, _⟩ | ⟨g', cap, cur, hv, hg, hh, h5, h6, h7, h8⟩
    · cases h2
    injection hv with hv1 hv2 hv3
    injection hv1 with hv1
    injection hv1 with hv1
    subst hv1
    subst hv3
    have hcur : cur.toList = List.replicate n (Value.bool false) := by rw [← eB, ← h8, List.take_of_length_le (by rw [Array.length_toList]; omega)]
    have hcl : ((bools C).take (Nat.min m n)).length = Nat.min m n := by rw [List.length_take, bools_len, hl, hm0]; omega
    have R := run_copy_row (P := Tryd.prog) w 28 28 3 4 g 0 n n ⟨b, o, none⟩ m c2 cur 4 ((bools C).take (Nat.min m n)) Tryd.underlying28 hs hh hcl (fun j v hj => A.vals j v (by
      rw [List.getElem?_take] at hj
      split at hj
      · exact hj
      · cases hj)) (by rw [hcl, hm0]; omega) (fun v hv => bools_one C v (List.mem_of_mem_take hv))
    rw [hcl, Nat.zero_add, List.take_zero, List.nil_append, hcur, hf] at R
    refine ⟨_, _, R, ⟨by rw [bools_len, fillB_len]; omega, Or.inr ⟨g, n, (bools (fillB C n)).toArray, rfl, hg, setRow_heap _ _ _ _ _ _ hh, Nat.le_refl _, h6, by simp [bools_len, fillB_len], by simp [List.take_of_length_le, bools_len, fillB_len]⟩⟩, ⟨rfl, rfl, rfl, by simp, fun k _ hk => setRow_other _ _ _ _ hk⟩, by simp⟩
theorem bools_set (C : List Bool) (k : Nat) (b : Bool) : (bools C).set k (.bool b) = bools (C.set k b) := by unfold bools; rw [List.map_set]
set_option maxHeartbeats 16000000 in
theorem sgot_ok (num : Int) (ap ac : Option Addr) (n cp m cc k : Nat) (S : List ByteArray) (C : List Bool) (w : World) (hS : VArg w ap n cp (strs S)) (hC : VArg w ac m cc (bools C)) (hn : n * 16 ≤ 140737488355328) (hm : m ≤ 140737488355328) (hz : ∀ s ∈ S, s.size ≤ 140737488355328) (hk : k < n) :
   Calls Tryd.prog 13 #[stV num (.slice ap n cp) (.slice ac m cc), .int .i64 num, .int .i64 (k : Int)] w fun e w' => ∃ a c a2 c2, e = .returned (.tuple #[stV num (.slice a n c) (.slice a2 n c2), .int .i64 0]) ∧ VOwn w' w.heap.size 9 (.slice a n c) n (strs S) ∧ VOwn w' w.heap.size 4 (.slice a2 n c2) n (bools (gotB C n k)) ∧ Below w.heap.size w w' := by
  have hlC : C.length = m := by rw [← bools_len]; exact hC.len
  have X0 := blk_new w 30 #[.int .i64 num, .slice ap n cp, .slice ac m cc]
  have B0 := belowA w (.cells #[.int .i64 num, .slice ap n cp, .slice ac m cc] 30)
  have s0 : (w.alloc (.cells #[.int .i64 num, .slice ap n cp, .slice ac m cc] 30)).heap.size = w.heap.size + 1 := by simp
  generalize hw0 : w.alloc (.cells #[.int .i64 num, .slice ap n cp, .slice ac m cc] 30) = w0 at *
  have X1 := blk_new w0 30 #[.int .i64 0, .slice none 0 0, .slice none 0 0]
  have B1 := belowA w0 (.cells #[.int .i64 0, .slice none 0 0, .slice none 0 0] 30)
  have s1 : (w0.alloc (.cells #[.int .i64 0, .slice none 0 0, .slice none 0 0] 30)).heap.size = w.heap.size + 1 + 1 := by simp [s0]
  have X01 := X0.below B1
  rw [s0] at X1
  generalize hw1 : w0.alloc (.cells #[.int .i64 0, .slice none 0 0, .slice none 0 0] 30) = w1 at *
  have CP := scopied_any num ap ac n cp m cc S C w1 ((hS.below B0).below B1) ((hC.below B0).below B1) hn hm hz
  have HB : Hid (Below w.heap.size w w1) := below_then B0 B1
  have d1 : ¬ (k : Int) < 0 := by omega
  have d2 : ¬ (n : Int) ≤ (k : Int) := by omega
  have hmk := fun W => run_make_row' (P := Tryd.prog) 28 4 (.bool false) 1 Tryd.underlying28 Tryd.infoBool rfl .i64 .i64 n (by omega) (by omega) W
  unfold stV at *
  clear hS hC X0 B0 B1
  go_enter Tryd.func13, Tryd.ntmps13
  go_wp2_with (first
    | (go_at_call 25; refine CP.mono ?_; rintro e w2 ⟨a, c, a2, c2, rfl, PO2, CO2, B2⟩; have z2 := B2.size; have X02 := X01.below B2; have X12 := X1.below B2; have X03 := X02.row #[.int .i64 num, .slice a n c, .slice a2 m c2]; have e3 : ∀ g, g ≠ w.heap.size → (w2.setRow w.heap.size #[.int .i64 num, .slice a n c, .slice a2 m c2]).heap[g]? = w2.heap[g]? := (fun g hg => setRow_other _ _ _ _ hg); have X13 := X12.of_block (e3 _ (by omega)); have PO3 := VOwn.of_block PO2 (fun g _ hg _ => e3 g (by omega)); have CO3 := VOwn.of_block CO2 (fun g _ hg _ => e3 g (by omega)); have B3 := belowR (below_then HB.out B2) (Nat.le_refl w.heap.size) #[.int .i64 num, .slice a n c, .slice a2 m c2]; have z3 : (w2.setRow w.heap.size #[.int .i64 num, .slice a n c, .slice a2 m c2]).heap.size = w2.heap.size := (by rw [setRow_size]); generalize hw3 : w2.setRow w.heap.size #[.int .i64 num, .slice a n c, .slice a2 m c2] = w3 at *; have k30 : w3.cell? ⟨w.heap.size, 0, none⟩ = some (.int .i64 num) := X03.cell 0 rfl; have k31 : w3.cell? ⟨w.heap.size, 1, none⟩ = some (.slice a n c) := X03.cell 1 rfl; have O4 := vown_made w3 n (by omega); have B4 := belowA w3 (.cells (madeCells #[.bool false] n) 4); have z4 : (w3.alloc (.cells (madeCells #[.bool false] n) 4)).heap.size = w3.heap.size + 1 := (by simp); have X04 := X03.below B4; have X14 := X13.below B4; have PO4 := VOwn.below PO3 B4; have CO4 := VOwn.below CO3 B4; generalize hw4 : w3.alloc (.cells (madeCells #[.bool false] n) 4) = w4 at *; have k42 : w4.cell? ⟨w.heap.size, 2, none⟩ = some (.slice a2 m c2) := X04.cell 2 rfl; obtain ⟨q, w5, hcp, O5, B5, z5⟩ := copy_came O4 (VOwn.varg CO4); have X05 := X04.but B5 (by omega); have X15 := X14.but B5 (by omega); have PO5 := VOwn.of_block PO4 (fun g h1 h2 h3 => B5.block g h3 (by have := (World.ownsRow.lt PO3 g h1).2; omega)); rw [z3] at hcp O5; have k5 : w5.cell? ⟨w2.heap.size, k, none⟩ = some (.bool (be (fillB C n) k)) := (by rw [World.ownsRow.cellAt O5 k (by omega), bools_get (by rw [fillB_len]; exact hk)]); have f5 : w5.frozen? ⟨w2.heap.size, k, none⟩ = false := VOwn.frozen O5 k; have O6 := VOwn.set O5 k (.bool true); rw [bools_set] at O6; have X06 := X05.other (a := ⟨w2.heap.size, k, none⟩) (by show _ ≠ w2.heap.size; omega) (.bool true); have X16 := X15.other (a := ⟨w2.heap.size, k, none⟩) (by show _ ≠ w2.heap.size; omega) (.bool true); have PO6 := VOwn.of_block PO5 (w' := w5.setCell ⟨w2.heap.size, k, none⟩ (.bool true)) (fun g h1 h2 h3 => Below.heap_setCell _ _ _ _ (by show g ≠ w2.heap.size; have := (World.ownsRow.lt PO3 g h1).2; omega)); have B6 := belowS (((below_then B3 B4)).trans (B5.below (B := w.heap.size) (by omega) (by omega))) (a := ⟨w2.heap.size, k, none⟩) (by show _ ≤ w2.heap.size; omega) (.bool true); generalize hw6 : w5.setCell ⟨w2.heap.size, k, none⟩ (.bool true) = w6 at *; have k6 : w6.cell? ⟨w.heap.size, 2, none⟩ = some (.slice a2 m c2) := X06.cell 2 rfl; have f6 := X06.frozen 2; have X07 := X06.set 2 (.slice (some ⟨w2.heap.size, 0, none⟩) n n); have X17 := X16.other (a := ⟨w.heap.size, 2, none⟩) (by show _ ≠ w.heap.size; omega) (.slice (some ⟨w2.heap.size, 0, none⟩) n n); have PO7 := VOwn.of_block PO6 (w' := w6.setCell ⟨w.heap.size, 2, none⟩ (.slice (some ⟨w2.heap.size, 0, none⟩) n n)) (fun g h1 h2 h3 => Below.heap_setCell _ _ _ _ (by show g ≠ w.heap.size; omega)); have O7 := VOwn.of_block O6 (w' := w6.setCell ⟨w.heap.size, 2, none⟩ (.slice (some ⟨w2.heap.size, 0, none⟩) n n)) (fun g h1 h2 h3 => Below.heap_setCell _ _ _ _ (by show g ≠ w.heap.size; omega)); have B7 := belowS B6 (a := ⟨w.heap.size, 2, none⟩) (by show _ ≤ w.heap.size; omega) (.slice (some ⟨w2.heap.size, 0, none⟩) n n); generalize hw7 : w6.setCell ⟨w.heap.size, 2, none⟩ (.slice (some ⟨w2.heap.size, 0, none⟩) n n) = w7 at *)
    | (refine wpList_load_row rfl 30 _ rfl w.heap.size rfl 30 _ (0, 0) _ X01 Tryd.underlying30 rfl Tryd.infoSs ?_)
    | (refine wpList_store_row rfl 30 _ _ rfl w.heap.size _ rfl rfl 30 _ X02 Tryd.infoSs rfl (stall _ _ _ _ _ _ _) ?_; rw [hw3])
    | (refine wpList_load_row rfl 30 _ rfl w.heap.size rfl 30 _ (0, 0) _ X07 Tryd.underlying30 rfl Tryd.infoSs ?_)
    | (refine wpList_store_row rfl 30 _ _ rfl (w.heap.size + 1) _ rfl rfl 30 _ X17 Tryd.infoSs rfl (stall _ _ _ _ _ _ _) ?_))
  refine bodyPost_ret (results_s2 rfl _ _ (w.heap.size + 1) _ rfl (load_ss (X17.row _))) rfl ?_
  exact ⟨a, c, _, _, rfl, (PO7.of_block (fun g _ hg _ => setRow_other _ _ _ _ (by omega))).base (by omega), (O7.of_block (fun g _ hg _ => setRow_other _ _ _ _ (by omega))).base (by omega), belowR B7 (by omega) _⟩
/-- Why a part isn't taken as come; 0: it is. -/
def gotN (num nu I : Int) (n : Nat) : Int := if nu ≠ num then 14 else if I < 0 ∨ (n : Int) ≤ I then 8 else 0
set_option maxHeartbeats 16000000 in
theorem sgot_bad (num nu I : Int) (ap ac : Option Addr) (n cp m cc : Nat) (S : List ByteArray) (C : List Bool) (w : World) (hS : VArg w ap n cp (strs S)) (hC : VArg w ac m cc (bools C)) (hn : n * 16 ≤ 140737488355328) (hm : m ≤ 140737488355328) (hz : ∀ s ∈ S, s.size ≤ 140737488355328) (hk : gotN num nu I n ≠ 0) :
   Calls Tryd.prog 13 #[stV num (.slice ap n cp) (.slice ac m cc), .int .i64 nu, .int .i64 I] w fun e w' => ∃ a c a2 c2, e = .returned (.tuple #[stV num (.slice a n c) (.slice a2 m c2), .int .i64 (gotN num nu I n)]) ∧ VOwn w' w.heap.size 9 (.slice a n c) n (strs S) ∧ VOwn w' w.heap.size 4 (.slice a2 m c2) m (bools C) ∧ Below w.heap.size w w' := by
  have X0 := blk_new w 30 #[.int .i64 num, .slice ap n cp, .slice ac m cc]
  have B0 := belowA w (.cells #[.int .i64 num, .slice ap n cp, .slice ac m cc] 30)
  have s0 : (w.alloc (.cells #[.int .i64 num, .slice ap n cp, .slice ac m cc] 30)).heap.size = w.heap.size + 1 := by simp
  generalize hw0 : w.alloc (.cells #[.int .i64 num, .slice ap n cp, .slice ac m cc] 30) = w0 at *
  have X1 := blk_new w0 30 #[.int .i64 0, .slice none 0 0, .slice none 0 0]
  have B1 := belowA w0 (.cells #[.int .i64 0, .slice none 0 0, .slice none 0 0] 30)
  have s1 : (w0.alloc (.cells #[.int .i64 0, .slice none 0 0, .slice none 0 0] 30)).heap.size = w.heap.size + 1 + 1 := by simp [s0]
  have X01 := X0.below B1
  rw [s0] at X1
  generalize hw1 : w0.alloc (.cells #[.int .i64 0, .slice none 0 0, .slice none 0 0] 30) = w1 at *
  have CP := scopied_any num ap ac n cp m cc S C w1 ((hS.below B0).below B1) ((hC.below B0).below B1) hn hm hz
  have HB : Hid (Below w.heap.size w w1) := below_then B0 B1
  unfold stV at *
  clear hS hC X0 B0 B1
  unfold gotN at *
  by_cases h1 : nu = num
  case neg =>
    rw [if_pos h1]
    clear hk
    go_enter Tryd.func13, Tryd.ntmps13
    go_wp2_with (first
      | (go_at_call 25; refine CP.mono ?_; rintro e w2 ⟨a, c, a2, c2, rfl, PO2, CO2, B2⟩; have z2 := B2.size; have X02 := X01.below B2; have X12 := X1.below B2; have X03 := X02.row #[.int .i64 num, .slice a n c, .slice a2 m c2]; have e3 : ∀ g, g ≠ w.heap.size → (w2.setRow w.heap.size #[.int .i64 num, .slice a n c, .slice a2 m c2]).heap[g]? = w2.heap[g]? := (fun g hg => setRow_other _ _ _ _ hg); have X13 := X12.of_block (e3 _ (by omega)); have PO3 := VOwn.of_block PO2 (fun g _ hg _ => e3 g (by omega)); have CO3 := VOwn.of_block CO2 (fun g _ hg _ => e3 g (by omega)); have B3 := belowR (below_then HB.out B2) (Nat.le_refl w.heap.size) #[.int .i64 num, .slice a n c, .slice a2 m c2]; have z3 : (w2.setRow w.heap.size #[.int .i64 num, .slice a n c, .slice a2 m c2]).heap.size = w2.heap.size := (by rw [setRow_size]); generalize hw3 : w2.setRow w.heap.size #[.int .i64 num, .slice a n c, .slice a2 m c2] = w3 at *; have k30 : w3.cell? ⟨w.heap.size, 0, none⟩ = some (.int .i64 num) := X03.cell 0 rfl; have k31 : w3.cell? ⟨w.heap.size, 1, none⟩ = some (.slice a n c) := X03.cell 1 rfl)
      | (refine wpList_load_row rfl 30 _ rfl w.heap.size rfl 30 _ (0, 0) _ X01 Tryd.underlying30 rfl Tryd.infoSs ?_)
      | (refine wpList_store_row rfl 30 _ _ rfl w.heap.size _ rfl rfl 30 _ X02 Tryd.infoSs rfl (stall _ _ _ _ _ _ _) ?_; rw [hw3])
      | (refine wpList_load_row rfl 30 _ rfl w.heap.size rfl 30 _ (0, 0) _ X03 Tryd.underlying30 rfl Tryd.infoSs ?_)
      | (refine wpList_store_row rfl 30 _ _ rfl (w.heap.size + 1) _ rfl rfl 30 _ X13 Tryd.infoSs rfl (stall _ _ _ _ _ _ _) ?_))
    refine bodyPost_ret (results_s2 rfl _ _ (w.heap.size + 1) _ rfl (load_ss (X13.row _))) rfl ?_
    exact ⟨a, c, _, _, rfl, (PO3.of_block (fun g _ hg _ => setRow_other _ _ _ _ (by omega))).base (by omega), (CO3.of_block (fun g _ hg _ => setRow_other _ _ _ _ (by omega))).base (by omega), belowR B3 (by omega) _⟩
  have h1s := h1.symm
  subst h1s
  rw [if_neg (by simp)] at *
  by_cases h2 : I < 0
  · rw [if_pos (Or.inl h2)]
    clear hk
    go_enter Tryd.func13, Tryd.ntmps13
    go_wp2_with (first
      | (go_at_call 25; refine CP.mono ?_; rintro e w2 ⟨a, c, a2, c2, rfl, PO2, CO2, B2⟩; have z2 := B2.size; have X02 := X01.below B2; have X12 := X1.below B2; have X03 := X02.row #[.int .i64 num, .slice a n c, .slice a2 m c2]; have e3 : ∀ g, g ≠ w.heap.size → (w2.setRow w.heap.size #[.int .i64 num, .slice a n c, .slice a2 m c2]).heap[g]? = w2.heap[g]? := (fun g hg => setRow_other _ _ _ _ hg); have X13 := X12.of_block (e3 _ (by omega)); have PO3 := VOwn.of_block PO2 (fun g _ hg _ => e3 g (by omega)); have CO3 := VOwn.of_block CO2 (fun g _ hg _ => e3 g (by omega)); have B3 := belowR (below_then HB.out B2) (Nat.le_refl w.heap.size) #[.int .i64 num, .slice a n c, .slice a2 m c2]; have z3 : (w2.setRow w.heap.size #[.int .i64 num, .slice a n c, .slice a2 m c2]).heap.size = w2.heap.size := (by rw [setRow_size]); generalize hw3 : w2.setRow w.heap.size #[.int .i64 num, .slice a n c, .slice a2 m c2] = w3 at *; have k30 : w3.cell? ⟨w.heap.size, 0, none⟩ = some (.int .i64 num) := X03.cell 0 rfl; have k31 : w3.cell? ⟨w.heap.size, 1, none⟩ = some (.slice a n c) := X03.cell 1 rfl)
      | (refine wpList_load_row rfl 30 _ rfl w.heap.size rfl 30 _ (0, 0) _ X01 Tryd.underlying30 rfl Tryd.infoSs ?_)
      | (refine wpList_store_row rfl 30 _ _ rfl w.heap.size _ rfl rfl 30 _ X02 Tryd.infoSs rfl (stall _ _ _ _ _ _ _) ?_; rw [hw3])
      | (refine wpList_load_row rfl 30 _ rfl w.heap.size rfl 30 _ (0, 0) _ X03 Tryd.underlying30 rfl Tryd.infoSs ?_)
      | (refine wpList_store_row rfl 30 _ _ rfl (w.heap.size + 1) _ rfl rfl 30 _ X13 Tryd.infoSs rfl (stall _ _ _ _ _ _ _) ?_))
    refine bodyPost_ret (results_s2 rfl _ _ (w.heap.size + 1) _ rfl (load_ss (X13.row _))) rfl ?_
    exact ⟨a, c, _, _, rfl, (PO3.of_block (fun g _ hg _ => setRow_other _ _ _ _ (by omega))).base (by omega), (CO3.of_block (fun g _ hg _ => setRow_other _ _ _ _ (by omega))).base (by omega), belowR B3 (by omega) _⟩
  by_cases h3 : (n : Int) ≤ I
  · rw [if_pos (Or.inr h3)]
    clear hk
    go_enter Tryd.func13, Tryd.ntmps13
    go_wp2_with (first
      | (go_at_call 25; refine CP.mono ?_; rintro e w2 ⟨a, c, a2, c2, rfl, PO2, CO2, B2⟩; have z2 := B2.size; have X02 := X01.below B2; have X12 := X1.below B2; have X03 := X02.row #[.int .i64 num, .slice a n c, .slice a2 m c2]; have e3 : ∀ g, g ≠ w.heap.size → (w2.setRow w.heap.size #[.int .i64 num, .slice a n c, .slice a2 m c2]).heap[g]? = w2.heap[g]? := (fun g hg => setRow_other _ _ _ _ hg); have X13 := X12.of_block (e3 _ (by omega)); have PO3 := VOwn.of_block PO2 (fun g _ hg _ => e3 g (by omega)); have CO3 := VOwn.of_block CO2 (fun g _ hg _ => e3 g (by omega)); have B3 := belowR (below_then HB.out B2) (Nat.le_refl w.heap.size) #[.int .i64 num, .slice a n c, .slice a2 m c2]; have z3 : (w2.setRow w.heap.size #[.int .i64 num, .slice a n c, .slice a2 m c2]).heap.size = w2.heap.size := (by rw [setRow_size]); generalize hw3 : w2.setRow w.heap.size #[.int .i64 num, .slice a n c, .slice a2 m c2] = w3 at *; have k30 : w3.cell? ⟨w.heap.size, 0, none⟩ = some (.int .i64 num) := X03.cell 0 rfl; have k31 : w3.cell? ⟨w.heap.size, 1, none⟩ = some (.slice a n c) := X03.cell 1 rfl)
      | (refine wpList_load_row rfl 30 _ rfl w.heap.size rfl 30 _ (0, 0) _ X01 Tryd.underlying30 rfl Tryd.infoSs ?_)
      | (refine wpList_store_row rfl 30 _ _ rfl w.heap.size _ rfl rfl 30 _ X02 Tryd.infoSs rfl (stall _ _ _ _ _ _ _) ?_; rw [hw3])
      | (refine wpList_load_row rfl 30 _ rfl w.heap.size rfl 30 _ (0, 0) _ X03 Tryd.underlying30 rfl Tryd.infoSs ?_)
      | (refine wpList_store_row rfl 30 _ _ rfl (w.heap.size + 1) _ rfl rfl 30 _ X13 Tryd.infoSs rfl (stall _ _ _ _ _ _ _) ?_))
    refine bodyPost_ret (results_s2 rfl _ _ (w.heap.size + 1) _ rfl (load_ss (X13.row _))) rfl ?_
    exact ⟨a, c, _, _, rfl, (PO3.of_block (fun g _ hg _ => setRow_other _ _ _ _ (by omega))).base (by omega), (CO3.of_block (fun g _ hg _ => setRow_other _ _ _ _ (by omega))).base (by omega), belowR B3 (by omega) _⟩
  exact absurd (if_neg (by omega)) hk
end Go.Proofs.YtdopcagikcdfcaaDoor
