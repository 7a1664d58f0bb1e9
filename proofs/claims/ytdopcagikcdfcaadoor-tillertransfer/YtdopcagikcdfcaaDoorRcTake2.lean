/- recv's Take. Written by tools/genrctake2.py. -/
import Derived.Test.YtdopcagikcdfcaaDoorRcTake
import Derived.Deep.RegionHeld3
namespace Go.Proofs.YtdopcagikcdfcaaDoor
open Go.ChangeShapes Go.WideShapes Go.ChangeAt Go.RowKit
set_option maxHeartbeats 16000000 in
theorem take_bad (num pn pa po : Int) (pt : ByteArray) (ap ac : Option Addr) (n cp m cc : Nat) (S : List ByteArray) (C : List Bool) (w : World) (hS : VArg w ap n cp (strs S)) (hC : VArg w ac m cc (bools C)) (hn : n * 16 ≤ 140737488355328) (hm : m ≤ 140737488355328) (hz : ∀ s ∈ S, s.size ≤ 140737488355328) (hr : takeN num n m S C pn pa po pt ≠ 0) :
   Calls Tryd.prog 12 #[stV num (.slice ap n cp) (.slice ac m cc), ptV pn pa po pt] w fun e w' => ∃ a c a2 c2, e = .returned (.tuple #[stV num (.slice a n c) (.slice a2 m c2), .bool false, .int .i64 (takeN num n m S C pn pa po pt)]) ∧ VOwn w' w.heap.size 9 (.slice a n c) n (strs S) ∧ VOwn w' w.heap.size 4 (.slice a2 m c2) m (bools C) ∧ Below w.heap.size w w' := by
  have X0 := blk_new w 33 #[.int .i64 num, .slice ap n cp, .slice ac m cc]
  have B0 := belowA w (.cells #[.int .i64 num, .slice ap n cp, .slice ac m cc] 33)
  have s0 : (w.alloc (.cells #[.int .i64 num, .slice ap n cp, .slice ac m cc] 33)).heap.size = w.heap.size + 1 := by simp
  generalize hw0 : w.alloc (.cells #[.int .i64 num, .slice ap n cp, .slice ac m cc] 33) = w0 at *
  have X1 := blk_new w0 40 #[.int .i64 pn, .int .i64 pa, .int .i64 po, .string pt]
  have B1 := belowA w0 (.cells #[.int .i64 pn, .int .i64 pa, .int .i64 po, .string pt] 40)
  have s1 : (w0.alloc (.cells #[.int .i64 pn, .int .i64 pa, .int .i64 po, .string pt] 40)).heap.size = w.heap.size + 1 + 1 := by simp [s0]
  have X01 := X0.below B1
  rw [s0] at X1
  generalize hw1 : w0.alloc (.cells #[.int .i64 pn, .int .i64 pa, .int .i64 po, .string pt] 40) = w1 at *
  have X2 := blk_new w1 33 #[.int .i64 0, .slice none 0 0, .slice none 0 0]
  have B2 := belowA w1 (.cells #[.int .i64 0, .slice none 0 0, .slice none 0 0] 33)
  have s2 : (w1.alloc (.cells #[.int .i64 0, .slice none 0 0, .slice none 0 0] 33)).heap.size = w.heap.size + 1 + 1 + 1 := by simp [s1]
  have X02 := X01.below B2
  have X12 := X1.below B2
  rw [s1] at X2
  generalize hw2 : w1.alloc (.cells #[.int .i64 0, .slice none 0 0, .slice none 0 0] 33) = w2 at *
  have CP := rcopied_any num ap ac n cp m cc S C w2 (((hS.below B0).below B1).below B2) (((hC.below B0).below B1).below B2) hn hm hz
  have HB : Hid (Below w.heap.size w w2) := below_then B0 (below_then B1 B2)
  have MT : Hid (∀ (W : World) (a : Option Addr) (c : Nat) (a2 : Option Addr) (c2 : Nat), VArg W a n c (strs S) → VArg W a2 m c2 (bools C) → _) := fun W a c a2 c2 h1 h2 => maytake_any num pn pa po pt a a2 n c m c2 S C W h1 h2
  clear X0 X1 X01 B0 B1 B2 hS hC
  unfold stV ptV at *
  generalize takeN num n m S C pn pa po pt = r at *
  go_enter Tryd.func12, Tryd.ntmps12
  go_wp2_with (first
    | (go_at_call 23; refine CP.mono ?_; rintro e w3 ⟨a, c, a2, c2, rfl, P3, C3, B3⟩; have z3 := B3.size; have X03 := X02.below B3; have X13 := X12.below B3; have X23 := X2.below B3; have X04 := X03.row #[.int .i64 num, .slice a n c, .slice a2 m c2]; have e4 : ∀ g, g ≠ w.heap.size → (w3.setRow w.heap.size #[.int .i64 num, .slice a n c, .slice a2 m c2]).heap[g]? = w3.heap[g]? := (fun g hg => setRow_other _ _ _ _ hg); have X14 := X13.of_block (e4 _ (by omega)); have X24 := X23.of_block (e4 _ (by omega)); have P4 := VOwn.of_block P3 (fun g _ hg _ => e4 g (by omega)); have C4 := VOwn.of_block C3 (fun g _ hg _ => e4 g (by omega)); have B4 := belowR (below_then HB.out B3) (Nat.le_refl w.heap.size) #[.int .i64 num, .slice a n c, .slice a2 m c2]; have z4 : (w3.setRow w.heap.size #[.int .i64 num, .slice a n c, .slice a2 m c2]).heap.size = w3.heap.size := (by rw [setRow_size]); generalize hw4 : w3.setRow w.heap.size #[.int .i64 num, .slice a n c, .slice a2 m c2] = w4 at *; have M := MT.out w4 a c a2 c2 (VOwn.varg P4) (VOwn.varg C4))
    | (go_at_call 24; refine M.mono ?_; rintro e w5 ⟨rfl, B5⟩; have z5 := B5.size; have X05 := X04.below B5; have X15 := X14.below B5; have X25 := X24.below B5; have P5 := VOwn.below P4 B5; have C5 := VOwn.below C4 B5; have BB5 := below_then B4 B5)
    | (refine wpList_load_row rfl 33 _ rfl w.heap.size rfl 33 _ (0, 0) _ X02 Tryd.underlying33 rfl Tryd.infoRs ?_)
    | (refine wpList_store_row rfl 33 _ _ rfl w.heap.size _ rfl rfl 33 _ X03 Tryd.infoRs rfl (stall _ _ _ _ _ _ _) ?_; rw [hw4])
    | (refine wpList_load_row rfl 33 _ rfl w.heap.size rfl 33 _ (0, 0) _ X04 Tryd.underlying33 rfl Tryd.infoRs ?_)
    | (refine wpList_load_row rfl 40 _ rfl (w.heap.size + 1) rfl 40 _ (0, 0) _ X14 Tryd.underlying40 rfl Tryd.infoPt ?_)
    | (refine wpList_load_row rfl 33 _ rfl w.heap.size rfl 33 _ (0, 0) _ X05 Tryd.underlying33 rfl Tryd.infoRs ?_)
    | (refine wpList_store_row rfl 33 _ _ rfl (w.heap.size + 1 + 1) _ rfl rfl 33 _ X25 Tryd.infoRs rfl (stall _ _ _ _ _ _ _) ?_))
  refine bodyPost_ret (results_s3 rfl _ _ (w.heap.size + 1 + 1) _ rfl (load_rs (X25.row _))) rfl ?_
  exact ⟨a, c, a2, c2, rfl, (P5.of_block (fun g _ hg _ => setRow_other _ _ _ _ (by omega))).base (by omega), (C5.of_block (fun g _ hg _ => setRow_other _ _ _ _ (by omega))).base (by omega), belowR BB5 (by omega) _⟩
theorem takeN_zero {num pn pa po : Int} {pt : ByteArray} {n m : Nat} {S : List ByteArray} {C : List Bool} (h : takeN num n m S C pn pa po pt = 0) : m = n ∧ pn = num ∧ po = (n : Int) ∧ 0 ≤ pa ∧ pa < (n : Int) ∧ pt.size ≤ 4096 ∧ (be C pa.toNat = true → se S pa.toNat = pt) := by
  unfold takeN at h
  by_cases q1 : 0 < n ∧ m = n
  case neg => rw [if_pos q1] at h; omega
  rw [if_neg (not_not_intro q1)] at h
  by_cases q2 : pn = num
  case neg => rw [if_pos q2] at h; omega
  rw [if_neg (not_not_intro q2)] at h
  by_cases q3 : po ≠ (n : Int) ∨ pa < 0 ∨ (n : Int) ≤ pa
  · rw [if_pos q3] at h; omega
  rw [if_neg q3] at h
  by_cases q4 : 4096 < pt.size
  · rw [if_pos q4] at h; omega
  rw [if_neg q4] at h
  by_cases q5 : be C pa.toNat = true ∧ ¬ se S pa.toNat = pt
  · rw [if_pos q5] at h; omega
  exact ⟨q1.2, q2, Classical.byContradiction (fun e => q3 (Or.inl e)), by omega, by omega, by omega, fun hb => Classical.byContradiction (fun e => q5 ⟨hb, e⟩)⟩
theorem takeN_at {num : Int} {pt : ByteArray} {n k : Nat} {S : List ByteArray} {C : List Bool} (hk : k < n) (hp : pt.size ≤ 4096) (hb : be C k = true → se S k = pt) : takeN num n n S C num (k : Int) (n : Int) pt = 0 := by
  unfold takeN
  rw [if_neg (by omega), if_neg (by simp), if_neg (by omega), if_neg (by omega), if_neg (fun h => h.2 (hb (by simpa using h.1)))]
set_option maxHeartbeats 16000000 in
theorem take_known (num : Int) (pt : ByteArray) (ap ac : Option Addr) (n cp cc k : Nat) (S : List ByteArray) (C : List Bool) (w : World) (hS : VArg w ap n cp (strs S)) (hC : VArg w ac n cc (bools C)) (hn : n * 16 ≤ 140737488355328) (hz : ∀ s ∈ S, s.size ≤ 140737488355328) (hk : k < n) (hp : pt.size ≤ 4096) (hb : be C k = true) (hv : se S k = pt) :
   Calls Tryd.prog 12 #[stV num (.slice ap n cp) (.slice ac n cc), ptV num (k : Int) (n : Int) pt] w fun e w' => ∃ a c a2 c2, e = .returned (.tuple #[stV num (.slice a n c) (.slice a2 n c2), .bool false, .int .i64 0]) ∧ VOwn w' w.heap.size 9 (.slice a n c) n (strs S) ∧ VOwn w' w.heap.size 4 (.slice a2 n c2) n (bools C) ∧ Below w.heap.size w w' := by
  have hlC : C.length = n := by rw [← bools_len]; exact hC.len
  have hT := takeN_at (num := num) (S := S) (C := C) hk hp (fun _ => hv)
  have HE : Hid (be C k = true) := hb
  have X0 := blk_new w 33 #[.int .i64 num, .slice ap n cp, .slice ac n cc]
  have B0 := belowA w (.cells #[.int .i64 num, .slice ap n cp, .slice ac n cc] 33)
  have s0 : (w.alloc (.cells #[.int .i64 num, .slice ap n cp, .slice ac n cc] 33)).heap.size = w.heap.size + 1 := by simp
  generalize hw0 : w.alloc (.cells #[.int .i64 num, .slice ap n cp, .slice ac n cc] 33) = w0 at *
  have X1 := blk_new w0 40 #[.int .i64 num, .int .i64 (k : Int), .int .i64 (n : Int), .string pt]
  have B1 := belowA w0 (.cells #[.int .i64 num, .int .i64 (k : Int), .int .i64 (n : Int), .string pt] 40)
  have s1 : (w0.alloc (.cells #[.int .i64 num, .int .i64 (k : Int), .int .i64 (n : Int), .string pt] 40)).heap.size = w.heap.size + 1 + 1 := by simp [s0]
  have X01 := X0.below B1
  rw [s0] at X1
  generalize hw1 : w0.alloc (.cells #[.int .i64 num, .int .i64 (k : Int), .int .i64 (n : Int), .string pt] 40) = w1 at *
  have X2 := blk_new w1 33 #[.int .i64 0, .slice none 0 0, .slice none 0 0]
  have B2 := belowA w1 (.cells #[.int .i64 0, .slice none 0 0, .slice none 0 0] 33)
  have s2 : (w1.alloc (.cells #[.int .i64 0, .slice none 0 0, .slice none 0 0] 33)).heap.size = w.heap.size + 1 + 1 + 1 := by simp [s1]
  have X02 := X01.below B2
  have X12 := X1.below B2
  rw [s1] at X2
  generalize hw2 : w1.alloc (.cells #[.int .i64 0, .slice none 0 0, .slice none 0 0] 33) = w2 at *
  have CP := rcopied_any num ap ac n cp n cc S C w2 (((hS.below B0).below B1).below B2) (((hC.below B0).below B1).below B2) hn (by omega) hz
  have HB : Hid (Below w.heap.size w w2) := below_then B0 (below_then B1 B2)
  have MT : Hid (∀ (W : World) (a : Option Addr) (c : Nat) (a2 : Option Addr) (c2 : Nat), VArg W a n c (strs S) → VArg W a2 n c2 (bools C) → _) := fun W a c a2 c2 h1 h2 => maytake_any num num (k : Int) (n : Int) pt a a2 n c n c2 S C W h1 h2
  clear X0 X1 X01 B0 B1 B2 hS hC
  unfold stV ptV at *
  rw [hT] at MT
  clear hb hv hT
  go_enter Tryd.func12, Tryd.ntmps12
  go_wp2_with (first
    | (go_at_call 23; refine CP.mono ?_; rintro e w3 ⟨a, c, a2, c2, rfl, P3, C3, B3⟩; have z3 := B3.size; have X03 := X02.below B3; have X13 := X12.below B3; have X23 := X2.below B3; have X04 := X03.row #[.int .i64 num, .slice a n c, .slice a2 n c2]; have e4 : ∀ g, g ≠ w.heap.size → (w3.setRow w.heap.size #[.int .i64 num, .slice a n c, .slice a2 n c2]).heap[g]? = w3.heap[g]? := (fun g hg => setRow_other _ _ _ _ hg); have X14 := X13.of_block (e4 _ (by omega)); have X24 := X23.of_block (e4 _ (by omega)); have P4 := VOwn.of_block P3 (fun g _ hg _ => e4 g (by omega)); have C4 := VOwn.of_block C3 (fun g _ hg _ => e4 g (by omega)); have B4 := belowR (below_then HB.out B3) (Nat.le_refl w.heap.size) #[.int .i64 num, .slice a n c, .slice a2 n c2]; have z4 : (w3.setRow w.heap.size #[.int .i64 num, .slice a n c, .slice a2 n c2]).heap.size = w3.heap.size := (by rw [setRow_size]); generalize hw4 : w3.setRow w.heap.size #[.int .i64 num, .slice a n c, .slice a2 n c2] = w4 at *; have M := MT.out w4 a c a2 c2 (VOwn.varg P4) (VOwn.varg C4))
    | (go_at_call 24; refine M.mono ?_; rintro e w5 ⟨rfl, B5⟩; have z5 := B5.size; have X05 := X04.below B5; have X15 := X14.below B5; have X25 := X24.below B5; have P5 := VOwn.below P4 B5; have C5 := VOwn.below C4 B5; have BB5 := below_then B4 B5; obtain ⟨gC, qC, curC, hvC, hgC, hhC, hltC⟩ := VOwn.block C5 (by omega); injection hvC with hvC1 hvC2 hvC3; subst hvC1; obtain ⟨gS, qS, curS, hvS, hgS, hhS, hltS⟩ := VOwn.block P5 (by omega); injection hvS with hvS1 hvS2 hvS3; subst hvS1; clear hvC2 hvC3 hvS2 hvS3 hhC hhS; have ZC : w5.cell? ⟨gC, k, none⟩ = some (.bool true) := (by rw [World.ownsRow.cellAt C5 k (by omega), bools_get (by omega), HE.out]); have j2 : w5.cell? ⟨w.heap.size, 2, none⟩ = some (.slice (some ⟨gC, 0, none⟩) n c2) := X05.cell 2 rfl; have j1 : w5.cell? ⟨w.heap.size, 1, none⟩ = some (.slice (some ⟨gS, 0, none⟩) n c) := X05.cell 1 rfl; have k1 : w5.cell? ⟨w.heap.size + 1, 1, none⟩ = some (.int .i64 (k : Int)) := X15.cell 1 rfl; have k3 : w5.cell? ⟨w.heap.size + 1, 3, none⟩ = some (.string pt) := X15.cell 3 rfl)
    | (refine wpList_load_row rfl 33 _ rfl w.heap.size rfl 33 _ (0, 0) _ X02 Tryd.underlying33 rfl Tryd.infoRs ?_)
    | (refine wpList_store_row rfl 33 _ _ rfl w.heap.size _ rfl rfl 33 _ X03 Tryd.infoRs rfl (stall _ _ _ _ _ _ _) ?_; rw [hw4])
    | (refine wpList_load_row rfl 33 _ rfl w.heap.size rfl 33 _ (0, 0) _ X04 Tryd.underlying33 rfl Tryd.infoRs ?_)
    | (refine wpList_load_row rfl 40 _ rfl (w.heap.size + 1) rfl 40 _ (0, 0) _ X14 Tryd.underlying40 rfl Tryd.infoPt ?_)
    | (refine wpList_load_row rfl 33 _ rfl w.heap.size rfl 33 _ (0, 0) _ X05 Tryd.underlying33 rfl Tryd.infoRs ?_)
    | (refine wpList_store_row rfl 33 _ _ rfl (w.heap.size + 1 + 1) _ rfl rfl 33 _ X25 Tryd.infoRs rfl (stall _ _ _ _ _ _ _) ?_))
  refine bodyPost_ret (results_s3 rfl _ _ (w.heap.size + 1 + 1) _ rfl (load_rs (X25.row _))) rfl ?_
  exact ⟨_, c, _, c2, rfl, (P5.of_block (fun g _ hg _ => setRow_other _ _ _ _ (by omega))).base (by omega), (C5.of_block (fun g _ hg _ => setRow_other _ _ _ _ (by omega))).base (by omega), belowR BB5 (by omega) _⟩
set_option maxHeartbeats 16000000 in
theorem take_new (num : Int) (pt : ByteArray) (ap ac : Option Addr) (n cp cc k : Nat) (S : List ByteArray) (C : List Bool) (w : World) (hS : VArg w ap n cp (strs S)) (hC : VArg w ac n cc (bools C)) (hn : n * 16 ≤ 140737488355328) (hz : ∀ s ∈ S, s.size ≤ 140737488355328) (hk : k < n) (hp : pt.size ≤ 4096) (hb : be C k = false) :
   Calls Tryd.prog 12 #[stV num (.slice ap n cp) (.slice ac n cc), ptV num (k : Int) (n : Int) pt] w fun e w' => ∃ a c a2 c2, e = .returned (.tuple #[stV num (.slice a n c) (.slice a2 n c2), .bool true, .int .i64 0]) ∧ VOwn w' w.heap.size 9 (.slice a n c) n (strs (S.set k pt)) ∧ VOwn w' w.heap.size 4 (.slice a2 n c2) n (bools (C.set k true)) ∧ Below w.heap.size w w' := by
  have hlC : C.length = n := by rw [← bools_len]; exact hC.len
  have hlS : S.length = n := by rw [← strs_len]; exact hS.len
  have hT := takeN_at (num := num) (S := S) (C := C) hk hp (fun h => by rw [hb] at h; cases h)
  have HE : Hid (be C k = false) := hb
  have CL := fun W => clone_any pt W (by omega)
  have X0 := blk_new w 33 #[.int .i64 num, .slice ap n cp, .slice ac n cc]
  have B0 := belowA w (.cells #[.int .i64 num, .slice ap n cp, .slice ac n cc] 33)
  have s0 : (w.alloc (.cells #[.int .i64 num, .slice ap n cp, .slice ac n cc] 33)).heap.size = w.heap.size + 1 := by simp
  generalize hw0 : w.alloc (.cells #[.int .i64 num, .slice ap n cp, .slice ac n cc] 33) = w0 at *
  have X1 := blk_new w0 40 #[.int .i64 num, .int .i64 (k : Int), .int .i64 (n : Int), .string pt]
  have B1 := belowA w0 (.cells #[.int .i64 num, .int .i64 (k : Int), .int .i64 (n : Int), .string pt] 40)
  have s1 : (w0.alloc (.cells #[.int .i64 num, .int .i64 (k : Int), .int .i64 (n : Int), .string pt] 40)).heap.size = w.heap.size + 1 + 1 := by simp [s0]
  have X01 := X0.below B1
  rw [s0] at X1
  generalize hw1 : w0.alloc (.cells #[.int .i64 num, .int .i64 (k : Int), .int .i64 (n : Int), .string pt] 40) = w1 at *
  have X2 := blk_new w1 33 #[.int .i64 0, .slice none 0 0, .slice none 0 0]
  have B2 := belowA w1 (.cells #[.int .i64 0, .slice none 0 0, .slice none 0 0] 33)
  have s2 : (w1.alloc (.cells #[.int .i64 0, .slice none 0 0, .slice none 0 0] 33)).heap.size = w.heap.size + 1 + 1 + 1 := by simp [s1]
  have X02 := X01.below B2
  have X12 := X1.below B2
  rw [s1] at X2
  generalize hw2 : w1.alloc (.cells #[.int .i64 0, .slice none 0 0, .slice none 0 0] 33) = w2 at *
  have CP := rcopied_any num ap ac n cp n cc S C w2 (((hS.below B0).below B1).below B2) (((hC.below B0).below B1).below B2) hn (by omega) hz
  have HB : Hid (Below w.heap.size w w2) := below_then B0 (below_then B1 B2)
  have MT : Hid (∀ (W : World) (a : Option Addr) (c : Nat) (a2 : Option Addr) (c2 : Nat), VArg W a n c (strs S) → VArg W a2 n c2 (bools C) → _) := fun W a c a2 c2 h1 h2 => maytake_any num num (k : Int) (n : Int) pt a a2 n c n c2 S C W h1 h2
  clear X0 X1 X01 B0 B1 B2 hS hC
  unfold stV ptV at *
  rw [hT] at MT
  clear hb hT
  go_enter Tryd.func12, Tryd.ntmps12
  go_upto_region 7 with (first
    | (go_at_call 23; refine CP.mono ?_; rintro e w3 ⟨a, c, a2, c2, rfl, P3, C3, B3⟩; have z3 := B3.size; have X03 := X02.below B3; have X13 := X12.below B3; have X23 := X2.below B3; have X04 := X03.row #[.int .i64 num, .slice a n c, .slice a2 n c2]; have e4 : ∀ g, g ≠ w.heap.size → (w3.setRow w.heap.size #[.int .i64 num, .slice a n c, .slice a2 n c2]).heap[g]? = w3.heap[g]? := (fun g hg => setRow_other _ _ _ _ hg); have X14 := X13.of_block (e4 _ (by omega)); have X24 := X23.of_block (e4 _ (by omega)); have P4 := VOwn.of_block P3 (fun g _ hg _ => e4 g (by omega)); have C4 := VOwn.of_block C3 (fun g _ hg _ => e4 g (by omega)); have B4 := belowR (below_then HB.out B3) (Nat.le_refl w.heap.size) #[.int .i64 num, .slice a n c, .slice a2 n c2]; have z4 : (w3.setRow w.heap.size #[.int .i64 num, .slice a n c, .slice a2 n c2]).heap.size = w3.heap.size := (by rw [setRow_size]); generalize hw4 : w3.setRow w.heap.size #[.int .i64 num, .slice a n c, .slice a2 n c2] = w4 at *; have M := MT.out w4 a c a2 c2 (VOwn.varg P4) (VOwn.varg C4))
    | (go_at_call 24; refine M.mono ?_; rintro e w5 ⟨rfl, B5⟩; have z5 := B5.size; have X05 := X04.below B5; have X15 := X14.below B5; have X25 := X24.below B5; have P5 := VOwn.below P4 B5; have C5 := VOwn.below C4 B5; have BB5 := below_then B4 B5; obtain ⟨gC, qC, curC, hvC, hgC, hhC, hltC⟩ := VOwn.block C5 (by omega); injection hvC with hvC1 hvC2 hvC3; subst hvC1; obtain ⟨gS, qS, curS, hvS, hgS, hhS, hltS⟩ := VOwn.block P5 (by omega); injection hvS with hvS1 hvS2 hvS3; subst hvS1; clear hvC2 hvC3 hvS2 hvS3 hhC hhS; have ZC : w5.cell? ⟨gC, k, none⟩ = some (.bool false) := (by rw [World.ownsRow.cellAt C5 k (by omega), bools_get (by omega), HE.out]); have j2 : w5.cell? ⟨w.heap.size, 2, none⟩ = some (.slice (some ⟨gC, 0, none⟩) n c2) := X05.cell 2 rfl; have j1 : w5.cell? ⟨w.heap.size, 1, none⟩ = some (.slice (some ⟨gS, 0, none⟩) n c) := X05.cell 1 rfl; have k1 : w5.cell? ⟨w.heap.size + 1, 1, none⟩ = some (.int .i64 (k : Int)) := X15.cell 1 rfl; have k3 : w5.cell? ⟨w.heap.size + 1, 3, none⟩ = some (.string pt) := X15.cell 3 rfl)
    | (refine wpList_load_row rfl 33 _ rfl w.heap.size rfl 33 _ (0, 0) _ X02 Tryd.underlying33 rfl Tryd.infoRs ?_)
    | (refine wpList_store_row rfl 33 _ _ rfl w.heap.size _ rfl rfl 33 _ X03 Tryd.infoRs rfl (stall _ _ _ _ _ _ _) ?_; rw [hw4])
    | (refine wpList_load_row rfl 33 _ rfl w.heap.size rfl 33 _ (0, 0) _ X04 Tryd.underlying33 rfl Tryd.infoRs ?_)
    | (refine wpList_load_row rfl 40 _ rfl (w.heap.size + 1) rfl 40 _ (0, 0) _ X14 Tryd.underlying40 rfl Tryd.infoPt ?_))
  go_cut [] from 8 (fun wc => Blk wc w.heap.size 33 #[.int .i64 num, .slice (some ⟨gS, 0, none⟩) n c, .slice (some ⟨gC, 0, none⟩) n c2] ∧ Blk wc (w.heap.size + 1 + 1) 33 #[.int .i64 0, .slice none 0 0, .slice none 0 0] ∧ VOwn wc w2.heap.size 9 (.slice (some ⟨gS, 0, none⟩) n c) n (strs (S.set k pt)) ∧ VOwn wc w2.heap.size 4 (.slice (some ⟨gC, 0, none⟩) n c2) n (bools (C.set k true)) ∧ Below w.heap.size w wc)
  case first =>
    have ne1 : gS ≠ gC := fun e => P5.apart C5 ne_SB gS rfl (by rw [e]; rfl)
    refine wp_region_held_drew (S := fun w' => Blk w' w.heap.size 33 #[.int .i64 num, .slice (some ⟨gS, 0, none⟩) n c, .slice (some ⟨gC, 0, none⟩) n c2] ∧ Blk w' (w.heap.size + 1) 40 #[.int .i64 num, .int .i64 (k : Int), .int .i64 (n : Int), .string pt]) (by kernel_rfl) (⟨X05, X15⟩) (fun hHeld => ?_)
    refine wpAnyH_take (i := 0) (v := (.pointer (some ⟨w.heap.size, 1, none⟩))) rfl (by kernel_rfl) (by kernel_rfl) (by kernel_rfl) (fun _ _ _ h => h) (Or.inl ⟨by rfl, ?_⟩) (by assumption) ?_
    · intro w' hSw
      go_simp
    simp only [List.getElem_toArray, List.getElem_cons_zero, Act.put, List.setIfInBounds_toArray, List.set_cons_zero, List.set_cons_succ]
    refine wpAnyH_take (i := 1) (v := (.slice (some ⟨gS, 0, none⟩) n c)) rfl (by kernel_rfl) (by kernel_rfl) (by kernel_rfl) (fun _ _ _ h => h) (Or.inl ⟨by rfl, ?_⟩) (by assumption) ?_
    · intro w' hSw
      have y1 : w'.cell? ⟨w.heap.size, 1, none⟩ = some (.slice (some ⟨gS, 0, none⟩) n c) := hSw.1.cell 1 rfl
      go_simp
    simp only [List.getElem_toArray, List.getElem_cons_succ, List.getElem_cons_zero, Act.put, List.setIfInBounds_toArray, List.set_cons_zero, List.set_cons_succ]
    refine wpAnyH_take (i := 2) (v := (.pointer (some ⟨(w.heap.size + 1), 1, none⟩))) rfl (by kernel_rfl) (by kernel_rfl) (by kernel_rfl) (fun _ _ _ h => h) (Or.inl ⟨by rfl, ?_⟩) (by assumption) ?_
    · intro w' hSw
      go_simp
    simp only [List.getElem_toArray, List.getElem_cons_succ, List.getElem_cons_zero, Act.put, List.setIfInBounds_toArray, List.set_cons_zero, List.set_cons_succ]
    refine wpAnyH_take (i := 3) (v := (.int .i64 (k : Int))) rfl (by kernel_rfl) (by kernel_rfl) (by kernel_rfl) (fun _ _ _ h => h) (Or.inl ⟨by rfl, ?_⟩) (by assumption) ?_
    · intro w' hSw
      have x1 : w'.cell? ⟨w.heap.size + 1, 1, none⟩ = some (.int .i64 (k : Int)) := hSw.2.cell 1 rfl
      go_simp
    simp only [List.getElem_toArray, List.getElem_cons_succ, List.getElem_cons_zero, Act.put, List.setIfInBounds_toArray, List.set_cons_zero, List.set_cons_succ]
    refine wpAnyH_take (i := 4) (v := (.pointer (some ⟨w.heap.size, 2, none⟩))) rfl (by kernel_rfl) (by kernel_rfl) (by kernel_rfl) (fun _ _ _ h => h) (Or.inl ⟨by rfl, ?_⟩) (by assumption) ?_
    · intro w' hSw
      go_simp
    simp only [List.getElem_toArray, List.getElem_cons_succ, List.getElem_cons_zero, Act.put, List.setIfInBounds_toArray, List.set_cons_zero, List.set_cons_succ]
    refine wpAnyH_take (i := 5) (v := (.slice (some ⟨gC, 0, none⟩) n c2)) rfl (by kernel_rfl) (by kernel_rfl) (by kernel_rfl) (fun _ _ _ h => h) (Or.inl ⟨by rfl, ?_⟩) (by assumption) ?_
    · intro w' hSw
      have y2 : w'.cell? ⟨w.heap.size, 2, none⟩ = some (.slice (some ⟨gC, 0, none⟩) n c2) := hSw.1.cell 2 rfl
      go_simp
    simp only [List.getElem_toArray, List.getElem_cons_succ, List.getElem_cons_zero, Act.put, List.setIfInBounds_toArray, List.set_cons_zero, List.set_cons_succ]
    refine wpAnyH_take (i := 6) (v := (.pointer (some ⟨(w.heap.size + 1), 1, none⟩))) rfl (by kernel_rfl) (by kernel_rfl) (by kernel_rfl) (fun _ _ _ h => h) (Or.inl ⟨by rfl, ?_⟩) (by assumption) ?_
    · intro w' hSw
      go_simp
    simp only [List.getElem_toArray, List.getElem_cons_succ, List.getElem_cons_zero, Act.put, List.setIfInBounds_toArray, List.set_cons_zero, List.set_cons_succ]
    refine wpAnyH_take (i := 7) (v := (.int .i64 (k : Int))) rfl (by kernel_rfl) (by kernel_rfl) (by kernel_rfl) (fun _ _ _ h => h) (Or.inl ⟨by rfl, ?_⟩) (by assumption) ?_
    · intro w' hSw
      have x1 : w'.cell? ⟨w.heap.size + 1, 1, none⟩ = some (.int .i64 (k : Int)) := hSw.2.cell 1 rfl
      go_simp
    simp only [List.getElem_toArray, List.getElem_cons_succ, List.getElem_cons_zero, Act.put, List.setIfInBounds_toArray, List.set_cons_zero, List.set_cons_succ]
    refine wpAnyH_take (i := 8) (v := (.pointer (some ⟨(w.heap.size + 1), 3, none⟩))) rfl (by kernel_rfl) (by kernel_rfl) (by kernel_rfl) (fun _ _ _ h => h) (Or.inl ⟨by rfl, ?_⟩) (by assumption) ?_
    · intro w' hSw
      go_simp
    simp only [List.getElem_toArray, List.getElem_cons_succ, List.getElem_cons_zero, Act.put, List.setIfInBounds_toArray, List.set_cons_zero, List.set_cons_succ]
    refine wpAnyH_take (i := 9) (v := (.string pt)) rfl (by kernel_rfl) (by kernel_rfl) (by kernel_rfl) (fun _ _ _ h => h) (Or.inl ⟨by rfl, ?_⟩) (by assumption) ?_
    · intro w' hSw
      have x3 : w'.cell? ⟨w.heap.size + 1, 3, none⟩ = some (.string pt) := hSw.2.cell 3 rfl
      go_simp
    simp only [List.getElem_toArray, List.getElem_cons_succ, List.getElem_cons_zero, Act.put, List.setIfInBounds_toArray, List.set_cons_zero, List.set_cons_succ]
    refine wpAnyH_ready (rs := [10]) (by kernel_rfl) (by simp) ?_
    refine AllReadyH.cons rfl (fun Kc hKc => ?_) AllReadyH.nil
    simp only [List.getElem_toArray, List.getElem_cons_succ, List.getElem_cons_zero]
    rw [if_pos (by rfl)]
    go_wp2_with fail
    refine (CL _).mono ?_
    rintro e w6 ⟨rfl, B6⟩
    replace B6 : Below w5.heap.size w5 w6 := below_then (Below.refl w5.heap.size w5).drew B6
    have z6 := B6.size
    have X06 := X05.below B6
    have X16 := X15.below B6
    have X26 := X25.below B6
    have P6 := VOwn.below P5 B6
    have C6 := VOwn.below C5 B6
    go_wp2_with fail
    refine hKc.out _ _ (⟨X06, X16⟩) (fun hHeld => ?_)
    clear hKc Kc
    refine wpAnyH_take (i := 11) (v := (.pointer (some ⟨gS, k, none⟩))) rfl (by kernel_rfl) (by kernel_rfl) (by kernel_rfl) (fun _ _ _ h => h) (Or.inl ⟨by rfl, ?_⟩) (by assumption) ?_
    · intro w' hSw
      go_simp
    simp only [List.getElem_toArray, List.getElem_cons_succ, List.getElem_cons_zero, Act.put, List.setIfInBounds_toArray, List.set_cons_zero, List.set_cons_succ]
    have kS : w6.cell? ⟨gS, k, none⟩ = some (.string (se S k)) := (by rw [World.ownsRow.cellAt P6 k (by omega), strs_get (by omega)])
    have fS : w6.frozen? ⟨gS, k, none⟩ = false := VOwn.frozen P6 k
    have P7 := VOwn.set P6 k (.string pt)
    have C7 := VOwn.other C6 (g := gS) (fun e => ne1 (by cases e; rfl)) k (.string pt)
    have X07 := X06.other (a := ⟨gS, k, none⟩) (by show _ ≠ gS; omega) (.string pt)
    have X17 := X16.other (a := ⟨gS, k, none⟩) (by show _ ≠ gS; omega) (.string pt)
    have X27 := X26.other (a := ⟨gS, k, none⟩) (by show _ ≠ gS; omega) (.string pt)
    have B7 := belowS (below_then BB5 B6) (a := ⟨gS, k, none⟩) (by show _ ≤ gS; omega) (.string pt)
    generalize hw7 : w6.setCell ⟨gS, k, none⟩ (.string pt) = w7 at *
    refine wpAnyH_ready (rs := [12]) (by kernel_rfl) (by simp) ?_
    refine AllReadyH.cons rfl (fun Kc hKc => ?_) AllReadyH.nil
    simp only [List.getElem_toArray, List.getElem_cons_succ, List.getElem_cons_zero]
    rw [if_pos (by rfl)]
    go_wp2_with fail
    refine hKc.out _ _ (⟨X07, X17⟩) (fun hHeld => ?_)
    clear hKc Kc
    refine wpAnyH_take (i := 13) (v := (.pointer (some ⟨gC, k, none⟩))) rfl (by kernel_rfl) (by kernel_rfl) (by kernel_rfl) (fun _ _ _ h => h) (Or.inl ⟨by rfl, ?_⟩) (by assumption) ?_
    · intro w' hSw
      go_simp
    simp only [List.getElem_toArray, List.getElem_cons_succ, List.getElem_cons_zero, Act.put, List.setIfInBounds_toArray, List.set_cons_zero, List.set_cons_succ]
    have kC : w7.cell? ⟨gC, k, none⟩ = some (.bool (be C k)) := (by rw [World.ownsRow.cellAt C7 k (by omega), bools_get (by omega)])
    have fC : w7.frozen? ⟨gC, k, none⟩ = false := VOwn.frozen C7 k
    have X08 := X07.other (a := ⟨gC, k, none⟩) (by show _ ≠ gC; omega) (.bool true)
    have X18 := X17.other (a := ⟨gC, k, none⟩) (by show _ ≠ gC; omega) (.bool true)
    have X28 := X27.other (a := ⟨gC, k, none⟩) (by show _ ≠ gC; omega) (.bool true)
    have C8 := VOwn.set C7 k (.bool true)
    have P8 := VOwn.other P7 (g := gC) (fun e => ne1 (by cases e; rfl)) k (.bool true)
    have B8 := belowS B7 (a := ⟨gC, k, none⟩) (by show _ ≤ gC; omega) (.bool true)
    generalize hw8 : w7.setCell ⟨gC, k, none⟩ (.bool true) = w8 at *
    refine wpAnyH_ready (rs := [14]) (by kernel_rfl) (by simp) ?_
    refine AllReadyH.cons rfl (fun Kc hKc => ?_) AllReadyH.nil
    simp only [List.getElem_toArray, List.getElem_cons_succ, List.getElem_cons_zero]
    rw [if_pos (by rfl)]
    go_wp2_with fail
    refine hKc.out _ _ (⟨X08, X18⟩) (fun hHeld => ?_)
    clear hKc Kc
    refine wpAnyH_done (by kernel_rfl) ?_ _
    go_wp2_with fail
    go_meet
    case rel =>
      have e1 : (strs S).set k (.string pt) = strs (S.set k pt) := by unfold strs; rw [List.map_set]
      rw [e1] at P8
      rw [bools_set] at C8
      exact ⟨X08, X28, P8, C8, B8⟩
  case rest =>
  obtain ⟨X07, X27, P7, C7, B7⟩ := hcut
  go_wp2_with (first
    | (refine wpList_load_row rfl 33 _ rfl w.heap.size rfl 33 _ (0, 0) _ X07 Tryd.underlying33 rfl Tryd.infoRs ?_)
    | (refine wpList_store_row rfl 33 _ _ rfl (w.heap.size + 1 + 1) _ rfl rfl 33 _ X27 Tryd.infoRs rfl (stall _ _ _ _ _ _ _) ?_))
  refine bodyPost_ret (results_s3 rfl _ _ (w.heap.size + 1 + 1) _ rfl (load_rs (X27.row _))) rfl ?_
  exact ⟨_, c, _, c2, rfl, (P7.of_block (fun g _ hg _ => setRow_other _ _ _ _ (by omega))).base (by omega), (C7.of_block (fun g _ hg _ => setRow_other _ _ _ _ (by omega))).base (by omega), belowR B7 (by omega) _⟩
end Go.Proofs.YtdopcagikcdfcaaDoor
