/- recv's small functions: copies of a state, is it right, what is missing, Begin. Written by tools/genrccopy.py. -/
import Derived.Test.YtdopcagikcdfcaaDoorRcBld
namespace Go.Proofs.YtdopcagikcdfcaaDoor
open Go.ChangeShapes Go.WideShapes Go.ChangeAt Go.RowKit
theorem Tryd.infoRs : (Tryd.prog.info? 33).map (·.size) = some 3 := by kernel_rfl
theorem load_rs {w : World} {g : Nat} {a b c : Value} (h : Blk w g 33 #[a, b, c]) : (loadVar 33 ⟨g, 0, none⟩).run Tryd.prog w = .ok (.agg #[a, b, c]) w :=
  run_loadVar_row w g _ _ _ _ _ h Tryd.underlying33 rfl Tryd.infoRs
theorem ne_SR : (9 : TypeId) ≠ 33 := by decide
theorem ne_BR : (4 : TypeId) ≠ 33 := by decide
set_option maxHeartbeats 16000000 in
theorem rcopied_any (num : Int) (ap ac : Option Addr) (n cp m cc : Nat) (S : List ByteArray) (C : List Bool) (w : World) (hS : VArg w ap n cp (strs S)) (hC : VArg w ac m cc (bools C)) (hn : n * 16 ≤ 140737488355328) (hm : m ≤ 140737488355328) (hz : ∀ s ∈ S, s.size ≤ 140737488355328) :
   Calls Tryd.prog 23 #[stV num (.slice ap n cp) (.slice ac m cc)] w fun e w' => ∃ a c a2 c2, e = .returned (stV num (.slice a n c) (.slice a2 m c2)) ∧ VOwn w' w.heap.size 9 (.slice a n c) n (strs S) ∧ VOwn w' w.heap.size 4 (.slice a2 m c2) m (bools C) ∧ Below w.heap.size w w' := by
  have hlS : S.length = n := by rw [← strs_len]; exact hS.len
  have X0 := blk_new w 33 #[.int .i64 num, .slice ap n cp, .slice ac m cc]
  have B0 := belowA w (.cells #[.int .i64 num, .slice ap n cp, .slice ac m cc] 33)
  have s0 : (w.alloc (.cells #[.int .i64 num, .slice ap n cp, .slice ac m cc] 33)).heap.size = w.heap.size + 1 := by simp
  generalize hw0 : w.alloc (.cells #[.int .i64 num, .slice ap n cp, .slice ac m cc] 33) = w0 at *
  have X1 := blk_new w0 33 #[.int .i64 0, .slice none 0 0, .slice none 0 0]
  have B1 := belowA w0 (.cells #[.int .i64 0, .slice none 0 0, .slice none 0 0] 33)
  have s1 : (w0.alloc (.cells #[.int .i64 0, .slice none 0 0, .slice none 0 0] 33)).heap.size = w.heap.size + 1 + 1 := by simp [s0]
  have X01 := X0.below B1
  rw [s0] at X1
  generalize hw1 : w0.alloc (.cells #[.int .i64 0, .slice none 0 0, .slice none 0 0] 33) = w1 at *
  have SC : Hid (∀ W, Below w1.heap.size w1 W → Calls Tryd.prog 37 #[.slice ap n cp] W fun e w' => ∃ a c, e = .returned (.slice a n c) ∧ VOwn w' W.heap.size 9 (.slice a n c) n (strs S) ∧ Below W.heap.size W w') := fun W hW => sclone_any ap n cp (strs S) W (((hS.below B0).below B1).below hW) (strs_one S) hn
  have BC : Hid (∀ W, Below w1.heap.size w1 W → Calls Tryd.prog 38 #[.slice ac m cc] W fun e w' => ∃ a c, e = .returned (.slice a m c) ∧ VOwn w' W.heap.size 4 (.slice a m c) m (bools C) ∧ Below W.heap.size W w') := fun W hW => bclone_any ac m cc (bools C) W (((hC.below B0).below B1).below hW) (bools_one C) hm
  have HB : Hid (Below w.heap.size w w1) := below_then B0 B1
  have c1 : w1.cell? ⟨w.heap.size, 1, none⟩ = some (.slice ap n cp) := X01.cell 1 rfl
  have c2 : w1.cell? ⟨w.heap.size, 2, none⟩ = some (.slice ac m cc) := X01.cell 2 rfl
  clear hS hC X0 B0 B1
  unfold stV
  go_enter Tryd.func23, Tryd.ntmps23
  go_upto_region 1 with fail
  go_cut [] from 3 (fun wc => ∃ a c a2 c2, Blk wc w.heap.size 33 #[.int .i64 num, .slice a n c, .slice a2 m c2] ∧ Blk wc (w.heap.size + 1) 33 #[.int .i64 0, .slice none 0 0, .slice none 0 0] ∧ VOwn wc (w.heap.size + 1 + 1) 9 (.slice a n c) n (strs S) ∧ VOwn wc (w.heap.size + 1 + 1) 4 (.slice a2 m c2) m (bools C) ∧ Below w.heap.size w wc ∧ w.heap.size + 1 + 1 ≤ wc.heap.size)
  case first =>
    go_region_with (first
      | (go_at_call 37; refine (SC.out _ (Below.refl _ _).drew).mono ?_; rintro e w2 ⟨a, c, rfl, O2, B2⟩; replace B2 : Below w1.heap.size w1 w2 := below_then (Below.refl w1.heap.size w1).drew B2; have z2 := B2.size; have X02 := X01.below B2; have X12 := X1.below B2; have k2 : w2.cell? ⟨w.heap.size, 2, none⟩ = some (.slice ac m cc) := X02.cell 2 rfl)
      | (go_at_call 38; refine (BC.out _ B2).mono ?_; rintro e w3 ⟨a2, c2', rfl, O3, B3⟩; have z3 := B3.size; have X03 := X02.below B3; have X13 := X12.below B3; have P3 := VOwn.below O2 B3; have k31 : w3.cell? ⟨w.heap.size, 1, none⟩ = some (.slice ap n cp) := X03.cell 1 rfl; have f31 := X03.frozen 1; have X04 := X03.set 1 (.slice a n c); have k42 : (w3.setCell ⟨w.heap.size, 1, none⟩ (.slice a n c)).cell? ⟨w.heap.size, 2, none⟩ = some (.slice ac m cc) := X04.cell 2 rfl; have f42 := X04.frozen 2))
    all_goals
      go_wp2_with fail
      go_meet
      case rel =>
        have X05 := X04.set 2 (.slice a2 m c2')
        have e5 : ∀ g, g ≠ w.heap.size → ((w3.setCell ⟨w.heap.size, 1, none⟩ (.slice a n c)).setCell ⟨w.heap.size, 2, none⟩ (.slice a2 m c2')).heap[g]? = w3.heap[g]? := fun g hg => (Below.heap_setCell _ _ _ _ hg).trans (Below.heap_setCell _ _ _ _ hg)
        refine ⟨a, c, a2, c2', X05, X13.of_block (e5 _ (by omega)), (P3.of_block (fun g _ hg _ => e5 g (by have : w1.drew.heap.size = w1.heap.size := rfl; omega))).base (by have : w1.drew.heap.size = w1.heap.size := rfl; omega), (O3.of_block (fun g _ hg _ => e5 g (by omega))).base (by omega), belowS (belowS (below_then HB.out (below_then B2 B3)) (Nat.le_refl _) _) (Nat.le_refl _) _, by simp [World.setCell]; omega⟩
  case rest =>
  obtain ⟨a, c, a2, c2', XC, XR, PO, CO, BB, zz⟩ := hcut
  generalize wc = wc at *
  have k1 : wc.cell? ⟨w.heap.size, 1, none⟩ = some (.slice a n c) := XC.cell 1 rfl
  clear SC BC X01 X1 c1 c2
  go_wp2_with fail
  go_loopg [16] n (fun r s16 wr => ∃ t : Nat, r = n - t ∧ t ≤ n ∧ s16 = .int .i64 (t : Int) ∧ Blk wr w.heap.size 33 #[.int .i64 num, .slice a n c, .slice a2 m c2'] ∧ Blk wr (w.heap.size + 1) 33 #[.int .i64 0, .slice none 0 0, .slice none 0 0] ∧ VOwn wr (w.heap.size + 1 + 1) 9 (.slice a n c) n (strs S) ∧ VOwn wr (w.heap.size + 1 + 1) 4 (.slice a2 m c2') m (bools C) ∧ Below w.heap.size w wr ∧ w.heap.size + 1 + 1 ≤ wr.heap.size)
  case atStart => exact ⟨0, rfl, by omega, rfl, XC, XR, PO, CO, BB, zz⟩
  case round =>
  clear XC XR PO CO BB zz k1
  obtain ⟨t, rfl, ht, rfl, XC, XR, PO, CO, BB, zz⟩ := hrel
  have k1 : wr.cell? ⟨w.heap.size, 1, none⟩ = some (.slice a n c) := XC.cell 1 rfl
  by_cases d1 : t < n
  case neg =>
    obtain rfl : t = n := by omega
    go_wp2_with (first
      | (refine wpList_load_row rfl 33 _ rfl w.heap.size rfl 33 _ (0, 0) _ XC Tryd.underlying33 rfl Tryd.infoRs ?_)
      | (refine wpList_store_row rfl 33 _ _ rfl (w.heap.size + 1) _ rfl rfl 33 _ XR Tryd.infoRs rfl (stall _ _ _ _ _ _ _) ?_))
    refine bodyPost_ret (results_cell_row rfl _ _ (w.heap.size + 1) 33 _ _ _ rfl (XR.row _) Tryd.underlying33 rfl Tryd.infoRs) rfl ?_
    exact ⟨a, c, a2, c2', rfl, (PO.of_block (fun g _ hg _ => setRow_other _ _ _ _ (by omega))).base (by omega), (CO.of_block (fun g _ hg _ => setRow_other _ _ _ _ (by omega))).base (by omega), belowR BB (by omega) _⟩
  have d1' : (t : Int) < (n : Int) := by omega
  obtain ⟨g, c0, cur, hv, hg, hh, hlt⟩ := PO.block (by omega)
  injection hv with hv1 hv2 hv3
  subst hv1
  clear hv2 hv3 c0 hh cur
  have kt : wr.cell? ⟨g, t, none⟩ = some (.string (se S t)) := by
    rw [World.ownsRow.cellAt PO t (by omega), strs_get (by omega)]
  have CL := fun W => clone_any (se S t) W (by have := se_size hz t; omega)
  have HS : Hid ((strs S).set t (.string (se S t)) = strs S) := strs_set S t
  generalize se S t = x at *
  go_upto_region 5 with fail
  go_region_with (first
      | (go_at_call 15; refine (CL _).mono ?_; rintro e w2 ⟨rfl, B2⟩; replace B2 : Below wr.heap.size wr w2 := below_then (Below.refl wr.heap.size wr).drew B2; have z2 := B2.size; have XC2 := XC.below B2; have XR2 := XR.below B2; have PO2 := VOwn.below PO B2; have CO2 := VOwn.below CO B2; have j1 : w2.cell? ⟨w.heap.size, 1, none⟩ = some (.slice (some ⟨g, 0, none⟩) n c) := XC2.cell 1 rfl; have jt : w2.cell? ⟨g, t, none⟩ = some (.string x) := (B2.cell (by exact hlt)).trans kt; have ft : w2.frozen? ⟨g, t, none⟩ = false := VOwn.frozen PO2 t))
  all_goals
    go_wp2_with fail
    go_roundg (n - (t + 1))
    case measure => omega
    case rel =>
      have PO3 := PO2.set t (.string x)
      rw [HS.out] at PO3
      exact ⟨t + 1, rfl, by omega, by go_num, XC2.other (by show _ ≠ g; omega) _, XR2.other (by show _ ≠ g; omega) _, PO3, CO2.other (PO2.apart CO2 ne_SB g rfl) _ _, belowS (below_then BB B2) (by show _ ≤ g; omega) _, by simp [World.setCell]; omega⟩
set_option maxHeartbeats 4000000 in
theorem right_any (num : Int) (ap ac : Option Addr) (n cp m cc : Nat) (w : World) :
   Calls Tryd.prog 26 #[stV num (.slice ap n cp) (.slice ac m cc)] w fun e w' => e = .returned (.bool (decide (0 < n ∧ m = n))) ∧ Below w.heap.size w w' := by
  have X0 := blk_new w 33 #[.int .i64 num, .slice ap n cp, .slice ac m cc]
  have B0 := belowA w (.cells #[.int .i64 num, .slice ap n cp, .slice ac m cc] 33)
  unfold stV
  generalize hw0 : w.alloc (.cells #[.int .i64 num, .slice ap n cp, .slice ac m cc] 33) = w0 at *
  have c1 : w0.cell? ⟨w.heap.size, 1, none⟩ = some (.slice ap n cp) := X0.cell 1 rfl
  have c2 : w0.cell? ⟨w.heap.size, 2, none⟩ = some (.slice ac m cc) := X0.cell 2 rfl
  by_cases h1 : 0 < n
  · have h1' : (0 : Int) < (n : Int) := by omega
    by_cases h2 : m = n
    · rw [decide_eq_true ⟨h1, h2⟩]
      subst h2
      go_enter Tryd.func26, Tryd.ntmps26
      go_wp2_with fail
      go_ret
      exact ⟨rfl, B0⟩
    · rw [decide_eq_false (fun h => h2 h.2)]
      have h2' : ¬ (m : Int) = (n : Int) := by omega
      go_enter Tryd.func26, Tryd.ntmps26
      go_wp2_with fail
      go_ret
      exact ⟨by simp; omega, B0⟩
  · have h1' : ¬ (0 : Int) < (n : Int) := by omega
    rw [decide_eq_false (fun h => h1 h.1)]
    go_enter Tryd.func26, Tryd.ntmps26
    go_wp2_with fail
    go_ret
    exact ⟨rfl, B0⟩
set_option maxHeartbeats 4000000 in
theorem missing_any (num : Int) (ap ac : Option Addr) (n cp m cc : Nat) (C : List Bool) (w : World) (hC : VArg w ac m cc (bools C)) (hn : n ≤ 8796093022208) :
   Calls Tryd.prog 27 #[stV num (.slice ap n cp) (.slice ac m cc)] w fun e w' => e = .returned (.int .i64 ((leftL C n).length : Int)) ∧ Below w.heap.size w w' := by
  have B0 := belowA w (.cells #[.int .i64 num, .slice ap n cp, .slice ac m cc] 33)
  have X0 := blk_new w 33 #[.int .i64 num, .slice ap n cp, .slice ac m cc]
  unfold stV
  generalize hw0 : w.alloc (.cells #[.int .i64 num, .slice ap n cp, .slice ac m cc] 33) = w0 at *
  have L := sleft_any num ap ac n cp m cc C w0 (hC.below B0) hn
  unfold stV at L
  clear hC
  have hk := leftL_len C n
  generalize (leftL C n).length = k at *
  have c0 : w0.cell? ⟨w.heap.size, 0, none⟩ = some (.int .i64 num) := X0.cell 0 rfl
  have c1 : w0.cell? ⟨w.heap.size, 1, none⟩ = some (.slice ap n cp) := X0.cell 1 rfl
  have c2 : w0.cell? ⟨w.heap.size, 2, none⟩ = some (.slice ac m cc) := X0.cell 2 rfl
  go_enter Tryd.func27, Tryd.ntmps27
  go_wp2_with (first
    | (go_at_call 16; refine L.mono ?_; rintro e w2 ⟨a, c, rfl, O, B⟩))
  go_ret
  exact ⟨rfl, below_then B0 B⟩
end Go.Proofs.YtdopcagikcdfcaaDoor
