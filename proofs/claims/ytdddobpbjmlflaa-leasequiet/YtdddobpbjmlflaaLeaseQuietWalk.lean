/- LeaseQuiet: whatever state, moments and term, it answers true. -/
import Derived.Test.YtdddobpbjmlflaaLsBegin2
namespace Go.Proofs.Ytdddobpbjmlflaa
open Go.ChangeShapes Go.WideShapes Go.ChangeAt Go.RowKit Go.Maps
set_option maxHeartbeats 4000000 in
set_option maxRecDepth 100000 in
theorem quiet_quick (ep : Int) (ao : Option Addr) (n ca : Nat) (Z : Nat → Rh) (now term later x ho : Int) (w : World) (hA : RhAt w ao n Z) (h : ep < 0 ∨ 1073741824 < ep ∨ now < 0 ∨ 1073741824 < now ∨ term < 1 ∨ 1048576 < term ∨ later < 0 ∨ 1073741824 < later ∨ ho < 0) :
   Calls Try.prog 6 #[.int .i64 ep, .slice ao n ca, .int .i64 now, .int .i64 term, .int .i64 later, .int .i64 x, .int .i64 ho] w fun e w' => e = .returned (.bool true) ∧ Below w.heap.size w w' := by
  have CB := lbegin_any ep 0 ao n ca Z w hA
  have CA := lawake_any
  unfold lsV at CB
  clear hA
  by_cases h0 : ep < 0
  · clear h
    go_enter Try.func6, Try.ntmps6
    go_wp2_with (first
      | (go_at_call 7; refine CB.mono ?_; rintro e w1 ⟨b, v, R0, rfl, M1, H1, hR, hrng, hb1, B1⟩; obtain ⟨av, lv, cv, hv⟩ := KRow.sl H1; subst hv; have XA := blk_new w1 26 #[.int .i64 0, .int .i64 0, .map none]; have BA := below_alloc' w1 (.cells #[.int .i64 0, .int .i64 0, .map none] 26); have sA : (w1.alloc (.cells #[.int .i64 0, .int .i64 0, .map none] 26)).heap.size = w1.heap.size + 1 := (by simp); generalize hwA : w1.alloc (.cells #[.int .i64 0, .int .i64 0, .map none] 26) = wA at *; have XB := blk_new wA 28 #[.int .i64 0, .int .i64 0, .slice none 0 0]; have BB := below_alloc' wA (.cells #[.int .i64 0, .int .i64 0, .slice none 0 0] 28); have XAB := XA.below BB; rw [sA] at XB; generalize hwB : wA.alloc (.cells #[.int .i64 0, .int .i64 0, .slice none 0 0] 28) = wB at *; have XC := XAB.row #[.int .i64 ep, .int .i64 0, .map (some b)]; have XBC := XB.of_block (setRow_other wB w1.heap.size (w1.heap.size + 1) #[.int .i64 ep, .int .i64 0, .map (some b)] (by omega)); have BC := below_row (below_then BA BB) (Nat.le_refl w1.heap.size) #[.int .i64 ep, .int .i64 0, .map (some b)]; have sC : w1.heap.size + 2 ≤ (wB.setRow w1.heap.size #[.int .i64 ep, .int .i64 0, .map (some b)]).heap.size := (by rw [setRow_size, ← hwB]; simp [sA]); generalize hwC : wB.setRow w1.heap.size #[.int .i64 ep, .int .i64 0, .map (some b)] = wC at *; have XD := XC.of_block (setRow_other wC (w1.heap.size + 1) w1.heap.size #[.int .i64 ep, .int .i64 0, .slice av lv cv] (by omega)); have BD := below_then B1 (below_row BC (show w1.heap.size ≤ w1.heap.size + 1 by omega) #[.int .i64 ep, .int .i64 0, .slice av lv cv]); have BD1 := below_row BC (show w1.heap.size ≤ w1.heap.size + 1 by omega) #[.int .i64 ep, .int .i64 0, .slice av lv cv]; generalize hwD : wC.setRow (w1.heap.size + 1) #[.int .i64 ep, .int .i64 0, .slice av lv cv] = wD at *; have MD := M1.below BD1)
      | (refine wpList_store_row rfl 26 _ _ rfl w1.heap.size _ rfl rfl 26 _ XAB Try.infoLs rfl (lall _ _ _) ?_; rw [hwC])
      | (refine wpList_store_row rfl 28 _ _ rfl (w1.heap.size + 1) _ rfl rfl 28 _ XBC Try.infoRs rfl (ralls _ _ _ ⟨_, _, _, rfl⟩) ?_; rw [hwD])
      | (go_at_call 8; refine (CA _).mono ?_; rintro e w9 ⟨rfl, B9⟩))
    go_ret
    exact ⟨rfl, below_then BD B9⟩
  have d0 := decide_eq_false h0
  by_cases h1 : 1073741824 < ep
  · clear h
    go_enter Try.func6, Try.ntmps6
    go_wp2_with (first
      | (go_at_call 7; refine CB.mono ?_; rintro e w1 ⟨b, v, R0, rfl, M1, H1, hR, hrng, hb1, B1⟩; obtain ⟨av, lv, cv, hv⟩ := KRow.sl H1; subst hv; have XA := blk_new w1 26 #[.int .i64 0, .int .i64 0, .map none]; have BA := below_alloc' w1 (.cells #[.int .i64 0, .int .i64 0, .map none] 26); have sA : (w1.alloc (.cells #[.int .i64 0, .int .i64 0, .map none] 26)).heap.size = w1.heap.size + 1 := (by simp); generalize hwA : w1.alloc (.cells #[.int .i64 0, .int .i64 0, .map none] 26) = wA at *; have XB := blk_new wA 28 #[.int .i64 0, .int .i64 0, .slice none 0 0]; have BB := below_alloc' wA (.cells #[.int .i64 0, .int .i64 0, .slice none 0 0] 28); have XAB := XA.below BB; rw [sA] at XB; generalize hwB : wA.alloc (.cells #[.int .i64 0, .int .i64 0, .slice none 0 0] 28) = wB at *; have XC := XAB.row #[.int .i64 ep, .int .i64 0, .map (some b)]; have XBC := XB.of_block (setRow_other wB w1.heap.size (w1.heap.size + 1) #[.int .i64 ep, .int .i64 0, .map (some b)] (by omega)); have BC := below_row (below_then BA BB) (Nat.le_refl w1.heap.size) #[.int .i64 ep, .int .i64 0, .map (some b)]; have sC : w1.heap.size + 2 ≤ (wB.setRow w1.heap.size #[.int .i64 ep, .int .i64 0, .map (some b)]).heap.size := (by rw [setRow_size, ← hwB]; simp [sA]); generalize hwC : wB.setRow w1.heap.size #[.int .i64 ep, .int .i64 0, .map (some b)] = wC at *; have XD := XC.of_block (setRow_other wC (w1.heap.size + 1) w1.heap.size #[.int .i64 ep, .int .i64 0, .slice av lv cv] (by omega)); have BD := below_then B1 (below_row BC (show w1.heap.size ≤ w1.heap.size + 1 by omega) #[.int .i64 ep, .int .i64 0, .slice av lv cv]); have BD1 := below_row BC (show w1.heap.size ≤ w1.heap.size + 1 by omega) #[.int .i64 ep, .int .i64 0, .slice av lv cv]; generalize hwD : wC.setRow (w1.heap.size + 1) #[.int .i64 ep, .int .i64 0, .slice av lv cv] = wD at *; have MD := M1.below BD1)
      | (refine wpList_store_row rfl 26 _ _ rfl w1.heap.size _ rfl rfl 26 _ XAB Try.infoLs rfl (lall _ _ _) ?_; rw [hwC])
      | (refine wpList_store_row rfl 28 _ _ rfl (w1.heap.size + 1) _ rfl rfl 28 _ XBC Try.infoRs rfl (ralls _ _ _ ⟨_, _, _, rfl⟩) ?_; rw [hwD])
      | (go_at_call 8; refine (CA _).mono ?_; rintro e w9 ⟨rfl, B9⟩))
    go_ret
    exact ⟨rfl, below_then BD B9⟩
  have d1 := decide_eq_false h1
  by_cases h2 : now < 0
  · clear h
    go_enter Try.func6, Try.ntmps6
    go_wp2_with (first
      | (go_at_call 7; refine CB.mono ?_; rintro e w1 ⟨b, v, R0, rfl, M1, H1, hR, hrng, hb1, B1⟩; obtain ⟨av, lv, cv, hv⟩ := KRow.sl H1; subst hv; have XA := blk_new w1 26 #[.int .i64 0, .int .i64 0, .map none]; have BA := below_alloc' w1 (.cells #[.int .i64 0, .int .i64 0, .map none] 26); have sA : (w1.alloc (.cells #[.int .i64 0, .int .i64 0, .map none] 26)).heap.size = w1.heap.size + 1 := (by simp); generalize hwA : w1.alloc (.cells #[.int .i64 0, .int .i64 0, .map none] 26) = wA at *; have XB := blk_new wA 28 #[.int .i64 0, .int .i64 0, .slice none 0 0]; have BB := below_alloc' wA (.cells #[.int .i64 0, .int .i64 0, .slice none 0 0] 28); have XAB := XA.below BB; rw [sA] at XB; generalize hwB : wA.alloc (.cells #[.int .i64 0, .int .i64 0, .slice none 0 0] 28) = wB at *; have XC := XAB.row #[.int .i64 ep, .int .i64 0, .map (some b)]; have XBC := XB.of_block (setRow_other wB w1.heap.size (w1.heap.size + 1) #[.int .i64 ep, .int .i64 0, .map (some b)] (by omega)); have BC := below_row (below_then BA BB) (Nat.le_refl w1.heap.size) #[.int .i64 ep, .int .i64 0, .map (some b)]; have sC : w1.heap.size + 2 ≤ (wB.setRow w1.heap.size #[.int .i64 ep, .int .i64 0, .map (some b)]).heap.size := (by rw [setRow_size, ← hwB]; simp [sA]); generalize hwC : wB.setRow w1.heap.size #[.int .i64 ep, .int .i64 0, .map (some b)] = wC at *; have XD := XC.of_block (setRow_other wC (w1.heap.size + 1) w1.heap.size #[.int .i64 ep, .int .i64 0, .slice av lv cv] (by omega)); have BD := below_then B1 (below_row BC (show w1.heap.size ≤ w1.heap.size + 1 by omega) #[.int .i64 ep, .int .i64 0, .slice av lv cv]); have BD1 := below_row BC (show w1.heap.size ≤ w1.heap.size + 1 by omega) #[.int .i64 ep, .int .i64 0, .slice av lv cv]; generalize hwD : wC.setRow (w1.heap.size + 1) #[.int .i64 ep, .int .i64 0, .slice av lv cv] = wD at *; have MD := M1.below BD1)
      | (refine wpList_store_row rfl 26 _ _ rfl w1.heap.size _ rfl rfl 26 _ XAB Try.infoLs rfl (lall _ _ _) ?_; rw [hwC])
      | (refine wpList_store_row rfl 28 _ _ rfl (w1.heap.size + 1) _ rfl rfl 28 _ XBC Try.infoRs rfl (ralls _ _ _ ⟨_, _, _, rfl⟩) ?_; rw [hwD])
      | (go_at_call 8; refine (CA _).mono ?_; rintro e w9 ⟨rfl, B9⟩))
    go_ret
    exact ⟨rfl, below_then BD B9⟩
  have d2 := decide_eq_false h2
  by_cases h3 : 1073741824 < now
  · clear h
    go_enter Try.func6, Try.ntmps6
    go_wp2_with (first
      | (go_at_call 7; refine CB.mono ?_; rintro e w1 ⟨b, v, R0, rfl, M1, H1, hR, hrng, hb1, B1⟩; obtain ⟨av, lv, cv, hv⟩ := KRow.sl H1; subst hv; have XA := blk_new w1 26 #[.int .i64 0, .int .i64 0, .map none]; have BA := below_alloc' w1 (.cells #[.int .i64 0, .int .i64 0, .map none] 26); have sA : (w1.alloc (.cells #[.int .i64 0, .int .i64 0, .map none] 26)).heap.size = w1.heap.size + 1 := (by simp); generalize hwA : w1.alloc (.cells #[.int .i64 0, .int .i64 0, .map none] 26) = wA at *; have XB := blk_new wA 28 #[.int .i64 0, .int .i64 0, .slice none 0 0]; have BB := below_alloc' wA (.cells #[.int .i64 0, .int .i64 0, .slice none 0 0] 28); have XAB := XA.below BB; rw [sA] at XB; generalize hwB : wA.alloc (.cells #[.int .i64 0, .int .i64 0, .slice none 0 0] 28) = wB at *; have XC := XAB.row #[.int .i64 ep, .int .i64 0, .map (some b)]; have XBC := XB.of_block (setRow_other wB w1.heap.size (w1.heap.size + 1) #[.int .i64 ep, .int .i64 0, .map (some b)] (by omega)); have BC := below_row (below_then BA BB) (Nat.le_refl w1.heap.size) #[.int .i64 ep, .int .i64 0, .map (some b)]; have sC : w1.heap.size + 2 ≤ (wB.setRow w1.heap.size #[.int .i64 ep, .int .i64 0, .map (some b)]).heap.size := (by rw [setRow_size, ← hwB]; simp [sA]); generalize hwC : wB.setRow w1.heap.size #[.int .i64 ep, .int .i64 0, .map (some b)] = wC at *; have XD := XC.of_block (setRow_other wC (w1.heap.size + 1) w1.heap.size #[.int .i64 ep, .int .i64 0, .slice av lv cv] (by omega)); have BD := below_then B1 (below_row BC (show w1.heap.size ≤ w1.heap.size + 1 by omega) #[.int .i64 ep, .int .i64 0, .slice av lv cv]); have BD1 := below_row BC (show w1.heap.size ≤ w1.heap.size + 1 by omega) #[.int .i64 ep, .int .i64 0, .slice av lv cv]; generalize hwD : wC.setRow (w1.heap.size + 1) #[.int .i64 ep, .int .i64 0, .slice av lv cv] = wD at *; have MD := M1.below BD1)
      | (refine wpList_store_row rfl 26 _ _ rfl w1.heap.size _ rfl rfl 26 _ XAB Try.infoLs rfl (lall _ _ _) ?_; rw [hwC])
      | (refine wpList_store_row rfl 28 _ _ rfl (w1.heap.size + 1) _ rfl rfl 28 _ XBC Try.infoRs rfl (ralls _ _ _ ⟨_, _, _, rfl⟩) ?_; rw [hwD])
      | (go_at_call 8; refine (CA _).mono ?_; rintro e w9 ⟨rfl, B9⟩))
    go_ret
    exact ⟨rfl, below_then BD B9⟩
  have d3 := decide_eq_false h3
  by_cases h4 : term < 1
  · clear h
    go_enter Try.func6, Try.ntmps6
    go_wp2_with (first
      | (go_at_call 7; refine CB.mono ?_; rintro e w1 ⟨b, v, R0, rfl, M1, H1, hR, hrng, hb1, B1⟩; obtain ⟨av, lv, cv, hv⟩ := KRow.sl H1; subst hv; have XA := blk_new w1 26 #[.int .i64 0, .int .i64 0, .map none]; have BA := below_alloc' w1 (.cells #[.int .i64 0, .int .i64 0, .map none] 26); have sA : (w1.alloc (.cells #[.int .i64 0, .int .i64 0, .map none] 26)).heap.size = w1.heap.size + 1 := (by simp); generalize hwA : w1.alloc (.cells #[.int .i64 0, .int .i64 0, .map none] 26) = wA at *; have XB := blk_new wA 28 #[.int .i64 0, .int .i64 0, .slice none 0 0]; have BB := below_alloc' wA (.cells #[.int .i64 0, .int .i64 0, .slice none 0 0] 28); have XAB := XA.below BB; rw [sA] at XB; generalize hwB : wA.alloc (.cells #[.int .i64 0, .int .i64 0, .slice none 0 0] 28) = wB at *; have XC := XAB.row #[.int .i64 ep, .int .i64 0, .map (some b)]; have XBC := XB.of_block (setRow_other wB w1.heap.size (w1.heap.size + 1) #[.int .i64 ep, .int .i64 0, .map (some b)] (by omega)); have BC := below_row (below_then BA BB) (Nat.le_refl w1.heap.size) #[.int .i64 ep, .int .i64 0, .map (some b)]; have sC : w1.heap.size + 2 ≤ (wB.setRow w1.heap.size #[.int .i64 ep, .int .i64 0, .map (some b)]).heap.size := (by rw [setRow_size, ← hwB]; simp [sA]); generalize hwC : wB.setRow w1.heap.size #[.int .i64 ep, .int .i64 0, .map (some b)] = wC at *; have XD := XC.of_block (setRow_other wC (w1.heap.size + 1) w1.heap.size #[.int .i64 ep, .int .i64 0, .slice av lv cv] (by omega)); have BD := below_then B1 (below_row BC (show w1.heap.size ≤ w1.heap.size + 1 by omega) #[.int .i64 ep, .int .i64 0, .slice av lv cv]); have BD1 := below_row BC (show w1.heap.size ≤ w1.heap.size + 1 by omega) #[.int .i64 ep, .int .i64 0, .slice av lv cv]; generalize hwD : wC.setRow (w1.heap.size + 1) #[.int .i64 ep, .int .i64 0, .slice av lv cv] = wD at *; have MD := M1.below BD1)
      | (refine wpList_store_row rfl 26 _ _ rfl w1.heap.size _ rfl rfl 26 _ XAB Try.infoLs rfl (lall _ _ _) ?_; rw [hwC])
      | (refine wpList_store_row rfl 28 _ _ rfl (w1.heap.size + 1) _ rfl rfl 28 _ XBC Try.infoRs rfl (ralls _ _ _ ⟨_, _, _, rfl⟩) ?_; rw [hwD])
      | (go_at_call 8; refine (CA _).mono ?_; rintro e w9 ⟨rfl, B9⟩))
    go_ret
    exact ⟨rfl, below_then BD B9⟩
  have d4 := decide_eq_false h4
  by_cases h5 : 1048576 < term
  · clear h
    go_enter Try.func6, Try.ntmps6
    go_wp2_with (first
      | (go_at_call 7; refine CB.mono ?_; rintro e w1 ⟨b, v, R0, rfl, M1, H1, hR, hrng, hb1, B1⟩; obtain ⟨av, lv, cv, hv⟩ := KRow.sl H1; subst hv; have XA := blk_new w1 26 #[.int .i64 0, .int .i64 0, .map none]; have BA := below_alloc' w1 (.cells #[.int .i64 0, .int .i64 0, .map none] 26); have sA : (w1.alloc (.cells #[.int .i64 0, .int .i64 0, .map none] 26)).heap.size = w1.heap.size + 1 := (by simp); generalize hwA : w1.alloc (.cells #[.int .i64 0, .int .i64 0, .map none] 26) = wA at *; have XB := blk_new wA 28 #[.int .i64 0, .int .i64 0, .slice none 0 0]; have BB := below_alloc' wA (.cells #[.int .i64 0, .int .i64 0, .slice none 0 0] 28); have XAB := XA.below BB; rw [sA] at XB; generalize hwB : wA.alloc (.cells #[.int .i64 0, .int .i64 0, .slice none 0 0] 28) = wB at *; have XC := XAB.row #[.int .i64 ep, .int .i64 0, .map (some b)]; have XBC := XB.of_block (setRow_other wB w1.heap.size (w1.heap.size + 1) #[.int .i64 ep, .int .i64 0, .map (some b)] (by omega)); have BC := below_row (below_then BA BB) (Nat.le_refl w1.heap.size) #[.int .i64 ep, .int .i64 0, .map (some b)]; have sC : w1.heap.size + 2 ≤ (wB.setRow w1.heap.size #[.int .i64 ep, .int .i64 0, .map (some b)]).heap.size := (by rw [setRow_size, ← hwB]; simp [sA]); generalize hwC : wB.setRow w1.heap.size #[.int .i64 ep, .int .i64 0, .map (some b)] = wC at *; have XD := XC.of_block (setRow_other wC (w1.heap.size + 1) w1.heap.size #[.int .i64 ep, .int .i64 0, .slice av lv cv] (by omega)); have BD := below_then B1 (below_row BC (show w1.heap.size ≤ w1.heap.size + 1 by omega) #[.int .i64 ep, .int .i64 0, .slice av lv cv]); have BD1 := below_row BC (show w1.heap.size ≤ w1.heap.size + 1 by omega) #[.int .i64 ep, .int .i64 0, .slice av lv cv]; generalize hwD : wC.setRow (w1.heap.size + 1) #[.int .i64 ep, .int .i64 0, .slice av lv cv] = wD at *; have MD := M1.below BD1)
      | (refine wpList_store_row rfl 26 _ _ rfl w1.heap.size _ rfl rfl 26 _ XAB Try.infoLs rfl (lall _ _ _) ?_; rw [hwC])
      | (refine wpList_store_row rfl 28 _ _ rfl (w1.heap.size + 1) _ rfl rfl 28 _ XBC Try.infoRs rfl (ralls _ _ _ ⟨_, _, _, rfl⟩) ?_; rw [hwD])
      | (go_at_call 8; refine (CA _).mono ?_; rintro e w9 ⟨rfl, B9⟩))
    go_ret
    exact ⟨rfl, below_then BD B9⟩
  have d5 := decide_eq_false h5
  by_cases h6 : later < 0
  · clear h
    go_enter Try.func6, Try.ntmps6
    go_wp2_with (first
      | (go_at_call 7; refine CB.mono ?_; rintro e w1 ⟨b, v, R0, rfl, M1, H1, hR, hrng, hb1, B1⟩; obtain ⟨av, lv, cv, hv⟩ := KRow.sl H1; subst hv; have XA := blk_new w1 26 #[.int .i64 0, .int .i64 0, .map none]; have BA := below_alloc' w1 (.cells #[.int .i64 0, .int .i64 0, .map none] 26); have sA : (w1.alloc (.cells #[.int .i64 0, .int .i64 0, .map none] 26)).heap.size = w1.heap.size + 1 := (by simp); generalize hwA : w1.alloc (.cells #[.int .i64 0, .int .i64 0, .map none] 26) = wA at *; have XB := blk_new wA 28 #[.int .i64 0, .int .i64 0, .slice none 0 0]; have BB := below_alloc' wA (.cells #[.int .i64 0, .int .i64 0, .slice none 0 0] 28); have XAB := XA.below BB; rw [sA] at XB; generalize hwB : wA.alloc (.cells #[.int .i64 0, .int .i64 0, .slice none 0 0] 28) = wB at *; have XC := XAB.row #[.int .i64 ep, .int .i64 0, .map (some b)]; have XBC := XB.of_block (setRow_other wB w1.heap.size (w1.heap.size + 1) #[.int .i64 ep, .int .i64 0, .map (some b)] (by omega)); have BC := below_row (below_then BA BB) (Nat.le_refl w1.heap.size) #[.int .i64 ep, .int .i64 0, .map (some b)]; have sC : w1.heap.size + 2 ≤ (wB.setRow w1.heap.size #[.int .i64 ep, .int .i64 0, .map (some b)]).heap.size := (by rw [setRow_size, ← hwB]; simp [sA]); generalize hwC : wB.setRow w1.heap.size #[.int .i64 ep, .int .i64 0, .map (some b)] = wC at *; have XD := XC.of_block (setRow_other wC (w1.heap.size + 1) w1.heap.size #[.int .i64 ep, .int .i64 0, .slice av lv cv] (by omega)); have BD := below_then B1 (below_row BC (show w1.heap.size ≤ w1.heap.size + 1 by omega) #[.int .i64 ep, .int .i64 0, .slice av lv cv]); have BD1 := below_row BC (show w1.heap.size ≤ w1.heap.size + 1 by omega) #[.int .i64 ep, .int .i64 0, .slice av lv cv]; generalize hwD : wC.setRow (w1.heap.size + 1) #[.int .i64 ep, .int .i64 0, .slice av lv cv] = wD at *; have MD := M1.below BD1)
      | (refine wpList_store_row rfl 26 _ _ rfl w1.heap.size _ rfl rfl 26 _ XAB Try.infoLs rfl (lall _ _ _) ?_; rw [hwC])
      | (refine wpList_store_row rfl 28 _ _ rfl (w1.heap.size + 1) _ rfl rfl 28 _ XBC Try.infoRs rfl (ralls _ _ _ ⟨_, _, _, rfl⟩) ?_; rw [hwD])
      | (go_at_call 8; refine (CA _).mono ?_; rintro e w9 ⟨rfl, B9⟩))
    go_ret
    exact ⟨rfl, below_then BD B9⟩
  have d6 := decide_eq_false h6
  by_cases h7 : 1073741824 < later
  · clear h
    go_enter Try.func6, Try.ntmps6
    go_wp2_with (first
      | (go_at_call 7; refine CB.mono ?_; rintro e w1 ⟨b, v, R0, rfl, M1, H1, hR, hrng, hb1, B1⟩; obtain ⟨av, lv, cv, hv⟩ := KRow.sl H1; subst hv; have XA := blk_new w1 26 #[.int .i64 0, .int .i64 0, .map none]; have BA := below_alloc' w1 (.cells #[.int .i64 0, .int .i64 0, .map none] 26); have sA : (w1.alloc (.cells #[.int .i64 0, .int .i64 0, .map none] 26)).heap.size = w1.heap.size + 1 := (by simp); generalize hwA : w1.alloc (.cells #[.int .i64 0, .int .i64 0, .map none] 26) = wA at *; have XB := blk_new wA 28 #[.int .i64 0, .int .i64 0, .slice none 0 0]; have BB := below_alloc' wA (.cells #[.int .i64 0, .int .i64 0, .slice none 0 0] 28); have XAB := XA.below BB; rw [sA] at XB; generalize hwB : wA.alloc (.cells #[.int .i64 0, .int .i64 0, .slice none 0 0] 28) = wB at *; have XC := XAB.row #[.int .i64 ep, .int .i64 0, .map (some b)]; have XBC := XB.of_block (setRow_other wB w1.heap.size (w1.heap.size + 1) #[.int .i64 ep, .int .i64 0, .map (some b)] (by omega)); have BC := below_row (below_then BA BB) (Nat.le_refl w1.heap.size) #[.int .i64 ep, .int .i64 0, .map (some b)]; have sC : w1.heap.size + 2 ≤ (wB.setRow w1.heap.size #[.int .i64 ep, .int .i64 0, .map (some b)]).heap.size := (by rw [setRow_size, ← hwB]; simp [sA]); generalize hwC : wB.setRow w1.heap.size #[.int .i64 ep, .int .i64 0, .map (some b)] = wC at *; have XD := XC.of_block (setRow_other wC (w1.heap.size + 1) w1.heap.size #[.int .i64 ep, .int .i64 0, .slice av lv cv] (by omega)); have BD := below_then B1 (below_row BC (show w1.heap.size ≤ w1.heap.size + 1 by omega) #[.int .i64 ep, .int .i64 0, .slice av lv cv]); have BD1 := below_row BC (show w1.heap.size ≤ w1.heap.size + 1 by omega) #[.int .i64 ep, .int .i64 0, .slice av lv cv]; generalize hwD : wC.setRow (w1.heap.size + 1) #[.int .i64 ep, .int .i64 0, .slice av lv cv] = wD at *; have MD := M1.below BD1)
      | (refine wpList_store_row rfl 26 _ _ rfl w1.heap.size _ rfl rfl 26 _ XAB Try.infoLs rfl (lall _ _ _) ?_; rw [hwC])
      | (refine wpList_store_row rfl 28 _ _ rfl (w1.heap.size + 1) _ rfl rfl 28 _ XBC Try.infoRs rfl (ralls _ _ _ ⟨_, _, _, rfl⟩) ?_; rw [hwD])
      | (go_at_call 8; refine (CA _).mono ?_; rintro e w9 ⟨rfl, B9⟩))
    go_ret
    exact ⟨rfl, below_then BD B9⟩
  have d7 := decide_eq_false h7
  have hz : ho < 0 := by omega
  clear h
  go_enter Try.func6, Try.ntmps6
  go_wp2_with (first
    | (go_at_call 7; refine CB.mono ?_; rintro e w1 ⟨b, v, R0, rfl, M1, H1, hR, hrng, hb1, B1⟩; obtain ⟨av, lv, cv, hv⟩ := KRow.sl H1; subst hv; have XA := blk_new w1 26 #[.int .i64 0, .int .i64 0, .map none]; have BA := below_alloc' w1 (.cells #[.int .i64 0, .int .i64 0, .map none] 26); have sA : (w1.alloc (.cells #[.int .i64 0, .int .i64 0, .map none] 26)).heap.size = w1.heap.size + 1 := (by simp); generalize hwA : w1.alloc (.cells #[.int .i64 0, .int .i64 0, .map none] 26) = wA at *; have XB := blk_new wA 28 #[.int .i64 0, .int .i64 0, .slice none 0 0]; have BB := below_alloc' wA (.cells #[.int .i64 0, .int .i64 0, .slice none 0 0] 28); have XAB := XA.below BB; rw [sA] at XB; generalize hwB : wA.alloc (.cells #[.int .i64 0, .int .i64 0, .slice none 0 0] 28) = wB at *; have XC := XAB.row #[.int .i64 ep, .int .i64 0, .map (some b)]; have XBC := XB.of_block (setRow_other wB w1.heap.size (w1.heap.size + 1) #[.int .i64 ep, .int .i64 0, .map (some b)] (by omega)); have BC := below_row (below_then BA BB) (Nat.le_refl w1.heap.size) #[.int .i64 ep, .int .i64 0, .map (some b)]; have sC : w1.heap.size + 2 ≤ (wB.setRow w1.heap.size #[.int .i64 ep, .int .i64 0, .map (some b)]).heap.size := (by rw [setRow_size, ← hwB]; simp [sA]); generalize hwC : wB.setRow w1.heap.size #[.int .i64 ep, .int .i64 0, .map (some b)] = wC at *; have XD := XC.of_block (setRow_other wC (w1.heap.size + 1) w1.heap.size #[.int .i64 ep, .int .i64 0, .slice av lv cv] (by omega)); have BD := below_then B1 (below_row BC (show w1.heap.size ≤ w1.heap.size + 1 by omega) #[.int .i64 ep, .int .i64 0, .slice av lv cv]); have BD1 := below_row BC (show w1.heap.size ≤ w1.heap.size + 1 by omega) #[.int .i64 ep, .int .i64 0, .slice av lv cv]; generalize hwD : wC.setRow (w1.heap.size + 1) #[.int .i64 ep, .int .i64 0, .slice av lv cv] = wD at *; have MD := M1.below BD1)
    | (refine wpList_store_row rfl 26 _ _ rfl w1.heap.size _ rfl rfl 26 _ XAB Try.infoLs rfl (lall _ _ _) ?_; rw [hwC])
    | (refine wpList_store_row rfl 28 _ _ rfl (w1.heap.size + 1) _ rfl rfl 28 _ XBC Try.infoRs rfl (ralls _ _ _ ⟨_, _, _, rfl⟩) ?_; rw [hwD])
    | (go_at_call 8; refine (CA _).mono ?_; rintro e w9 ⟨rfl, B9⟩))
  go_ret
  exact ⟨rfl, below_then BD B9⟩
set_option maxHeartbeats 4000000 in
set_option maxRecDepth 100000 in
theorem quiet_bad (ep : Int) (ao : Option Addr) (n ca : Nat) (Z : Nat → Rh) (now term later x ho : Int) (w : World) (hA : RhAt w ao n Z) (hx : -9223372036854775808 ≤ x ∧ x ≤ 9223372036854775807) (h : ¬ (ep < 0 ∨ 1073741824 < ep ∨ now < 0 ∨ 1073741824 < now ∨ term < 1 ∨ 1048576 < term ∨ later < 0 ∨ 1073741824 < later ∨ ho < 0)) (hlt : later < now + term) :
   Calls Try.prog 6 #[.int .i64 ep, .slice ao n ca, .int .i64 now, .int .i64 term, .int .i64 later, .int .i64 x, .int .i64 ho] w fun e w' => e = .returned (.bool true) ∧ Below w.heap.size w w' := by
  have CB := lbegin_any ep 0 ao n ca Z w hA
  have CA := lawake_any
  have MY : mayN ep (now + term) later term x ho [] = 16 := by
    unfold mayN
    have hb : ¬ badA later term ho := by unfold badA; omega
    rw [if_neg hb]
    rw [if_pos hlt]
  have CG := fun W => lgrant_bad ep (now + term) none later term x ho [] W (HgM.nil W) (by simp) hx (by rw [MY]; omega)
  rw [MY] at CG
  have HV : Hid (∀ (W : World) (a b : Int) (m : Option Nat), _) := lvar
  have CR := fun b W => lrestart_any ep 0 (some b) now term W
  have e1 : witN now 1099511627776 = now := by unfold witN; omega
  have e2 : witN term 1048576 = term := by unfold witN; omega
  rw [e1, e2] at CR
  unfold lsV at *
  clear hA MY e1 e2
  have d0 : ¬ ep < 0 := by omega
  have d1 : ¬ 1073741824 < ep := by omega
  have d2 : ¬ now < 0 := by omega
  have d3 : ¬ 1073741824 < now := by omega
  have d4 : ¬ term < 1 := by omega
  have d5 : ¬ 1048576 < term := by omega
  have d6 : ¬ later < 0 := by omega
  have d7 : ¬ 1073741824 < later := by omega
  have d8 : ¬ ho < 0 := by omega
  have q1 : wrap64 (now + term) = now + term := by unfold wrap64; omega
  have q2 : wrap64 (ep + 1) = ep + 1 := by unfold wrap64; omega
  have dl : later < now + term := by omega
  clear h hlt
  go_enter Try.func6, Try.ntmps6
  go_wp2_with (first
    | (go_at_call 7; refine CB.mono ?_; rintro e w1 ⟨b, v, R0, rfl, M1, H1, hR, hrng, hb1, B1⟩; obtain ⟨av, lv, cv, hv⟩ := KRow.sl H1; subst hv; have XA := blk_new w1 26 #[.int .i64 0, .int .i64 0, .map none]; have BA := below_alloc' w1 (.cells #[.int .i64 0, .int .i64 0, .map none] 26); have sA : (w1.alloc (.cells #[.int .i64 0, .int .i64 0, .map none] 26)).heap.size = w1.heap.size + 1 := (by simp); generalize hwA : w1.alloc (.cells #[.int .i64 0, .int .i64 0, .map none] 26) = wA at *; have XB := blk_new wA 28 #[.int .i64 0, .int .i64 0, .slice none 0 0]; have BB := below_alloc' wA (.cells #[.int .i64 0, .int .i64 0, .slice none 0 0] 28); have XAB := XA.below BB; rw [sA] at XB; generalize hwB : wA.alloc (.cells #[.int .i64 0, .int .i64 0, .slice none 0 0] 28) = wB at *; have XC := XAB.row #[.int .i64 ep, .int .i64 0, .map (some b)]; have XBC := XB.of_block (setRow_other wB w1.heap.size (w1.heap.size + 1) #[.int .i64 ep, .int .i64 0, .map (some b)] (by omega)); have BC := below_row (below_then BA BB) (Nat.le_refl w1.heap.size) #[.int .i64 ep, .int .i64 0, .map (some b)]; have sC : w1.heap.size + 2 ≤ (wB.setRow w1.heap.size #[.int .i64 ep, .int .i64 0, .map (some b)]).heap.size := (by rw [setRow_size, ← hwB]; simp [sA]); generalize hwC : wB.setRow w1.heap.size #[.int .i64 ep, .int .i64 0, .map (some b)] = wC at *; have XD := XC.of_block (setRow_other wC (w1.heap.size + 1) w1.heap.size #[.int .i64 ep, .int .i64 0, .slice av lv cv] (by omega)); have BD := below_then B1 (below_row BC (show w1.heap.size ≤ w1.heap.size + 1 by omega) #[.int .i64 ep, .int .i64 0, .slice av lv cv]); have BD1 := below_row BC (show w1.heap.size ≤ w1.heap.size + 1 by omega) #[.int .i64 ep, .int .i64 0, .slice av lv cv]; generalize hwD : wC.setRow (w1.heap.size + 1) #[.int .i64 ep, .int .i64 0, .slice av lv cv] = wD at *; have MD := M1.below BD1)
    | (refine wpList_store_row rfl 26 _ _ rfl w1.heap.size _ rfl rfl 26 _ XAB Try.infoLs rfl (lall _ _ _) ?_; rw [hwC])
    | (refine wpList_store_row rfl 28 _ _ rfl (w1.heap.size + 1) _ rfl rfl 28 _ XBC Try.infoRs rfl (ralls _ _ _ ⟨_, _, _, rfl⟩) ?_; rw [hwD])
    | (go_at_call 8; refine (CA _).mono ?_; rintro e w9 ⟨rfl, B9⟩; have kk0 : w9.cell? ⟨w2.heap.size, 0, none⟩ = some (.int .i64 ep) := (XT.below B9).cell 0 rfl; have kk1 : w9.cell? ⟨w2.heap.size, 1, none⟩ = some (.int .i64 (now + term)) := (XT.below B9).cell 1 rfl; have kk2 : w9.cell? ⟨w2.heap.size, 2, none⟩ = some (.map none) := (XT.below B9).cell 2 rfl)
    | (go_at_call 14; refine (CR b _).mono ?_; rintro e w2 ⟨rfl, B2⟩; obtain ⟨XA2, XB2, BB2, z2⟩ := HV.out w2 ep (now + term) none; generalize hwA2 : w2.alloc (.cells #[.int .i64 0, .int .i64 0, .map none] 26) = wA2 at *; generalize hwB2 : wA2.setRow w2.heap.size #[.int .i64 ep, .int .i64 (now + term), .map none] = wB2 at *)
    | (go_at_call 9; refine (CG _).mono ?_; rintro e w3 ⟨b3, rfl, M3, _, B3⟩; obtain ⟨XA3, XB3, BB3, z3⟩ := HV.out w3 ep (now + term) (some b3); generalize hwA3 : w3.alloc (.cells #[.int .i64 0, .int .i64 0, .map none] 26) = wA3 at *; generalize hwB3 : wA3.setRow w3.heap.size #[.int .i64 ep, .int .i64 (now + term), .map (some b3)] = wB3 at *; have XT := (XB2.below B3).below BB3)
    | (refine wpList_store_row rfl 26 _ _ rfl w2.heap.size _ rfl rfl 26 _ XA2 Try.infoLs rfl (lall _ _ _) ?_; rw [hwB2])
    | (refine wpList_store_row rfl 26 _ _ rfl w3.heap.size _ rfl rfl 26 _ XA3 Try.infoLs rfl (lall _ _ _) ?_; rw [hwB3])
    | (refine wpList_load_row rfl 26 _ rfl w1.heap.size rfl 26 _ (0, 0) _ XD Try.underlying26 rfl Try.infoLs ?_)
    | (refine wpList_load_row rfl 26 _ rfl w2.heap.size rfl 26 _ (0, 0) _ XB2 Try.underlying26 rfl Try.infoLs ?_))
  go_ret
  exact ⟨rfl, below_then (below_then (below_then BD (below_then B2 BB2)) (below_then B3 BB3)) B9⟩
set_option maxHeartbeats 4000000 in
set_option maxRecDepth 100000 in
theorem quiet_ok (ep : Int) (ao : Option Addr) (n ca : Nat) (Z : Nat → Rh) (now term later x ho : Int) (w : World) (hA : RhAt w ao n Z) (hx : -9223372036854775808 ≤ x ∧ x ≤ 9223372036854775807) (h : ¬ (ep < 0 ∨ 1073741824 < ep ∨ now < 0 ∨ 1073741824 < now ∨ term < 1 ∨ 1048576 < term ∨ later < 0 ∨ 1073741824 < later ∨ ho < 0)) (hlt : now + term ≤ later) :
   Calls Try.prog 6 #[.int .i64 ep, .slice ao n ca, .int .i64 now, .int .i64 term, .int .i64 later, .int .i64 x, .int .i64 ho] w fun e w' => e = .returned (.bool true) ∧ Below w.heap.size w w' := by
  have CB := lbegin_any ep 0 ao n ca Z w hA
  have CA := lawake_any
  have MY : mayN ep (now + term) later term x ho [] = 0 := by
    unfold mayN
    have hb : ¬ badA later term ho := by unfold badA; omega
    rw [if_neg hb]
    rw [if_neg (by omega)]
    have e : whoL later ([] : List (Int × Hg)) x = none := rfl
    rw [e]
    simp only [busy, Bool.false_eq_true, if_false]
    rw [if_neg (by omega)]
  have CG := fun W => lgrant_ok ep (now + term) none later term x ho [] W (HgM.nil W) (by simp) hx (by omega) MY
  have CN := fun W => lcount_any ep (now + term) none 0 [] W (HgM.nil W) (by simp)
  have e0 : ((lastM 0 ([] : List (Int × Hg))).length : Int) = 0 := rfl
  rw [e0] at CN
  have HV : Hid (∀ (W : World) (a b : Int) (m : Option Nat), _) := lvar
  have CR := fun b W => lrestart_any ep 0 (some b) now term W
  have e1 : witN now 1099511627776 = now := by unfold witN; omega
  have e2 : witN term 1048576 = term := by unfold witN; omega
  rw [e1, e2] at CR
  unfold lsV at *
  clear hA MY e1 e2
  have d0 : ¬ ep < 0 := by omega
  have d1 : ¬ 1073741824 < ep := by omega
  have d2 : ¬ now < 0 := by omega
  have d3 : ¬ 1073741824 < now := by omega
  have d4 : ¬ term < 1 := by omega
  have d5 : ¬ 1048576 < term := by omega
  have d6 : ¬ later < 0 := by omega
  have d7 : ¬ 1073741824 < later := by omega
  have d8 : ¬ ho < 0 := by omega
  have q1 : wrap64 (now + term) = now + term := by unfold wrap64; omega
  have q2 : wrap64 (ep + 1) = ep + 1 := by unfold wrap64; omega
  have dl : ¬ later < now + term := by omega
  clear h hlt
  go_enter Try.func6, Try.ntmps6
  go_wp2_with (first
    | (go_at_call 7; refine CB.mono ?_; rintro e w1 ⟨b, v, R0, rfl, M1, H1, hR, hrng, hb1, B1⟩; obtain ⟨av, lv, cv, hv⟩ := KRow.sl H1; subst hv; have XA := blk_new w1 26 #[.int .i64 0, .int .i64 0, .map none]; have BA := below_alloc' w1 (.cells #[.int .i64 0, .int .i64 0, .map none] 26); have sA : (w1.alloc (.cells #[.int .i64 0, .int .i64 0, .map none] 26)).heap.size = w1.heap.size + 1 := (by simp); generalize hwA : w1.alloc (.cells #[.int .i64 0, .int .i64 0, .map none] 26) = wA at *; have XB := blk_new wA 28 #[.int .i64 0, .int .i64 0, .slice none 0 0]; have BB := below_alloc' wA (.cells #[.int .i64 0, .int .i64 0, .slice none 0 0] 28); have XAB := XA.below BB; rw [sA] at XB; generalize hwB : wA.alloc (.cells #[.int .i64 0, .int .i64 0, .slice none 0 0] 28) = wB at *; have XC := XAB.row #[.int .i64 ep, .int .i64 0, .map (some b)]; have XBC := XB.of_block (setRow_other wB w1.heap.size (w1.heap.size + 1) #[.int .i64 ep, .int .i64 0, .map (some b)] (by omega)); have BC := below_row (below_then BA BB) (Nat.le_refl w1.heap.size) #[.int .i64 ep, .int .i64 0, .map (some b)]; have sC : w1.heap.size + 2 ≤ (wB.setRow w1.heap.size #[.int .i64 ep, .int .i64 0, .map (some b)]).heap.size := (by rw [setRow_size, ← hwB]; simp [sA]); generalize hwC : wB.setRow w1.heap.size #[.int .i64 ep, .int .i64 0, .map (some b)] = wC at *; have XD := XC.of_block (setRow_other wC (w1.heap.size + 1) w1.heap.size #[.int .i64 ep, .int .i64 0, .slice av lv cv] (by omega)); have BD := below_then B1 (below_row BC (show w1.heap.size ≤ w1.heap.size + 1 by omega) #[.int .i64 ep, .int .i64 0, .slice av lv cv]); have BD1 := below_row BC (show w1.heap.size ≤ w1.heap.size + 1 by omega) #[.int .i64 ep, .int .i64 0, .slice av lv cv]; generalize hwD : wC.setRow (w1.heap.size + 1) #[.int .i64 ep, .int .i64 0, .slice av lv cv] = wD at *; have MD := M1.below BD1)
    | (refine wpList_store_row rfl 26 _ _ rfl w1.heap.size _ rfl rfl 26 _ XAB Try.infoLs rfl (lall _ _ _) ?_; rw [hwC])
    | (refine wpList_store_row rfl 28 _ _ rfl (w1.heap.size + 1) _ rfl rfl 28 _ XBC Try.infoRs rfl (ralls _ _ _ ⟨_, _, _, rfl⟩) ?_; rw [hwD])
    | (go_at_call 8; refine (CA _).mono ?_; rintro e w9 ⟨rfl, B9⟩; have kk0 : w9.cell? ⟨w2.heap.size, 0, none⟩ = some (.int .i64 ep) := (XT.below B9).cell 0 rfl; have kk1 : w9.cell? ⟨w2.heap.size, 1, none⟩ = some (.int .i64 (now + term)) := (XT.below B9).cell 1 rfl; have kk2 : w9.cell? ⟨w2.heap.size, 2, none⟩ = some (.map none) := (XT.below B9).cell 2 rfl)
    | (go_at_call 14; refine (CR b _).mono ?_; rintro e w2 ⟨rfl, B2⟩; obtain ⟨XA2, XB2, BB2, z2⟩ := HV.out w2 ep (now + term) none; generalize hwA2 : w2.alloc (.cells #[.int .i64 0, .int .i64 0, .map none] 26) = wA2 at *; generalize hwB2 : wA2.setRow w2.heap.size #[.int .i64 ep, .int .i64 (now + term), .map none] = wB2 at *)
    | (go_at_call 9; refine (CG _).mono ?_; rintro e w3 ⟨b3, rfl, M3, _, B3⟩; obtain ⟨XA3, XB3, BB3, z3⟩ := HV.out w3 (ep + 1) (now + term) (some b3); generalize hwA3 : w3.alloc (.cells #[.int .i64 0, .int .i64 0, .map none] 26) = wA3 at *; generalize hwB3 : wA3.setRow w3.heap.size #[.int .i64 (ep + 1), .int .i64 (now + term), .map (some b3)] = wB3 at *; have XT := (XB2.below B3).below BB3)
    | (refine wpList_store_row rfl 26 _ _ rfl w2.heap.size _ rfl rfl 26 _ XA2 Try.infoLs rfl (lall _ _ _) ?_; rw [hwB2])
    | (refine wpList_store_row rfl 26 _ _ rfl w3.heap.size _ rfl rfl 26 _ XA3 Try.infoLs rfl (lall _ _ _) ?_; rw [hwB3])
    | (refine wpList_load_row rfl 26 _ rfl w1.heap.size rfl 26 _ (0, 0) _ XD Try.underlying26 rfl Try.infoLs ?_)
    | (refine wpList_load_row rfl 26 _ rfl w2.heap.size rfl 26 _ (0, 0) _ XB2 Try.underlying26 rfl Try.infoLs ?_)
    | (go_at_call 17; refine (CN _).mono ?_; rintro e w10 ⟨rfl, B10⟩))
  go_ret
  exact ⟨rfl, below_then (below_then (below_then BD (below_then B2 BB2)) (below_then B3 BB3)) (below_then B9 B10)⟩
theorem leaseQuiet_walk (ep : Int) (ao : Option Addr) (n ca : Nat) (Z : Nat → Rh) (now term later x ho : Int) (w : World) (_he : -9223372036854775808 ≤ ep ∧ ep ≤ 9223372036854775807) (hA : RhAt w ao n Z) (_hn : -9223372036854775808 ≤ now ∧ now ≤ 9223372036854775807) (_ht : -9223372036854775808 ≤ term ∧ term ≤ 9223372036854775807) (_hl : -9223372036854775808 ≤ later ∧ later ≤ 9223372036854775807) (hx : -9223372036854775808 ≤ x ∧ x ≤ 9223372036854775807) (_hh : -9223372036854775808 ≤ ho ∧ ho ≤ 9223372036854775807) :
   Calls Try.prog 6 #[.int .i64 ep, .slice ao n ca, .int .i64 now, .int .i64 term, .int .i64 later, .int .i64 x, .int .i64 ho] w fun e w' => e = .returned (.bool true) ∧ Below w.heap.size w w' := by
  by_cases h : ep < 0 ∨ 1073741824 < ep ∨ now < 0 ∨ 1073741824 < now ∨ term < 1 ∨ 1048576 < term ∨ later < 0 ∨ 1073741824 < later ∨ ho < 0
  · exact quiet_quick ep ao n ca Z now term later x ho w hA h
  · by_cases hl : later < now + term
    · exact quiet_bad ep ao n ca Z now term later x ho w hA hx h hl
    · exact quiet_ok ep ao n ca Z now term later x ho w hA hx h (by omega)
end Go.Proofs.Ytdddobpbjmlflaa
