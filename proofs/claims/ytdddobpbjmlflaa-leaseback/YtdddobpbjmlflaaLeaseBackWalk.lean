/- LeaseBack: whatever state, moments, term and holders, it answers true. -/
import Derived.Test.YtdddobpbjmlflaaLsBegin2
namespace Go.Proofs.Ytdddobpbjmlflaa
open Go.ChangeShapes Go.WideShapes Go.ChangeAt Go.RowKit Go.Maps
theorem who_put {now x : Int} {L : List (Int × Hg)} {h : Hg} (hu : now < h.unt) : whoL now (putM L x h) x = some h := whoL_some (getM_put_same L x h) hu
theorem who_put_over {now x : Int} {L : List (Int × Hg)} {h : Hg} (hu : h.unt ≤ now) : whoL now (putM L x h) x = none := whoL_over (getM_put_same L x h) hu
theorem who_del (now x : Int) (L : List (Int × Hg)) : whoL now (delM L x) x = none := whoL_none (getM_del_same L x)
theorem put_len (L : List (Int × Hg)) (x : Int) (h : Hg) : (putM L x h).length ≤ L.length + 1 := by
  have h2 : (delM L x).length ≤ L.length := List.length_filter_le _ _
  unfold putM
  rw [List.length_append]; simp; omega
theorem last_len (now : Int) (L : List (Int × Hg)) : (lastM now L).length ≤ L.length := List.length_filter_le _ _
theorem del_len (x : Int) (L : List (Int × Hg)) : (delM L x).length ≤ L.length := List.length_filter_le _ _
theorem may_zero {ep q now term x ho : Int} {L : List (Int × Hg)} (h : mayN ep q now term x ho L = 0) : ¬ badA now term ho ∧ q ≤ now ∧ ep < 1099511627776 := by
  unfold mayN at h
  by_cases h1 : badA now term ho
  · rw [if_pos h1] at h; omega
  · rw [if_neg h1] at h
    by_cases h2 : now < q
    · rw [if_pos h2] at h; omega
    · rw [if_neg h2] at h
      by_cases h3 : busy (whoL now L x) ho = true
      · rw [if_pos h3] at h; omega
      · rw [if_neg h3] at h
        by_cases h4 : 1099511627776 ≤ ep
        · rw [if_pos h4] at h; omega
        · exact ⟨h1, by omega, by omega⟩
theorem may_busy {ep q now term x ho : Int} {L : List (Int × Hg)} {h : Hg} (h1 : ¬ badA now term ho) (h2 : q ≤ now) (h3 : whoL now L x = some h) (h4 : h.hol ≠ ho) : mayN ep q now term x ho L = 15 := by
  unfold mayN
  rw [if_neg h1, if_neg (by omega), h3]
  simp only [busy, ne_eq, h4, not_false_iff, decide_true, if_true]
theorem may_ok {ep q now term x ho : Int} {L : List (Int × Hg)} (h1 : ¬ badA now term ho) (h2 : q ≤ now) (h3 : whoL now L x = none) (h4 : ep < 1099511627776) : mayN ep q now term x ho L = 0 := by
  unfold mayN
  rw [if_neg h1, if_neg (by omega), h3]
  simp only [busy, Bool.false_eq_true, if_false]
  rw [if_neg (by omega)]
set_option maxHeartbeats 4000000 in
set_option maxRecDepth 100000 in
theorem back_quick (ep : Int) (ao : Option Addr) (n ca : Nat) (Z : Nat → Rh) (now term x a c : Int) (w : World) (hA : RhAt w ao n Z) (h : ep < 0 ∨ 1073741824 < ep ∨ now < 0 ∨ 1073741824 < now ∨ a < 0 ∨ c < 0 ∨ a = c) :
   Calls Try.prog 5 #[.int .i64 ep, .slice ao n ca, .int .i64 now, .int .i64 term, .int .i64 x, .int .i64 a, .int .i64 c] w fun e w' => e = .returned (.bool true) ∧ Below w.heap.size w w' := by
  have CB := lbegin_any ep 0 ao n ca Z w hA
  have CA := lawake_any
  unfold lsV at CB
  clear hA
  by_cases h0 : ep < 0
  · clear h
    go_enter Try.func5, Try.ntmps5
    go_wp2_with (first
      | (go_at_call 7; refine CB.mono ?_; rintro e w1 ⟨b, v, R0, rfl, M1, H1, hR, hrng, hb1, B1⟩; obtain ⟨av, lv, cv, hv⟩ := KRow.sl H1; subst hv; have XA := blk_new w1 26 #[.int .i64 0, .int .i64 0, .map none]; have BA := below_alloc' w1 (.cells #[.int .i64 0, .int .i64 0, .map none] 26); have sA : (w1.alloc (.cells #[.int .i64 0, .int .i64 0, .map none] 26)).heap.size = w1.heap.size + 1 := (by simp); generalize hwA : w1.alloc (.cells #[.int .i64 0, .int .i64 0, .map none] 26) = wA at *; have XB := blk_new wA 28 #[.int .i64 0, .int .i64 0, .slice none 0 0]; have BB := below_alloc' wA (.cells #[.int .i64 0, .int .i64 0, .slice none 0 0] 28); have XAB := XA.below BB; rw [sA] at XB; generalize hwB : wA.alloc (.cells #[.int .i64 0, .int .i64 0, .slice none 0 0] 28) = wB at *; have XC := XAB.row #[.int .i64 ep, .int .i64 0, .map (some b)]; have XBC := XB.of_block (setRow_other wB w1.heap.size (w1.heap.size + 1) #[.int .i64 ep, .int .i64 0, .map (some b)] (by omega)); have BC := below_row (below_then BA BB) (Nat.le_refl w1.heap.size) #[.int .i64 ep, .int .i64 0, .map (some b)]; have sC : w1.heap.size + 2 ≤ (wB.setRow w1.heap.size #[.int .i64 ep, .int .i64 0, .map (some b)]).heap.size := (by rw [setRow_size, ← hwB]; simp [sA]); generalize hwC : wB.setRow w1.heap.size #[.int .i64 ep, .int .i64 0, .map (some b)] = wC at *; have XD := XC.of_block (setRow_other wC (w1.heap.size + 1) w1.heap.size #[.int .i64 ep, .int .i64 0, .slice av lv cv] (by omega)); have BD := below_then B1 (below_row BC (show w1.heap.size ≤ w1.heap.size + 1 by omega) #[.int .i64 ep, .int .i64 0, .slice av lv cv]); have BD1 := below_row BC (show w1.heap.size ≤ w1.heap.size + 1 by omega) #[.int .i64 ep, .int .i64 0, .slice av lv cv]; generalize hwD : wC.setRow (w1.heap.size + 1) #[.int .i64 ep, .int .i64 0, .slice av lv cv] = wD at *; have MD := M1.below BD1)
      | (refine wpList_store_row rfl 26 _ _ rfl w1.heap.size _ rfl rfl 26 _ XAB Try.infoLs rfl (lall _ _ _) ?_; rw [hwC])
      | (refine wpList_store_row rfl 28 _ _ rfl (w1.heap.size + 1) _ rfl rfl 28 _ XBC Try.infoRs rfl (ralls _ _ _ ⟨_, _, _, rfl⟩) ?_; rw [hwD])
      | (go_at_call 8; refine (CA _).mono ?_; rintro e w9 ⟨rfl, B9⟩))
    go_ret
    exact ⟨rfl, below_then BD B9⟩
  have d0 := decide_eq_false h0
  by_cases h1 : 1073741824 < ep
  · clear h
    go_enter Try.func5, Try.ntmps5
    go_wp2_with (first
      | (go_at_call 7; refine CB.mono ?_; rintro e w1 ⟨b, v, R0, rfl, M1, H1, hR, hrng, hb1, B1⟩; obtain ⟨av, lv, cv, hv⟩ := KRow.sl H1; subst hv; have XA := blk_new w1 26 #[.int .i64 0, .int .i64 0, .map none]; have BA := below_alloc' w1 (.cells #[.int .i64 0, .int .i64 0, .map none] 26); have sA : (w1.alloc (.cells #[.int .i64 0, .int .i64 0, .map none] 26)).heap.size = w1.heap.size + 1 := (by simp); generalize hwA : w1.alloc (.cells #[.int .i64 0, .int .i64 0, .map none] 26) = wA at *; have XB := blk_new wA 28 #[.int .i64 0, .int .i64 0, .slice none 0 0]; have BB := below_alloc' wA (.cells #[.int .i64 0, .int .i64 0, .slice none 0 0] 28); have XAB := XA.below BB; rw [sA] at XB; generalize hwB : wA.alloc (.cells #[.int .i64 0, .int .i64 0, .slice none 0 0] 28) = wB at *; have XC := XAB.row #[.int .i64 ep, .int .i64 0, .map (some b)]; have XBC := XB.of_block (setRow_other wB w1.heap.size (w1.heap.size + 1) #[.int .i64 ep, .int .i64 0, .map (some b)] (by omega)); have BC := below_row (below_then BA BB) (Nat.le_refl w1.heap.size) #[.int .i64 ep, .int .i64 0, .map (some b)]; have sC : w1.heap.size + 2 ≤ (wB.setRow w1.heap.size #[.int .i64 ep, .int .i64 0, .map (some b)]).heap.size := (by rw [setRow_size, ← hwB]; simp [sA]); generalize hwC : wB.setRow w1.heap.size #[.int .i64 ep, .int .i64 0, .map (some b)] = wC at *; have XD := XC.of_block (setRow_other wC (w1.heap.size + 1) w1.heap.size #[.int .i64 ep, .int .i64 0, .slice av lv cv] (by omega)); have BD := below_then B1 (below_row BC (show w1.heap.size ≤ w1.heap.size + 1 by omega) #[.int .i64 ep, .int .i64 0, .slice av lv cv]); have BD1 := below_row BC (show w1.heap.size ≤ w1.heap.size + 1 by omega) #[.int .i64 ep, .int .i64 0, .slice av lv cv]; generalize hwD : wC.setRow (w1.heap.size + 1) #[.int .i64 ep, .int .i64 0, .slice av lv cv] = wD at *; have MD := M1.below BD1)
      | (refine wpList_store_row rfl 26 _ _ rfl w1.heap.size _ rfl rfl 26 _ XAB Try.infoLs rfl (lall _ _ _) ?_; rw [hwC])
      | (refine wpList_store_row rfl 28 _ _ rfl (w1.heap.size + 1) _ rfl rfl 28 _ XBC Try.infoRs rfl (ralls _ _ _ ⟨_, _, _, rfl⟩) ?_; rw [hwD])
      | (go_at_call 8; refine (CA _).mono ?_; rintro e w9 ⟨rfl, B9⟩))
    go_ret
    exact ⟨rfl, below_then BD B9⟩
  have d1 := decide_eq_false h1
  by_cases h2 : now < 0
  · clear h
    go_enter Try.func5, Try.ntmps5
    go_wp2_with (first
      | (go_at_call 7; refine CB.mono ?_; rintro e w1 ⟨b, v, R0, rfl, M1, H1, hR, hrng, hb1, B1⟩; obtain ⟨av, lv, cv, hv⟩ := KRow.sl H1; subst hv; have XA := blk_new w1 26 #[.int .i64 0, .int .i64 0, .map none]; have BA := below_alloc' w1 (.cells #[.int .i64 0, .int .i64 0, .map none] 26); have sA : (w1.alloc (.cells #[.int .i64 0, .int .i64 0, .map none] 26)).heap.size = w1.heap.size + 1 := (by simp); generalize hwA : w1.alloc (.cells #[.int .i64 0, .int .i64 0, .map none] 26) = wA at *; have XB := blk_new wA 28 #[.int .i64 0, .int .i64 0, .slice none 0 0]; have BB := below_alloc' wA (.cells #[.int .i64 0, .int .i64 0, .slice none 0 0] 28); have XAB := XA.below BB; rw [sA] at XB; generalize hwB : wA.alloc (.cells #[.int .i64 0, .int .i64 0, .slice none 0 0] 28) = wB at *; have XC := XAB.row #[.int .i64 ep, .int .i64 0, .map (some b)]; have XBC := XB.of_block (setRow_other wB w1.heap.size (w1.heap.size + 1) #[.int .i64 ep, .int .i64 0, .map (some b)] (by omega)); have BC := below_row (below_then BA BB) (Nat.le_refl w1.heap.size) #[.int .i64 ep, .int .i64 0, .map (some b)]; have sC : w1.heap.size + 2 ≤ (wB.setRow w1.heap.size #[.int .i64 ep, .int .i64 0, .map (some b)]).heap.size := (by rw [setRow_size, ← hwB]; simp [sA]); generalize hwC : wB.setRow w1.heap.size #[.int .i64 ep, .int .i64 0, .map (some b)] = wC at *; have XD := XC.of_block (setRow_other wC (w1.heap.size + 1) w1.heap.size #[.int .i64 ep, .int .i64 0, .slice av lv cv] (by omega)); have BD := below_then B1 (below_row BC (show w1.heap.size ≤ w1.heap.size + 1 by omega) #[.int .i64 ep, .int .i64 0, .slice av lv cv]); have BD1 := below_row BC (show w1.heap.size ≤ w1.heap.size + 1 by omega) #[.int .i64 ep, .int .i64 0, .slice av lv cv]; generalize hwD : wC.setRow (w1.heap.size + 1) #[.int .i64 ep, .int .i64 0, .slice av lv cv] = wD at *; have MD := M1.below BD1)
      | (refine wpList_store_row rfl 26 _ _ rfl w1.heap.size _ rfl rfl 26 _ XAB Try.infoLs rfl (lall _ _ _) ?_; rw [hwC])
      | (refine wpList_store_row rfl 28 _ _ rfl (w1.heap.size + 1) _ rfl rfl 28 _ XBC Try.infoRs rfl (ralls _ _ _ ⟨_, _, _, rfl⟩) ?_; rw [hwD])
      | (go_at_call 8; refine (CA _).mono ?_; rintro e w9 ⟨rfl, B9⟩))
    go_ret
    exact ⟨rfl, below_then BD B9⟩
  have d2 := decide_eq_false h2
  by_cases h3 : 1073741824 < now
  · clear h
    go_enter Try.func5, Try.ntmps5
    go_wp2_with (first
      | (go_at_call 7; refine CB.mono ?_; rintro e w1 ⟨b, v, R0, rfl, M1, H1, hR, hrng, hb1, B1⟩; obtain ⟨av, lv, cv, hv⟩ := KRow.sl H1; subst hv; have XA := blk_new w1 26 #[.int .i64 0, .int .i64 0, .map none]; have BA := below_alloc' w1 (.cells #[.int .i64 0, .int .i64 0, .map none] 26); have sA : (w1.alloc (.cells #[.int .i64 0, .int .i64 0, .map none] 26)).heap.size = w1.heap.size + 1 := (by simp); generalize hwA : w1.alloc (.cells #[.int .i64 0, .int .i64 0, .map none] 26) = wA at *; have XB := blk_new wA 28 #[.int .i64 0, .int .i64 0, .slice none 0 0]; have BB := below_alloc' wA (.cells #[.int .i64 0, .int .i64 0, .slice none 0 0] 28); have XAB := XA.below BB; rw [sA] at XB; generalize hwB : wA.alloc (.cells #[.int .i64 0, .int .i64 0, .slice none 0 0] 28) = wB at *; have XC := XAB.row #[.int .i64 ep, .int .i64 0, .map (some b)]; have XBC := XB.of_block (setRow_other wB w1.heap.size (w1.heap.size + 1) #[.int .i64 ep, .int .i64 0, .map (some b)] (by omega)); have BC := below_row (below_then BA BB) (Nat.le_refl w1.heap.size) #[.int .i64 ep, .int .i64 0, .map (some b)]; have sC : w1.heap.size + 2 ≤ (wB.setRow w1.heap.size #[.int .i64 ep, .int .i64 0, .map (some b)]).heap.size := (by rw [setRow_size, ← hwB]; simp [sA]); generalize hwC : wB.setRow w1.heap.size #[.int .i64 ep, .int .i64 0, .map (some b)] = wC at *; have XD := XC.of_block (setRow_other wC (w1.heap.size + 1) w1.heap.size #[.int .i64 ep, .int .i64 0, .slice av lv cv] (by omega)); have BD := below_then B1 (below_row BC (show w1.heap.size ≤ w1.heap.size + 1 by omega) #[.int .i64 ep, .int .i64 0, .slice av lv cv]); have BD1 := below_row BC (show w1.heap.size ≤ w1.heap.size + 1 by omega) #[.int .i64 ep, .int .i64 0, .slice av lv cv]; generalize hwD : wC.setRow (w1.heap.size + 1) #[.int .i64 ep, .int .i64 0, .slice av lv cv] = wD at *; have MD := M1.below BD1)
      | (refine wpList_store_row rfl 26 _ _ rfl w1.heap.size _ rfl rfl 26 _ XAB Try.infoLs rfl (lall _ _ _) ?_; rw [hwC])
      | (refine wpList_store_row rfl 28 _ _ rfl (w1.heap.size + 1) _ rfl rfl 28 _ XBC Try.infoRs rfl (ralls _ _ _ ⟨_, _, _, rfl⟩) ?_; rw [hwD])
      | (go_at_call 8; refine (CA _).mono ?_; rintro e w9 ⟨rfl, B9⟩))
    go_ret
    exact ⟨rfl, below_then BD B9⟩
  have d3 := decide_eq_false h3
  by_cases h4 : a < 0
  · clear h
    go_enter Try.func5, Try.ntmps5
    go_wp2_with (first
      | (go_at_call 7; refine CB.mono ?_; rintro e w1 ⟨b, v, R0, rfl, M1, H1, hR, hrng, hb1, B1⟩; obtain ⟨av, lv, cv, hv⟩ := KRow.sl H1; subst hv; have XA := blk_new w1 26 #[.int .i64 0, .int .i64 0, .map none]; have BA := below_alloc' w1 (.cells #[.int .i64 0, .int .i64 0, .map none] 26); have sA : (w1.alloc (.cells #[.int .i64 0, .int .i64 0, .map none] 26)).heap.size = w1.heap.size + 1 := (by simp); generalize hwA : w1.alloc (.cells #[.int .i64 0, .int .i64 0, .map none] 26) = wA at *; have XB := blk_new wA 28 #[.int .i64 0, .int .i64 0, .slice none 0 0]; have BB := below_alloc' wA (.cells #[.int .i64 0, .int .i64 0, .slice none 0 0] 28); have XAB := XA.below BB; rw [sA] at XB; generalize hwB : wA.alloc (.cells #[.int .i64 0, .int .i64 0, .slice none 0 0] 28) = wB at *; have XC := XAB.row #[.int .i64 ep, .int .i64 0, .map (some b)]; have XBC := XB.of_block (setRow_other wB w1.heap.size (w1.heap.size + 1) #[.int .i64 ep, .int .i64 0, .map (some b)] (by omega)); have BC := below_row (below_then BA BB) (Nat.le_refl w1.heap.size) #[.int .i64 ep, .int .i64 0, .map (some b)]; have sC : w1.heap.size + 2 ≤ (wB.setRow w1.heap.size #[.int .i64 ep, .int .i64 0, .map (some b)]).heap.size := (by rw [setRow_size, ← hwB]; simp [sA]); generalize hwC : wB.setRow w1.heap.size #[.int .i64 ep, .int .i64 0, .map (some b)] = wC at *; have XD := XC.of_block (setRow_other wC (w1.heap.size + 1) w1.heap.size #[.int .i64 ep, .int .i64 0, .slice av lv cv] (by omega)); have BD := below_then B1 (below_row BC (show w1.heap.size ≤ w1.heap.size + 1 by omega) #[.int .i64 ep, .int .i64 0, .slice av lv cv]); have BD1 := below_row BC (show w1.heap.size ≤ w1.heap.size + 1 by omega) #[.int .i64 ep, .int .i64 0, .slice av lv cv]; generalize hwD : wC.setRow (w1.heap.size + 1) #[.int .i64 ep, .int .i64 0, .slice av lv cv] = wD at *; have MD := M1.below BD1)
      | (refine wpList_store_row rfl 26 _ _ rfl w1.heap.size _ rfl rfl 26 _ XAB Try.infoLs rfl (lall _ _ _) ?_; rw [hwC])
      | (refine wpList_store_row rfl 28 _ _ rfl (w1.heap.size + 1) _ rfl rfl 28 _ XBC Try.infoRs rfl (ralls _ _ _ ⟨_, _, _, rfl⟩) ?_; rw [hwD])
      | (go_at_call 8; refine (CA _).mono ?_; rintro e w9 ⟨rfl, B9⟩))
    go_ret
    exact ⟨rfl, below_then BD B9⟩
  have d4 := decide_eq_false h4
  by_cases h5 : c < 0
  · clear h
    go_enter Try.func5, Try.ntmps5
    go_wp2_with (first
      | (go_at_call 7; refine CB.mono ?_; rintro e w1 ⟨b, v, R0, rfl, M1, H1, hR, hrng, hb1, B1⟩; obtain ⟨av, lv, cv, hv⟩ := KRow.sl H1; subst hv; have XA := blk_new w1 26 #[.int .i64 0, .int .i64 0, .map none]; have BA := below_alloc' w1 (.cells #[.int .i64 0, .int .i64 0, .map none] 26); have sA : (w1.alloc (.cells #[.int .i64 0, .int .i64 0, .map none] 26)).heap.size = w1.heap.size + 1 := (by simp); generalize hwA : w1.alloc (.cells #[.int .i64 0, .int .i64 0, .map none] 26) = wA at *; have XB := blk_new wA 28 #[.int .i64 0, .int .i64 0, .slice none 0 0]; have BB := below_alloc' wA (.cells #[.int .i64 0, .int .i64 0, .slice none 0 0] 28); have XAB := XA.below BB; rw [sA] at XB; generalize hwB : wA.alloc (.cells #[.int .i64 0, .int .i64 0, .slice none 0 0] 28) = wB at *; have XC := XAB.row #[.int .i64 ep, .int .i64 0, .map (some b)]; have XBC := XB.of_block (setRow_other wB w1.heap.size (w1.heap.size + 1) #[.int .i64 ep, .int .i64 0, .map (some b)] (by omega)); have BC := below_row (below_then BA BB) (Nat.le_refl w1.heap.size) #[.int .i64 ep, .int .i64 0, .map (some b)]; have sC : w1.heap.size + 2 ≤ (wB.setRow w1.heap.size #[.int .i64 ep, .int .i64 0, .map (some b)]).heap.size := (by rw [setRow_size, ← hwB]; simp [sA]); generalize hwC : wB.setRow w1.heap.size #[.int .i64 ep, .int .i64 0, .map (some b)] = wC at *; have XD := XC.of_block (setRow_other wC (w1.heap.size + 1) w1.heap.size #[.int .i64 ep, .int .i64 0, .slice av lv cv] (by omega)); have BD := below_then B1 (below_row BC (show w1.heap.size ≤ w1.heap.size + 1 by omega) #[.int .i64 ep, .int .i64 0, .slice av lv cv]); have BD1 := below_row BC (show w1.heap.size ≤ w1.heap.size + 1 by omega) #[.int .i64 ep, .int .i64 0, .slice av lv cv]; generalize hwD : wC.setRow (w1.heap.size + 1) #[.int .i64 ep, .int .i64 0, .slice av lv cv] = wD at *; have MD := M1.below BD1)
      | (refine wpList_store_row rfl 26 _ _ rfl w1.heap.size _ rfl rfl 26 _ XAB Try.infoLs rfl (lall _ _ _) ?_; rw [hwC])
      | (refine wpList_store_row rfl 28 _ _ rfl (w1.heap.size + 1) _ rfl rfl 28 _ XBC Try.infoRs rfl (ralls _ _ _ ⟨_, _, _, rfl⟩) ?_; rw [hwD])
      | (go_at_call 8; refine (CA _).mono ?_; rintro e w9 ⟨rfl, B9⟩))
    go_ret
    exact ⟨rfl, below_then BD B9⟩
  have d5 := decide_eq_false h5
  have hz : a = c := by omega
  clear h
  go_enter Try.func5, Try.ntmps5
  go_wp2_with (first
    | (go_at_call 7; refine CB.mono ?_; rintro e w1 ⟨b, v, R0, rfl, M1, H1, hR, hrng, hb1, B1⟩; obtain ⟨av, lv, cv, hv⟩ := KRow.sl H1; subst hv; have XA := blk_new w1 26 #[.int .i64 0, .int .i64 0, .map none]; have BA := below_alloc' w1 (.cells #[.int .i64 0, .int .i64 0, .map none] 26); have sA : (w1.alloc (.cells #[.int .i64 0, .int .i64 0, .map none] 26)).heap.size = w1.heap.size + 1 := (by simp); generalize hwA : w1.alloc (.cells #[.int .i64 0, .int .i64 0, .map none] 26) = wA at *; have XB := blk_new wA 28 #[.int .i64 0, .int .i64 0, .slice none 0 0]; have BB := below_alloc' wA (.cells #[.int .i64 0, .int .i64 0, .slice none 0 0] 28); have XAB := XA.below BB; rw [sA] at XB; generalize hwB : wA.alloc (.cells #[.int .i64 0, .int .i64 0, .slice none 0 0] 28) = wB at *; have XC := XAB.row #[.int .i64 ep, .int .i64 0, .map (some b)]; have XBC := XB.of_block (setRow_other wB w1.heap.size (w1.heap.size + 1) #[.int .i64 ep, .int .i64 0, .map (some b)] (by omega)); have BC := below_row (below_then BA BB) (Nat.le_refl w1.heap.size) #[.int .i64 ep, .int .i64 0, .map (some b)]; have sC : w1.heap.size + 2 ≤ (wB.setRow w1.heap.size #[.int .i64 ep, .int .i64 0, .map (some b)]).heap.size := (by rw [setRow_size, ← hwB]; simp [sA]); generalize hwC : wB.setRow w1.heap.size #[.int .i64 ep, .int .i64 0, .map (some b)] = wC at *; have XD := XC.of_block (setRow_other wC (w1.heap.size + 1) w1.heap.size #[.int .i64 ep, .int .i64 0, .slice av lv cv] (by omega)); have BD := below_then B1 (below_row BC (show w1.heap.size ≤ w1.heap.size + 1 by omega) #[.int .i64 ep, .int .i64 0, .slice av lv cv]); have BD1 := below_row BC (show w1.heap.size ≤ w1.heap.size + 1 by omega) #[.int .i64 ep, .int .i64 0, .slice av lv cv]; generalize hwD : wC.setRow (w1.heap.size + 1) #[.int .i64 ep, .int .i64 0, .slice av lv cv] = wD at *; have MD := M1.below BD1)
    | (refine wpList_store_row rfl 26 _ _ rfl w1.heap.size _ rfl rfl 26 _ XAB Try.infoLs rfl (lall _ _ _) ?_; rw [hwC])
    | (refine wpList_store_row rfl 28 _ _ rfl (w1.heap.size + 1) _ rfl rfl 28 _ XBC Try.infoRs rfl (ralls _ _ _ ⟨_, _, _, rfl⟩) ?_; rw [hwD])
    | (go_at_call 8; refine (CA _).mono ?_; rintro e w9 ⟨rfl, B9⟩))
  go_ret
  exact ⟨rfl, below_then BD B9⟩
set_option maxHeartbeats 8000000 in
set_option maxRecDepth 100000 in
theorem back_main (ep : Int) (ao : Option Addr) (n ca : Nat) (Z : Nat → Rh) (now term x a c : Int) (w : World) (hA : RhAt w ao n Z) (hx : -9223372036854775808 ≤ x ∧ x ≤ 9223372036854775807) (h : ¬ (ep < 0 ∨ 1073741824 < ep ∨ now < 0 ∨ 1073741824 < now ∨ a < 0 ∨ c < 0 ∨ a = c)) :
   Calls Try.prog 5 #[.int .i64 ep, .slice ao n ca, .int .i64 now, .int .i64 term, .int .i64 x, .int .i64 a, .int .i64 c] w fun e w' => e = .returned (.bool true) ∧ Below w.heap.size w w' := by
  have CB := lbegin_any ep 0 ao n ca Z w hA
  have CA := lawake_any
  have HV : Hid (∀ (W : World) (a b : Int) (m : Option Nat), _) := lvar
  have F1 : True := trivial
  have d0 : ¬ ep < 0 := by omega
  have d1 : ¬ 1073741824 < ep := by omega
  have d2 : ¬ now < 0 := by omega
  have d3 : ¬ 1073741824 < now := by omega
  have d4 : ¬ a < 0 := by omega
  have d5 : ¬ c < 0 := by omega
  have d6 : ¬ a = c := by omega
  have d7 : (a == c) = false := by simpa using d6
  clear h
  go_enter Try.func5, Try.ntmps5
  unfold lsV at CB
  clear hA
  go_wp2_with (first
    | (go_at_call 7; refine CB.mono ?_; rintro e w1 ⟨b, v, R0, rfl, M1, H1, hR, hrng, hb1, B1⟩; obtain ⟨av, lv, cv, hv⟩ := KRow.sl H1; subst hv; have XA := blk_new w1 26 #[.int .i64 0, .int .i64 0, .map none]; have BA := below_alloc' w1 (.cells #[.int .i64 0, .int .i64 0, .map none] 26); have sA : (w1.alloc (.cells #[.int .i64 0, .int .i64 0, .map none] 26)).heap.size = w1.heap.size + 1 := (by simp); generalize hwA : w1.alloc (.cells #[.int .i64 0, .int .i64 0, .map none] 26) = wA at *; have XB := blk_new wA 28 #[.int .i64 0, .int .i64 0, .slice none 0 0]; have BB := below_alloc' wA (.cells #[.int .i64 0, .int .i64 0, .slice none 0 0] 28); have XAB := XA.below BB; rw [sA] at XB; generalize hwB : wA.alloc (.cells #[.int .i64 0, .int .i64 0, .slice none 0 0] 28) = wB at *; have XC := XAB.row #[.int .i64 ep, .int .i64 0, .map (some b)]; have XBC := XB.of_block (setRow_other wB w1.heap.size (w1.heap.size + 1) #[.int .i64 ep, .int .i64 0, .map (some b)] (by omega)); have BC := below_row (below_then BA BB) (Nat.le_refl w1.heap.size) #[.int .i64 ep, .int .i64 0, .map (some b)]; have sC : w1.heap.size + 2 ≤ (wB.setRow w1.heap.size #[.int .i64 ep, .int .i64 0, .map (some b)]).heap.size := (by rw [setRow_size, ← hwB]; simp [sA]); generalize hwC : wB.setRow w1.heap.size #[.int .i64 ep, .int .i64 0, .map (some b)] = wC at *; have XD := XC.of_block (setRow_other wC (w1.heap.size + 1) w1.heap.size #[.int .i64 ep, .int .i64 0, .slice av lv cv] (by omega)); have BD := below_then B1 (below_row BC (show w1.heap.size ≤ w1.heap.size + 1 by omega) #[.int .i64 ep, .int .i64 0, .slice av lv cv]); have BD1 := below_row BC (show w1.heap.size ≤ w1.heap.size + 1 by omega) #[.int .i64 ep, .int .i64 0, .slice av lv cv]; generalize hwD : wC.setRow (w1.heap.size + 1) #[.int .i64 ep, .int .i64 0, .slice av lv cv] = wD at *; have MD := M1.below BD1)
    | (refine wpList_store_row rfl 26 _ _ rfl w1.heap.size _ rfl rfl 26 _ XAB Try.infoLs rfl (lall _ _ _) ?_; rw [hwC])
    | (refine wpList_store_row rfl 28 _ _ rfl (w1.heap.size + 1) _ rfl rfl 28 _ XBC Try.infoRs rfl (ralls _ _ _ ⟨_, _, _, rfl⟩) ?_; rw [hwD])
    | (refine wpList_load_row rfl 26 _ rfl w1.heap.size rfl 26 _ (0, 0) _ XD Try.underlying26 rfl Try.infoLs ?_))
  clear M1 H1 hrng XA XB XAB XBC XC hwA hwB hwC hwD
  rcases Int.decEq (mayN ep 0 now term x a R0) 0 with hr | hr
  · have CG := lgrant_bad ep 0 (some b) now term x a R0 wD (HgM.some MD) (by omega) hx hr
    have hr2 : ¬ mayN ep 0 now term x a R0 = 0 := hr
    clear hr
    generalize mayN ep 0 now term x a R0 = r at *
    unfold lsV at CG
    refine CG.mono ?_
    rintro e w2 ⟨b2, rfl, M2, _, B2⟩
    obtain ⟨XA2, XB2, BB2, z2⟩ := HV.out w2 ep 0 (some b2); generalize hwA2 : w2.alloc (.cells #[.int .i64 0, .int .i64 0, .map none] 26) = wA2 at *; generalize hwB2 : wA2.setRow w2.heap.size #[.int .i64 ep, .int .i64 0, .map (some b2)] = wB2 at *
    go_wp2_with (first
      | (refine wpList_store_row rfl 26 _ _ rfl w2.heap.size _ rfl rfl 26 _ XA2 Try.infoLs rfl (lall _ _ _) ?_; rw [hwB2])
      | (go_at_call 8; refine (CA _).mono ?_; rintro e w9 ⟨rfl, B9⟩))
    go_ret
    exact ⟨rfl, below_then (below_then BD (below_then B2 BB2)) B9⟩
  · have CG := lgrant_ok ep 0 (some b) now term x a R0 wD (HgM.some MD) (by omega) hx (by omega) hr
    obtain ⟨y1, y2, y3⟩ := may_zero hr
    unfold badA at y1
    have ln1 : (putM (lastM now R0) x ⟨a, ep + 1, now + term⟩).length ≤ 11 := by
      have := put_len (lastM now R0) x ⟨a, ep + 1, now + term⟩
      have := last_len now R0
      omega
    have hac : a ≠ c := d6
    have W1 : whoL (now + term - 1) (putM (lastM now R0) x ⟨a, ep + 1, now + term⟩) x = some ⟨a, ep + 1, now + term⟩ := who_put (by simp only; omega)
    have W2 : whoL (now + term) (putM (lastM now R0) x ⟨a, ep + 1, now + term⟩) x = none := who_put_over (by simp only; omega)
    have W3 : whoL now (putM (lastM now R0) x ⟨a, ep + 1, now + term⟩) x = some ⟨a, ep + 1, now + term⟩ := who_put (by simp only; omega)
    generalize putM (lastM now R0) x ⟨a, ep + 1, now + term⟩ = L1 at *
    have A2 : mayN (ep + 1) 0 (now + term - 1) term x c L1 = 15 := may_busy (by unfold badA; omega) (by omega) W1 hac
    have A3 : mayN (ep + 1) 0 (now + term) term x c L1 = 0 := may_ok (by unfold badA; omega) (by omega) W2 (by omega)
    have A4 : letN (whoL now L1 x) a (ep + 1) = 0 := by rw [W3]; unfold letN; simp
    have A6 : letN (whoL now L1 x) c (ep + 1) = 14 := by rw [W3]; unfold letN; simp only; rw [if_pos (Or.inl hac)]
    have W5 := who_del now x (lastM now L1)
    have A5 : mayN (ep + 1) 0 now term x c (delM (lastM now L1) x) = 0 := may_ok (by unfold badA; omega) (by omega) W5 (by omega)
    have ln5 : (delM (lastM now L1) x).length ≤ 11 := by
      have := del_len x (lastM now L1)
      have := last_len now L1
      omega
    have C2 := fun (W : World) (b : Nat) (h : MapAt Hg.val W b L1) => lgrant_bad (ep + 1) 0 (some b) (now + term - 1) term x c L1 W (HgM.some h) (by omega) hx (by rw [A2]; omega)
    have C3 := fun (W : World) (b : Nat) (h : MapAt Hg.val W b L1) => lgrant_ok (ep + 1) 0 (some b) (now + term) term x c L1 W (HgM.some h) (by omega) hx (by omega) A3
    have C4 := fun (W : World) (b : Nat) (h : MapAt Hg.val W b L1) => llet_ok (ep + 1) 0 (some b) now x a (ep + 1) L1 W (HgM.some h) (by omega) hx A4
    have C6 := fun (W : World) (b : Nat) (h : MapAt Hg.val W b L1) => llet_bad (ep + 1) 0 (some b) now x c (ep + 1) L1 W (HgM.some h) (by omega) hx (by rw [A6]; omega)
    generalize delM (lastM now L1) x = L5 at *
    have C5 := fun (W : World) (b : Nat) (h : MapAt Hg.val W b L5) => lgrant_ok (ep + 1) 0 (some b) now term x c L5 W (HgM.some h) (by omega) hx (by omega) A5
    rw [A2] at C2
    rw [A6] at C6
    unfold lsV at CG C2 C3 C4 C5 C6
    clear A2 A3 A4 A5 A6 W1 W2 W3 W5 hr
    have q1 : wrap64 (now + term) = now + term := by unfold wrap64; omega
    have q2 : wrap64 (now + term - 1) = now + term - 1 := by unfold wrap64; omega
    have q3 : wrap64 (ep + 1 + 1) = ep + 1 + 1 := by unfold wrap64; omega
    have dk : ep < ep + 1 + 1 := by omega
    refine CG.mono ?_
    rintro e w2 ⟨b2, rfl, M2, _, B2⟩
    obtain ⟨XA2, XB2, BB2, z2⟩ := HV.out w2 (ep + 1) 0 (some b2); generalize hwA2 : w2.alloc (.cells #[.int .i64 0, .int .i64 0, .map none] 26) = wA2 at *; generalize hwB2 : wA2.setRow w2.heap.size #[.int .i64 (ep + 1), .int .i64 0, .map (some b2)] = wB2 at *
    have M2' := M2.below BB2
    have D2 := C2 wB2 b2 M2'
    have F2 := F1
    go_wp2_with (first
      | (refine wpList_load_row rfl 26 _ rfl w2.heap.size rfl 26 _ (0, 0) _ XB2 Try.underlying26 rfl Try.infoLs ?_)
      | (go_at_call 9; have g := F2; clear g F2; have F3 : True := trivial; refine D2.mono ?_; rintro e w3 ⟨b3, rfl, M3, _, B3⟩; obtain ⟨XA3, XB3, BB3, z3⟩ := HV.out w3 (ep + 1) 0 (some b3); generalize hwA3 : w3.alloc (.cells #[.int .i64 0, .int .i64 0, .map none] 26) = wA3 at *; generalize hwB3 : wA3.setRow w3.heap.size #[.int .i64 (ep + 1), .int .i64 0, .map (some b3)] = wB3 at *; have XB23 := (XB2.below B3).below BB3; have M23 := (M2'.below B3).below BB3; have D3 := C3 wB3 b2 M23)
      | (refine wpList_load_row rfl 26 _ rfl w2.heap.size rfl 26 _ (0, 0) _ XB23 Try.underlying26 rfl Try.infoLs ?_)
      | (go_at_call 9; have g := F3; clear g F3; have F4 : True := trivial; refine D3.mono ?_; rintro e w4 ⟨b4, rfl, M4, _, B4⟩; obtain ⟨XA4, XB4, BB4, z4⟩ := HV.out w4 (ep + 1 + 1) 0 (some b4); generalize hwA4 : w4.alloc (.cells #[.int .i64 0, .int .i64 0, .map none] 26) = wA4 at *; generalize hwB4 : wA4.setRow w4.heap.size #[.int .i64 (ep + 1 + 1), .int .i64 0, .map (some b4)] = wB4 at *; have XB24 := (XB23.below B4).below BB4; have M24 := (M23.below B4).below BB4; have D4 := C4 wB4 b2 M24)
      | (refine wpList_load_row rfl 26 _ rfl w2.heap.size rfl 26 _ (0, 0) _ XB24 Try.underlying26 rfl Try.infoLs ?_)
      | (go_at_call 12; have g := F4; clear g F4; have F5 : True := trivial; refine D4.mono ?_; rintro e w5 ⟨b5, rfl, M5, _, B5⟩; obtain ⟨XA5, XB5, BB5, z5⟩ := HV.out w5 (ep + 1) 0 (some b5); generalize hwA5 : w5.alloc (.cells #[.int .i64 0, .int .i64 0, .map none] 26) = wA5 at *; generalize hwB5 : wA5.setRow w5.heap.size #[.int .i64 (ep + 1), .int .i64 0, .map (some b5)] = wB5 at *; have XB25 := (XB24.below B5).below BB5; have M25 := (M24.below B5).below BB5; have D5 := C5 wB5 b5 (M5.below BB5))
      | (refine wpList_load_row rfl 26 _ rfl w5.heap.size rfl 26 _ (0, 0) _ XB5 Try.underlying26 rfl Try.infoLs ?_)
      | (go_at_call 9; have g := F5; clear g F5; have F6 : True := trivial; refine D5.mono ?_; rintro e w6 ⟨b6, rfl, M6, _, B6⟩; obtain ⟨XA6, XB6, BB6, z6⟩ := HV.out w6 (ep + 1 + 1) 0 (some b6); generalize hwA6 : w6.alloc (.cells #[.int .i64 0, .int .i64 0, .map none] 26) = wA6 at *; generalize hwB6 : wA6.setRow w6.heap.size #[.int .i64 (ep + 1 + 1), .int .i64 0, .map (some b6)] = wB6 at *; have XB26 := (XB25.below B6).below BB6; have D6 := C6 wB6 b2 ((M25.below B6).below BB6))
      | (refine wpList_load_row rfl 26 _ rfl w2.heap.size rfl 26 _ (0, 0) _ XB26 Try.underlying26 rfl Try.infoLs ?_)
      | (go_at_call 12; have g := F6; clear g F6; have F7 : True := trivial; refine D6.mono ?_; rintro e w7 ⟨b7, rfl, M7, _, B7⟩; obtain ⟨XA7, XB7, BB7, z7⟩ := HV.out w7 (ep + 1) 0 (some b7); generalize hwA7 : w7.alloc (.cells #[.int .i64 0, .int .i64 0, .map none] 26) = wA7 at *; generalize hwB7 : wA7.setRow w7.heap.size #[.int .i64 (ep + 1), .int .i64 0, .map (some b7)] = wB7 at *; have XB27 := (XB26.below B7).below BB7)
      | (refine wpList_store_row rfl 26 _ _ rfl w2.heap.size _ rfl rfl 26 _ XA2 Try.infoLs rfl (lall _ _ _) ?_; rw [hwB2])
      | (refine wpList_store_row rfl 26 _ _ rfl w3.heap.size _ rfl rfl 26 _ XA3 Try.infoLs rfl (lall _ _ _) ?_; rw [hwB3])
      | (refine wpList_store_row rfl 26 _ _ rfl w4.heap.size _ rfl rfl 26 _ XA4 Try.infoLs rfl (lall _ _ _) ?_; rw [hwB4])
      | (refine wpList_store_row rfl 26 _ _ rfl w5.heap.size _ rfl rfl 26 _ XA5 Try.infoLs rfl (lall _ _ _) ?_; rw [hwB5])
      | (refine wpList_store_row rfl 26 _ _ rfl w6.heap.size _ rfl rfl 26 _ XA6 Try.infoLs rfl (lall _ _ _) ?_; rw [hwB6])
      | (refine wpList_store_row rfl 26 _ _ rfl w7.heap.size _ rfl rfl 26 _ XA7 Try.infoLs rfl (lall _ _ _) ?_; rw [hwB7])
      | (go_at_call 8; refine (CA _).mono ?_; rintro e w9 ⟨rfl, B9⟩; have kk0 : w9.cell? ⟨w2.heap.size, 0, none⟩ = some (.int .i64 (ep + 1)) := (XB27.below B9).cell 0 rfl))
    go_ret
    exact ⟨rfl, below_then (below_then (below_then (below_then BD (below_then B2 BB2)) (below_then (below_then B3 BB3) (below_then B4 BB4))) (below_then (below_then (below_then B5 BB5) (below_then B6 BB6)) (below_then B7 BB7))) B9⟩
theorem leaseBack_walk (ep : Int) (ao : Option Addr) (n ca : Nat) (Z : Nat → Rh) (now term x a c : Int) (w : World) (_he : -9223372036854775808 ≤ ep ∧ ep ≤ 9223372036854775807) (hA : RhAt w ao n Z) (_hn : -9223372036854775808 ≤ now ∧ now ≤ 9223372036854775807) (_ht : -9223372036854775808 ≤ term ∧ term ≤ 9223372036854775807) (hx : -9223372036854775808 ≤ x ∧ x ≤ 9223372036854775807) (_ha : -9223372036854775808 ≤ a ∧ a ≤ 9223372036854775807) (_hc : -9223372036854775808 ≤ c ∧ c ≤ 9223372036854775807) :
   Calls Try.prog 5 #[.int .i64 ep, .slice ao n ca, .int .i64 now, .int .i64 term, .int .i64 x, .int .i64 a, .int .i64 c] w fun e w' => e = .returned (.bool true) ∧ Below w.heap.size w w' := by
  by_cases h : ep < 0 ∨ 1073741824 < ep ∨ now < 0 ∨ 1073741824 < now ∨ a < 0 ∨ c < 0 ∨ a = c
  · exact back_quick ep ao n ca Z now term x a c w hA h
  · exact back_main ep ao n ca Z now term x a c w hA hx h
end Go.Proofs.Ytdddobpbjmlflaa
