/- The document's Granted. Written by tools/genhrgr.py. -/
import Derived.Test.YtifbnnffejamaaaHrAsk2
namespace Go.Proofs.Ytifbnnffejamaaa
open Go.ChangeShapes Go.WideShapes Go.ChangeAt Go.RowKit Go.Maps
set_option maxRecDepth 100000 in
set_option maxHeartbeats 16000000 in
theorem rgr_den (li cn now te ma x num ep : Int) (ao bo : Option Addr) (c d : Nat) (W : List (Int × Wn)) (H : List (Int × Hv)) (w : World) (hW : WnR w 0 (.slice ao W.length c) W) (hH : HvR w 0 (.slice bo H.length d) H) (hl : W.length ≤ 100000) (_hk : H.length ≤ 100000) (hb : denN W x num ≠ 0) :
   Calls Try.prog 9 #[rsV li cn (.slice ao W.length c) (.slice bo H.length d), .int .i64 now, .int .i64 te, .int .i64 ma, .int .i64 x, .int .i64 num, .int .i64 ep] w fun e w' => ∃ vw vh, e = .returned (.tuple #[rsV li cn vw vh, .int .i64 (denN W x num)]) ∧ Ref w' vw vh W H ∧ Below w.heap.size w w' := by
  have X0 := blk_new w 30 #[.int .i64 li, .int .i64 cn, .slice ao W.length c, .slice bo H.length d]
  have B0 := belowA w (.cells #[.int .i64 li, .int .i64 cn, .slice ao W.length c, .slice bo H.length d] 30)
  have s0 : (w.alloc (.cells #[.int .i64 li, .int .i64 cn, .slice ao W.length c, .slice bo H.length d] 30)).heap.size = w.heap.size + 1 := by simp
  generalize hw0 : w.alloc (.cells #[.int .i64 li, .int .i64 cn, .slice ao W.length c, .slice bo H.length d] 30) = w0 at *
  have X1 := blk_new w0 30 #[.int .i64 0, .int .i64 0, .slice none 0 0, .slice none 0 0]
  have B1 := belowA w0 (.cells #[.int .i64 0, .int .i64 0, .slice none 0 0, .slice none 0 0] 30)
  have s1 : (w0.alloc (.cells #[.int .i64 0, .int .i64 0, .slice none 0 0, .slice none 0 0] 30)).heap.size = w.heap.size + 1 + 1 := by simp [s0]
  have X01 := X0.below B1
  rw [s0] at X1
  generalize hw1 : w0.alloc (.cells #[.int .i64 0, .int .i64 0, .slice none 0 0, .slice none 0 0] 30) = w1 at *
  have HB : Hid (Below w.heap.size w w1) := below_then B0 B1
  have z1 : w.heap.size + 1 + 1 ≤ w1.heap.size := by omega
  have HRF : Hid (∀ W', Below w.heap.size w W' → Ref W' (.slice ao W.length c) (.slice bo H.length d) W H) := fun W' h => ⟨hW.below h, hH.below h⟩
  have C1 := rWanted_any li cn x ao bo c H.length d 0 W w1 ((hW.below B0).below B1) hl
  unfold denN at *
  generalize getM W x = o at *
  unfold rsV at *
  clear B0 B1 hW hH s1
  rcases o with _ | h
  · obtain ⟨p, q, r, hp⟩ : ∃ p q r : Int, Wn.el x none = .agg #[.int .i64 p, .int .i64 q, .int .i64 r] := ⟨0, 0, 0, rfl⟩
    simp only [Option.isSome_none, hp] at C1
    clear hb
    go_enter Try.func9, Try.ntmps9
    go_wp2_with (first
      | (go_at_call 28; refine C1.mono ?_; rintro e w2 ⟨rfl, B2⟩; obtain ⟨XA, XB, BBB, zB⟩ := tvar 77 w2 p q r; generalize hwA : w2.alloc (.cells #[.int .i64 0, .int .i64 0, .int .i64 0] 77) = wA at *; generalize hwB : wA.setRow w2.heap.size #[.int .i64 p, .int .i64 q, .int .i64 r] = wB at *; have z2 := B2.size; have X0B := (X01.below B2).below BBB; have X1B := (X1.below B2).below BBB; have kB1 : wB.cell? ⟨w2.heap.size, 1, none⟩ = some (.int .i64 q) := XB.cell 1 rfl; have kB2 : wB.cell? ⟨w2.heap.size, 2, none⟩ = some (.int .i64 r) := XB.cell 2 rfl; have BBw := below_then HB.out (below_then B2 BBB))
      | (refine wpList_load_row rfl 30 _ rfl w.heap.size rfl 30 _ (0, 0) _ X01 Try.underlying30 rfl Try.infoRsH ?_)
      | (refine wpList_store_row rfl 77 _ _ rfl w2.heap.size _ rfl rfl 77 _ XA Try.infoRWnS rfl (tall _ _ _) ?_; rw [hwB])
      | (refine wpList_load_row rfl 30 _ rfl w.heap.size rfl 30 _ (0, 0) _ X0B Try.underlying30 rfl Try.infoRsH ?_)
      | (refine wpList_store_row rfl 30 _ _ rfl (w.heap.size + 1) _ rfl rfl 30 _ X1B Try.infoRsH rfl (rall _ _ _ _ _ _ _ _) ?_))
    refine bodyPost_ret (results_s2 rfl _ _ (w.heap.size + 1) _ rfl (load_rs (X1B.row _))) rfl ?_
    have BF := belowR BBw (show w.heap.size ≤ w.heap.size + 1 by omega) #[.int .i64 li, .int .i64 cn, .slice ao W.length c, .slice bo H.length d]
    exact ⟨.slice ao W.length c, .slice bo H.length d, rfl, HRF.out _ BF, BF⟩
  · obtain ⟨q, r⟩ := h
    have hne0 : ¬ q = num := fun e => hb (if_pos e)
    simp only [if_neg hne0]
    simp only [Option.isSome_some, Wn.el] at C1
    clear hb
    go_enter Try.func9, Try.ntmps9
    go_wp2_with (first
      | (go_at_call 28; refine C1.mono ?_; rintro e w2 ⟨rfl, B2⟩; obtain ⟨XA, XB, BBB, zB⟩ := tvar 77 w2 x q r; generalize hwA : w2.alloc (.cells #[.int .i64 0, .int .i64 0, .int .i64 0] 77) = wA at *; generalize hwB : wA.setRow w2.heap.size #[.int .i64 x, .int .i64 q, .int .i64 r] = wB at *; have z2 := B2.size; have X0B := (X01.below B2).below BBB; have X1B := (X1.below B2).below BBB; have kB1 : wB.cell? ⟨w2.heap.size, 1, none⟩ = some (.int .i64 q) := XB.cell 1 rfl; have kB2 : wB.cell? ⟨w2.heap.size, 2, none⟩ = some (.int .i64 r) := XB.cell 2 rfl; have BBw := below_then HB.out (below_then B2 BBB))
      | (refine wpList_load_row rfl 30 _ rfl w.heap.size rfl 30 _ (0, 0) _ X01 Try.underlying30 rfl Try.infoRsH ?_)
      | (refine wpList_store_row rfl 77 _ _ rfl w2.heap.size _ rfl rfl 77 _ XA Try.infoRWnS rfl (tall _ _ _) ?_; rw [hwB])
      | (refine wpList_load_row rfl 30 _ rfl w.heap.size rfl 30 _ (0, 0) _ X0B Try.underlying30 rfl Try.infoRsH ?_)
      | (refine wpList_store_row rfl 30 _ _ rfl (w.heap.size + 1) _ rfl rfl 30 _ X1B Try.infoRsH rfl (rall _ _ _ _ _ _ _ _) ?_))
    refine bodyPost_ret (results_s2 rfl _ _ (w.heap.size + 1) _ rfl (load_rs (X1B.row _))) rfl ?_
    have BF := belowR BBw (show w.heap.size ≤ w.heap.size + 1 by omega) #[.int .i64 li, .int .i64 cn, .slice ao W.length c, .slice bo H.length d]
    exact ⟨.slice ao W.length c, .slice bo H.length d, rfl, HRF.out _ BF, BF⟩
set_option maxRecDepth 100000 in
set_option maxHeartbeats 16000000 in
theorem rgr_arg (li cn now te ma x num ep : Int) (ao bo : Option Addr) (c d : Nat) (W : List (Int × Wn)) (H : List (Int × Hv)) (w : World) (hW : WnR w 0 (.slice ao W.length c) W) (hH : HvR w 0 (.slice bo H.length d) H) (hl : W.length ≤ 100000) (_hk : H.length ≤ 100000) (v : Wn) (hv : getM W x = some v) (hn : v.num = num) (hb : (rightD te ma && momD now && momD v.tim) = false) :
   Calls Try.prog 9 #[rsV li cn (.slice ao W.length c) (.slice bo H.length d), .int .i64 now, .int .i64 te, .int .i64 ma, .int .i64 x, .int .i64 num, .int .i64 ep] w fun e w' => ∃ vw vh, e = .returned (.tuple #[rsV li cn vw vh, .int .i64 1]) ∧ Ref w' vw vh W H ∧ Below w.heap.size w w' := by
  have X0 := blk_new w 30 #[.int .i64 li, .int .i64 cn, .slice ao W.length c, .slice bo H.length d]
  have B0 := belowA w (.cells #[.int .i64 li, .int .i64 cn, .slice ao W.length c, .slice bo H.length d] 30)
  have s0 : (w.alloc (.cells #[.int .i64 li, .int .i64 cn, .slice ao W.length c, .slice bo H.length d] 30)).heap.size = w.heap.size + 1 := by simp
  generalize hw0 : w.alloc (.cells #[.int .i64 li, .int .i64 cn, .slice ao W.length c, .slice bo H.length d] 30) = w0 at *
  have X1 := blk_new w0 30 #[.int .i64 0, .int .i64 0, .slice none 0 0, .slice none 0 0]
  have B1 := belowA w0 (.cells #[.int .i64 0, .int .i64 0, .slice none 0 0, .slice none 0 0] 30)
  have s1 : (w0.alloc (.cells #[.int .i64 0, .int .i64 0, .slice none 0 0, .slice none 0 0] 30)).heap.size = w.heap.size + 1 + 1 := by simp [s0]
  have X01 := X0.below B1
  rw [s0] at X1
  generalize hw1 : w0.alloc (.cells #[.int .i64 0, .int .i64 0, .slice none 0 0, .slice none 0 0] 30) = w1 at *
  have HB : Hid (Below w.heap.size w w1) := below_then B0 B1
  have z1 : w.heap.size + 1 + 1 ≤ w1.heap.size := by omega
  have HRF : Hid (∀ W', Below w.heap.size w W' → Ref W' (.slice ao W.length c) (.slice bo H.length d) W H) := fun W' h => ⟨hW.below h, hH.below h⟩
  have C1 := rWanted_any li cn x ao bo c H.length d 0 W w1 ((hW.below B0).below B1) hl
  rw [hv] at C1
  obtain ⟨q, r⟩ := v
  simp only at hn hb
  subst hn
  simp only [Option.isSome_some, Wn.el] at C1
  unfold rsV at *
  clear B0 B1 hW hH s1 hv
  by_cases p1 : te < 1
  · clear hb
    go_enter Try.func9, Try.ntmps9
    go_wp2_with (first
      | (go_at_call 28; refine C1.mono ?_; rintro e w2 ⟨rfl, B2⟩; obtain ⟨XA, XB, BBB, zB⟩ := tvar 77 w2 x q r; generalize hwA : w2.alloc (.cells #[.int .i64 0, .int .i64 0, .int .i64 0] 77) = wA at *; generalize hwB : wA.setRow w2.heap.size #[.int .i64 x, .int .i64 q, .int .i64 r] = wB at *; have z2 := B2.size; have X0B := (X01.below B2).below BBB; have X1B := (X1.below B2).below BBB; have kB1 : wB.cell? ⟨w2.heap.size, 1, none⟩ = some (.int .i64 q) := XB.cell 1 rfl; have kB2 : wB.cell? ⟨w2.heap.size, 2, none⟩ = some (.int .i64 r) := XB.cell 2 rfl; have BBw := below_then HB.out (below_then B2 BBB))
      | (refine wpList_load_row rfl 30 _ rfl w.heap.size rfl 30 _ (0, 0) _ X01 Try.underlying30 rfl Try.infoRsH ?_)
      | (refine wpList_store_row rfl 77 _ _ rfl w2.heap.size _ rfl rfl 77 _ XA Try.infoRWnS rfl (tall _ _ _) ?_; rw [hwB])
      | (go_at_call 24; refine (rmom_any _ _).mono ?_; rintro e w9 ⟨rfl, h9⟩; obtain rfl := h9.symm)
      | (refine wpList_load_row rfl 30 _ rfl w.heap.size rfl 30 _ (0, 0) _ X0B Try.underlying30 rfl Try.infoRsH ?_)
      | (refine wpList_store_row rfl 30 _ _ rfl (w.heap.size + 1) _ rfl rfl 30 _ X1B Try.infoRsH rfl (rall _ _ _ _ _ _ _ _) ?_))
    refine bodyPost_ret (results_s2 rfl _ _ (w.heap.size + 1) _ rfl (load_rs (X1B.row _))) rfl ?_
    have BF := belowR BBw (show w.heap.size ≤ w.heap.size + 1 by omega) #[.int .i64 li, .int .i64 cn, .slice ao W.length c, .slice bo H.length d]
    exact ⟨.slice ao W.length c, .slice bo H.length d, rfl, HRF.out _ BF, BF⟩
  by_cases p2 : 1048576 < te
  · clear hb
    go_enter Try.func9, Try.ntmps9
    go_wp2_with (first
      | (go_at_call 28; refine C1.mono ?_; rintro e w2 ⟨rfl, B2⟩; obtain ⟨XA, XB, BBB, zB⟩ := tvar 77 w2 x q r; generalize hwA : w2.alloc (.cells #[.int .i64 0, .int .i64 0, .int .i64 0] 77) = wA at *; generalize hwB : wA.setRow w2.heap.size #[.int .i64 x, .int .i64 q, .int .i64 r] = wB at *; have z2 := B2.size; have X0B := (X01.below B2).below BBB; have X1B := (X1.below B2).below BBB; have kB1 : wB.cell? ⟨w2.heap.size, 1, none⟩ = some (.int .i64 q) := XB.cell 1 rfl; have kB2 : wB.cell? ⟨w2.heap.size, 2, none⟩ = some (.int .i64 r) := XB.cell 2 rfl; have BBw := below_then HB.out (below_then B2 BBB))
      | (refine wpList_load_row rfl 30 _ rfl w.heap.size rfl 30 _ (0, 0) _ X01 Try.underlying30 rfl Try.infoRsH ?_)
      | (refine wpList_store_row rfl 77 _ _ rfl w2.heap.size _ rfl rfl 77 _ XA Try.infoRWnS rfl (tall _ _ _) ?_; rw [hwB])
      | (go_at_call 24; refine (rmom_any _ _).mono ?_; rintro e w9 ⟨rfl, h9⟩; obtain rfl := h9.symm)
      | (refine wpList_load_row rfl 30 _ rfl w.heap.size rfl 30 _ (0, 0) _ X0B Try.underlying30 rfl Try.infoRsH ?_)
      | (refine wpList_store_row rfl 30 _ _ rfl (w.heap.size + 1) _ rfl rfl 30 _ X1B Try.infoRsH rfl (rall _ _ _ _ _ _ _ _) ?_))
    refine bodyPost_ret (results_s2 rfl _ _ (w.heap.size + 1) _ rfl (load_rs (X1B.row _))) rfl ?_
    have BF := belowR BBw (show w.heap.size ≤ w.heap.size + 1 by omega) #[.int .i64 li, .int .i64 cn, .slice ao W.length c, .slice bo H.length d]
    exact ⟨.slice ao W.length c, .slice bo H.length d, rfl, HRF.out _ BF, BF⟩
  by_cases p3 : ma < 0
  · clear hb
    go_enter Try.func9, Try.ntmps9
    go_wp2_with (first
      | (go_at_call 28; refine C1.mono ?_; rintro e w2 ⟨rfl, B2⟩; obtain ⟨XA, XB, BBB, zB⟩ := tvar 77 w2 x q r; generalize hwA : w2.alloc (.cells #[.int .i64 0, .int .i64 0, .int .i64 0] 77) = wA at *; generalize hwB : wA.setRow w2.heap.size #[.int .i64 x, .int .i64 q, .int .i64 r] = wB at *; have z2 := B2.size; have X0B := (X01.below B2).below BBB; have X1B := (X1.below B2).below BBB; have kB1 : wB.cell? ⟨w2.heap.size, 1, none⟩ = some (.int .i64 q) := XB.cell 1 rfl; have kB2 : wB.cell? ⟨w2.heap.size, 2, none⟩ = some (.int .i64 r) := XB.cell 2 rfl; have BBw := below_then HB.out (below_then B2 BBB))
      | (refine wpList_load_row rfl 30 _ rfl w.heap.size rfl 30 _ (0, 0) _ X01 Try.underlying30 rfl Try.infoRsH ?_)
      | (refine wpList_store_row rfl 77 _ _ rfl w2.heap.size _ rfl rfl 77 _ XA Try.infoRWnS rfl (tall _ _ _) ?_; rw [hwB])
      | (go_at_call 24; refine (rmom_any _ _).mono ?_; rintro e w9 ⟨rfl, h9⟩; obtain rfl := h9.symm)
      | (refine wpList_load_row rfl 30 _ rfl w.heap.size rfl 30 _ (0, 0) _ X0B Try.underlying30 rfl Try.infoRsH ?_)
      | (refine wpList_store_row rfl 30 _ _ rfl (w.heap.size + 1) _ rfl rfl 30 _ X1B Try.infoRsH rfl (rall _ _ _ _ _ _ _ _) ?_))
    refine bodyPost_ret (results_s2 rfl _ _ (w.heap.size + 1) _ rfl (load_rs (X1B.row _))) rfl ?_
    have BF := belowR BBw (show w.heap.size ≤ w.heap.size + 1 by omega) #[.int .i64 li, .int .i64 cn, .slice ao W.length c, .slice bo H.length d]
    exact ⟨.slice ao W.length c, .slice bo H.length d, rfl, HRF.out _ BF, BF⟩
  by_cases p4 : 1048576 < ma
  · clear hb
    go_enter Try.func9, Try.ntmps9
    go_wp2_with (first
      | (go_at_call 28; refine C1.mono ?_; rintro e w2 ⟨rfl, B2⟩; obtain ⟨XA, XB, BBB, zB⟩ := tvar 77 w2 x q r; generalize hwA : w2.alloc (.cells #[.int .i64 0, .int .i64 0, .int .i64 0] 77) = wA at *; generalize hwB : wA.setRow w2.heap.size #[.int .i64 x, .int .i64 q, .int .i64 r] = wB at *; have z2 := B2.size; have X0B := (X01.below B2).below BBB; have X1B := (X1.below B2).below BBB; have kB1 : wB.cell? ⟨w2.heap.size, 1, none⟩ = some (.int .i64 q) := XB.cell 1 rfl; have kB2 : wB.cell? ⟨w2.heap.size, 2, none⟩ = some (.int .i64 r) := XB.cell 2 rfl; have BBw := below_then HB.out (below_then B2 BBB))
      | (refine wpList_load_row rfl 30 _ rfl w.heap.size rfl 30 _ (0, 0) _ X01 Try.underlying30 rfl Try.infoRsH ?_)
      | (refine wpList_store_row rfl 77 _ _ rfl w2.heap.size _ rfl rfl 77 _ XA Try.infoRWnS rfl (tall _ _ _) ?_; rw [hwB])
      | (go_at_call 24; refine (rmom_any _ _).mono ?_; rintro e w9 ⟨rfl, h9⟩; obtain rfl := h9.symm)
      | (refine wpList_load_row rfl 30 _ rfl w.heap.size rfl 30 _ (0, 0) _ X0B Try.underlying30 rfl Try.infoRsH ?_)
      | (refine wpList_store_row rfl 30 _ _ rfl (w.heap.size + 1) _ rfl rfl 30 _ X1B Try.infoRsH rfl (rall _ _ _ _ _ _ _ _) ?_))
    refine bodyPost_ret (results_s2 rfl _ _ (w.heap.size + 1) _ rfl (load_rs (X1B.row _))) rfl ?_
    have BF := belowR BBw (show w.heap.size ≤ w.heap.size + 1 by omega) #[.int .i64 li, .int .i64 cn, .slice ao W.length c, .slice bo H.length d]
    exact ⟨.slice ao W.length c, .slice bo H.length d, rfl, HRF.out _ BF, BF⟩
  by_cases m1 : momD now = false
  · clear hb
    go_enter Try.func9, Try.ntmps9
    go_wp2_with (first
      | (go_at_call 28; refine C1.mono ?_; rintro e w2 ⟨rfl, B2⟩; obtain ⟨XA, XB, BBB, zB⟩ := tvar 77 w2 x q r; generalize hwA : w2.alloc (.cells #[.int .i64 0, .int .i64 0, .int .i64 0] 77) = wA at *; generalize hwB : wA.setRow w2.heap.size #[.int .i64 x, .int .i64 q, .int .i64 r] = wB at *; have z2 := B2.size; have X0B := (X01.below B2).below BBB; have X1B := (X1.below B2).below BBB; have kB1 : wB.cell? ⟨w2.heap.size, 1, none⟩ = some (.int .i64 q) := XB.cell 1 rfl; have kB2 : wB.cell? ⟨w2.heap.size, 2, none⟩ = some (.int .i64 r) := XB.cell 2 rfl; have BBw := below_then HB.out (below_then B2 BBB))
      | (refine wpList_load_row rfl 30 _ rfl w.heap.size rfl 30 _ (0, 0) _ X01 Try.underlying30 rfl Try.infoRsH ?_)
      | (refine wpList_store_row rfl 77 _ _ rfl w2.heap.size _ rfl rfl 77 _ XA Try.infoRWnS rfl (tall _ _ _) ?_; rw [hwB])
      | (go_at_call 24; refine (rmom_any _ _).mono ?_; rintro e w9 ⟨rfl, h9⟩; obtain rfl := h9.symm)
      | (refine wpList_load_row rfl 30 _ rfl w.heap.size rfl 30 _ (0, 0) _ X0B Try.underlying30 rfl Try.infoRsH ?_)
      | (refine wpList_store_row rfl 30 _ _ rfl (w.heap.size + 1) _ rfl rfl 30 _ X1B Try.infoRsH rfl (rall _ _ _ _ _ _ _ _) ?_))
    refine bodyPost_ret (results_s2 rfl _ _ (w.heap.size + 1) _ rfl (load_rs (X1B.row _))) rfl ?_
    have BF := belowR BBw (show w.heap.size ≤ w.heap.size + 1 by omega) #[.int .i64 li, .int .i64 cn, .slice ao W.length c, .slice bo H.length d]
    exact ⟨.slice ao W.length c, .slice bo H.length d, rfl, HRF.out _ BF, BF⟩
  by_cases m2 : momD r = false
  · clear hb
    have m1' : momD now = true := by simpa using m1
    go_enter Try.func9, Try.ntmps9
    go_wp2_with (first
      | (go_at_call 28; refine C1.mono ?_; rintro e w2 ⟨rfl, B2⟩; obtain ⟨XA, XB, BBB, zB⟩ := tvar 77 w2 x q r; generalize hwA : w2.alloc (.cells #[.int .i64 0, .int .i64 0, .int .i64 0] 77) = wA at *; generalize hwB : wA.setRow w2.heap.size #[.int .i64 x, .int .i64 q, .int .i64 r] = wB at *; have z2 := B2.size; have X0B := (X01.below B2).below BBB; have X1B := (X1.below B2).below BBB; have kB1 : wB.cell? ⟨w2.heap.size, 1, none⟩ = some (.int .i64 q) := XB.cell 1 rfl; have kB2 : wB.cell? ⟨w2.heap.size, 2, none⟩ = some (.int .i64 r) := XB.cell 2 rfl; have BBw := below_then HB.out (below_then B2 BBB))
      | (refine wpList_load_row rfl 30 _ rfl w.heap.size rfl 30 _ (0, 0) _ X01 Try.underlying30 rfl Try.infoRsH ?_)
      | (refine wpList_store_row rfl 77 _ _ rfl w2.heap.size _ rfl rfl 77 _ XA Try.infoRWnS rfl (tall _ _ _) ?_; rw [hwB])
      | (go_at_call 24; refine (rmom_any _ _).mono ?_; rintro e w9 ⟨rfl, h9⟩; obtain rfl := h9.symm)
      | (refine wpList_load_row rfl 30 _ rfl w.heap.size rfl 30 _ (0, 0) _ X0B Try.underlying30 rfl Try.infoRsH ?_)
      | (refine wpList_store_row rfl 30 _ _ rfl (w.heap.size + 1) _ rfl rfl 30 _ X1B Try.infoRsH rfl (rall _ _ _ _ _ _ _ _) ?_))
    refine bodyPost_ret (results_s2 rfl _ _ (w.heap.size + 1) _ rfl (load_rs (X1B.row _))) rfl ?_
    have BF := belowR BBw (show w.heap.size ≤ w.heap.size + 1 by omega) #[.int .i64 li, .int .i64 cn, .slice ao W.length c, .slice bo H.length d]
    exact ⟨.slice ao W.length c, .slice bo H.length d, rfl, HRF.out _ BF, BF⟩
  have e1 : rightD te ma = true := by unfold rightD; exact decide_eq_true ⟨by omega, by omega, by omega, by omega⟩
  have e2 : momD now = true := by simpa using m1
  have e3 : momD r = true := by simpa using m2
  rw [e1, e2, e3] at hb
  cases hb
set_option maxRecDepth 100000 in
set_option maxHeartbeats 16000000 in
theorem rgr_late (li cn now te ma x num ep : Int) (ao bo : Option Addr) (c d : Nat) (W : List (Int × Wn)) (H : List (Int × Hv)) (w : World) (hW : WnR w 0 (.slice ao W.length c) W) (hH : HvR w 0 (.slice bo H.length d) H) (hl : W.length ≤ 100000) (_hk : H.length ≤ 100000) (v : Wn) (hv : getM W x = some v) (hn : v.num = num) (hb : (rightD te ma && momD now && momD v.tim) = true) (hlt : v.tim + te - ma ≤ now) :
   Calls Try.prog 9 #[rsV li cn (.slice ao W.length c) (.slice bo H.length d), .int .i64 now, .int .i64 te, .int .i64 ma, .int .i64 x, .int .i64 num, .int .i64 ep] w fun e w' => ∃ vw vh, e = .returned (.tuple #[rsV li cn vw vh, .int .i64 16]) ∧ Ref w' vw vh (delM W x) H ∧ Below w.heap.size w w' := by
  have X0 := blk_new w 30 #[.int .i64 li, .int .i64 cn, .slice ao W.length c, .slice bo H.length d]
  have B0 := belowA w (.cells #[.int .i64 li, .int .i64 cn, .slice ao W.length c, .slice bo H.length d] 30)
  have s0 : (w.alloc (.cells #[.int .i64 li, .int .i64 cn, .slice ao W.length c, .slice bo H.length d] 30)).heap.size = w.heap.size + 1 := by simp
  generalize hw0 : w.alloc (.cells #[.int .i64 li, .int .i64 cn, .slice ao W.length c, .slice bo H.length d] 30) = w0 at *
  have X1 := blk_new w0 30 #[.int .i64 0, .int .i64 0, .slice none 0 0, .slice none 0 0]
  have B1 := belowA w0 (.cells #[.int .i64 0, .int .i64 0, .slice none 0 0, .slice none 0 0] 30)
  have s1 : (w0.alloc (.cells #[.int .i64 0, .int .i64 0, .slice none 0 0, .slice none 0 0] 30)).heap.size = w.heap.size + 1 + 1 := by simp [s0]
  have X01 := X0.below B1
  rw [s0] at X1
  generalize hw1 : w0.alloc (.cells #[.int .i64 0, .int .i64 0, .slice none 0 0, .slice none 0 0] 30) = w1 at *
  have HB : Hid (Below w.heap.size w w1) := below_then B0 B1
  have z1 : w.heap.size + 1 + 1 ≤ w1.heap.size := by omega
  have HRF : Hid (∀ W', Below w.heap.size w W' → Ref W' (.slice ao W.length c) (.slice bo H.length d) W H) := fun W' h => ⟨hW.below h, hH.below h⟩
  have C1 := rWanted_any li cn x ao bo c H.length d 0 W w1 ((hW.below B0).below B1) hl
  rw [hv] at C1
  obtain ⟨q, r⟩ := v
  simp only at hn hb hlt
  subst hn
  simp only [Option.isSome_some, Wn.el] at C1
  have HC2 : Hid (∀ W', Below w.heap.size w W' → _) := fun W' h => runwant_any li cn x ao bo c H.length d 0 W W' (hW.below h) hl
  have e1 : rightD te ma = true := by cases h : rightD te ma <;> simp_all
  have m1 : momD now = true := by cases h : momD now <;> simp_all
  have m2 : momD r = true := by cases h : momD r <;> simp_all
  have e1' := e1
  have m2' := m2
  have m1' := m1
  unfold rightD at e1'
  unfold momD at m2' m1'
  simp only [decide_eq_true_eq] at e1' m2' m1'
  obtain ⟨p1, p2, p3, p4⟩ := e1'
  obtain ⟨r1, r2⟩ := m2'
  obtain ⟨n1, n2⟩ := m1'
  unfold rsV at *
  clear B0 B1 hW hH s1 hv hb e1
  go_enter Try.func9, Try.ntmps9
  go_upto_region 8 with (first
    | (go_at_call 28; refine C1.mono ?_; rintro e w2 ⟨rfl, B2⟩; obtain ⟨XA, XB, BBB, zB⟩ := tvar 77 w2 x q r; generalize hwA : w2.alloc (.cells #[.int .i64 0, .int .i64 0, .int .i64 0] 77) = wA at *; generalize hwB : wA.setRow w2.heap.size #[.int .i64 x, .int .i64 q, .int .i64 r] = wB at *; have z2 := B2.size; have X0B := (X01.below B2).below BBB; have X1B := (X1.below B2).below BBB; have kB1 : wB.cell? ⟨w2.heap.size, 1, none⟩ = some (.int .i64 q) := XB.cell 1 rfl; have kB2 : wB.cell? ⟨w2.heap.size, 2, none⟩ = some (.int .i64 r) := XB.cell 2 rfl; have BBw := below_then HB.out (below_then B2 BBB))
    | (refine wpList_load_row rfl 30 _ rfl w.heap.size rfl 30 _ (0, 0) _ X01 Try.underlying30 rfl Try.infoRsH ?_)
    | (refine wpList_store_row rfl 77 _ _ rfl w2.heap.size _ rfl rfl 77 _ XA Try.infoRWnS rfl (tall _ _ _) ?_; rw [hwB])
    | (go_at_call 24; refine (rmom_any _ _).mono ?_; rintro e w9 ⟨rfl, h9⟩; obtain rfl := h9.symm))
  go_upto_region 9 with (first
    | (refine wpList_load_row rfl 30 _ rfl w.heap.size rfl 30 _ (0, 0) _ X0B Try.underlying30 rfl Try.infoRsH ?_)
    | (go_at_call 25; refine (HC2.out wB BBw).mono ?_; rintro e w5 ⟨v5, rfl, O5, B5⟩; have z5 := B5.size; obtain ⟨a5, c5, e5⟩ := O5.shape; obtain ⟨n5, hn5⟩ : ∃ n5, n5 = (delM W x).length := ⟨_, rfl⟩; rw [← hn5] at e5; subst e5; clear hn5; obtain ⟨XC, XD, BBs, zD⟩ := varR w5 30 #[.int .i64 0, .int .i64 0, .slice none 0 0, .slice none 0 0] #[.int .i64 li, .int .i64 cn, .slice a5 n5 c5, .slice bo H.length d]; generalize hwC : w5.alloc (.cells #[.int .i64 0, .int .i64 0, .slice none 0 0, .slice none 0 0] 30) = wC at *; generalize hwD : wC.setRow w5.heap.size #[.int .i64 li, .int .i64 cn, .slice a5 n5 c5, .slice bo H.length d] = wD at *; have X1D := (X1B.below B5).below BBs; have X0D := (X0B.below B5).below BBs; have XWD := (XB.below B5).below BBs; have kD2 : wD.cell? ⟨w2.heap.size, 2, none⟩ = some (.int .i64 r) := XWD.cell 2 rfl; have BBD := below_then BBw (below_then B5 BBs))
    | (refine wpList_store_row rfl 30 _ _ rfl w5.heap.size _ rfl rfl 30 _ XC Try.infoRsH rfl (rall _ _ _ _ _ _ _ _) ?_; rw [hwD]))
  go_wp2_with (first
    | (refine wpList_load_row rfl 30 _ rfl w5.heap.size rfl 30 _ (0, 0) _ XD Try.underlying30 rfl Try.infoRsH ?_)
    | (refine wpList_store_row rfl 30 _ _ rfl (w.heap.size + 1) _ rfl rfl 30 _ X1D Try.infoRsH rfl (rall _ _ _ _ _ _ _ _) ?_))
  refine bodyPost_ret (results_s2 rfl _ _ (w.heap.size + 1) _ rfl (load_rs (X1D.row _))) rfl ?_
  have BF := belowR BBD (show w.heap.size ≤ w.heap.size + 1 by omega) #[.int .i64 li, .int .i64 cn, .slice a5 n5 c5, .slice bo H.length d]
  exact ⟨.slice a5 n5 c5, .slice bo H.length d, rfl, ⟨KRow.base (KRow.stay (KRow.below O5 BBs) (fun g hg => setRow_other _ _ _ _ (by have := (KRow.ownlt O5 g hg).1; omega))) (Nat.zero_le _), (HRF.out _ BF).2⟩, BF⟩
end Go.Proofs.Ytifbnnffejamaaa
