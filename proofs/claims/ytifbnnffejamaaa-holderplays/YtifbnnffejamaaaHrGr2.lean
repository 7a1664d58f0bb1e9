/- The document's Granted, granted. Written by tools/genhrgr.py. -/
import Derived.Test.YtifbnnffejamaaaHrGr
namespace Go.Proofs.Ytifbnnffejamaaa
open Go.ChangeShapes Go.WideShapes Go.ChangeAt Go.RowKit Go.Maps
set_option maxRecDepth 100000 in
set_option maxHeartbeats 16000000 in
theorem rgr_ok (li cn now te ma x num ep : Int) (ao bo : Option Addr) (c d : Nat) (W : List (Int × Wn)) (H : List (Int × Hv)) (w : World) (hW : WnR w 0 (.slice ao W.length c) W) (hH : HvR w 0 (.slice bo H.length d) H) (hl : W.length ≤ 100000) (_hk : H.length ≤ 100000) (v : Wn) (hv : getM W x = some v) (hn : v.num = num) (hb : (rightD te ma && momD now && momD v.tim) = true) (hlt : now < v.tim + te - ma) :
   Calls Try.prog 9 #[rsV li cn (.slice ao W.length c) (.slice bo H.length d), .int .i64 now, .int .i64 te, .int .i64 ma, .int .i64 x, .int .i64 num, .int .i64 ep] w fun e w' => ∃ vw vh, e = .returned (.tuple #[rsV li cn vw vh, .int .i64 0]) ∧ Ref w' vw vh (delM W x) (putM H x ⟨ep, grU H x ep (v.tim + te - ma)⟩) ∧ Below w.heap.size w w' := by
  have X0 := blk_new w 30 #[.int .i64 li, .int .i64 cn, .slice ao W.length c, .slice bo H.length d]
  have B0 := belowA w (.cells #[.int .i64 li, .int .i64 cn, .slice ao W.length c, .slice bo H.length d] 30)
  have s0 : (w.alloc (.cells #[.int .i64 li, .int .i64 cn, .slice ao W.length c, .slice bo H.length d] 30)).heap.size = w.heap.size + 1 := by simp
  generalize hw0 : w.alloc (.cells #[.int .i64 li, .int .i64 cn, .slice ao W.length c, .slice bo H.length d] 30) = w0 at *
  have X1 := blk_new w0 30 #[.int .i64 0, .int .i64 0, .slice none 0 0, .slice none 0 0]
  have B1 := belowA w0 (.cells #[.int .i64 0, .int .i64 0, .slice none 0 0, .slice none 0 0] 30)
  have s1 : (w0.alloc (.cells #[.int .i64 0, .int .i64 0, .slice none 0 0, .slice none 0 0] 30)).heap.size = w.heap.size + 1 + 1 := by simp [s0]
  have X01 := X0.below B1
  rw [s0] at X1
  generalize hw1 : w0.alloc (.cells #[.int .i64 0, .int .i64 0, .slice none 0 0, .slice none 0 0] 30) = w1 at *
  have HB : Hid (Below w.heap.size w w1) := below_then B0 B1
  have z1 : w.heap.size + 1 + 1 ≤ w1.heap.size := by omega
  have HRF : Hid (∀ W', Below w.heap.size w W' → Ref W' (.slice ao W.length c) (.slice bo H.length d) W H) := fun W' h => ⟨hW.below h, hH.below h⟩
  have C1 := rWanted_any li cn x ao bo c H.length d 0 W w1 ((hW.below B0).below B1) hl
  rw [hv] at C1
  obtain ⟨q, r⟩ := v
  simp only at hn hb hlt
  subst hn
  simp only [Option.isSome_some, Wn.el] at C1
  have HC2 : Hid (∀ W', Below w.heap.size w W' → _) := fun W' h => runwant_any li cn x ao bo c H.length d 0 W W' (hW.below h) hl
  have e1 : rightD te ma = true := by cases h : rightD te ma <;> simp_all
  have m1 : momD now = true := by cases h : momD now <;> simp_all
  have m2 : momD r = true := by cases h : momD r <;> simp_all
  have e1' := e1
  have m2' := m2
  have m1' := m1
  unfold rightD at e1'
  unfold momD at m2' m1'
  simp only [decide_eq_true_eq] at e1' m2' m1'
  obtain ⟨p1, p2, p3, p4⟩ := e1'
  obtain ⟨r1, r2⟩ := m2'
  obtain ⟨n1, n2⟩ := m1'
  have HC3 : Hid (∀ W', Below w.heap.size w W' → _) := fun W' h => rHad_any li cn x bo ao d W.length c 0 H W' (hH.below h) _hk
  have HC4 : Hid (∀ W', Below w.heap.size w W' → ∀ (a5 : Option Addr) (n5 c5 : Nat), _) := fun W' h a5 n5 c5 => runhave_any li cn x bo a5 d n5 c5 0 H W' (hH.below h) _hk
  have hdl : ((delM H x).map cvHv).length ≤ 100000 := by
    rw [List.length_map]
    have := List.length_filter_le (fun p : Int × Hv => decide (p.1 ≠ x)) H
    unfold delM
    omega
  obtain ⟨UU, hUU⟩ : ∃ u, u = grU H x ep (r + te - ma) := ⟨_, rfl⟩
  rw [← hUU]
  unfold grU at hUU
  have HPM : Hid (∀ y : Hv, putM H x y = delM H x ++ [(x, y)]) := fun y => rfl
  generalize getM H x = o at *
  unfold rsV at *
  clear B0 B1 hW hH s1 hv hb e1
  go_enter Try.func9, Try.ntmps9
  go_upto_region 8 with (first
    | (go_at_call 28; refine C1.mono ?_; rintro e w2 ⟨rfl, B2⟩; obtain ⟨XA, XB, BBB, zB⟩ := tvar 77 w2 x q r; generalize hwA : w2.alloc (.cells #[.int .i64 0, .int .i64 0, .int .i64 0] 77) = wA at *; generalize hwB : wA.setRow w2.heap.size #[.int .i64 x, .int .i64 q, .int .i64 r] = wB at *; have z2 := B2.size; have X0B := (X01.below B2).below BBB; have X1B := (X1.below B2).below BBB; have kB1 : wB.cell? ⟨w2.heap.size, 1, none⟩ = some (.int .i64 q) := XB.cell 1 rfl; have kB2 : wB.cell? ⟨w2.heap.size, 2, none⟩ = some (.int .i64 r) := XB.cell 2 rfl; have BBw := below_then HB.out (below_then B2 BBB))
    | (refine wpList_load_row rfl 30 _ rfl w.heap.size rfl 30 _ (0, 0) _ X01 Try.underlying30 rfl Try.infoRsH ?_)
    | (refine wpList_store_row rfl 77 _ _ rfl w2.heap.size _ rfl rfl 77 _ XA Try.infoRWnS rfl (tall _ _ _) ?_; rw [hwB])
    | (go_at_call 24; refine (rmom_any _ _).mono ?_; rintro e w9 ⟨rfl, h9⟩; obtain rfl := h9.symm))
  go_upto_region 9 with (first
    | (refine wpList_load_row rfl 30 _ rfl w.heap.size rfl 30 _ (0, 0) _ X0B Try.underlying30 rfl Try.infoRsH ?_)
    | (go_at_call 25; refine (HC2.out wB BBw).mono ?_; rintro e w5 ⟨v5, rfl, O5, B5⟩; have z5 := B5.size; obtain ⟨a5, c5, e5⟩ := O5.shape; obtain ⟨n5, hn5⟩ : ∃ n5, n5 = (delM W x).length := ⟨_, rfl⟩; rw [← hn5] at e5; subst e5; clear hn5; obtain ⟨XC, XD, BBs, zD⟩ := varR w5 30 #[.int .i64 0, .int .i64 0, .slice none 0 0, .slice none 0 0] #[.int .i64 li, .int .i64 cn, .slice a5 n5 c5, .slice bo H.length d]; generalize hwC : w5.alloc (.cells #[.int .i64 0, .int .i64 0, .slice none 0 0, .slice none 0 0] 30) = wC at *; generalize hwD : wC.setRow w5.heap.size #[.int .i64 li, .int .i64 cn, .slice a5 n5 c5, .slice bo H.length d] = wD at *; have X1D := (X1B.below B5).below BBs; have X0D := (X0B.below B5).below BBs; have XWD := (XB.below B5).below BBs; have kD2 : wD.cell? ⟨w2.heap.size, 2, none⟩ = some (.int .i64 r) := XWD.cell 2 rfl; have BBD := below_then BBw (below_then B5 BBs))
    | (refine wpList_store_row rfl 30 _ _ rfl w5.heap.size _ rfl rfl 30 _ XC Try.infoRsH rfl (rall _ _ _ _ _ _ _ _) ?_; rw [hwD]))
  have hlt' : ¬ r + te - ma ≤ now := by omega
  rcases o with _ | ⟨e0, u0⟩
  · have HUE : Hid (UU = r + te - ma) := hUU
    clear hUU
    obtain ⟨p', q', r', hp'⟩ : ∃ p q r : Int, Hv.el x none = .agg #[.int .i64 p, .int .i64 q, .int .i64 r] := ⟨0, 0, 0, rfl⟩
    have C3 := HC3.out wD BBD
    simp only [Option.isSome_none, hp'] at C3
    go_upto_region 15 with (first
      | (refine wpList_load_row rfl 30 _ rfl w.heap.size rfl 30 _ (0, 0) _ X0D Try.underlying30 rfl Try.infoRsH ?_)
      | (go_at_call 29; refine C3.mono ?_; rintro e w6 ⟨rfl, B6⟩; obtain ⟨XE, XF, BBf, zF⟩ := tvar 85 w6 p' q' r'; generalize hwE : w6.alloc (.cells #[.int .i64 0, .int .i64 0, .int .i64 0] 85) = wE at *; generalize hwF : wE.setRow w6.heap.size #[.int .i64 p', .int .i64 q', .int .i64 r'] = wF at *; have z6 := B6.size; have kF1 : wF.cell? ⟨w6.heap.size, 1, none⟩ = some (.int .i64 q') := XF.cell 1 rfl; have kF2 : wF.cell? ⟨w6.heap.size, 2, none⟩ = some (.int .i64 r') := XF.cell 2 rfl; have X1F := (X1D.below B6).below BBf; have XDF := (XD.below B6).below BBf; have BBF := below_then BBD (below_then B6 BBf))
      | (refine wpList_store_row rfl 85 _ _ rfl w6.heap.size _ rfl rfl 85 _ XE Try.infoRHvS rfl (tall _ _ _) ?_; rw [hwF]))
    have C4 := HC4.out wF BBF a5 n5 c5
    have O5L := KRow.ownlt O5
    have OW1 := KRow.below (KRow.below (KRow.below O5 BBs) B6) BBf
    go_upto_region 16 with (first
      | (refine wpList_load_row rfl 30 _ rfl w5.heap.size rfl 30 _ (0, 0) _ XDF Try.underlying30 rfl Try.infoRsH ?_)
      | (go_at_call 30; refine C4.mono ?_; rintro e w7 ⟨v7, rfl, O7, B7⟩; have z7 := B7.size; obtain ⟨a7, c7, e7⟩ := O7.shape; obtain ⟨n7, hn7⟩ : ∃ n7, n7 = (delM H x).length := ⟨_, rfl⟩; rw [← hn7] at e7; subst e7; clear hn7; have XD7 := XDF.below B7; have X17 := X1F.below B7; have OW2 := KRow.below OW1 B7; have X8 := XD7.row #[.int .i64 li, .int .i64 cn, .slice a5 n5 c5, .slice a7 n7 c7]; have X18 := X17.of_block (setRow_other w7 w5.heap.size (w.heap.size + 1) #[.int .i64 li, .int .i64 cn, .slice a5 n5 c5, .slice a7 n7 c7] (by omega)); have O8 := KRow.stay (w' := w7.setRow w5.heap.size #[.int .i64 li, .int .i64 cn, .slice a5 n5 c5, .slice a7 n7 c7]) O7 (fun g hg => setRow_other _ _ _ _ (by have := (KRow.ownlt O7 g hg).1; omega)); have OW3 := KRow.stay (w' := w7.setRow w5.heap.size #[.int .i64 li, .int .i64 cn, .slice a5 n5 c5, .slice a7 n7 c7]) OW2 (fun g hg => setRow_other _ _ _ _ (by have := (O5L g hg).2; omega)); have BB8 := belowR (below_then BBF B7) (show w.heap.size ≤ w5.heap.size by omega) #[.int .i64 li, .int .i64 cn, .slice a5 n5 c5, .slice a7 n7 c7]; have z8 : w7.heap.size ≤ (w7.setRow w5.heap.size #[.int .i64 li, .int .i64 cn, .slice a5 n5 c5, .slice a7 n7 c7]).heap.size := (by rw [setRow_size]; exact Nat.le_refl _); generalize hw8 : w7.setRow w5.heap.size #[.int .i64 li, .int .i64 cn, .slice a5 n5 c5, .slice a7 n7 c7] = w8 at *)
      | (refine wpList_store_row rfl 30 _ _ rfl w5.heap.size _ rfl rfl 30 _ XD7 Try.infoRsH rfl (rall _ _ _ _ _ _ _ _) ?_; rw [hw8]))
    have y3 : w8.cell? ⟨w5.heap.size, 3, none⟩ = some (.slice a7 n7 c7) := X8.cell 3 rfl
    have BG := belowA w8 (.cells #[.int .i64 x, .int .i64 ep, .int .i64 (r + te - ma)] 85)
    have OG := KRow.below O8 BG
    have OW4 := KRow.below OW3 BG
    have XG := X8.below BG
    have X1G := X18.below BG
    have BBG := below_then BB8 BG
    have CC := cells3 85 w8 x ep (r + te - ma)
    have zG : w8.heap.size + 1 ≤ (w8.alloc (.cells #[.int .i64 x, .int .i64 ep, .int .i64 (r + te - ma)] 85)).heap.size := by simp
    generalize hwG : w8.alloc (.cells #[.int .i64 x, .int .i64 ep, .int .i64 (r + te - ma)] 85) = wG at *
    go_wp2_with (first
      | (at_builtin; refine wpList_append_k rfl _ _ 85 28 3 _ Try.underlying28 Try.infoRHv rfl (by omega) (by omega) rfl wF.heap.size _ _ rfl OG w8.heap.size [x, ep, r + te - ma] rfl rfl CC hdl (by omega) ?_; intro v9 w9 O9 B9 _; obtain ⟨a9, c9, e9, _⟩ := KRow.len O9; obtain ⟨n9, hn9⟩ : ∃ n9, n9 = ((delM H x).map cvHv ++ [[x, ep, r + te - ma]]).length := ⟨_, rfl⟩; rw [← hn9] at e9; subst e9; clear hn9; have X9 := XG.of_block (B9.block w5.heap.size (by omega)); have X19 := X1G.of_block (B9.block (w.heap.size + 1) (by omega)); have y9 : w9.cell? ⟨w5.heap.size, 3, none⟩ = some (.slice a7 n7 c7) := X9.cell 3 rfl; have f9 := X9.frozen 3; have XI := X9.set 3 (.slice a9 n9 c9); have X1I := X19.other (a := ⟨w5.heap.size, 3, none⟩) (by show w.heap.size + 1 ≠ w5.heap.size; omega) (.slice a9 n9 c9))
      | (refine wpList_load_row rfl 30 _ rfl w5.heap.size rfl 30 _ (0, 0) _ XI Try.underlying30 rfl Try.infoRsH ?_)
      | (refine wpList_store_row rfl 30 _ _ rfl (w.heap.size + 1) _ rfl rfl 30 _ X1I Try.infoRsH rfl (rall _ _ _ _ _ _ _ _) ?_))
    refine bodyPost_ret (results_s2 rfl _ _ (w.heap.size + 1) _ rfl (load_rs (X1I.row _))) rfl ?_
    have BF := belowR ((BBG.trans (B9.mono (show w.heap.size ≤ wF.heap.size by omega))).setCell (p := ⟨w5.heap.size, 3, none⟩) (by show w.heap.size ≤ w5.heap.size; omega) (.slice a9 n9 c9)) (show w.heap.size ≤ w.heap.size + 1 by omega) #[.int .i64 li, .int .i64 cn, .slice a5 n5 c5, .slice a9 n9 c9]
    refine ⟨.slice a5 n5 c5, .slice a9 n9 c9, rfl, ⟨?_, ?_⟩, BF⟩
    · refine KRow.base (KRow.stay OW4 (fun g hg => ?_)) (Nat.zero_le _)
      have h9 := O5L g hg
      rw [setRow_other _ _ _ _ (by omega), Below.heap_setCell _ _ _ _ (by show g ≠ w5.heap.size; omega)]
      exact B9.block g (by omega)
    · have E9 : KRow w9 wF.heap.size 85 3 (.slice a9 n9 c9) ((delM H x ++ [(x, (⟨ep, r + te - ma⟩ : Hv))]).map cvHv) := by rw [List.map_append]; exact O9
      have O10 := KRow.base (KRow.stay (w' := ((w9.setCell ⟨w5.heap.size, 3, none⟩ (.slice a9 n9 c9)).setRow (w.heap.size + 1) #[.int .i64 li, .int .i64 cn, .slice a5 n5 c5, .slice a9 n9 c9])) E9 (fun g hg => by
        have h9 := (KRow.ownlt E9 g hg).1
        rw [setRow_other _ _ _ _ (by omega), Below.heap_setCell _ _ _ _ (by show g ≠ w5.heap.size; omega)])) (Nat.zero_le _)
      rw [HUE.out, HPM.out]
      exact O10
  have C3 := HC3.out wD BBD
  simp only [Option.isSome_some, Hv.el] at C3
  by_cases g1 : e0 = ep
  · by_cases g2 : r + te - ma < u0
    · have HUE : Hid (UU = u0) := by
        rw [hUU]
        show (if e0 = ep then max (r + te - ma) u0 else r + te - ma) = _
        rw [if_pos g1]; omega
      clear hUU
      have g1' : (e0 == ep) = true := by simp [g1]
      clear g1
      go_upto_region 15 with (first
        | (refine wpList_load_row rfl 30 _ rfl w.heap.size rfl 30 _ (0, 0) _ X0D Try.underlying30 rfl Try.infoRsH ?_)
        | (go_at_call 29; refine C3.mono ?_; rintro e w6 ⟨rfl, B6⟩; obtain ⟨XE, XF, BBf, zF⟩ := tvar 85 w6 x e0 u0; generalize hwE : w6.alloc (.cells #[.int .i64 0, .int .i64 0, .int .i64 0] 85) = wE at *; generalize hwF : wE.setRow w6.heap.size #[.int .i64 x, .int .i64 e0, .int .i64 u0] = wF at *; have z6 := B6.size; have kF1 : wF.cell? ⟨w6.heap.size, 1, none⟩ = some (.int .i64 e0) := XF.cell 1 rfl; have kF2 : wF.cell? ⟨w6.heap.size, 2, none⟩ = some (.int .i64 u0) := XF.cell 2 rfl; have X1F := (X1D.below B6).below BBf; have XDF := (XD.below B6).below BBf; have BBF := below_then BBD (below_then B6 BBf))
        | (refine wpList_store_row rfl 85 _ _ rfl w6.heap.size _ rfl rfl 85 _ XE Try.infoRHvS rfl (tall _ _ _) ?_; rw [hwF]))
      have C4 := HC4.out wF BBF a5 n5 c5
      have O5L := KRow.ownlt O5
      have OW1 := KRow.below (KRow.below (KRow.below O5 BBs) B6) BBf
      go_upto_region 16 with (first
        | (refine wpList_load_row rfl 30 _ rfl w5.heap.size rfl 30 _ (0, 0) _ XDF Try.underlying30 rfl Try.infoRsH ?_)
        | (go_at_call 30; refine C4.mono ?_; rintro e w7 ⟨v7, rfl, O7, B7⟩; have z7 := B7.size; obtain ⟨a7, c7, e7⟩ := O7.shape; obtain ⟨n7, hn7⟩ : ∃ n7, n7 = (delM H x).length := ⟨_, rfl⟩; rw [← hn7] at e7; subst e7; clear hn7; have XD7 := XDF.below B7; have X17 := X1F.below B7; have OW2 := KRow.below OW1 B7; have X8 := XD7.row #[.int .i64 li, .int .i64 cn, .slice a5 n5 c5, .slice a7 n7 c7]; have X18 := X17.of_block (setRow_other w7 w5.heap.size (w.heap.size + 1) #[.int .i64 li, .int .i64 cn, .slice a5 n5 c5, .slice a7 n7 c7] (by omega)); have O8 := KRow.stay (w' := w7.setRow w5.heap.size #[.int .i64 li, .int .i64 cn, .slice a5 n5 c5, .slice a7 n7 c7]) O7 (fun g hg => setRow_other _ _ _ _ (by have := (KRow.ownlt O7 g hg).1; omega)); have OW3 := KRow.stay (w' := w7.setRow w5.heap.size #[.int .i64 li, .int .i64 cn, .slice a5 n5 c5, .slice a7 n7 c7]) OW2 (fun g hg => setRow_other _ _ _ _ (by have := (O5L g hg).2; omega)); have BB8 := belowR (below_then BBF B7) (show w.heap.size ≤ w5.heap.size by omega) #[.int .i64 li, .int .i64 cn, .slice a5 n5 c5, .slice a7 n7 c7]; have z8 : w7.heap.size ≤ (w7.setRow w5.heap.size #[.int .i64 li, .int .i64 cn, .slice a5 n5 c5, .slice a7 n7 c7]).heap.size := (by rw [setRow_size]; exact Nat.le_refl _); generalize hw8 : w7.setRow w5.heap.size #[.int .i64 li, .int .i64 cn, .slice a5 n5 c5, .slice a7 n7 c7] = w8 at *)
        | (refine wpList_store_row rfl 30 _ _ rfl w5.heap.size _ rfl rfl 30 _ XD7 Try.infoRsH rfl (rall _ _ _ _ _ _ _ _) ?_; rw [hw8]))
      have y3 : w8.cell? ⟨w5.heap.size, 3, none⟩ = some (.slice a7 n7 c7) := X8.cell 3 rfl
      have BG := belowA w8 (.cells #[.int .i64 x, .int .i64 ep, .int .i64 (u0)] 85)
      have OG := KRow.below O8 BG
      have OW4 := KRow.below OW3 BG
      have XG := X8.below BG
      have X1G := X18.below BG
      have BBG := below_then BB8 BG
      have CC := cells3 85 w8 x ep (u0)
      have zG : w8.heap.size + 1 ≤ (w8.alloc (.cells #[.int .i64 x, .int .i64 ep, .int .i64 (u0)] 85)).heap.size := by simp
      generalize hwG : w8.alloc (.cells #[.int .i64 x, .int .i64 ep, .int .i64 (u0)] 85) = wG at *
      go_wp2_with (first
        | (at_builtin; refine wpList_append_k rfl _ _ 85 28 3 _ Try.underlying28 Try.infoRHv rfl (by omega) (by omega) rfl wF.heap.size _ _ rfl OG w8.heap.size [x, ep, u0] rfl rfl CC hdl (by omega) ?_; intro v9 w9 O9 B9 _; obtain ⟨a9, c9, e9, _⟩ := KRow.len O9; obtain ⟨n9, hn9⟩ : ∃ n9, n9 = ((delM H x).map cvHv ++ [[x, ep, u0]]).length := ⟨_, rfl⟩; rw [← hn9] at e9; subst e9; clear hn9; have X9 := XG.of_block (B9.block w5.heap.size (by omega)); have X19 := X1G.of_block (B9.block (w.heap.size + 1) (by omega)); have y9 : w9.cell? ⟨w5.heap.size, 3, none⟩ = some (.slice a7 n7 c7) := X9.cell 3 rfl; have f9 := X9.frozen 3; have XI := X9.set 3 (.slice a9 n9 c9); have X1I := X19.other (a := ⟨w5.heap.size, 3, none⟩) (by show w.heap.size + 1 ≠ w5.heap.size; omega) (.slice a9 n9 c9))
        | (refine wpList_load_row rfl 30 _ rfl w5.heap.size rfl 30 _ (0, 0) _ XI Try.underlying30 rfl Try.infoRsH ?_)
        | (refine wpList_store_row rfl 30 _ _ rfl (w.heap.size + 1) _ rfl rfl 30 _ X1I Try.infoRsH rfl (rall _ _ _ _ _ _ _ _) ?_))
      refine bodyPost_ret (results_s2 rfl _ _ (w.heap.size + 1) _ rfl (load_rs (X1I.row _))) rfl ?_
      have BF := belowR ((BBG.trans (B9.mono (show w.heap.size ≤ wF.heap.size by omega))).setCell (p := ⟨w5.heap.size, 3, none⟩) (by show w.heap.size ≤ w5.heap.size; omega) (.slice a9 n9 c9)) (show w.heap.size ≤ w.heap.size + 1 by omega) #[.int .i64 li, .int .i64 cn, .slice a5 n5 c5, .slice a9 n9 c9]
      refine ⟨.slice a5 n5 c5, .slice a9 n9 c9, rfl, ⟨?_, ?_⟩, BF⟩
      · refine KRow.base (KRow.stay OW4 (fun g hg => ?_)) (Nat.zero_le _)
        have h9 := O5L g hg
        rw [setRow_other _ _ _ _ (by omega), Below.heap_setCell _ _ _ _ (by show g ≠ w5.heap.size; omega)]
        exact B9.block g (by omega)
      · have E9 : KRow w9 wF.heap.size 85 3 (.slice a9 n9 c9) ((delM H x ++ [(x, (⟨ep, u0⟩ : Hv))]).map cvHv) := by rw [List.map_append]; exact O9
        have O10 := KRow.base (KRow.stay (w' := ((w9.setCell ⟨w5.heap.size, 3, none⟩ (.slice a9 n9 c9)).setRow (w.heap.size + 1) #[.int .i64 li, .int .i64 cn, .slice a5 n5 c5, .slice a9 n9 c9])) E9 (fun g hg => by
          have h9 := (KRow.ownlt E9 g hg).1
          rw [setRow_other _ _ _ _ (by omega), Below.heap_setCell _ _ _ _ (by show g ≠ w5.heap.size; omega)])) (Nat.zero_le _)
        rw [HUE.out, HPM.out]
        exact O10
    · have HUE : Hid (UU = r + te - ma) := by
        rw [hUU]
        show (if e0 = ep then max (r + te - ma) u0 else r + te - ma) = _
        rw [if_pos g1]; omega
      clear hUU
      have g1' : (e0 == ep) = true := by simp [g1]
      clear g1
      go_upto_region 15 with (first
        | (refine wpList_load_row rfl 30 _ rfl w.heap.size rfl 30 _ (0, 0) _ X0D Try.underlying30 rfl Try.infoRsH ?_)
        | (go_at_call 29; refine C3.mono ?_; rintro e w6 ⟨rfl, B6⟩; obtain ⟨XE, XF, BBf, zF⟩ := tvar 85 w6 x e0 u0; generalize hwE : w6.alloc (.cells #[.int .i64 0, .int .i64 0, .int .i64 0] 85) = wE at *; generalize hwF : wE.setRow w6.heap.size #[.int .i64 x, .int .i64 e0, .int .i64 u0] = wF at *; have z6 := B6.size; have kF1 : wF.cell? ⟨w6.heap.size, 1, none⟩ = some (.int .i64 e0) := XF.cell 1 rfl; have kF2 : wF.cell? ⟨w6.heap.size, 2, none⟩ = some (.int .i64 u0) := XF.cell 2 rfl; have X1F := (X1D.below B6).below BBf; have XDF := (XD.below B6).below BBf; have BBF := below_then BBD (below_then B6 BBf))
        | (refine wpList_store_row rfl 85 _ _ rfl w6.heap.size _ rfl rfl 85 _ XE Try.infoRHvS rfl (tall _ _ _) ?_; rw [hwF]))
      have C4 := HC4.out wF BBF a5 n5 c5
      have O5L := KRow.ownlt O5
      have OW1 := KRow.below (KRow.below (KRow.below O5 BBs) B6) BBf
      go_upto_region 16 with (first
        | (refine wpList_load_row rfl 30 _ rfl w5.heap.size rfl 30 _ (0, 0) _ XDF Try.underlying30 rfl Try.infoRsH ?_)
        | (go_at_call 30; refine C4.mono ?_; rintro e w7 ⟨v7, rfl, O7, B7⟩; have z7 := B7.size; obtain ⟨a7, c7, e7⟩ := O7.shape; obtain ⟨n7, hn7⟩ : ∃ n7, n7 = (delM H x).length := ⟨_, rfl⟩; rw [← hn7] at e7; subst e7; clear hn7; have XD7 := XDF.below B7; have X17 := X1F.below B7; have OW2 := KRow.below OW1 B7; have X8 := XD7.row #[.int .i64 li, .int .i64 cn, .slice a5 n5 c5, .slice a7 n7 c7]; have X18 := X17.of_block (setRow_other w7 w5.heap.size (w.heap.size + 1) #[.int .i64 li, .int .i64 cn, .slice a5 n5 c5, .slice a7 n7 c7] (by omega)); have O8 := KRow.stay (w' := w7.setRow w5.heap.size #[.int .i64 li, .int .i64 cn, .slice a5 n5 c5, .slice a7 n7 c7]) O7 (fun g hg => setRow_other _ _ _ _ (by have := (KRow.ownlt O7 g hg).1; omega)); have OW3 := KRow.stay (w' := w7.setRow w5.heap.size #[.int .i64 li, .int .i64 cn, .slice a5 n5 c5, .slice a7 n7 c7]) OW2 (fun g hg => setRow_other _ _ _ _ (by have := (O5L g hg).2; omega)); have BB8 := belowR (below_then BBF B7) (show w.heap.size ≤ w5.heap.size by omega) #[.int .i64 li, .int .i64 cn, .slice a5 n5 c5, .slice a7 n7 c7]; have z8 : w7.heap.size ≤ (w7.setRow w5.heap.size #[.int .i64 li, .int .i64 cn, .slice a5 n5 c5, .slice a7 n7 c7]).heap.size := (by rw [setRow_size]; exact Nat.le_refl _); generalize hw8 : w7.setRow w5.heap.size #[.int .i64 li, .int .i64 cn, .slice a5 n5 c5, .slice a7 n7 c7] = w8 at *)
        | (refine wpList_store_row rfl 30 _ _ rfl w5.heap.size _ rfl rfl 30 _ XD7 Try.infoRsH rfl (rall _ _ _ _ _ _ _ _) ?_; rw [hw8]))
      have y3 : w8.cell? ⟨w5.heap.size, 3, none⟩ = some (.slice a7 n7 c7) := X8.cell 3 rfl
      have BG := belowA w8 (.cells #[.int .i64 x, .int .i64 ep, .int .i64 (r + te - ma)] 85)
      have OG := KRow.below O8 BG
      have OW4 := KRow.below OW3 BG
      have XG := X8.below BG
      have X1G := X18.below BG
      have BBG := below_then BB8 BG
      have CC := cells3 85 w8 x ep (r + te - ma)
      have zG : w8.heap.size + 1 ≤ (w8.alloc (.cells #[.int .i64 x, .int .i64 ep, .int .i64 (r + te - ma)] 85)).heap.size := by simp
      generalize hwG : w8.alloc (.cells #[.int .i64 x, .int .i64 ep, .int .i64 (r + te - ma)] 85) = wG at *
      go_wp2_with (first
        | (at_builtin; refine wpList_append_k rfl _ _ 85 28 3 _ Try.underlying28 Try.infoRHv rfl (by omega) (by omega) rfl wF.heap.size _ _ rfl OG w8.heap.size [x, ep, r + te - ma] rfl rfl CC hdl (by omega) ?_; intro v9 w9 O9 B9 _; obtain ⟨a9, c9, e9, _⟩ := KRow.len O9; obtain ⟨n9, hn9⟩ : ∃ n9, n9 = ((delM H x).map cvHv ++ [[x, ep, r + te - ma]]).length := ⟨_, rfl⟩; rw [← hn9] at e9; subst e9; clear hn9; have X9 := XG.of_block (B9.block w5.heap.size (by omega)); have X19 := X1G.of_block (B9.block (w.heap.size + 1) (by omega)); have y9 : w9.cell? ⟨w5.heap.size, 3, none⟩ = some (.slice a7 n7 c7) := X9.cell 3 rfl; have f9 := X9.frozen 3; have XI := X9.set 3 (.slice a9 n9 c9); have X1I := X19.other (a := ⟨w5.heap.size, 3, none⟩) (by show w.heap.size + 1 ≠ w5.heap.size; omega) (.slice a9 n9 c9))
        | (refine wpList_load_row rfl 30 _ rfl w5.heap.size rfl 30 _ (0, 0) _ XI Try.underlying30 rfl Try.infoRsH ?_)
        | (refine wpList_store_row rfl 30 _ _ rfl (w.heap.size + 1) _ rfl rfl 30 _ X1I Try.infoRsH rfl (rall _ _ _ _ _ _ _ _) ?_))
      refine bodyPost_ret (results_s2 rfl _ _ (w.heap.size + 1) _ rfl (load_rs (X1I.row _))) rfl ?_
      have BF := belowR ((BBG.trans (B9.mono (show w.heap.size ≤ wF.heap.size by omega))).setCell (p := ⟨w5.heap.size, 3, none⟩) (by show w.heap.size ≤ w5.heap.size; omega) (.slice a9 n9 c9)) (show w.heap.size ≤ w.heap.size + 1 by omega) #[.int .i64 li, .int .i64 cn, .slice a5 n5 c5, .slice a9 n9 c9]
      refine ⟨.slice a5 n5 c5, .slice a9 n9 c9, rfl, ⟨?_, ?_⟩, BF⟩
      · refine KRow.base (KRow.stay OW4 (fun g hg => ?_)) (Nat.zero_le _)
        have h9 := O5L g hg
        rw [setRow_other _ _ _ _ (by omega), Below.heap_setCell _ _ _ _ (by show g ≠ w5.heap.size; omega)]
        exact B9.block g (by omega)
      · have E9 : KRow w9 wF.heap.size 85 3 (.slice a9 n9 c9) ((delM H x ++ [(x, (⟨ep, r + te - ma⟩ : Hv))]).map cvHv) := by rw [List.map_append]; exact O9
        have O10 := KRow.base (KRow.stay (w' := ((w9.setCell ⟨w5.heap.size, 3, none⟩ (.slice a9 n9 c9)).setRow (w.heap.size + 1) #[.int .i64 li, .int .i64 cn, .slice a5 n5 c5, .slice a9 n9 c9])) E9 (fun g hg => by
          have h9 := (KRow.ownlt E9 g hg).1
          rw [setRow_other _ _ _ _ (by omega), Below.heap_setCell _ _ _ _ (by show g ≠ w5.heap.size; omega)])) (Nat.zero_le _)
        rw [HUE.out, HPM.out]
        exact O10
  · have HUE : Hid (UU = r + te - ma) := by
      rw [hUU]
      show (if e0 = ep then max (r + te - ma) u0 else r + te - ma) = _
      rw [if_neg g1]
    clear hUU
    have g1' : (e0 == ep) = false := by simpa using g1
    go_upto_region 15 with (first
      | (refine wpList_load_row rfl 30 _ rfl w.heap.size rfl 30 _ (0, 0) _ X0D Try.underlying30 rfl Try.infoRsH ?_)
      | (go_at_call 29; refine C3.mono ?_; rintro e w6 ⟨rfl, B6⟩; obtain ⟨XE, XF, BBf, zF⟩ := tvar 85 w6 x e0 u0; generalize hwE : w6.alloc (.cells #[.int .i64 0, .int .i64 0, .int .i64 0] 85) = wE at *; generalize hwF : wE.setRow w6.heap.size #[.int .i64 x, .int .i64 e0, .int .i64 u0] = wF at *; have z6 := B6.size; have kF1 : wF.cell? ⟨w6.heap.size, 1, none⟩ = some (.int .i64 e0) := XF.cell 1 rfl; have kF2 : wF.cell? ⟨w6.heap.size, 2, none⟩ = some (.int .i64 u0) := XF.cell 2 rfl; have X1F := (X1D.below B6).below BBf; have XDF := (XD.below B6).below BBf; have BBF := below_then BBD (below_then B6 BBf))
      | (refine wpList_store_row rfl 85 _ _ rfl w6.heap.size _ rfl rfl 85 _ XE Try.infoRHvS rfl (tall _ _ _) ?_; rw [hwF]))
    have C4 := HC4.out wF BBF a5 n5 c5
    have O5L := KRow.ownlt O5
    have OW1 := KRow.below (KRow.below (KRow.below O5 BBs) B6) BBf
    go_upto_region 16 with (first
      | (refine wpList_load_row rfl 30 _ rfl w5.heap.size rfl 30 _ (0, 0) _ XDF Try.underlying30 rfl Try.infoRsH ?_)
      | (go_at_call 30; refine C4.mono ?_; rintro e w7 ⟨v7, rfl, O7, B7⟩; have z7 := B7.size; obtain ⟨a7, c7, e7⟩ := O7.shape; obtain ⟨n7, hn7⟩ : ∃ n7, n7 = (delM H x).length := ⟨_, rfl⟩; rw [← hn7] at e7; subst e7; clear hn7; have XD7 := XDF.below B7; have X17 := X1F.below B7; have OW2 := KRow.below OW1 B7; have X8 := XD7.row #[.int .i64 li, .int .i64 cn, .slice a5 n5 c5, .slice a7 n7 c7]; have X18 := X17.of_block (setRow_other w7 w5.heap.size (w.heap.size + 1) #[.int .i64 li, .int .i64 cn, .slice a5 n5 c5, .slice a7 n7 c7] (by omega)); have O8 := KRow.stay (w' := w7.setRow w5.heap.size #[.int .i64 li, .int .i64 cn, .slice a5 n5 c5, .slice a7 n7 c7]) O7 (fun g hg => setRow_other _ _ _ _ (by have := (KRow.ownlt O7 g hg).1; omega)); have OW3 := KRow.stay (w' := w7.setRow w5.heap.size #[.int .i64 li, .int .i64 cn, .slice a5 n5 c5, .slice a7 n7 c7]) OW2 (fun g hg => setRow_other _ _ _ _ (by have := (O5L g hg).2; omega)); have BB8 := belowR (below_then BBF B7) (show w.heap.size ≤ w5.heap.size by omega) #[.int .i64 li, .int .i64 cn, .slice a5 n5 c5, .slice a7 n7 c7]; have z8 : w7.heap.size ≤ (w7.setRow w5.heap.size #[.int .i64 li, .int .i64 cn, .slice a5 n5 c5, .slice a7 n7 c7]).heap.size := (by rw [setRow_size]; exact Nat.le_refl _); generalize hw8 : w7.setRow w5.heap.size #[.int .i64 li, .int .i64 cn, .slice a5 n5 c5, .slice a7 n7 c7] = w8 at *)
      | (refine wpList_store_row rfl 30 _ _ rfl w5.heap.size _ rfl rfl 30 _ XD7 Try.infoRsH rfl (rall _ _ _ _ _ _ _ _) ?_; rw [hw8]))
    have y3 : w8.cell? ⟨w5.heap.size, 3, none⟩ = some (.slice a7 n7 c7) := X8.cell 3 rfl
    have BG := belowA w8 (.cells #[.int .i64 x, .int .i64 ep, .int .i64 (r + te - ma)] 85)
    have OG := KRow.below O8 BG
    have OW4 := KRow.below OW3 BG
    have XG := X8.below BG
    have X1G := X18.below BG
    have BBG := below_then BB8 BG
    have CC := cells3 85 w8 x ep (r + te - ma)
    have zG : w8.heap.size + 1 ≤ (w8.alloc (.cells #[.int .i64 x, .int .i64 ep, .int .i64 (r + te - ma)] 85)).heap.size := by simp
    generalize hwG : w8.alloc (.cells #[.int .i64 x, .int .i64 ep, .int .i64 (r + te - ma)] 85) = wG at *
    go_wp2_with (first
      | (at_builtin; refine wpList_append_k rfl _ _ 85 28 3 _ Try.underlying28 Try.infoRHv rfl (by omega) (by omega) rfl wF.heap.size _ _ rfl OG w8.heap.size [x, ep, r + te - ma] rfl rfl CC hdl (by omega) ?_; intro v9 w9 O9 B9 _; obtain ⟨a9, c9, e9, _⟩ := KRow.len O9; obtain ⟨n9, hn9⟩ : ∃ n9, n9 = ((delM H x).map cvHv ++ [[x, ep, r + te - ma]]).length := ⟨_, rfl⟩; rw [← hn9] at e9; subst e9; clear hn9; have X9 := XG.of_block (B9.block w5.heap.size (by omega)); have X19 := X1G.of_block (B9.block (w.heap.size + 1) (by omega)); have y9 : w9.cell? ⟨w5.heap.size, 3, none⟩ = some (.slice a7 n7 c7) := X9.cell 3 rfl; have f9 := X9.frozen 3; have XI := X9.set 3 (.slice a9 n9 c9); have X1I := X19.other (a := ⟨w5.heap.size, 3, none⟩) (by show w.heap.size + 1 ≠ w5.heap.size; omega) (.slice a9 n9 c9))
      | (refine wpList_load_row rfl 30 _ rfl w5.heap.size rfl 30 _ (0, 0) _ XI Try.underlying30 rfl Try.infoRsH ?_)
      | (refine wpList_store_row rfl 30 _ _ rfl (w.heap.size + 1) _ rfl rfl 30 _ X1I Try.infoRsH rfl (rall _ _ _ _ _ _ _ _) ?_))
    refine bodyPost_ret (results_s2 rfl _ _ (w.heap.size + 1) _ rfl (load_rs (X1I.row _))) rfl ?_
    have BF := belowR ((BBG.trans (B9.mono (show w.heap.size ≤ wF.heap.size by omega))).setCell (p := ⟨w5.heap.size, 3, none⟩) (by show w.heap.size ≤ w5.heap.size; omega) (.slice a9 n9 c9)) (show w.heap.size ≤ w.heap.size + 1 by omega) #[.int .i64 li, .int .i64 cn, .slice a5 n5 c5, .slice a9 n9 c9]
    refine ⟨.slice a5 n5 c5, .slice a9 n9 c9, rfl, ⟨?_, ?_⟩, BF⟩
    · refine KRow.base (KRow.stay OW4 (fun g hg => ?_)) (Nat.zero_le _)
      have h9 := O5L g hg
      rw [setRow_other _ _ _ _ (by omega), Below.heap_setCell _ _ _ _ (by show g ≠ w5.heap.size; omega)]
      exact B9.block g (by omega)
    · have E9 : KRow w9 wF.heap.size 85 3 (.slice a9 n9 c9) ((delM H x ++ [(x, (⟨ep, r + te - ma⟩ : Hv))]).map cvHv) := by rw [List.map_append]; exact O9
      have O10 := KRow.base (KRow.stay (w' := ((w9.setCell ⟨w5.heap.size, 3, none⟩ (.slice a9 n9 c9)).setRow (w.heap.size + 1) #[.int .i64 li, .int .i64 cn, .slice a5 n5 c5, .slice a9 n9 c9])) E9 (fun g hg => by
        have h9 := (KRow.ownlt E9 g hg).1
        rw [setRow_other _ _ _ _ (by omega), Below.heap_setCell _ _ _ _ (by show g ≠ w5.heap.size; omega)])) (Nat.zero_le _)
      rw [HUE.out, HPM.out]
      exact O10
end Go.Proofs.Ytifbnnffejamaaa
