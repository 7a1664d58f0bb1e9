/- A holder's wants that are granted. Written by tools/genhgr.py. -/
import Derived.Test.YtifbnnffejamaaaHdAsk
namespace Go.Proofs.Ytifbnnffejamaaa
open Go.ChangeShapes Go.WideShapes Go.ChangeAt Go.RowKit Go.Maps
theorem Try.infoPl : (Try.prog.info? 43).map (·.size) = some 2 := by kernel_rfl
set_option maxRecDepth 100000 in
set_option maxHeartbeats 16000000 in
theorem hgr_den (li cn : Int) (mw mh : Option Nat) (now te ma x num ep : Int) (W : List (Int × Wn)) (H : List (Int × Hv)) (w : World) (hW : WnM w mw W) (hH : HvM w mh H) (hl : W.length ≤ 100000) (hk : H.length ≤ 100000) (hx : -9223372036854775808 ≤ x ∧ x ≤ 9223372036854775807) (hb : denN W x num ≠ 0) :
   Calls Try.prog 8 #[hsV li cn mw mh, .int .i64 now, .agg #[.int .i64 te, .int .i64 ma], .int .i64 x, .int .i64 num, .int .i64 ep] w fun e w' => ∃ bw bh, e = .returned (.tuple #[hsV li cn (some bw) (some bh), .int .i64 (denN W x num)]) ∧ New w.heap.size w' bw bh W H ∧ Below w.heap.size w w' := by
  have X0 := blk_new w 26 #[.int .i64 li, .int .i64 cn, .map mw, .map mh]
  have B0 := belowA w (.cells #[.int .i64 li, .int .i64 cn, .map mw, .map mh] 26)
  have s0 : (w.alloc (.cells #[.int .i64 li, .int .i64 cn, .map mw, .map mh] 26)).heap.size = w.heap.size + 1 := by simp
  generalize hw0 : w.alloc (.cells #[.int .i64 li, .int .i64 cn, .map mw, .map mh] 26) = w0 at *
  have XP := blk_new w0 43 #[.int .i64 te, .int .i64 ma]
  have BP := belowA w0 (.cells #[.int .i64 te, .int .i64 ma] 43)
  have sP : (w0.alloc (.cells #[.int .i64 te, .int .i64 ma] 43)).heap.size = w.heap.size + 1 + 1 := by simp [s0]
  rw [s0] at XP
  have X0P := X0.below BP
  generalize hwP : w0.alloc (.cells #[.int .i64 te, .int .i64 ma] 43) = wP at *
  have X1 := blk_new wP 26 #[.int .i64 0, .int .i64 0, .map none, .map none]
  have B1 := belowA wP (.cells #[.int .i64 0, .int .i64 0, .map none, .map none] 26)
  have s1 : (wP.alloc (.cells #[.int .i64 0, .int .i64 0, .map none, .map none] 26)).heap.size = w.heap.size + 1 + 1 + 1 := by simp [sP]
  rw [sP] at X1
  have X01 := X0P.below B1
  have XP1 := XP.below B1
  generalize hw1 : wP.alloc (.cells #[.int .i64 0, .int .i64 0, .map none, .map none] 26) = w1 at *
  have W1 := ((hW.below B0).below BP).below B1
  have H1 := ((hH.below B0).below BP).below B1
  have LK1 := W1.look1 x hx
  obtain ⟨a, b, hab⟩ : ∃ a b, (getM W x).getD Wn.zero = ⟨a, b⟩ := ⟨_, _, rfl⟩
  rw [hab] at LK1
  unfold Wn.val at LK1
  simp only at LK1
  have c12 : w1.cell? ⟨w.heap.size, 2, none⟩ = some (.map mw) := X01.cell 2 rfl
  have XW := blk_new w1 74 #[.int .i64 0, .int .i64 0]
  have BW := belowA w1 (.cells #[.int .i64 0, .int .i64 0] 74)
  have s2 : (w1.alloc (.cells #[.int .i64 0, .int .i64 0] 74)).heap.size = w.heap.size + 1 + 1 + 1 + 1 := by simp [s1]
  rw [s1] at XW
  have X02 := X01.below BW
  have XP2 := XP1.below BW
  have X12 := X1.below BW
  have W2 := W1.below BW
  have H2 := H1.below BW
  have BB2 := below_then (below_then (below_then B0 BP) B1) BW
  generalize hw2 : w1.alloc (.cells #[.int .i64 0, .int .i64 0] 74) = w2 at *
  have e3 : ∀ k, k ≠ w.heap.size + 1 + 1 + 1 → (w2.setRow (w.heap.size + 1 + 1 + 1) #[.int .i64 a, .int .i64 b]).heap[k]? = w2.heap[k]? := fun k hk => setRow_other _ _ _ _ hk
  have XW3 := XW.row #[.int .i64 a, .int .i64 b]
  have X03 := X02.of_block (e3 _ (by omega))
  have XP3 := XP2.of_block (e3 _ (by omega))
  have X13 := X12.of_block (e3 _ (by omega))
  have B3 := belowR BB2 (show w.heap.size ≤ w.heap.size + 1 + 1 + 1 by omega) #[.int .i64 a, .int .i64 b]
  have z3 : w.heap.size + 1 + 1 + 1 + 1 ≤ (w2.setRow (w.heap.size + 1 + 1 + 1) #[.int .i64 a, .int .i64 b]).heap.size := by rw [setRow_size]; omega
  generalize hw3 : w2.setRow (w.heap.size + 1 + 1 + 1) #[.int .i64 a, .int .i64 b] = w3 at *
  have HB3 : Hid (Below w.heap.size w w3) := B3
  have W3 := hW.below B3
  have H3 := hH.below B3
  have C := hden_bad li cn mw mh x num W H w3 W3 H3 hl hk hx hb
  generalize denN W x num = r at *
  unfold hsV New at *
  have hb2 : ¬ r = 0 := hb
  clear B0 BP B1 BW hW hH s2 hb W1 W2 W3 H1 H2 H3 e3 hab B3 BB2
  go_enter Try.func8, Try.ntmps8
  go_wp2_with (first
    | (go_at_call 10; refine C.mono ?_; rintro e w4 ⟨bw, bh, rfl, ⟨Mw, Mh, hne, hbw, hbh⟩, B4⟩; have z4 := B4.size; have X04 := X03.below B4; have XP4 := XP3.below B4; have X14 := X13.below B4; have XW4 := XW3.below B4; have XD := blk_new w4 26 #[.int .i64 0, .int .i64 0, .map none, .map none]; have BA := belowA w4 (.cells #[.int .i64 0, .int .i64 0, .map none, .map none] 26); have X0A := X04.below BA; have XPA := XP4.below BA; have X1A := X14.below BA; have XWA := XW4.below BA; have MwA := Mw.below BA; have MhA := Mh.below BA; have BBA := below_then (below_then HB3.out B4) BA; have zA : w4.heap.size + 1 ≤ (w4.alloc (.cells #[.int .i64 0, .int .i64 0, .map none, .map none] 26)).heap.size := (by simp); generalize hwA : w4.alloc (.cells #[.int .i64 0, .int .i64 0, .map none, .map none] 26) = wA at *; have hlw := Mw.lt; have hlh := Mh.lt; have XDB := XD.row #[.int .i64 li, .int .i64 cn, .map (some bw), .map (some bh)]; have eB : ∀ k, k ≠ w4.heap.size → (wA.setRow w4.heap.size #[.int .i64 li, .int .i64 cn, .map (some bw), .map (some bh)]).heap[k]? = wA.heap[k]? := (fun k hk => setRow_other _ _ _ _ hk); have X0B := X0A.of_block (eB _ (by omega)); have XPB := XPA.of_block (eB _ (by omega)); have X1B := X1A.of_block (eB _ (by omega)); have XWB := XWA.of_block (eB _ (by omega)); have MwB := MwA.keep (eB _ (by omega)); have MhB := MhA.keep (eB _ (by omega)); have BBB := belowR BBA (show w.heap.size ≤ w4.heap.size by omega) #[.int .i64 li, .int .i64 cn, .map (some bw), .map (some bh)]; have zB : w4.heap.size + 1 ≤ (wA.setRow w4.heap.size #[.int .i64 li, .int .i64 cn, .map (some bw), .map (some bh)]).heap.size := (by rw [setRow_size]; omega); generalize hwB : wA.setRow w4.heap.size #[.int .i64 li, .int .i64 cn, .map (some bw), .map (some bh)] = wB at *; clear eB)
    | (refine wpList_store_row rfl 74 _ _ rfl (w.heap.size + 1 + 1 + 1) _ rfl rfl 74 _ XW Try.infoWn rfl (wall _ _) ?_; rw [hw3])
    | (refine wpList_load_row rfl 26 _ rfl w.heap.size rfl 26 _ (0, 0) _ X03 Try.underlying26 rfl Try.infoHs ?_)
    | (refine wpList_store_row rfl 26 _ _ rfl w4.heap.size _ rfl rfl 26 _ XD Try.infoHs rfl (sall _ _ _ _) ?_; rw [hwB])
    | (refine wpList_load_row rfl 26 _ rfl w4.heap.size rfl 26 _ (0, 0) _ XDB Try.underlying26 rfl Try.infoHs ?_)
    | (refine wpList_store_row rfl 26 _ _ rfl (w.heap.size + 1 + 1) _ rfl rfl 26 _ X1B Try.infoHs rfl (sall _ _ _ _) ?_))
  refine bodyPost_ret (results_s2 rfl _ _ (w.heap.size + 1 + 1) _ rfl (load_hs (X1B.row _))) rfl ?_
  exact ⟨bw, bh, rfl, ⟨MwB.keep (setRow_other _ _ _ _ (by omega)), MhB.keep (setRow_other _ _ _ _ (by omega)), hne, by omega, by omega⟩, belowR BBB (by omega) _⟩
set_option maxRecDepth 100000 in
set_option maxHeartbeats 16000000 in
theorem hgr_arg (li cn : Int) (mw mh : Option Nat) (now te ma x num ep : Int) (W : List (Int × Wn)) (H : List (Int × Hv)) (w : World) (hW : WnM w mw W) (hH : HvM w mh H) (hl : W.length ≤ 100000) (hk : H.length ≤ 100000) (hx : -9223372036854775808 ≤ x ∧ x ≤ 9223372036854775807) (v : Wn) (hv : getM W x = some v) (hn : v.num = num) (hb : (rightD te ma && momD now && momD v.tim) = false) :
   Calls Try.prog 8 #[hsV li cn mw mh, .int .i64 now, .agg #[.int .i64 te, .int .i64 ma], .int .i64 x, .int .i64 num, .int .i64 ep] w fun e w' => ∃ bw bh, e = .returned (.tuple #[hsV li cn (some bw) (some bh), .int .i64 1]) ∧ New w.heap.size w' bw bh W H ∧ Below w.heap.size w w' := by
  have X0 := blk_new w 26 #[.int .i64 li, .int .i64 cn, .map mw, .map mh]
  have B0 := belowA w (.cells #[.int .i64 li, .int .i64 cn, .map mw, .map mh] 26)
  have s0 : (w.alloc (.cells #[.int .i64 li, .int .i64 cn, .map mw, .map mh] 26)).heap.size = w.heap.size + 1 := by simp
  generalize hw0 : w.alloc (.cells #[.int .i64 li, .int .i64 cn, .map mw, .map mh] 26) = w0 at *
  have XP := blk_new w0 43 #[.int .i64 te, .int .i64 ma]
  have BP := belowA w0 (.cells #[.int .i64 te, .int .i64 ma] 43)
  have sP : (w0.alloc (.cells #[.int .i64 te, .int .i64 ma] 43)).heap.size = w.heap.size + 1 + 1 := by simp [s0]
  rw [s0] at XP
  have X0P := X0.below BP
  generalize hwP : w0.alloc (.cells #[.int .i64 te, .int .i64 ma] 43) = wP at *
  have X1 := blk_new wP 26 #[.int .i64 0, .int .i64 0, .map none, .map none]
  have B1 := belowA wP (.cells #[.int .i64 0, .int .i64 0, .map none, .map none] 26)
  have s1 : (wP.alloc (.cells #[.int .i64 0, .int .i64 0, .map none, .map none] 26)).heap.size = w.heap.size + 1 + 1 + 1 := by simp [sP]
  rw [sP] at X1
  have X01 := X0P.below B1
  have XP1 := XP.below B1
  generalize hw1 : wP.alloc (.cells #[.int .i64 0, .int .i64 0, .map none, .map none] 26) = w1 at *
  have W1 := ((hW.below B0).below BP).below B1
  have H1 := ((hH.below B0).below BP).below B1
  have LK1 := W1.look1 x hx
  obtain ⟨a, b, hab⟩ : ∃ a b, (getM W x).getD Wn.zero = ⟨a, b⟩ := ⟨_, _, rfl⟩
  rw [hab] at LK1
  unfold Wn.val at LK1
  simp only at LK1
  have c12 : w1.cell? ⟨w.heap.size, 2, none⟩ = some (.map mw) := X01.cell 2 rfl
  have XW := blk_new w1 74 #[.int .i64 0, .int .i64 0]
  have BW := belowA w1 (.cells #[.int .i64 0, .int .i64 0] 74)
  have s2 : (w1.alloc (.cells #[.int .i64 0, .int .i64 0] 74)).heap.size = w.heap.size + 1 + 1 + 1 + 1 := by simp [s1]
  rw [s1] at XW
  have X02 := X01.below BW
  have XP2 := XP1.below BW
  have X12 := X1.below BW
  have W2 := W1.below BW
  have H2 := H1.below BW
  have BB2 := below_then (below_then (below_then B0 BP) B1) BW
  generalize hw2 : w1.alloc (.cells #[.int .i64 0, .int .i64 0] 74) = w2 at *
  have e3 : ∀ k, k ≠ w.heap.size + 1 + 1 + 1 → (w2.setRow (w.heap.size + 1 + 1 + 1) #[.int .i64 a, .int .i64 b]).heap[k]? = w2.heap[k]? := fun k hk => setRow_other _ _ _ _ hk
  have XW3 := XW.row #[.int .i64 a, .int .i64 b]
  have X03 := X02.of_block (e3 _ (by omega))
  have XP3 := XP2.of_block (e3 _ (by omega))
  have X13 := X12.of_block (e3 _ (by omega))
  have B3 := belowR BB2 (show w.heap.size ≤ w.heap.size + 1 + 1 + 1 by omega) #[.int .i64 a, .int .i64 b]
  have z3 : w.heap.size + 1 + 1 + 1 + 1 ≤ (w2.setRow (w.heap.size + 1 + 1 + 1) #[.int .i64 a, .int .i64 b]).heap.size := by rw [setRow_size]; omega
  generalize hw3 : w2.setRow (w.heap.size + 1 + 1 + 1) #[.int .i64 a, .int .i64 b] = w3 at *
  have HB3 : Hid (Below w.heap.size w w3) := B3
  have W3 := hW.below B3
  have H3 := hH.below B3
  have C := hden_ok li cn mw mh x num W H w3 W3 H3 hl hk hx (by unfold denN; rw [hv]; exact if_pos hn)
  have HC : Hid (∀ W', Below w.heap.size w W' → _) := fun W' h => hcopied_any li cn mw mh W H W' (hW.below h) (hH.below h) hl hk
  rw [hv] at hab
  simp only [Option.getD_some] at hab
  subst hab
  simp only at hb hn
  have M1 := hmom_any now
  have M2 := hmom_any b
  have HR : Hid (∀ W' : World, _) := fun W' => hright_any te ma W'
  generalize momD now = m1 at *
  generalize momD b = m2 at *
  generalize rightD te ma = r at *
  have F1 : True := trivial
  unfold hsV New at *
  clear B0 BP B1 BW hW hH s2 W1 W2 W3 H1 H2 H3 e3 B3 BB2 hv hn
  cases r with
  | false =>
    go_enter Try.func8, Try.ntmps8
    go_wp2_with (first
      | (go_at_call 10; refine C.mono ?_; rintro e w4 ⟨bw, bh, rfl, ⟨Mw, Mh, hne, hbw, hbh⟩, B4⟩; have z4 := B4.size; have X04 := X03.below B4; have XP4 := XP3.below B4; have X14 := X13.below B4; have XW4 := XW3.below B4; have XD := blk_new w4 26 #[.int .i64 0, .int .i64 0, .map none, .map none]; have BA := belowA w4 (.cells #[.int .i64 0, .int .i64 0, .map none, .map none] 26); have X0A := X04.below BA; have XPA := XP4.below BA; have X1A := X14.below BA; have XWA := XW4.below BA; have MwA := Mw.below BA; have MhA := Mh.below BA; have BBA := below_then (below_then HB3.out B4) BA; have zA : w4.heap.size + 1 ≤ (w4.alloc (.cells #[.int .i64 0, .int .i64 0, .map none, .map none] 26)).heap.size := (by simp); generalize hwA : w4.alloc (.cells #[.int .i64 0, .int .i64 0, .map none, .map none] 26) = wA at *; have hlw := Mw.lt; have hlh := Mh.lt; have XDB := XD.row #[.int .i64 li, .int .i64 cn, .map (some bw), .map (some bh)]; have eB : ∀ k, k ≠ w4.heap.size → (wA.setRow w4.heap.size #[.int .i64 li, .int .i64 cn, .map (some bw), .map (some bh)]).heap[k]? = wA.heap[k]? := (fun k hk => setRow_other _ _ _ _ hk); have X0B := X0A.of_block (eB _ (by omega)); have XPB := XPA.of_block (eB _ (by omega)); have X1B := X1A.of_block (eB _ (by omega)); have XWB := XWA.of_block (eB _ (by omega)); have MwB := MwA.keep (eB _ (by omega)); have MhB := MhA.keep (eB _ (by omega)); have BBB := belowR BBA (show w.heap.size ≤ w4.heap.size by omega) #[.int .i64 li, .int .i64 cn, .map (some bw), .map (some bh)]; have zB : w4.heap.size + 1 ≤ (wA.setRow w4.heap.size #[.int .i64 li, .int .i64 cn, .map (some bw), .map (some bh)]).heap.size := (by rw [setRow_size]; omega); generalize hwB : wA.setRow w4.heap.size #[.int .i64 li, .int .i64 cn, .map (some bw), .map (some bh)] = wB at *; clear eB)
      | (refine wpList_store_row rfl 74 _ _ rfl (w.heap.size + 1 + 1 + 1) _ rfl rfl 74 _ XW Try.infoWn rfl (wall _ _) ?_; rw [hw3])
      | (refine wpList_load_row rfl 26 _ rfl w.heap.size rfl 26 _ (0, 0) _ X03 Try.underlying26 rfl Try.infoHs ?_)
      | (refine wpList_store_row rfl 26 _ _ rfl w4.heap.size _ rfl rfl 26 _ XD Try.infoHs rfl (sall _ _ _ _) ?_; rw [hwB])
      | (go_at_call 26; refine (HR.out wB).mono ?_; rintro e w5 ⟨rfl, B5⟩; have z5 := B5.size; have X05 := X0B.below B5; have XP5 := XPB.below B5; have X15 := X1B.below B5; have XW5 := XWB.below B5; have XD5 := XDB.below B5; have Mw5 := MwB.below B5; have Mh5 := MhB.below B5; have BB5 := below_then BBB B5; have kW : w5.cell? ⟨w.heap.size + 1 + 1 + 1, 1, none⟩ = some (.int .i64 b) := XW5.cell 1 rfl; have kP0 : w5.cell? ⟨w.heap.size + 1, 0, none⟩ = some (.int .i64 te) := XP5.cell 0 rfl; have kP1 : w5.cell? ⟨w.heap.size + 1, 1, none⟩ = some (.int .i64 ma) := XP5.cell 1 rfl)
      | (go_at_call 23; clear F1; have F2 : True := trivial; refine (M1 _).mono ?_; rintro e w9 ⟨rfl, h9⟩; obtain rfl := h9.symm)
      | (go_at_call 23; refine (M2 _).mono ?_; rintro e w9 ⟨rfl, h9⟩; obtain rfl := h9.symm)
      | (refine wpList_load_row rfl 43 _ rfl (w.heap.size + 1) rfl 43 _ (0, 0) _ XPB Try.underlying43 rfl Try.infoPl ?_)
      | (go_at_call 22; refine (HC.out _ BB5).mono ?_; rintro e w6 ⟨cw, ch, rfl, Nw, Nh, mne, mbw, mbh, B6⟩; have z6 := B6.size; have X16 := X15.below B6; have BB6 := below_then BB5 B6)
      | (refine wpList_load_row rfl 26 _ rfl w.heap.size rfl 26 _ (0, 0) _ X05 Try.underlying26 rfl Try.infoHs ?_)
      | (refine wpList_store_row rfl 26 _ _ rfl (w.heap.size + 1 + 1) _ rfl rfl 26 _ X16 Try.infoHs rfl (sall _ _ _ _) ?_))
    refine bodyPost_ret (results_s2 rfl _ _ (w.heap.size + 1 + 1) _ rfl (load_hs (X16.row _))) rfl ?_
    exact ⟨cw, ch, rfl, ⟨Nw.keep (setRow_other _ _ _ _ (by omega)), Nh.keep (setRow_other _ _ _ _ (by omega)), mne, by omega, by omega⟩, belowR BB6 (by omega) _⟩
  | true =>
    cases m1 with
    | false =>
      go_enter Try.func8, Try.ntmps8
      go_wp2_with (first
        | (go_at_call 10; refine C.mono ?_; rintro e w4 ⟨bw, bh, rfl, ⟨Mw, Mh, hne, hbw, hbh⟩, B4⟩; have z4 := B4.size; have X04 := X03.below B4; have XP4 := XP3.below B4; have X14 := X13.below B4; have XW4 := XW3.below B4; have XD := blk_new w4 26 #[.int .i64 0, .int .i64 0, .map none, .map none]; have BA := belowA w4 (.cells #[.int .i64 0, .int .i64 0, .map none, .map none] 26); have X0A := X04.below BA; have XPA := XP4.below BA; have X1A := X14.below BA; have XWA := XW4.below BA; have MwA := Mw.below BA; have MhA := Mh.below BA; have BBA := below_then (below_then HB3.out B4) BA; have zA : w4.heap.size + 1 ≤ (w4.alloc (.cells #[.int .i64 0, .int .i64 0, .map none, .map none] 26)).heap.size := (by simp); generalize hwA : w4.alloc (.cells #[.int .i64 0, .int .i64 0, .map none, .map none] 26) = wA at *; have hlw := Mw.lt; have hlh := Mh.lt; have XDB := XD.row #[.int .i64 li, .int .i64 cn, .map (some bw), .map (some bh)]; have eB : ∀ k, k ≠ w4.heap.size → (wA.setRow w4.heap.size #[.int .i64 li, .int .i64 cn, .map (some bw), .map (some bh)]).heap[k]? = wA.heap[k]? := (fun k hk => setRow_other _ _ _ _ hk); have X0B := X0A.of_block (eB _ (by omega)); have XPB := XPA.of_block (eB _ (by omega)); have X1B := X1A.of_block (eB _ (by omega)); have XWB := XWA.of_block (eB _ (by omega)); have MwB := MwA.keep (eB _ (by omega)); have MhB := MhA.keep (eB _ (by omega)); have BBB := belowR BBA (show w.heap.size ≤ w4.heap.size by omega) #[.int .i64 li, .int .i64 cn, .map (some bw), .map (some bh)]; have zB : w4.heap.size + 1 ≤ (wA.setRow w4.heap.size #[.int .i64 li, .int .i64 cn, .map (some bw), .map (some bh)]).heap.size := (by rw [setRow_size]; omega); generalize hwB : wA.setRow w4.heap.size #[.int .i64 li, .int .i64 cn, .map (some bw), .map (some bh)] = wB at *; clear eB)
        | (refine wpList_store_row rfl 74 _ _ rfl (w.heap.size + 1 + 1 + 1) _ rfl rfl 74 _ XW Try.infoWn rfl (wall _ _) ?_; rw [hw3])
        | (refine wpList_load_row rfl 26 _ rfl w.heap.size rfl 26 _ (0, 0) _ X03 Try.underlying26 rfl Try.infoHs ?_)
        | (refine wpList_store_row rfl 26 _ _ rfl w4.heap.size _ rfl rfl 26 _ XD Try.infoHs rfl (sall _ _ _ _) ?_; rw [hwB])
        | (go_at_call 26; refine (HR.out wB).mono ?_; rintro e w5 ⟨rfl, B5⟩; have z5 := B5.size; have X05 := X0B.below B5; have XP5 := XPB.below B5; have X15 := X1B.below B5; have XW5 := XWB.below B5; have XD5 := XDB.below B5; have Mw5 := MwB.below B5; have Mh5 := MhB.below B5; have BB5 := below_then BBB B5; have kW : w5.cell? ⟨w.heap.size + 1 + 1 + 1, 1, none⟩ = some (.int .i64 b) := XW5.cell 1 rfl; have kP0 : w5.cell? ⟨w.heap.size + 1, 0, none⟩ = some (.int .i64 te) := XP5.cell 0 rfl; have kP1 : w5.cell? ⟨w.heap.size + 1, 1, none⟩ = some (.int .i64 ma) := XP5.cell 1 rfl)
        | (go_at_call 23; clear F1; have F2 : True := trivial; refine (M1 _).mono ?_; rintro e w9 ⟨rfl, h9⟩; obtain rfl := h9.symm)
        | (go_at_call 23; refine (M2 _).mono ?_; rintro e w9 ⟨rfl, h9⟩; obtain rfl := h9.symm)
        | (refine wpList_load_row rfl 43 _ rfl (w.heap.size + 1) rfl 43 _ (0, 0) _ XPB Try.underlying43 rfl Try.infoPl ?_)
        | (go_at_call 22; refine (HC.out _ BB5).mono ?_; rintro e w6 ⟨cw, ch, rfl, Nw, Nh, mne, mbw, mbh, B6⟩; have z6 := B6.size; have X16 := X15.below B6; have BB6 := below_then BB5 B6)
        | (refine wpList_load_row rfl 26 _ rfl w.heap.size rfl 26 _ (0, 0) _ X05 Try.underlying26 rfl Try.infoHs ?_)
        | (refine wpList_store_row rfl 26 _ _ rfl (w.heap.size + 1 + 1) _ rfl rfl 26 _ X16 Try.infoHs rfl (sall _ _ _ _) ?_))
      refine bodyPost_ret (results_s2 rfl _ _ (w.heap.size + 1 + 1) _ rfl (load_hs (X16.row _))) rfl ?_
      exact ⟨cw, ch, rfl, ⟨Nw.keep (setRow_other _ _ _ _ (by omega)), Nh.keep (setRow_other _ _ _ _ (by omega)), mne, by omega, by omega⟩, belowR BB6 (by omega) _⟩
    | true =>
      cases m2 with
      | true => exact absurd hb (by decide)
      | false =>
        go_enter Try.func8, Try.ntmps8
        go_wp2_with (first
          | (go_at_call 10; refine C.mono ?_; rintro e w4 ⟨bw, bh, rfl, ⟨Mw, Mh, hne, hbw, hbh⟩, B4⟩; have z4 := B4.size; have X04 := X03.below B4; have XP4 := XP3.below B4; have X14 := X13.below B4; have XW4 := XW3.below B4; have XD := blk_new w4 26 #[.int .i64 0, .int .i64 0, .map none, .map none]; have BA := belowA w4 (.cells #[.int .i64 0, .int .i64 0, .map none, .map none] 26); have X0A := X04.below BA; have XPA := XP4.below BA; have X1A := X14.below BA; have XWA := XW4.below BA; have MwA := Mw.below BA; have MhA := Mh.below BA; have BBA := below_then (below_then HB3.out B4) BA; have zA : w4.heap.size + 1 ≤ (w4.alloc (.cells #[.int .i64 0, .int .i64 0, .map none, .map none] 26)).heap.size := (by simp); generalize hwA : w4.alloc (.cells #[.int .i64 0, .int .i64 0, .map none, .map none] 26) = wA at *; have hlw := Mw.lt; have hlh := Mh.lt; have XDB := XD.row #[.int .i64 li, .int .i64 cn, .map (some bw), .map (some bh)]; have eB : ∀ k, k ≠ w4.heap.size → (wA.setRow w4.heap.size #[.int .i64 li, .int .i64 cn, .map (some bw), .map (some bh)]).heap[k]? = wA.heap[k]? := (fun k hk => setRow_other _ _ _ _ hk); have X0B := X0A.of_block (eB _ (by omega)); have XPB := XPA.of_block (eB _ (by omega)); have X1B := X1A.of_block (eB _ (by omega)); have XWB := XWA.of_block (eB _ (by omega)); have MwB := MwA.keep (eB _ (by omega)); have MhB := MhA.keep (eB _ (by omega)); have BBB := belowR BBA (show w.heap.size ≤ w4.heap.size by omega) #[.int .i64 li, .int .i64 cn, .map (some bw), .map (some bh)]; have zB : w4.heap.size + 1 ≤ (wA.setRow w4.heap.size #[.int .i64 li, .int .i64 cn, .map (some bw), .map (some bh)]).heap.size := (by rw [setRow_size]; omega); generalize hwB : wA.setRow w4.heap.size #[.int .i64 li, .int .i64 cn, .map (some bw), .map (some bh)] = wB at *; clear eB)
          | (refine wpList_store_row rfl 74 _ _ rfl (w.heap.size + 1 + 1 + 1) _ rfl rfl 74 _ XW Try.infoWn rfl (wall _ _) ?_; rw [hw3])
          | (refine wpList_load_row rfl 26 _ rfl w.heap.size rfl 26 _ (0, 0) _ X03 Try.underlying26 rfl Try.infoHs ?_)
          | (refine wpList_store_row rfl 26 _ _ rfl w4.heap.size _ rfl rfl 26 _ XD Try.infoHs rfl (sall _ _ _ _) ?_; rw [hwB])
          | (go_at_call 26; refine (HR.out wB).mono ?_; rintro e w5 ⟨rfl, B5⟩; have z5 := B5.size; have X05 := X0B.below B5; have XP5 := XPB.below B5; have X15 := X1B.below B5; have XW5 := XWB.below B5; have XD5 := XDB.below B5; have Mw5 := MwB.below B5; have Mh5 := MhB.below B5; have BB5 := below_then BBB B5; have kW : w5.cell? ⟨w.heap.size + 1 + 1 + 1, 1, none⟩ = some (.int .i64 b) := XW5.cell 1 rfl; have kP0 : w5.cell? ⟨w.heap.size + 1, 0, none⟩ = some (.int .i64 te) := XP5.cell 0 rfl; have kP1 : w5.cell? ⟨w.heap.size + 1, 1, none⟩ = some (.int .i64 ma) := XP5.cell 1 rfl)
          | (go_at_call 23; clear F1; have F2 : True := trivial; refine (M1 _).mono ?_; rintro e w9 ⟨rfl, h9⟩; obtain rfl := h9.symm)
          | (go_at_call 23; refine (M2 _).mono ?_; rintro e w9 ⟨rfl, h9⟩; obtain rfl := h9.symm)
          | (refine wpList_load_row rfl 43 _ rfl (w.heap.size + 1) rfl 43 _ (0, 0) _ XPB Try.underlying43 rfl Try.infoPl ?_)
          | (go_at_call 22; refine (HC.out _ BB5).mono ?_; rintro e w6 ⟨cw, ch, rfl, Nw, Nh, mne, mbw, mbh, B6⟩; have z6 := B6.size; have X16 := X15.below B6; have BB6 := below_then BB5 B6)
          | (refine wpList_load_row rfl 26 _ rfl w.heap.size rfl 26 _ (0, 0) _ X05 Try.underlying26 rfl Try.infoHs ?_)
          | (refine wpList_store_row rfl 26 _ _ rfl (w.heap.size + 1 + 1) _ rfl rfl 26 _ X16 Try.infoHs rfl (sall _ _ _ _) ?_))
        refine bodyPost_ret (results_s2 rfl _ _ (w.heap.size + 1 + 1) _ rfl (load_hs (X16.row _))) rfl ?_
        exact ⟨cw, ch, rfl, ⟨Nw.keep (setRow_other _ _ _ _ (by omega)), Nh.keep (setRow_other _ _ _ _ (by omega)), mne, by omega, by omega⟩, belowR BB6 (by omega) _⟩
set_option maxRecDepth 100000 in
set_option maxHeartbeats 16000000 in
theorem hgr_late (li cn : Int) (mw mh : Option Nat) (now te ma x num ep : Int) (W : List (Int × Wn)) (H : List (Int × Hv)) (w : World) (hW : WnM w mw W) (hH : HvM w mh H) (hl : W.length ≤ 100000) (hk : H.length ≤ 100000) (hx : -9223372036854775808 ≤ x ∧ x ≤ 9223372036854775807) (v : Wn) (hv : getM W x = some v) (hn : v.num = num) (hb : (rightD te ma && momD now && momD v.tim) = true) (hlt : v.tim + te - ma ≤ now) :
   Calls Try.prog 8 #[hsV li cn mw mh, .int .i64 now, .agg #[.int .i64 te, .int .i64 ma], .int .i64 x, .int .i64 num, .int .i64 ep] w fun e w' => ∃ bw bh, e = .returned (.tuple #[hsV li cn (some bw) (some bh), .int .i64 16]) ∧ New w.heap.size w' bw bh (delM W x) H ∧ Below w.heap.size w w' := by
  have X0 := blk_new w 26 #[.int .i64 li, .int .i64 cn, .map mw, .map mh]
  have B0 := belowA w (.cells #[.int .i64 li, .int .i64 cn, .map mw, .map mh] 26)
  have s0 : (w.alloc (.cells #[.int .i64 li, .int .i64 cn, .map mw, .map mh] 26)).heap.size = w.heap.size + 1 := by simp
  generalize hw0 : w.alloc (.cells #[.int .i64 li, .int .i64 cn, .map mw, .map mh] 26) = w0 at *
  have XP := blk_new w0 43 #[.int .i64 te, .int .i64 ma]
  have BP := belowA w0 (.cells #[.int .i64 te, .int .i64 ma] 43)
  have sP : (w0.alloc (.cells #[.int .i64 te, .int .i64 ma] 43)).heap.size = w.heap.size + 1 + 1 := by simp [s0]
  rw [s0] at XP
  have X0P := X0.below BP
  generalize hwP : w0.alloc (.cells #[.int .i64 te, .int .i64 ma] 43) = wP at *
  have X1 := blk_new wP 26 #[.int .i64 0, .int .i64 0, .map none, .map none]
  have B1 := belowA wP (.cells #[.int .i64 0, .int .i64 0, .map none, .map none] 26)
  have s1 : (wP.alloc (.cells #[.int .i64 0, .int .i64 0, .map none, .map none] 26)).heap.size = w.heap.size + 1 + 1 + 1 := by simp [sP]
  rw [sP] at X1
  have X01 := X0P.below B1
  have XP1 := XP.below B1
  generalize hw1 : wP.alloc (.cells #[.int .i64 0, .int .i64 0, .map none, .map none] 26) = w1 at *
  have W1 := ((hW.below B0).below BP).below B1
  have H1 := ((hH.below B0).below BP).below B1
  have LK1 := W1.look1 x hx
  obtain ⟨a, b, hab⟩ : ∃ a b, (getM W x).getD Wn.zero = ⟨a, b⟩ := ⟨_, _, rfl⟩
  rw [hab] at LK1
  unfold Wn.val at LK1
  simp only at LK1
  have c12 : w1.cell? ⟨w.heap.size, 2, none⟩ = some (.map mw) := X01.cell 2 rfl
  have XW := blk_new w1 74 #[.int .i64 0, .int .i64 0]
  have BW := belowA w1 (.cells #[.int .i64 0, .int .i64 0] 74)
  have s2 : (w1.alloc (.cells #[.int .i64 0, .int .i64 0] 74)).heap.size = w.heap.size + 1 + 1 + 1 + 1 := by simp [s1]
  rw [s1] at XW
  have X02 := X01.below BW
  have XP2 := XP1.below BW
  have X12 := X1.below BW
  have W2 := W1.below BW
  have H2 := H1.below BW
  have BB2 := below_then (below_then (below_then B0 BP) B1) BW
  generalize hw2 : w1.alloc (.cells #[.int .i64 0, .int .i64 0] 74) = w2 at *
  have e3 : ∀ k, k ≠ w.heap.size + 1 + 1 + 1 → (w2.setRow (w.heap.size + 1 + 1 + 1) #[.int .i64 a, .int .i64 b]).heap[k]? = w2.heap[k]? := fun k hk => setRow_other _ _ _ _ hk
  have XW3 := XW.row #[.int .i64 a, .int .i64 b]
  have X03 := X02.of_block (e3 _ (by omega))
  have XP3 := XP2.of_block (e3 _ (by omega))
  have X13 := X12.of_block (e3 _ (by omega))
  have B3 := belowR BB2 (show w.heap.size ≤ w.heap.size + 1 + 1 + 1 by omega) #[.int .i64 a, .int .i64 b]
  have z3 : w.heap.size + 1 + 1 + 1 + 1 ≤ (w2.setRow (w.heap.size + 1 + 1 + 1) #[.int .i64 a, .int .i64 b]).heap.size := by rw [setRow_size]; omega
  generalize hw3 : w2.setRow (w.heap.size + 1 + 1 + 1) #[.int .i64 a, .int .i64 b] = w3 at *
  have HB3 : Hid (Below w.heap.size w w3) := B3
  have W3 := hW.below B3
  have H3 := hH.below B3
  have C := hden_ok li cn mw mh x num W H w3 W3 H3 hl hk hx (by unfold denN; rw [hv]; exact if_pos hn)
  rw [hv] at hab
  simp only [Option.getD_some] at hab
  subst hab
  simp only at hb hn hlt ⊢
  simp only [Bool.and_eq_true] at hb
  obtain ⟨⟨hb1, hb2⟩, hb3⟩ := hb
  have M1 := hmom_any now
  have M2 := hmom_any b
  have HR : Hid (∀ W' : World, _) := fun W' => hright_any te ma W'
  rw [hb2] at M1
  rw [hb3] at M2
  rw [hb1] at HR
  have F1 : True := trivial
  have bt : 1 ≤ te ∧ te ≤ 1048576 ∧ 0 ≤ ma ∧ ma ≤ 1048576 := of_decide_eq_true hb1
  have bb : 0 ≤ b ∧ b ≤ 1099511627776 := of_decide_eq_true hb3
  have bn : 0 ≤ now ∧ now ≤ 1099511627776 := of_decide_eq_true hb2
  have eg : ∀ args w, (callFunc 41 args).run Try.prog w = .ok (.enter 41 args) w := enters_of Try.func41 (by kernel_rfl) rfl
  unfold hsV New at *
  clear B0 BP B1 BW hW hH s2 W1 W2 W3 H1 H2 H3 e3 B3 BB2 hv hn hb1 hb2 hb3
  have HD : Hid (decide (b + te - ma ≤ now) = true) := decide_eq_true hlt
  go_enter Try.func8, Try.ntmps8
  go_wp2_with (first
    | (go_at_call 10; refine C.mono ?_; rintro e w4 ⟨bw, bh, rfl, ⟨Mw, Mh, hne, hbw, hbh⟩, B4⟩; have z4 := B4.size; have X04 := X03.below B4; have XP4 := XP3.below B4; have X14 := X13.below B4; have XW4 := XW3.below B4; have XD := blk_new w4 26 #[.int .i64 0, .int .i64 0, .map none, .map none]; have BA := belowA w4 (.cells #[.int .i64 0, .int .i64 0, .map none, .map none] 26); have X0A := X04.below BA; have XPA := XP4.below BA; have X1A := X14.below BA; have XWA := XW4.below BA; have MwA := Mw.below BA; have MhA := Mh.below BA; have BBA := below_then (below_then HB3.out B4) BA; have zA : w4.heap.size + 1 ≤ (w4.alloc (.cells #[.int .i64 0, .int .i64 0, .map none, .map none] 26)).heap.size := (by simp); generalize hwA : w4.alloc (.cells #[.int .i64 0, .int .i64 0, .map none, .map none] 26) = wA at *; have hlw := Mw.lt; have hlh := Mh.lt; have XDB := XD.row #[.int .i64 li, .int .i64 cn, .map (some bw), .map (some bh)]; have eB : ∀ k, k ≠ w4.heap.size → (wA.setRow w4.heap.size #[.int .i64 li, .int .i64 cn, .map (some bw), .map (some bh)]).heap[k]? = wA.heap[k]? := (fun k hk => setRow_other _ _ _ _ hk); have X0B := X0A.of_block (eB _ (by omega)); have XPB := XPA.of_block (eB _ (by omega)); have X1B := X1A.of_block (eB _ (by omega)); have XWB := XWA.of_block (eB _ (by omega)); have MwB := MwA.keep (eB _ (by omega)); have MhB := MhA.keep (eB _ (by omega)); have BBB := belowR BBA (show w.heap.size ≤ w4.heap.size by omega) #[.int .i64 li, .int .i64 cn, .map (some bw), .map (some bh)]; have zB : w4.heap.size + 1 ≤ (wA.setRow w4.heap.size #[.int .i64 li, .int .i64 cn, .map (some bw), .map (some bh)]).heap.size := (by rw [setRow_size]; omega); generalize hwB : wA.setRow w4.heap.size #[.int .i64 li, .int .i64 cn, .map (some bw), .map (some bh)] = wB at *; clear eB)
    | (refine wpList_store_row rfl 74 _ _ rfl (w.heap.size + 1 + 1 + 1) _ rfl rfl 74 _ XW Try.infoWn rfl (wall _ _) ?_; rw [hw3])
    | (refine wpList_load_row rfl 26 _ rfl w.heap.size rfl 26 _ (0, 0) _ X03 Try.underlying26 rfl Try.infoHs ?_)
    | (refine wpList_store_row rfl 26 _ _ rfl w4.heap.size _ rfl rfl 26 _ XD Try.infoHs rfl (sall _ _ _ _) ?_; rw [hwB])
    | (go_at_call 26; refine (HR.out wB).mono ?_; rintro e w5 ⟨rfl, B5⟩; have z5 := B5.size; have X05 := X0B.below B5; have XP5 := XPB.below B5; have X15 := X1B.below B5; have XW5 := XWB.below B5; have XD5 := XDB.below B5; have Mw5 := MwB.below B5; have Mh5 := MhB.below B5; have BB5 := below_then BBB B5; have kW : w5.cell? ⟨w.heap.size + 1 + 1 + 1, 1, none⟩ = some (.int .i64 b) := XW5.cell 1 rfl; have kP0 : w5.cell? ⟨w.heap.size + 1, 0, none⟩ = some (.int .i64 te) := XP5.cell 0 rfl; have kP1 : w5.cell? ⟨w.heap.size + 1, 1, none⟩ = some (.int .i64 ma) := XP5.cell 1 rfl; have X6 := blk_new w5 3 #[.int .i64 now]; have B6 := belowA w5 (.cells #[.int .i64 now] 3); have XD6 := XD5.below B6; have X16 := X15.below B6; have Mw6 := Mw5.below B6; have Mh6 := Mh5.below B6; have BB6 := below_then BB5 B6; have z6 : w5.heap.size + 1 ≤ (w5.alloc (.cells #[.int .i64 now] 3)).heap.size := (by simp); have O := hover_any now w5; generalize hw6 : w5.alloc (.cells #[.int .i64 now] 3) = w6 at *; have FF := hoverf_any (b + te - ma) now w5.heap.size w6 (X6.cell 0 rfl); rw [HD.out] at FF)
    | (go_at_call 23; clear F1; have F2 : True := trivial; refine (M1 _).mono ?_; rintro e w9 ⟨rfl, h9⟩; obtain rfl := h9.symm)
    | (go_at_call 23; refine (M2 _).mono ?_; rintro e w9 ⟨rfl, h9⟩; obtain rfl := h9.symm)
    | (refine wpList_load_row rfl 43 _ rfl (w.heap.size + 1) rfl 43 _ (0, 0) _ XPB Try.underlying43 rfl Try.infoPl ?_)
    | (go_at_call 27; refine O.mono ?_; rintro e w9 ⟨rfl, h9⟩; obtain rfl := h9.symm)
    | (go_at_fn 41; refine FF.mono ?_; rintro e w9 ⟨rfl, h9⟩; obtain rfl := h9.symm)
    | (refine wpList_load_row rfl 26 _ rfl w4.heap.size rfl 26 _ (0, 0) _ XD6 Try.underlying26 rfl Try.infoHs ?_)
    | (refine wpList_store_row rfl 26 _ _ rfl (w.heap.size + 1 + 1) _ rfl rfl 26 _ X16 Try.infoHs rfl (sall _ _ _ _) ?_))
  refine bodyPost_ret (results_s2 rfl _ _ (w.heap.size + 1 + 1) _ rfl (load_hs (X16.row _))) rfl ?_
  exact ⟨bw, bh, rfl, ⟨Mw6.keep (setRow_other _ _ _ _ (by omega)), Mh6.keep (setRow_other _ _ _ _ (by omega)), hne, by omega, by omega⟩, belowR BB6 (by omega) _⟩
/-- Until when a lease that is granted is believed in. -/
def grU (H : List (Int × Hv)) (x ep u : Int) : Int := match getM H x with
  | some h => if h.epo = ep then max u h.unt else u
  | none => u
set_option maxRecDepth 100000 in
set_option maxHeartbeats 16000000 in
theorem hgr_ok (li cn : Int) (mw mh : Option Nat) (now te ma x num ep : Int) (W : List (Int × Wn)) (H : List (Int × Hv)) (w : World) (hW : WnM w mw W) (hH : HvM w mh H) (hl : W.length ≤ 100000) (hk : H.length ≤ 100000) (hx : -9223372036854775808 ≤ x ∧ x ≤ 9223372036854775807) (v : Wn) (hv : getM W x = some v) (hn : v.num = num) (hb : (rightD te ma && momD now && momD v.tim) = true) (hlt : now < v.tim + te - ma) (hep : -9223372036854775808 ≤ ep ∧ ep ≤ 9223372036854775807) :
   Calls Try.prog 8 #[hsV li cn mw mh, .int .i64 now, .agg #[.int .i64 te, .int .i64 ma], .int .i64 x, .int .i64 num, .int .i64 ep] w fun e w' => ∃ bw bh, e = .returned (.tuple #[hsV li cn (some bw) (some bh), .int .i64 0]) ∧ New w.heap.size w' bw bh (delM W x) (putM H x ⟨ep, grU H x ep (v.tim + te - ma)⟩) ∧ Below w.heap.size w w' := by
  have X0 := blk_new w 26 #[.int .i64 li, .int .i64 cn, .map mw, .map mh]
  have B0 := belowA w (.cells #[.int .i64 li, .int .i64 cn, .map mw, .map mh] 26)
  have s0 : (w.alloc (.cells #[.int .i64 li, .int .i64 cn, .map mw, .map mh] 26)).heap.size = w.heap.size + 1 := by simp
  generalize hw0 : w.alloc (.cells #[.int .i64 li, .int .i64 cn, .map mw, .map mh] 26) = w0 at *
  have XP := blk_new w0 43 #[.int .i64 te, .int .i64 ma]
  have BP := belowA w0 (.cells #[.int .i64 te, .int .i64 ma] 43)
  have sP : (w0.alloc (.cells #[.int .i64 te, .int .i64 ma] 43)).heap.size = w.heap.size + 1 + 1 := by simp [s0]
  rw [s0] at XP
  have X0P := X0.below BP
  generalize hwP : w0.alloc (.cells #[.int .i64 te, .int .i64 ma] 43) = wP at *
  have X1 := blk_new wP 26 #[.int .i64 0, .int .i64 0, .map none, .map none]
  have B1 := belowA wP (.cells #[.int .i64 0, .int .i64 0, .map none, .map none] 26)
  have s1 : (wP.alloc (.cells #[.int .i64 0, .int .i64 0, .map none, .map none] 26)).heap.size = w.heap.size + 1 + 1 + 1 := by simp [sP]
  rw [sP] at X1
  have X01 := X0P.below B1
  have XP1 := XP.below B1
  generalize hw1 : wP.alloc (.cells #[.int .i64 0, .int .i64 0, .map none, .map none] 26) = w1 at *
  have W1 := ((hW.below B0).below BP).below B1
  have H1 := ((hH.below B0).below BP).below B1
  have LK1 := W1.look1 x hx
  obtain ⟨a, b, hab⟩ : ∃ a b, (getM W x).getD Wn.zero = ⟨a, b⟩ := ⟨_, _, rfl⟩
  rw [hab] at LK1
  unfold Wn.val at LK1
  simp only at LK1
  have c12 : w1.cell? ⟨w.heap.size, 2, none⟩ = some (.map mw) := X01.cell 2 rfl
  have XW := blk_new w1 74 #[.int .i64 0, .int .i64 0]
  have BW := belowA w1 (.cells #[.int .i64 0, .int .i64 0] 74)
  have s2 : (w1.alloc (.cells #[.int .i64 0, .int .i64 0] 74)).heap.size = w.heap.size + 1 + 1 + 1 + 1 := by simp [s1]
  rw [s1] at XW
  have X02 := X01.below BW
  have XP2 := XP1.below BW
  have X12 := X1.below BW
  have W2 := W1.below BW
  have H2 := H1.below BW
  have BB2 := below_then (below_then (below_then B0 BP) B1) BW
  generalize hw2 : w1.alloc (.cells #[.int .i64 0, .int .i64 0] 74) = w2 at *
  have e3 : ∀ k, k ≠ w.heap.size + 1 + 1 + 1 → (w2.setRow (w.heap.size + 1 + 1 + 1) #[.int .i64 a, .int .i64 b]).heap[k]? = w2.heap[k]? := fun k hk => setRow_other _ _ _ _ hk
  have XW3 := XW.row #[.int .i64 a, .int .i64 b]
  have X03 := X02.of_block (e3 _ (by omega))
  have XP3 := XP2.of_block (e3 _ (by omega))
  have X13 := X12.of_block (e3 _ (by omega))
  have B3 := belowR BB2 (show w.heap.size ≤ w.heap.size + 1 + 1 + 1 by omega) #[.int .i64 a, .int .i64 b]
  have z3 : w.heap.size + 1 + 1 + 1 + 1 ≤ (w2.setRow (w.heap.size + 1 + 1 + 1) #[.int .i64 a, .int .i64 b]).heap.size := by rw [setRow_size]; omega
  generalize hw3 : w2.setRow (w.heap.size + 1 + 1 + 1) #[.int .i64 a, .int .i64 b] = w3 at *
  have HB3 : Hid (Below w.heap.size w w3) := B3
  have W3 := hW.below B3
  have H3 := hH.below B3
  have C := hden_ok li cn mw mh x num W H w3 W3 H3 hl hk hx (by unfold denN; rw [hv]; exact if_pos hn)
  rw [hv] at hab
  simp only [Option.getD_some] at hab
  subst hab
  simp only at hb hn hlt ⊢
  simp only [Bool.and_eq_true] at hb
  obtain ⟨⟨hb1, hb2⟩, hb3⟩ := hb
  have M1 := hmom_any now
  have M2 := hmom_any b
  have HR : Hid (∀ W' : World, _) := fun W' => hright_any te ma W'
  rw [hb2] at M1
  rw [hb3] at M2
  rw [hb1] at HR
  have F1 : True := trivial
  have bt : 1 ≤ te ∧ te ≤ 1048576 ∧ 0 ≤ ma ∧ ma ≤ 1048576 := of_decide_eq_true hb1
  have bb : 0 ≤ b ∧ b ≤ 1099511627776 := of_decide_eq_true hb3
  have bn : 0 ≤ now ∧ now ≤ 1099511627776 := of_decide_eq_true hb2
  have eg : ∀ args w, (callFunc 41 args).run Try.prog w = .ok (.enter 41 args) w := enters_of Try.func41 (by kernel_rfl) rfl
  unfold hsV New at *
  clear B0 BP B1 BW hW hH s2 W1 W2 W3 H1 H2 H3 e3 B3 BB2 hv hn hb1 hb2 hb3
  have HD : Hid (decide (b + te - ma ≤ now) = false) := decide_eq_false (by omega)
  have HL : Hid (∀ (W' : World) (g : Nat), MapAt Hv.val W' g H → _) := fun W' g h => (HvM.look (.inr ⟨g, rfl, h⟩) x hx : (Instr.lookup 24 (.map (some g)) (.int .i64 x) true).run Try.prog W' = .ok (.tuple #[((getM H x).getD Hv.zero).val, .bool (getM H x).isSome]) W')
  have HE : Hid (∀ (W' : World) (g : Nat), MapAt Hv.val W' g H → ∃ w', (Instr.mapUpdate 24 (.map (some g)) (.int .i64 x) (.agg #[.int .i64 ep, .int .i64 (grU H x ep (b + te - ma))])).run Try.prog W' = .ok () w' ∧ MapAt Hv.val w' g (putM H x ⟨ep, grU H x ep (b + te - ma)⟩) ∧ But g W' w' ∧ w'.heap.size = W'.heap.size) := fun W' g h => h.store Try.underlying24 (by omega) x hx ⟨ep, grU H x ep (b + te - ma)⟩
  obtain ⟨u, hu⟩ : ∃ u, u = grU H x ep (b + te - ma) := ⟨_, rfl⟩
  rw [← hu] at HE ⊢
  unfold grU at hu
  generalize getM H x = o at *
  rcases o with _ | h
  · obtain ⟨c, d, hab⟩ : ∃ c d : Int, Hv.zero = ⟨c, d⟩ := ⟨0, 0, rfl⟩
    simp only [Option.getD_none, Option.isSome_none, hab] at HL
    unfold Hv.val at HL
    simp only at HL hu
    subst hu
    go_enter Try.func8, Try.ntmps8
    go_wp2_with (first
      | (go_at_call 10; refine C.mono ?_; rintro e w4 ⟨bw, bh, rfl, ⟨Mw, Mh, hne, hbw, hbh⟩, B4⟩; have z4 := B4.size; have X04 := X03.below B4; have XP4 := XP3.below B4; have X14 := X13.below B4; have XW4 := XW3.below B4; have XD := blk_new w4 26 #[.int .i64 0, .int .i64 0, .map none, .map none]; have BA := belowA w4 (.cells #[.int .i64 0, .int .i64 0, .map none, .map none] 26); have X0A := X04.below BA; have XPA := XP4.below BA; have X1A := X14.below BA; have XWA := XW4.below BA; have MwA := Mw.below BA; have MhA := Mh.below BA; have BBA := below_then (below_then HB3.out B4) BA; have zA : w4.heap.size + 1 ≤ (w4.alloc (.cells #[.int .i64 0, .int .i64 0, .map none, .map none] 26)).heap.size := (by simp); generalize hwA : w4.alloc (.cells #[.int .i64 0, .int .i64 0, .map none, .map none] 26) = wA at *; have hlw := Mw.lt; have hlh := Mh.lt; have XDB := XD.row #[.int .i64 li, .int .i64 cn, .map (some bw), .map (some bh)]; have eB : ∀ k, k ≠ w4.heap.size → (wA.setRow w4.heap.size #[.int .i64 li, .int .i64 cn, .map (some bw), .map (some bh)]).heap[k]? = wA.heap[k]? := (fun k hk => setRow_other _ _ _ _ hk); have X0B := X0A.of_block (eB _ (by omega)); have XPB := XPA.of_block (eB _ (by omega)); have X1B := X1A.of_block (eB _ (by omega)); have XWB := XWA.of_block (eB _ (by omega)); have MwB := MwA.keep (eB _ (by omega)); have MhB := MhA.keep (eB _ (by omega)); have BBB := belowR BBA (show w.heap.size ≤ w4.heap.size by omega) #[.int .i64 li, .int .i64 cn, .map (some bw), .map (some bh)]; have zB : w4.heap.size + 1 ≤ (wA.setRow w4.heap.size #[.int .i64 li, .int .i64 cn, .map (some bw), .map (some bh)]).heap.size := (by rw [setRow_size]; omega); generalize hwB : wA.setRow w4.heap.size #[.int .i64 li, .int .i64 cn, .map (some bw), .map (some bh)] = wB at *; clear eB)
      | (refine wpList_store_row rfl 74 _ _ rfl (w.heap.size + 1 + 1 + 1) _ rfl rfl 74 _ XW Try.infoWn rfl (wall _ _) ?_; rw [hw3])
      | (refine wpList_load_row rfl 26 _ rfl w.heap.size rfl 26 _ (0, 0) _ X03 Try.underlying26 rfl Try.infoHs ?_)
      | (refine wpList_store_row rfl 26 _ _ rfl w4.heap.size _ rfl rfl 26 _ XD Try.infoHs rfl (sall _ _ _ _) ?_; rw [hwB])
      | (go_at_call 26; refine (HR.out wB).mono ?_; rintro e w5 ⟨rfl, B5⟩; have z5 := B5.size; have X05 := X0B.below B5; have XP5 := XPB.below B5; have X15 := X1B.below B5; have XW5 := XWB.below B5; have XD5 := XDB.below B5; have Mw5 := MwB.below B5; have Mh5 := MhB.below B5; have BB5 := below_then BBB B5; have kW : w5.cell? ⟨w.heap.size + 1 + 1 + 1, 1, none⟩ = some (.int .i64 b) := XW5.cell 1 rfl; have kP0 : w5.cell? ⟨w.heap.size + 1, 0, none⟩ = some (.int .i64 te) := XP5.cell 0 rfl; have kP1 : w5.cell? ⟨w.heap.size + 1, 1, none⟩ = some (.int .i64 ma) := XP5.cell 1 rfl; have X6 := blk_new w5 3 #[.int .i64 now]; have B6 := belowA w5 (.cells #[.int .i64 now] 3); have XD6 := XD5.below B6; have X16 := X15.below B6; have Mw6 := Mw5.below B6; have Mh6 := Mh5.below B6; have BB6 := below_then BB5 B6; have z6 : w5.heap.size + 1 ≤ (w5.alloc (.cells #[.int .i64 now] 3)).heap.size := (by simp); have O := hover_any now w5; generalize hw6 : w5.alloc (.cells #[.int .i64 now] 3) = w6 at *; have FF := hoverf_any (b + te - ma) now w5.heap.size w6 (X6.cell 0 rfl); rw [HD.out] at FF; have kD : w6.cell? ⟨w4.heap.size, 3, none⟩ = some (.map (some bh)) := XD6.cell 3 rfl; have LK := HL.out w6 bh Mh6; have X7 := blk_new w6 80 #[.int .i64 0, .int .i64 0]; have B7 := belowA w6 (.cells #[.int .i64 0, .int .i64 0] 80); have XD7 := XD6.below B7; have X17 := X16.below B7; have Mw7 := Mw6.below B7; have Mh7 := Mh6.below B7; have BB7 := below_then BB6 B7; generalize hw7 : w6.alloc (.cells #[.int .i64 0, .int .i64 0] 80) = w7 at *; have jw := Mw6.lt; have jh := Mh6.lt; have X8 := X7.row #[.int .i64 c, .int .i64 d]; have e8 : ∀ k, k ≠ w6.heap.size → (w7.setRow w6.heap.size #[.int .i64 c, .int .i64 d]).heap[k]? = w7.heap[k]? := (fun k hk => setRow_other _ _ _ _ hk); have XD8 := XD7.of_block (e8 _ (by omega)); have X18 := X17.of_block (e8 _ (by omega)); have Mw8 := Mw7.keep (e8 _ (by omega)); have Mh8 := Mh7.keep (e8 _ (by omega)); have BB8 := belowR BB7 (show w.heap.size ≤ w6.heap.size by omega) #[.int .i64 c, .int .i64 d]; generalize hw8 : w7.setRow w6.heap.size #[.int .i64 c, .int .i64 d] = w8 at *; have k80 : w8.cell? ⟨w6.heap.size, 0, none⟩ = some (.int .i64 c) := X8.cell 0 rfl; have k81 : w8.cell? ⟨w6.heap.size, 1, none⟩ = some (.int .i64 d) := X8.cell 1 rfl; have kD8 : w8.cell? ⟨w4.heap.size, 3, none⟩ = some (.map (some bh)) := XD8.cell 3 rfl; obtain ⟨wE, hrunE, ME, BE, sE⟩ := HE.out w8 bh Mh8; have XDE := XD8.but BE (by omega); have X1E := X18.but BE (by omega); have MwE := Mw8.keep (BE.block bw Mw8.lt hne); clear sE e8)
      | (go_at_call 23; clear F1; have F2 : True := trivial; refine (M1 _).mono ?_; rintro e w9 ⟨rfl, h9⟩; obtain rfl := h9.symm)
      | (go_at_call 23; refine (M2 _).mono ?_; rintro e w9 ⟨rfl, h9⟩; obtain rfl := h9.symm)
      | (refine wpList_load_row rfl 43 _ rfl (w.heap.size + 1) rfl 43 _ (0, 0) _ XPB Try.underlying43 rfl Try.infoPl ?_)
      | (go_at_call 27; refine O.mono ?_; rintro e w9 ⟨rfl, h9⟩; obtain rfl := h9.symm)
      | (go_at_fn 41; refine FF.mono ?_; rintro e w9 ⟨rfl, h9⟩; obtain rfl := h9.symm)
      | (refine wpList_store_row rfl 80 _ _ rfl w6.heap.size _ rfl rfl 80 _ X7 Try.infoHv rfl (wall _ _) ?_; rw [hw8])
      | (refine wpList_load_row rfl 26 _ rfl w4.heap.size rfl 26 _ (0, 0) _ XDE Try.underlying26 rfl Try.infoHs ?_)
      | (refine wpList_store_row rfl 26 _ _ rfl (w.heap.size + 1 + 1) _ rfl rfl 26 _ X1E Try.infoHs rfl (sall _ _ _ _) ?_))
    refine bodyPost_ret (results_s2 rfl _ _ (w.heap.size + 1 + 1) _ rfl (load_hs (X1E.row _))) rfl ?_
    exact ⟨bw, bh, rfl, ⟨MwE.keep (setRow_other _ _ _ _ (by omega)), ME.keep (setRow_other _ _ _ _ (by omega)), hne, by omega, by omega⟩, belowR (BB8.trans (BE.below (B := w.heap.size) (by have := BB8.size; omega) (by omega))) (by omega) _⟩
  · obtain ⟨c, d⟩ := h
    simp only [Option.getD_some, Option.isSome_some] at HL
    unfold Hv.val at HL
    simp only at HL hu
    by_cases hc : c = ep
    · rw [if_pos hc] at hu
      subst hc
      by_cases hd : d ≤ b + te - ma
      · obtain rfl : u = b + te - ma := by omega
        clear hu
        go_enter Try.func8, Try.ntmps8
        go_wp2_with (first
          | (go_at_call 10; refine C.mono ?_; rintro e w4 ⟨bw, bh, rfl, ⟨Mw, Mh, hne, hbw, hbh⟩, B4⟩; have z4 := B4.size; have X04 := X03.below B4; have XP4 := XP3.below B4; have X14 := X13.below B4; have XW4 := XW3.below B4; have XD := blk_new w4 26 #[.int .i64 0, .int .i64 0, .map none, .map none]; have BA := belowA w4 (.cells #[.int .i64 0, .int .i64 0, .map none, .map none] 26); have X0A := X04.below BA; have XPA := XP4.below BA; have X1A := X14.below BA; have XWA := XW4.below BA; have MwA := Mw.below BA; have MhA := Mh.below BA; have BBA := below_then (below_then HB3.out B4) BA; have zA : w4.heap.size + 1 ≤ (w4.alloc (.cells #[.int .i64 0, .int .i64 0, .map none, .map none] 26)).heap.size := (by simp); generalize hwA : w4.alloc (.cells #[.int .i64 0, .int .i64 0, .map none, .map none] 26) = wA at *; have hlw := Mw.lt; have hlh := Mh.lt; have XDB := XD.row #[.int .i64 li, .int .i64 cn, .map (some bw), .map (some bh)]; have eB : ∀ k, k ≠ w4.heap.size → (wA.setRow w4.heap.size #[.int .i64 li, .int .i64 cn, .map (some bw), .map (some bh)]).heap[k]? = wA.heap[k]? := (fun k hk => setRow_other _ _ _ _ hk); have X0B := X0A.of_block (eB _ (by omega)); have XPB := XPA.of_block (eB _ (by omega)); have X1B := X1A.of_block (eB _ (by omega)); have XWB := XWA.of_block (eB _ (by omega)); have MwB := MwA.keep (eB _ (by omega)); have MhB := MhA.keep (eB _ (by omega)); have BBB := belowR BBA (show w.heap.size ≤ w4.heap.size by omega) #[.int .i64 li, .int .i64 cn, .map (some bw), .map (some bh)]; have zB : w4.heap.size + 1 ≤ (wA.setRow w4.heap.size #[.int .i64 li, .int .i64 cn, .map (some bw), .map (some bh)]).heap.size := (by rw [setRow_size]; omega); generalize hwB : wA.setRow w4.heap.size #[.int .i64 li, .int .i64 cn, .map (some bw), .map (some bh)] = wB at *; clear eB)
          | (refine wpList_store_row rfl 74 _ _ rfl (w.heap.size + 1 + 1 + 1) _ rfl rfl 74 _ XW Try.infoWn rfl (wall _ _) ?_; rw [hw3])
          | (refine wpList_load_row rfl 26 _ rfl w.heap.size rfl 26 _ (0, 0) _ X03 Try.underlying26 rfl Try.infoHs ?_)
          | (refine wpList_store_row rfl 26 _ _ rfl w4.heap.size _ rfl rfl 26 _ XD Try.infoHs rfl (sall _ _ _ _) ?_; rw [hwB])
          | (go_at_call 26; refine (HR.out wB).mono ?_; rintro e w5 ⟨rfl, B5⟩; have z5 := B5.size; have X05 := X0B.below B5; have XP5 := XPB.below B5; have X15 := X1B.below B5; have XW5 := XWB.below B5; have XD5 := XDB.below B5; have Mw5 := MwB.below B5; have Mh5 := MhB.below B5; have BB5 := below_then BBB B5; have kW : w5.cell? ⟨w.heap.size + 1 + 1 + 1, 1, none⟩ = some (.int .i64 b) := XW5.cell 1 rfl; have kP0 : w5.cell? ⟨w.heap.size + 1, 0, none⟩ = some (.int .i64 te) := XP5.cell 0 rfl; have kP1 : w5.cell? ⟨w.heap.size + 1, 1, none⟩ = some (.int .i64 ma) := XP5.cell 1 rfl; have X6 := blk_new w5 3 #[.int .i64 now]; have B6 := belowA w5 (.cells #[.int .i64 now] 3); have XD6 := XD5.below B6; have X16 := X15.below B6; have Mw6 := Mw5.below B6; have Mh6 := Mh5.below B6; have BB6 := below_then BB5 B6; have z6 : w5.heap.size + 1 ≤ (w5.alloc (.cells #[.int .i64 now] 3)).heap.size := (by simp); have O := hover_any now w5; generalize hw6 : w5.alloc (.cells #[.int .i64 now] 3) = w6 at *; have FF := hoverf_any (b + te - ma) now w5.heap.size w6 (X6.cell 0 rfl); rw [HD.out] at FF; have kD : w6.cell? ⟨w4.heap.size, 3, none⟩ = some (.map (some bh)) := XD6.cell 3 rfl; have LK := HL.out w6 bh Mh6; have X7 := blk_new w6 80 #[.int .i64 0, .int .i64 0]; have B7 := belowA w6 (.cells #[.int .i64 0, .int .i64 0] 80); have XD7 := XD6.below B7; have X17 := X16.below B7; have Mw7 := Mw6.below B7; have Mh7 := Mh6.below B7; have BB7 := below_then BB6 B7; generalize hw7 : w6.alloc (.cells #[.int .i64 0, .int .i64 0] 80) = w7 at *; have jw := Mw6.lt; have jh := Mh6.lt; have X8 := X7.row #[.int .i64 c, .int .i64 d]; have e8 : ∀ k, k ≠ w6.heap.size → (w7.setRow w6.heap.size #[.int .i64 c, .int .i64 d]).heap[k]? = w7.heap[k]? := (fun k hk => setRow_other _ _ _ _ hk); have XD8 := XD7.of_block (e8 _ (by omega)); have X18 := X17.of_block (e8 _ (by omega)); have Mw8 := Mw7.keep (e8 _ (by omega)); have Mh8 := Mh7.keep (e8 _ (by omega)); have BB8 := belowR BB7 (show w.heap.size ≤ w6.heap.size by omega) #[.int .i64 c, .int .i64 d]; generalize hw8 : w7.setRow w6.heap.size #[.int .i64 c, .int .i64 d] = w8 at *; have k80 : w8.cell? ⟨w6.heap.size, 0, none⟩ = some (.int .i64 c) := X8.cell 0 rfl; have k81 : w8.cell? ⟨w6.heap.size, 1, none⟩ = some (.int .i64 d) := X8.cell 1 rfl; have kD8 : w8.cell? ⟨w4.heap.size, 3, none⟩ = some (.map (some bh)) := XD8.cell 3 rfl; obtain ⟨wE, hrunE, ME, BE, sE⟩ := HE.out w8 bh Mh8; have XDE := XD8.but BE (by omega); have X1E := X18.but BE (by omega); have MwE := Mw8.keep (BE.block bw Mw8.lt hne); clear sE e8)
          | (go_at_call 23; clear F1; have F2 : True := trivial; refine (M1 _).mono ?_; rintro e w9 ⟨rfl, h9⟩; obtain rfl := h9.symm)
          | (go_at_call 23; refine (M2 _).mono ?_; rintro e w9 ⟨rfl, h9⟩; obtain rfl := h9.symm)
          | (refine wpList_load_row rfl 43 _ rfl (w.heap.size + 1) rfl 43 _ (0, 0) _ XPB Try.underlying43 rfl Try.infoPl ?_)
          | (go_at_call 27; refine O.mono ?_; rintro e w9 ⟨rfl, h9⟩; obtain rfl := h9.symm)
          | (go_at_fn 41; refine FF.mono ?_; rintro e w9 ⟨rfl, h9⟩; obtain rfl := h9.symm)
          | (refine wpList_store_row rfl 80 _ _ rfl w6.heap.size _ rfl rfl 80 _ X7 Try.infoHv rfl (wall _ _) ?_; rw [hw8])
          | (refine wpList_load_row rfl 26 _ rfl w4.heap.size rfl 26 _ (0, 0) _ XDE Try.underlying26 rfl Try.infoHs ?_)
          | (refine wpList_store_row rfl 26 _ _ rfl (w.heap.size + 1 + 1) _ rfl rfl 26 _ X1E Try.infoHs rfl (sall _ _ _ _) ?_))
        refine bodyPost_ret (results_s2 rfl _ _ (w.heap.size + 1 + 1) _ rfl (load_hs (X1E.row _))) rfl ?_
        exact ⟨bw, bh, rfl, ⟨MwE.keep (setRow_other _ _ _ _ (by omega)), ME.keep (setRow_other _ _ _ _ (by omega)), hne, by omega, by omega⟩, belowR (BB8.trans (BE.below (B := w.heap.size) (by have := BB8.size; omega) (by omega))) (by omega) _⟩
      · obtain rfl : u = d := by omega
        clear hu
        go_enter Try.func8, Try.ntmps8
        go_wp2_with (first
          | (go_at_call 10; refine C.mono ?_; rintro e w4 ⟨bw, bh, rfl, ⟨Mw, Mh, hne, hbw, hbh⟩, B4⟩; have z4 := B4.size; have X04 := X03.below B4; have XP4 := XP3.below B4; have X14 := X13.below B4; have XW4 := XW3.below B4; have XD := blk_new w4 26 #[.int .i64 0, .int .i64 0, .map none, .map none]; have BA := belowA w4 (.cells #[.int .i64 0, .int .i64 0, .map none, .map none] 26); have X0A := X04.below BA; have XPA := XP4.below BA; have X1A := X14.below BA; have XWA := XW4.below BA; have MwA := Mw.below BA; have MhA := Mh.below BA; have BBA := below_then (below_then HB3.out B4) BA; have zA : w4.heap.size + 1 ≤ (w4.alloc (.cells #[.int .i64 0, .int .i64 0, .map none, .map none] 26)).heap.size := (by simp); generalize hwA : w4.alloc (.cells #[.int .i64 0, .int .i64 0, .map none, .map none] 26) = wA at *; have hlw := Mw.lt; have hlh := Mh.lt; have XDB := XD.row #[.int .i64 li, .int .i64 cn, .map (some bw), .map (some bh)]; have eB : ∀ k, k ≠ w4.heap.size → (wA.setRow w4.heap.size #[.int .i64 li, .int .i64 cn, .map (some bw), .map (some bh)]).heap[k]? = wA.heap[k]? := (fun k hk => setRow_other _ _ _ _ hk); have X0B := X0A.of_block (eB _ (by omega)); have XPB := XPA.of_block (eB _ (by omega)); have X1B := X1A.of_block (eB _ (by omega)); have XWB := XWA.of_block (eB _ (by omega)); have MwB := MwA.keep (eB _ (by omega)); have MhB := MhA.keep (eB _ (by omega)); have BBB := belowR BBA (show w.heap.size ≤ w4.heap.size by omega) #[.int .i64 li, .int .i64 cn, .map (some bw), .map (some bh)]; have zB : w4.heap.size + 1 ≤ (wA.setRow w4.heap.size #[.int .i64 li, .int .i64 cn, .map (some bw), .map (some bh)]).heap.size := (by rw [setRow_size]; omega); generalize hwB : wA.setRow w4.heap.size #[.int .i64 li, .int .i64 cn, .map (some bw), .map (some bh)] = wB at *; clear eB)
          | (refine wpList_store_row rfl 74 _ _ rfl (w.heap.size + 1 + 1 + 1) _ rfl rfl 74 _ XW Try.infoWn rfl (wall _ _) ?_; rw [hw3])
          | (refine wpList_load_row rfl 26 _ rfl w.heap.size rfl 26 _ (0, 0) _ X03 Try.underlying26 rfl Try.infoHs ?_)
          | (refine wpList_store_row rfl 26 _ _ rfl w4.heap.size _ rfl rfl 26 _ XD Try.infoHs rfl (sall _ _ _ _) ?_; rw [hwB])
          | (go_at_call 26; refine (HR.out wB).mono ?_; rintro e w5 ⟨rfl, B5⟩; have z5 := B5.size; have X05 := X0B.below B5; have XP5 := XPB.below B5; have X15 := X1B.below B5; have XW5 := XWB.below B5; have XD5 := XDB.below B5; have Mw5 := MwB.below B5; have Mh5 := MhB.below B5; have BB5 := below_then BBB B5; have kW : w5.cell? ⟨w.heap.size + 1 + 1 + 1, 1, none⟩ = some (.int .i64 b) := XW5.cell 1 rfl; have kP0 : w5.cell? ⟨w.heap.size + 1, 0, none⟩ = some (.int .i64 te) := XP5.cell 0 rfl; have kP1 : w5.cell? ⟨w.heap.size + 1, 1, none⟩ = some (.int .i64 ma) := XP5.cell 1 rfl; have X6 := blk_new w5 3 #[.int .i64 now]; have B6 := belowA w5 (.cells #[.int .i64 now] 3); have XD6 := XD5.below B6; have X16 := X15.below B6; have Mw6 := Mw5.below B6; have Mh6 := Mh5.below B6; have BB6 := below_then BB5 B6; have z6 : w5.heap.size + 1 ≤ (w5.alloc (.cells #[.int .i64 now] 3)).heap.size := (by simp); have O := hover_any now w5; generalize hw6 : w5.alloc (.cells #[.int .i64 now] 3) = w6 at *; have FF := hoverf_any (b + te - ma) now w5.heap.size w6 (X6.cell 0 rfl); rw [HD.out] at FF; have kD : w6.cell? ⟨w4.heap.size, 3, none⟩ = some (.map (some bh)) := XD6.cell 3 rfl; have LK := HL.out w6 bh Mh6; have X7 := blk_new w6 80 #[.int .i64 0, .int .i64 0]; have B7 := belowA w6 (.cells #[.int .i64 0, .int .i64 0] 80); have XD7 := XD6.below B7; have X17 := X16.below B7; have Mw7 := Mw6.below B7; have Mh7 := Mh6.below B7; have BB7 := below_then BB6 B7; generalize hw7 : w6.alloc (.cells #[.int .i64 0, .int .i64 0] 80) = w7 at *; have jw := Mw6.lt; have jh := Mh6.lt; have X8 := X7.row #[.int .i64 c, .int .i64 u]; have e8 : ∀ k, k ≠ w6.heap.size → (w7.setRow w6.heap.size #[.int .i64 c, .int .i64 u]).heap[k]? = w7.heap[k]? := (fun k hk => setRow_other _ _ _ _ hk); have XD8 := XD7.of_block (e8 _ (by omega)); have X18 := X17.of_block (e8 _ (by omega)); have Mw8 := Mw7.keep (e8 _ (by omega)); have Mh8 := Mh7.keep (e8 _ (by omega)); have BB8 := belowR BB7 (show w.heap.size ≤ w6.heap.size by omega) #[.int .i64 c, .int .i64 u]; generalize hw8 : w7.setRow w6.heap.size #[.int .i64 c, .int .i64 u] = w8 at *; have k80 : w8.cell? ⟨w6.heap.size, 0, none⟩ = some (.int .i64 c) := X8.cell 0 rfl; have k81 : w8.cell? ⟨w6.heap.size, 1, none⟩ = some (.int .i64 u) := X8.cell 1 rfl; have kD8 : w8.cell? ⟨w4.heap.size, 3, none⟩ = some (.map (some bh)) := XD8.cell 3 rfl; obtain ⟨wE, hrunE, ME, BE, sE⟩ := HE.out w8 bh Mh8; have XDE := XD8.but BE (by omega); have X1E := X18.but BE (by omega); have MwE := Mw8.keep (BE.block bw Mw8.lt hne); clear sE e8)
          | (go_at_call 23; clear F1; have F2 : True := trivial; refine (M1 _).mono ?_; rintro e w9 ⟨rfl, h9⟩; obtain rfl := h9.symm)
          | (go_at_call 23; refine (M2 _).mono ?_; rintro e w9 ⟨rfl, h9⟩; obtain rfl := h9.symm)
          | (refine wpList_load_row rfl 43 _ rfl (w.heap.size + 1) rfl 43 _ (0, 0) _ XPB Try.underlying43 rfl Try.infoPl ?_)
          | (go_at_call 27; refine O.mono ?_; rintro e w9 ⟨rfl, h9⟩; obtain rfl := h9.symm)
          | (go_at_fn 41; refine FF.mono ?_; rintro e w9 ⟨rfl, h9⟩; obtain rfl := h9.symm)
          | (refine wpList_store_row rfl 80 _ _ rfl w6.heap.size _ rfl rfl 80 _ X7 Try.infoHv rfl (wall _ _) ?_; rw [hw8])
          | (refine wpList_load_row rfl 26 _ rfl w4.heap.size rfl 26 _ (0, 0) _ XDE Try.underlying26 rfl Try.infoHs ?_)
          | (refine wpList_store_row rfl 26 _ _ rfl (w.heap.size + 1 + 1) _ rfl rfl 26 _ X1E Try.infoHs rfl (sall _ _ _ _) ?_))
        refine bodyPost_ret (results_s2 rfl _ _ (w.heap.size + 1 + 1) _ rfl (load_hs (X1E.row _))) rfl ?_
        exact ⟨bw, bh, rfl, ⟨MwE.keep (setRow_other _ _ _ _ (by omega)), ME.keep (setRow_other _ _ _ _ (by omega)), hne, by omega, by omega⟩, belowR (BB8.trans (BE.below (B := w.heap.size) (by have := BB8.size; omega) (by omega))) (by omega) _⟩
    · rw [if_neg hc] at hu
      subst hu
      go_enter Try.func8, Try.ntmps8
      go_wp2_with (first
        | (go_at_call 10; refine C.mono ?_; rintro e w4 ⟨bw, bh, rfl, ⟨Mw, Mh, hne, hbw, hbh⟩, B4⟩; have z4 := B4.size; have X04 := X03.below B4; have XP4 := XP3.below B4; have X14 := X13.below B4; have XW4 := XW3.below B4; have XD := blk_new w4 26 #[.int .i64 0, .int .i64 0, .map none, .map none]; have BA := belowA w4 (.cells #[.int .i64 0, .int .i64 0, .map none, .map none] 26); have X0A := X04.below BA; have XPA := XP4.below BA; have X1A := X14.below BA; have XWA := XW4.below BA; have MwA := Mw.below BA; have MhA := Mh.below BA; have BBA := below_then (below_then HB3.out B4) BA; have zA : w4.heap.size + 1 ≤ (w4.alloc (.cells #[.int .i64 0, .int .i64 0, .map none, .map none] 26)).heap.size := (by simp); generalize hwA : w4.alloc (.cells #[.int .i64 0, .int .i64 0, .map none, .map none] 26) = wA at *; have hlw := Mw.lt; have hlh := Mh.lt; have XDB := XD.row #[.int .i64 li, .int .i64 cn, .map (some bw), .map (some bh)]; have eB : ∀ k, k ≠ w4.heap.size → (wA.setRow w4.heap.size #[.int .i64 li, .int .i64 cn, .map (some bw), .map (some bh)]).heap[k]? = wA.heap[k]? := (fun k hk => setRow_other _ _ _ _ hk); have X0B := X0A.of_block (eB _ (by omega)); have XPB := XPA.of_block (eB _ (by omega)); have X1B := X1A.of_block (eB _ (by omega)); have XWB := XWA.of_block (eB _ (by omega)); have MwB := MwA.keep (eB _ (by omega)); have MhB := MhA.keep (eB _ (by omega)); have BBB := belowR BBA (show w.heap.size ≤ w4.heap.size by omega) #[.int .i64 li, .int .i64 cn, .map (some bw), .map (some bh)]; have zB : w4.heap.size + 1 ≤ (wA.setRow w4.heap.size #[.int .i64 li, .int .i64 cn, .map (some bw), .map (some bh)]).heap.size := (by rw [setRow_size]; omega); generalize hwB : wA.setRow w4.heap.size #[.int .i64 li, .int .i64 cn, .map (some bw), .map (some bh)] = wB at *; clear eB)
        | (refine wpList_store_row rfl 74 _ _ rfl (w.heap.size + 1 + 1 + 1) _ rfl rfl 74 _ XW Try.infoWn rfl (wall _ _) ?_; rw [hw3])
        | (refine wpList_load_row rfl 26 _ rfl w.heap.size rfl 26 _ (0, 0) _ X03 Try.underlying26 rfl Try.infoHs ?_)
        | (refine wpList_store_row rfl 26 _ _ rfl w4.heap.size _ rfl rfl 26 _ XD Try.infoHs rfl (sall _ _ _ _) ?_; rw [hwB])
        | (go_at_call 26; refine (HR.out wB).mono ?_; rintro e w5 ⟨rfl, B5⟩; have z5 := B5.size; have X05 := X0B.below B5; have XP5 := XPB.below B5; have X15 := X1B.below B5; have XW5 := XWB.below B5; have XD5 := XDB.below B5; have Mw5 := MwB.below B5; have Mh5 := MhB.below B5; have BB5 := below_then BBB B5; have kW : w5.cell? ⟨w.heap.size + 1 + 1 + 1, 1, none⟩ = some (.int .i64 b) := XW5.cell 1 rfl; have kP0 : w5.cell? ⟨w.heap.size + 1, 0, none⟩ = some (.int .i64 te) := XP5.cell 0 rfl; have kP1 : w5.cell? ⟨w.heap.size + 1, 1, none⟩ = some (.int .i64 ma) := XP5.cell 1 rfl; have X6 := blk_new w5 3 #[.int .i64 now]; have B6 := belowA w5 (.cells #[.int .i64 now] 3); have XD6 := XD5.below B6; have X16 := X15.below B6; have Mw6 := Mw5.below B6; have Mh6 := Mh5.below B6; have BB6 := below_then BB5 B6; have z6 : w5.heap.size + 1 ≤ (w5.alloc (.cells #[.int .i64 now] 3)).heap.size := (by simp); have O := hover_any now w5; generalize hw6 : w5.alloc (.cells #[.int .i64 now] 3) = w6 at *; have FF := hoverf_any (b + te - ma) now w5.heap.size w6 (X6.cell 0 rfl); rw [HD.out] at FF; have kD : w6.cell? ⟨w4.heap.size, 3, none⟩ = some (.map (some bh)) := XD6.cell 3 rfl; have LK := HL.out w6 bh Mh6; have X7 := blk_new w6 80 #[.int .i64 0, .int .i64 0]; have B7 := belowA w6 (.cells #[.int .i64 0, .int .i64 0] 80); have XD7 := XD6.below B7; have X17 := X16.below B7; have Mw7 := Mw6.below B7; have Mh7 := Mh6.below B7; have BB7 := below_then BB6 B7; generalize hw7 : w6.alloc (.cells #[.int .i64 0, .int .i64 0] 80) = w7 at *; have jw := Mw6.lt; have jh := Mh6.lt; have X8 := X7.row #[.int .i64 c, .int .i64 d]; have e8 : ∀ k, k ≠ w6.heap.size → (w7.setRow w6.heap.size #[.int .i64 c, .int .i64 d]).heap[k]? = w7.heap[k]? := (fun k hk => setRow_other _ _ _ _ hk); have XD8 := XD7.of_block (e8 _ (by omega)); have X18 := X17.of_block (e8 _ (by omega)); have Mw8 := Mw7.keep (e8 _ (by omega)); have Mh8 := Mh7.keep (e8 _ (by omega)); have BB8 := belowR BB7 (show w.heap.size ≤ w6.heap.size by omega) #[.int .i64 c, .int .i64 d]; generalize hw8 : w7.setRow w6.heap.size #[.int .i64 c, .int .i64 d] = w8 at *; have k80 : w8.cell? ⟨w6.heap.size, 0, none⟩ = some (.int .i64 c) := X8.cell 0 rfl; have k81 : w8.cell? ⟨w6.heap.size, 1, none⟩ = some (.int .i64 d) := X8.cell 1 rfl; have kD8 : w8.cell? ⟨w4.heap.size, 3, none⟩ = some (.map (some bh)) := XD8.cell 3 rfl; obtain ⟨wE, hrunE, ME, BE, sE⟩ := HE.out w8 bh Mh8; have XDE := XD8.but BE (by omega); have X1E := X18.but BE (by omega); have MwE := Mw8.keep (BE.block bw Mw8.lt hne); clear sE e8)
        | (go_at_call 23; clear F1; have F2 : True := trivial; refine (M1 _).mono ?_; rintro e w9 ⟨rfl, h9⟩; obtain rfl := h9.symm)
        | (go_at_call 23; refine (M2 _).mono ?_; rintro e w9 ⟨rfl, h9⟩; obtain rfl := h9.symm)
        | (refine wpList_load_row rfl 43 _ rfl (w.heap.size + 1) rfl 43 _ (0, 0) _ XPB Try.underlying43 rfl Try.infoPl ?_)
        | (go_at_call 27; refine O.mono ?_; rintro e w9 ⟨rfl, h9⟩; obtain rfl := h9.symm)
        | (go_at_fn 41; refine FF.mono ?_; rintro e w9 ⟨rfl, h9⟩; obtain rfl := h9.symm)
        | (refine wpList_store_row rfl 80 _ _ rfl w6.heap.size _ rfl rfl 80 _ X7 Try.infoHv rfl (wall _ _) ?_; rw [hw8])
        | (refine wpList_load_row rfl 26 _ rfl w4.heap.size rfl 26 _ (0, 0) _ XDE Try.underlying26 rfl Try.infoHs ?_)
        | (refine wpList_store_row rfl 26 _ _ rfl (w.heap.size + 1 + 1) _ rfl rfl 26 _ X1E Try.infoHs rfl (sall _ _ _ _) ?_))
      refine bodyPost_ret (results_s2 rfl _ _ (w.heap.size + 1 + 1) _ rfl (load_hs (X1E.row _))) rfl ?_
      exact ⟨bw, bh, rfl, ⟨MwE.keep (setRow_other _ _ _ _ (by omega)), ME.keep (setRow_other _ _ _ _ (by omega)), hne, by omega, by omega⟩, belowR (BB8.trans (BE.below (B := w.heap.size) (by have := BB8.size; omega) (by omega))) (by omega) _⟩
end Go.Proofs.Ytifbnnffejamaaa
