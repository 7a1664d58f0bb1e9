/- The document's Grant, Let, Restart. Written by tools/genlrc.py. -/
import Derived.Test.YtacmphckmjangaaLrWith
import Derived.Deep.RegionHeld3
namespace Go.Proofs.Ytacmphckmjangaa
open Go.ChangeShapes Go.WideShapes Go.ChangeAt Go.RowKit Go.Maps
set_option maxRecDepth 100000 in
set_option maxHeartbeats 16000000 in
theorem rgrant_bad (ep q now te x ho : Int) (ao : Option Addr) (c : Nat) (R : List (Int × Hg)) (w : World) (hR : HRow w 0 (.slice ao R.length c) R) (ha : R.Pairwise (fun p q => p.1 ≠ q.1)) (hl : R.length ≤ 10000) (hb : mayN ep q now te x ho R ≠ 0) :
   Calls Try.prog 7 #[.agg #[.int .i64 ep, .int .i64 q, .slice ao R.length c], .int .i64 now, .int .i64 te, .int .i64 x, .int .i64 ho] w fun e w' => e = .returned (.tuple #[.agg #[.int .i64 ep, .int .i64 q, .slice ao R.length c], .int .i64 0, .int .i64 (mayN ep q now te x ho R)]) ∧ HRow w' 0 (.slice ao R.length c) R ∧ Below w.heap.size w w' := by
  have X0 := blk_new w 28 #[.int .i64 ep, .int .i64 q, .slice ao R.length c]
  have B0 := belowA w (.cells #[.int .i64 ep, .int .i64 q, .slice ao R.length c] 28)
  have s0 : (w.alloc (.cells #[.int .i64 ep, .int .i64 q, .slice ao R.length c] 28)).heap.size = w.heap.size + 1 := by simp
  generalize hw0 : w.alloc (.cells #[.int .i64 ep, .int .i64 q, .slice ao R.length c] 28) = w0 at *
  have X1 := blk_new w0 28 #[.int .i64 0, .int .i64 0, .slice none 0 0]
  have B1 := belowA w0 (.cells #[.int .i64 0, .int .i64 0, .slice none 0 0] 28)
  have s1 : (w0.alloc (.cells #[.int .i64 0, .int .i64 0, .slice none 0 0] 28)).heap.size = w.heap.size + 1 + 1 := by simp [s0]
  have X01 := X0.below B1
  rw [s0] at X1
  generalize hw1 : w0.alloc (.cells #[.int .i64 0, .int .i64 0, .slice none 0 0] 28) = w1 at *
  have HB : Hid (Below w.heap.size w w1) := below_then B0 B1
  have z1 : w.heap.size + 1 + 1 ≤ w1.heap.size := by omega
  have HRF : Hid (∀ W', Below w.heap.size w W' → HRow W' 0 (.slice ao R.length c) R) := fun W' h => KRow.below hR h
  have k0 : w1.cell? ⟨w.heap.size, 0, none⟩ = some (.int .i64 ep) := X01.cell 0 rfl
  have k1 : w1.cell? ⟨w.heap.size, 1, none⟩ = some (.int .i64 q) := X01.cell 1 rfl
  have C1 := rfind_any ep q now x ao c 0 R w1 (HRF.out w1 HB.out) ha (by omega)
  obtain ⟨r, hr⟩ : ∃ r, r = mayN ep q now te x ho R := ⟨_, rfl⟩
  rw [← hr] at hb ⊢
  unfold mayN at hr
  clear B0 B1 hR s1
  by_cases b1 : te < 1
  · rw [if_pos (show badA now te ho by unfold badA; omega)] at hr
    subst hr
    go_enter Try.func7, Try.ntmps7
    go_wp2_with (first
      | (refine wpList_load_row rfl 28 _ rfl w.heap.size rfl 28 _ (0, 0) _ X01 Try.underlying28 rfl Try.infoRs ?_)
      | (refine wpList_store_row rfl 28 _ _ rfl (w.heap.size + 1) _ rfl rfl 28 _ X1 Try.infoRs rfl (rallL _ _ _ _ _) ?_))
    refine bodyPost_ret (results_blk3 rfl _ _ (w.heap.size + 1) _ rfl (load_r (X1.row _))) rfl ?_
    have BF := belowR HB.out (show w.heap.size ≤ w.heap.size + 1 by omega) #[.int .i64 ep, .int .i64 q, .slice ao R.length c]
    exact ⟨rfl, HRF.out _ BF, BF⟩
  by_cases b2 : 1048576 < te
  · rw [if_pos (show badA now te ho by unfold badA; omega)] at hr
    subst hr
    go_enter Try.func7, Try.ntmps7
    go_wp2_with (first
      | (refine wpList_load_row rfl 28 _ rfl w.heap.size rfl 28 _ (0, 0) _ X01 Try.underlying28 rfl Try.infoRs ?_)
      | (refine wpList_store_row rfl 28 _ _ rfl (w.heap.size + 1) _ rfl rfl 28 _ X1 Try.infoRs rfl (rallL _ _ _ _ _) ?_))
    refine bodyPost_ret (results_blk3 rfl _ _ (w.heap.size + 1) _ rfl (load_r (X1.row _))) rfl ?_
    have BF := belowR HB.out (show w.heap.size ≤ w.heap.size + 1 by omega) #[.int .i64 ep, .int .i64 q, .slice ao R.length c]
    exact ⟨rfl, HRF.out _ BF, BF⟩
  by_cases b3 : now < 0
  · rw [if_pos (show badA now te ho by unfold badA; omega)] at hr
    subst hr
    go_enter Try.func7, Try.ntmps7
    go_wp2_with (first
      | (refine wpList_load_row rfl 28 _ rfl w.heap.size rfl 28 _ (0, 0) _ X01 Try.underlying28 rfl Try.infoRs ?_)
      | (refine wpList_store_row rfl 28 _ _ rfl (w.heap.size + 1) _ rfl rfl 28 _ X1 Try.infoRs rfl (rallL _ _ _ _ _) ?_))
    refine bodyPost_ret (results_blk3 rfl _ _ (w.heap.size + 1) _ rfl (load_r (X1.row _))) rfl ?_
    have BF := belowR HB.out (show w.heap.size ≤ w.heap.size + 1 by omega) #[.int .i64 ep, .int .i64 q, .slice ao R.length c]
    exact ⟨rfl, HRF.out _ BF, BF⟩
  by_cases b4 : 1099511627776 < now
  · rw [if_pos (show badA now te ho by unfold badA; omega)] at hr
    subst hr
    go_enter Try.func7, Try.ntmps7
    go_wp2_with (first
      | (refine wpList_load_row rfl 28 _ rfl w.heap.size rfl 28 _ (0, 0) _ X01 Try.underlying28 rfl Try.infoRs ?_)
      | (refine wpList_store_row rfl 28 _ _ rfl (w.heap.size + 1) _ rfl rfl 28 _ X1 Try.infoRs rfl (rallL _ _ _ _ _) ?_))
    refine bodyPost_ret (results_blk3 rfl _ _ (w.heap.size + 1) _ rfl (load_r (X1.row _))) rfl ?_
    have BF := belowR HB.out (show w.heap.size ≤ w.heap.size + 1 by omega) #[.int .i64 ep, .int .i64 q, .slice ao R.length c]
    exact ⟨rfl, HRF.out _ BF, BF⟩
  by_cases b5 : ho < 0
  · rw [if_pos (show badA now te ho by unfold badA; omega)] at hr
    subst hr
    go_enter Try.func7, Try.ntmps7
    go_wp2_with (first
      | (refine wpList_load_row rfl 28 _ rfl w.heap.size rfl 28 _ (0, 0) _ X01 Try.underlying28 rfl Try.infoRs ?_)
      | (refine wpList_store_row rfl 28 _ _ rfl (w.heap.size + 1) _ rfl rfl 28 _ X1 Try.infoRs rfl (rallL _ _ _ _ _) ?_))
    refine bodyPost_ret (results_blk3 rfl _ _ (w.heap.size + 1) _ rfl (load_r (X1.row _))) rfl ?_
    have BF := belowR HB.out (show w.heap.size ≤ w.heap.size + 1 by omega) #[.int .i64 ep, .int .i64 q, .slice ao R.length c]
    exact ⟨rfl, HRF.out _ BF, BF⟩
  rw [if_neg (show ¬ badA now te ho by unfold badA; omega)] at hr
  by_cases b6 : now < q
  · rw [if_pos b6] at hr
    subst hr
    go_enter Try.func7, Try.ntmps7
    go_wp2_with (first
      | (refine wpList_load_row rfl 28 _ rfl w.heap.size rfl 28 _ (0, 0) _ X01 Try.underlying28 rfl Try.infoRs ?_)
      | (refine wpList_store_row rfl 28 _ _ rfl (w.heap.size + 1) _ rfl rfl 28 _ X1 Try.infoRs rfl (rallL _ _ _ _ _) ?_))
    refine bodyPost_ret (results_blk3 rfl _ _ (w.heap.size + 1) _ rfl (load_r (X1.row _))) rfl ?_
    have BF := belowR HB.out (show w.heap.size ≤ w.heap.size + 1 by omega) #[.int .i64 ep, .int .i64 q, .slice ao R.length c]
    exact ⟨rfl, HRF.out _ BF, BF⟩
  rw [if_neg b6] at hr
  generalize whoL now R x = o at *
  rcases o with _ | ⟨h1, h2, h3⟩
  · obtain ⟨y0, y1, y2, y3, hy⟩ : ∃ y0 y1 y2 y3 : Int, Rh.el' x none = .agg #[.int .i64 y0, .int .i64 y1, .int .i64 y2, .int .i64 y3] := ⟨0, 0, 0, 0, rfl⟩
    simp only [Option.isSome_none, hy] at C1
    simp only [busy] at hr
    by_cases b7 : 1099511627776 ≤ ep
    · simp only [b7, if_true, Bool.false_eq_true, if_false] at hr
      subst hr
      go_enter Try.func7, Try.ntmps7
      go_wp2_with (first
        | (refine wpList_load_row rfl 28 _ rfl w.heap.size rfl 28 _ (0, 0) _ X01 Try.underlying28 rfl Try.infoRs ?_)
        | (go_at_call 18; refine C1.mono ?_; rintro e w2 ⟨rfl, B2⟩; obtain ⟨XA, XB, BBB, zB⟩ := varR w2 33 #[.int .i64 0, .int .i64 0, .int .i64 0, .int .i64 0] #[.int .i64 y0, .int .i64 y1, .int .i64 y2, .int .i64 y3]; generalize hwA : w2.alloc (.cells #[.int .i64 0, .int .i64 0, .int .i64 0, .int .i64 0] 33) = wA at *; generalize hwB : wA.setRow w2.heap.size #[.int .i64 y0, .int .i64 y1, .int .i64 y2, .int .i64 y3] = wB at *; have z2 := B2.size; have X0B := (X01.below B2).below BBB; have X1B := (X1.below B2).below BBB; have kB0 : wB.cell? ⟨w.heap.size, 0, none⟩ = some (.int .i64 ep) := X0B.cell 0 rfl; have kB1 : wB.cell? ⟨w2.heap.size, 1, none⟩ = some (.int .i64 y1) := XB.cell 1 rfl; have kB2 : wB.cell? ⟨w2.heap.size, 2, none⟩ = some (.int .i64 y2) := XB.cell 2 rfl; have BBw := below_then HB.out (below_then B2 BBB))
        | (refine wpList_store_row rfl 33 _ _ rfl w2.heap.size _ rfl rfl 33 _ XA Try.infoRhS rfl (hall4 _ _ _ _) ?_; rw [hwB])
        | (refine wpList_load_row rfl 28 _ rfl w.heap.size rfl 28 _ (0, 0) _ X0B Try.underlying28 rfl Try.infoRs ?_)
        | (refine wpList_store_row rfl 28 _ _ rfl (w.heap.size + 1) _ rfl rfl 28 _ X1B Try.infoRs rfl (rallL _ _ _ _ _) ?_))
      refine bodyPost_ret (results_blk3 rfl _ _ (w.heap.size + 1) _ rfl (load_r (X1B.row _))) rfl ?_
      have BF := belowR BBw (show w.heap.size ≤ w.heap.size + 1 by omega) #[.int .i64 ep, .int .i64 q, .slice ao R.length c]
      exact ⟨rfl, HRF.out _ BF, BF⟩
    · simp [b7] at hr
      exact absurd hr hb
  · simp only [Option.isSome_some, Rh.el'] at C1
    simp only [busy] at hr
    by_cases b8 : h1 = ho
    · by_cases b7 : 1099511627776 ≤ ep
      · have e : r = 2 := by rw [hr]; simp [b8, b7]
        clear hr
        subst e
        have b8' : (h1 == ho) = true := (by simp [b8]); have b8n : (h1 != ho) = false := by simp [b8]
        clear b8
        go_enter Try.func7, Try.ntmps7
        go_wp2_with (first
          | (refine wpList_load_row rfl 28 _ rfl w.heap.size rfl 28 _ (0, 0) _ X01 Try.underlying28 rfl Try.infoRs ?_)
          | (go_at_call 18; refine C1.mono ?_; rintro e w2 ⟨rfl, B2⟩; obtain ⟨XA, XB, BBB, zB⟩ := varR w2 33 #[.int .i64 0, .int .i64 0, .int .i64 0, .int .i64 0] #[.int .i64 x, .int .i64 h1, .int .i64 h2, .int .i64 h3]; generalize hwA : w2.alloc (.cells #[.int .i64 0, .int .i64 0, .int .i64 0, .int .i64 0] 33) = wA at *; generalize hwB : wA.setRow w2.heap.size #[.int .i64 x, .int .i64 h1, .int .i64 h2, .int .i64 h3] = wB at *; have z2 := B2.size; have X0B := (X01.below B2).below BBB; have X1B := (X1.below B2).below BBB; have kB0 : wB.cell? ⟨w.heap.size, 0, none⟩ = some (.int .i64 ep) := X0B.cell 0 rfl; have kB1 : wB.cell? ⟨w2.heap.size, 1, none⟩ = some (.int .i64 h1) := XB.cell 1 rfl; have kB2 : wB.cell? ⟨w2.heap.size, 2, none⟩ = some (.int .i64 h2) := XB.cell 2 rfl; have BBw := below_then HB.out (below_then B2 BBB))
          | (refine wpList_store_row rfl 33 _ _ rfl w2.heap.size _ rfl rfl 33 _ XA Try.infoRhS rfl (hall4 _ _ _ _) ?_; rw [hwB])
          | (refine wpList_load_row rfl 28 _ rfl w.heap.size rfl 28 _ (0, 0) _ X0B Try.underlying28 rfl Try.infoRs ?_)
          | (refine wpList_store_row rfl 28 _ _ rfl (w.heap.size + 1) _ rfl rfl 28 _ X1B Try.infoRs rfl (rallL _ _ _ _ _) ?_))
        refine bodyPost_ret (results_blk3 rfl _ _ (w.heap.size + 1) _ rfl (load_r (X1B.row _))) rfl ?_
        have BF := belowR BBw (show w.heap.size ≤ w.heap.size + 1 by omega) #[.int .i64 ep, .int .i64 q, .slice ao R.length c]
        exact ⟨rfl, HRF.out _ BF, BF⟩
      · simp [b8, b7] at hr
        exact absurd hr hb
    · have e : r = 15 := by rw [hr]; simp [b8]
      clear hr
      subst e
      have b8' : (h1 == ho) = false := (by simpa using b8); have b8n : (h1 != ho) = true := by simp [b8]
      go_enter Try.func7, Try.ntmps7
      go_wp2_with (first
        | (refine wpList_load_row rfl 28 _ rfl w.heap.size rfl 28 _ (0, 0) _ X01 Try.underlying28 rfl Try.infoRs ?_)
        | (go_at_call 18; refine C1.mono ?_; rintro e w2 ⟨rfl, B2⟩; obtain ⟨XA, XB, BBB, zB⟩ := varR w2 33 #[.int .i64 0, .int .i64 0, .int .i64 0, .int .i64 0] #[.int .i64 x, .int .i64 h1, .int .i64 h2, .int .i64 h3]; generalize hwA : w2.alloc (.cells #[.int .i64 0, .int .i64 0, .int .i64 0, .int .i64 0] 33) = wA at *; generalize hwB : wA.setRow w2.heap.size #[.int .i64 x, .int .i64 h1, .int .i64 h2, .int .i64 h3] = wB at *; have z2 := B2.size; have X0B := (X01.below B2).below BBB; have X1B := (X1.below B2).below BBB; have kB0 : wB.cell? ⟨w.heap.size, 0, none⟩ = some (.int .i64 ep) := X0B.cell 0 rfl; have kB1 : wB.cell? ⟨w2.heap.size, 1, none⟩ = some (.int .i64 h1) := XB.cell 1 rfl; have kB2 : wB.cell? ⟨w2.heap.size, 2, none⟩ = some (.int .i64 h2) := XB.cell 2 rfl; have BBw := below_then HB.out (below_then B2 BBB))
        | (refine wpList_store_row rfl 33 _ _ rfl w2.heap.size _ rfl rfl 33 _ XA Try.infoRhS rfl (hall4 _ _ _ _) ?_; rw [hwB])
        | (refine wpList_load_row rfl 28 _ rfl w.heap.size rfl 28 _ (0, 0) _ X0B Try.underlying28 rfl Try.infoRs ?_)
        | (refine wpList_store_row rfl 28 _ _ rfl (w.heap.size + 1) _ rfl rfl 28 _ X1B Try.infoRs rfl (rallL _ _ _ _ _) ?_))
      refine bodyPost_ret (results_blk3 rfl _ _ (w.heap.size + 1) _ rfl (load_r (X1B.row _))) rfl ?_
      have BF := belowR BBw (show w.heap.size ≤ w.heap.size + 1 by omega) #[.int .i64 ep, .int .i64 q, .slice ao R.length c]
      exact ⟨rfl, HRF.out _ BF, BF⟩
set_option maxRecDepth 100000 in
set_option maxHeartbeats 16000000 in
theorem rgrant_ok (ep q now te x ho : Int) (ao : Option Addr) (c : Nat) (R : List (Int × Hg)) (w : World) (hR : HRow w 0 (.slice ao R.length c) R) (ha : R.Pairwise (fun p q => p.1 ≠ q.1)) (hl : R.length ≤ 10000) (hep : -9223372036854775808 ≤ ep) (hb : mayN ep q now te x ho R = 0) :
   Calls Try.prog 7 #[.agg #[.int .i64 ep, .int .i64 q, .slice ao R.length c], .int .i64 now, .int .i64 te, .int .i64 x, .int .i64 ho] w fun e w' => ∃ v', e = .returned (.tuple #[.agg #[.int .i64 (ep + 1), .int .i64 q, v'], .int .i64 (ep + 1), .int .i64 0]) ∧ HRow w' 0 v' (insG (x, ⟨ho, ep + 1, now + te⟩) (lastM now R)) ∧ Below w.heap.size w w' := by
  have X0 := blk_new w 28 #[.int .i64 ep, .int .i64 q, .slice ao R.length c]
  have B0 := belowA w (.cells #[.int .i64 ep, .int .i64 q, .slice ao R.length c] 28)
  have s0 : (w.alloc (.cells #[.int .i64 ep, .int .i64 q, .slice ao R.length c] 28)).heap.size = w.heap.size + 1 := by simp
  generalize hw0 : w.alloc (.cells #[.int .i64 ep, .int .i64 q, .slice ao R.length c] 28) = w0 at *
  have X1 := blk_new w0 28 #[.int .i64 0, .int .i64 0, .slice none 0 0]
  have B1 := belowA w0 (.cells #[.int .i64 0, .int .i64 0, .slice none 0 0] 28)
  have s1 : (w0.alloc (.cells #[.int .i64 0, .int .i64 0, .slice none 0 0] 28)).heap.size = w.heap.size + 1 + 1 := by simp [s0]
  have X01 := X0.below B1
  rw [s0] at X1
  generalize hw1 : w0.alloc (.cells #[.int .i64 0, .int .i64 0, .slice none 0 0] 28) = w1 at *
  have HB : Hid (Below w.heap.size w w1) := below_then B0 B1
  have z1 : w.heap.size + 1 + 1 ≤ w1.heap.size := by omega
  have HRF : Hid (∀ W', Below w.heap.size w W' → HRow W' 0 (.slice ao R.length c) R) := fun W' h => KRow.below hR h
  have k0 : w1.cell? ⟨w.heap.size, 0, none⟩ = some (.int .i64 ep) := X01.cell 0 rfl
  have k1 : w1.cell? ⟨w.heap.size, 1, none⟩ = some (.int .i64 q) := X01.cell 1 rfl
  have C1 := rfind_any ep q now x ao c 0 R w1 (HRF.out w1 HB.out) ha (by omega)
  unfold mayN at hb
  by_cases g1 : badA now te ho
  · rw [if_pos g1] at hb; exact absurd hb (by omega)
  rw [if_neg g1] at hb
  by_cases b6 : now < q
  · rw [if_pos b6] at hb; exact absurd hb (by omega)
  rw [if_neg b6] at hb
  by_cases b7 : 1099511627776 ≤ ep
  · exfalso
    cases hbu : busy (whoL now R x) ho <;> simp [hbu, b7] at hb
  have hbu : busy (whoL now R x) ho = false := by cases h : busy (whoL now R x) ho <;> simp [h] at hb ⊢
  have t1 : 1 ≤ te ∧ te ≤ 1048576 ∧ 0 ≤ now ∧ now ≤ 1099511627776 ∧ 0 ≤ ho := by unfold badA at g1; omega
  obtain ⟨t2, t3, t4, t5, t6⟩ := t1
  have HC2 : Hid (∀ W', Below w.heap.size w W' → _) := fun W' h => rwith_any ep q now x x ho (ep + 1) (now + te) false ao c R W' (HRF.out W' h) hl (by rw [decide_eq_false (by omega)])
  rw [with_put (x, ⟨ho, ep + 1, now + te⟩) now R] at HC2
  generalize hNW : (insG (x, ⟨ho, ep + 1, now + te⟩) (lastM now R)) = NW at *
  obtain ⟨y0, y1, y2, y3, hy, hso⟩ : ∃ y0 y1 y2 y3 : Int, Rh.el' x (whoL now R x) = .agg #[.int .i64 y0, .int .i64 y1, .int .i64 y2, .int .i64 y3] ∧ ((whoL now R x).isSome = true → y1 = ho) := by
    revert hbu
    rcases whoL now R x with _ | ⟨h1, h2, h3⟩
    · intro _
      exact ⟨0, 0, 0, 0, rfl, fun h => by simp at h⟩
    · intro hbu
      exact ⟨x, h1, h2, h3, rfl, fun _ => by simpa [busy] using hbu⟩
  rw [hy] at C1
  generalize (whoL now R x).isSome = tt at *
  clear B0 B1 hR s1 hb hbu g1 hy hNW
  have HSO : Hid (tt = true → y1 = ho) := hso
  clear hso
  go_enter Try.func7, Try.ntmps7
  go_upto_region 6 with (first
    | (refine wpList_load_row rfl 28 _ rfl w.heap.size rfl 28 _ (0, 0) _ X01 Try.underlying28 rfl Try.infoRs ?_)
    | (go_at_call 18; refine C1.mono ?_; rintro e w2 ⟨rfl, B2⟩; obtain ⟨XA, XB, BBB, zB⟩ := varR w2 33 #[.int .i64 0, .int .i64 0, .int .i64 0, .int .i64 0] #[.int .i64 y0, .int .i64 y1, .int .i64 y2, .int .i64 y3]; generalize hwA : w2.alloc (.cells #[.int .i64 0, .int .i64 0, .int .i64 0, .int .i64 0] 33) = wA at *; generalize hwB : wA.setRow w2.heap.size #[.int .i64 y0, .int .i64 y1, .int .i64 y2, .int .i64 y3] = wB at *; have z2 := B2.size; have X0B := (X01.below B2).below BBB; have X1B := (X1.below B2).below BBB; have kB0 : wB.cell? ⟨w.heap.size, 0, none⟩ = some (.int .i64 ep) := X0B.cell 0 rfl; have kB1 : wB.cell? ⟨w2.heap.size, 1, none⟩ = some (.int .i64 y1) := XB.cell 1 rfl; have kB2 : wB.cell? ⟨w2.heap.size, 2, none⟩ = some (.int .i64 y2) := XB.cell 2 rfl; have BBw := below_then HB.out (below_then B2 BBB))
    | (refine wpList_store_row rfl 33 _ _ rfl w2.heap.size _ rfl rfl 33 _ XA Try.infoRhS rfl (hall4 _ _ _ _) ?_; rw [hwB]))
  go_cut [53] (fun s53 wc => s53 = .bool false ∧ wc = wB)
  case first =>
    cases tt with
    | true =>
      have e := HSO.out rfl
      have e' : (y1 != ho) = false := by simp [e]
      clear e
      go_wp2_with fail
      go_meet
      case rel => exact ⟨rfl, rfl⟩
    | false =>
      go_wp2_with fail
      go_meet
      case rel => exact ⟨rfl, rfl⟩
  case rest =>
  obtain ⟨rfl, hcw⟩ := hcut
  obtain rfl := hcw.symm
  have C2 := HC2.out wB BBw
  go_upto_region 12 with (first
    | (refine wpList_load_row rfl 28 _ rfl w.heap.size rfl 28 _ (0, 0) _ X0B Try.underlying28 rfl Try.infoRs ?_)
    | (go_at_call 19; refine C2.mono ?_; rintro e w5 ⟨v5, rfl, O5, B5⟩; have z5 := B5.size; obtain ⟨a5, c5, e5⟩ := HRow.shape O5; obtain ⟨n5, hn5⟩ : ∃ n5, n5 = NW.length := ⟨_, rfl⟩; rw [← hn5] at e5; subst e5; clear hn5; obtain ⟨XC, XD, BBs, zD⟩ := varR w5 28 #[.int .i64 0, .int .i64 0, .slice none 0 0] #[.int .i64 ep, .int .i64 q, .slice a5 n5 c5]; generalize hwC : w5.alloc (.cells #[.int .i64 0, .int .i64 0, .slice none 0 0] 28) = wC at *; generalize hwD : wC.setRow w5.heap.size #[.int .i64 ep, .int .i64 q, .slice a5 n5 c5] = wD at *; have X1D := (X1B.below B5).below BBs; have X0D := (X0B.below B5).below BBs; have kD0 : wD.cell? ⟨w.heap.size, 0, none⟩ = some (.int .i64 ep) := X0D.cell 0 rfl; have jD0 : wD.cell? ⟨w5.heap.size, 0, none⟩ = some (.int .i64 ep) := XD.cell 0 rfl; have fD0 := XD.frozen 0; have BBD := below_then BBw (below_then B5 BBs); have OD := KRow.below O5 BBs; have OL := KRow.ownlt O5; have XF := XD.set 0 (.int .i64 (ep + 1)); have X1F := X1D.other (a := ⟨w5.heap.size, 0, none⟩) (by show w.heap.size + 1 ≠ w5.heap.size; omega) (.int .i64 (ep + 1)); have OF := KRow.stay (w' := wD.setCell ⟨w5.heap.size, 0, none⟩ (.int .i64 (ep + 1))) OD (fun g hg => Below.heap_setCell _ _ _ _ (by show g ≠ w5.heap.size; have := (OL g hg).2; omega)); have BBF := BBD.setCell (p := ⟨w5.heap.size, 0, none⟩) (show w.heap.size ≤ w5.heap.size by omega) (.int .i64 (ep + 1)); generalize hwF : wD.setCell ⟨w5.heap.size, 0, none⟩ (.int .i64 (ep + 1)) = wF at *)
    | (refine wpList_store_row rfl 28 _ _ rfl w5.heap.size _ rfl rfl 28 _ XC Try.infoRs rfl (rallL _ _ _ _ _) ?_; rw [hwD]))
  refine wp_region_held_drew (S := fun w' => Blk w' w5.heap.size 28 #[.int .i64 (ep + 1), .int .i64 q, .slice a5 n5 c5]) (by kernel_rfl) (XF) (fun hHeld => ?_)
  have Bwd : Below wF.heap.size wF wF.drew := (Below.refl wF.heap.size wF).drew
  have X1d := X1F.below Bwd
  have OWd := KRow.below OF Bwd
  have XFd := XF.below Bwd
  have BBd := below_then BBF Bwd
  generalize hwd : wF.drew = wd at *
  refine wpAnyH_take (i := 0) (v := (.agg #[.int .i64 (ep + 1), .int .i64 q, .slice a5 n5 c5])) rfl (by kernel_rfl) (by kernel_rfl) (by kernel_rfl) (fun _ _ _ h => h) (Or.inl ⟨by rfl, ?_⟩) (by assumption) ?_
  · intro w' hSw
    have y0 : w'.cell? ⟨w5.heap.size, 0, none⟩ = some (.int .i64 (ep + 1)) := hSw.cell 0 rfl
    have y1 : w'.cell? ⟨w5.heap.size, 1, none⟩ = some (.int .i64 q) := hSw.cell 1 rfl
    have y2 : w'.cell? ⟨w5.heap.size, 2, none⟩ = some (.slice a5 n5 c5) := hSw.cell 2 rfl
    go_simp
  simp only [List.getElem_toArray, List.getElem_cons_zero, Act.put, List.setIfInBounds_toArray, List.set_cons_zero, List.set_cons_succ]
  refine wpAnyH_take (i := 1) (v := (.pointer (some ⟨w5.heap.size, 0, none⟩))) rfl (by kernel_rfl) (by kernel_rfl) (by kernel_rfl) (fun _ _ _ h => h) (Or.inl ⟨by rfl, ?_⟩) (by assumption) ?_
  · intro w' hSw
    go_simp
  simp only [List.getElem_toArray, List.getElem_cons_succ, List.getElem_cons_zero, Act.put, List.setIfInBounds_toArray, List.set_cons_zero, List.set_cons_succ]
  refine wpAnyH_take (i := 2) (v := (.int .i64 (ep + 1))) rfl (by kernel_rfl) (by kernel_rfl) (by kernel_rfl) (fun _ _ _ h => h) (Or.inl ⟨by rfl, ?_⟩) (by assumption) ?_
  · intro w' hSw
    have y0 : w'.cell? ⟨w5.heap.size, 0, none⟩ = some (.int .i64 (ep + 1)) := hSw.cell 0 rfl
    go_simp
  simp only [List.getElem_toArray, List.getElem_cons_succ, List.getElem_cons_zero, Act.put, List.setIfInBounds_toArray, List.set_cons_zero, List.set_cons_succ]
  refine wpAnyH_ready (rs := [3]) (by kernel_rfl) (by simp) ?_
  refine AllReadyH.cons rfl (fun Kc hKc => ?_) AllReadyH.nil
  simp only [List.getElem_toArray, List.getElem_cons_succ, List.getElem_cons_zero]
  rw [if_pos (by rfl)]
  have oz : ∀ k, k ≠ w.heap.size + 1 → (wd.setRow (w.heap.size + 1) #[.int .i64 (ep + 1), .int .i64 q, .slice a5 n5 c5]).heap[k]? = wd.heap[k]? := fun k hk => setRow_other _ _ _ _ hk
  have XZ := X1d.row #[.int .i64 (ep + 1), .int .i64 q, .slice a5 n5 c5]
  have OZ := KRow.stay OWd (fun g hg => oz g (by have := (OL g hg).1; have := BBw.size; omega))
  have XFz := XFd.of_block (oz _ (by omega))
  have BZ := belowR BBd (show w.heap.size ≤ w.heap.size + 1 by omega) #[.int .i64 (ep + 1), .int .i64 q, .slice a5 n5 c5]
  generalize hwz : wd.setRow (w.heap.size + 1) #[.int .i64 (ep + 1), .int .i64 q, .slice a5 n5 c5] = wz at *
  refine wp_store_row 28 _ _ rfl (w.heap.size + 1) #[.int .i64 (ep + 1), .int .i64 q, .slice a5 n5 c5] rfl rfl 28 _ X1d Try.infoRs rfl (rallL _ _ _ _ _) ?_
  rw [hwz]
  refine hKc.out _ _ (XFz) (fun hHeld => ?_)
  clear hKc Kc
  simp only [Act.put]
  refine wpAnyH_take (i := 4) (v := (.int .i64 (ep + 1))) rfl (by kernel_rfl) (by kernel_rfl) (by kernel_rfl) (fun _ _ _ h => h) (Or.inl ⟨by rfl, ?_⟩) (by assumption) ?_
  · intro w' hSw
    go_simp
  simp only [List.getElem_toArray, List.getElem_cons_succ, List.getElem_cons_zero, Act.put, List.setIfInBounds_toArray, List.set_cons_zero, List.set_cons_succ]
  refine wpAnyH_take (i := 5) (v := (.int .i64 0)) rfl (by kernel_rfl) (by kernel_rfl) (by kernel_rfl) (fun _ _ _ h => h) (Or.inl ⟨by rfl, ?_⟩) (by assumption) ?_
  · intro w' hSw
    go_simp
  simp only [List.getElem_toArray, List.getElem_cons_succ, List.getElem_cons_zero, Act.put, List.setIfInBounds_toArray, List.set_cons_zero, List.set_cons_succ]
  refine wpAnyH_done (by kernel_rfl) ?_ _
  go_wp2_with fail
  refine bodyPost_ret (results_blk3 rfl _ _ (w.heap.size + 1) _ rfl (load_r XZ)) rfl ?_
  exact ⟨.slice a5 n5 c5, rfl, KRow.base OZ (Nat.zero_le _), BZ⟩
set_option maxRecDepth 100000 in
set_option maxHeartbeats 16000000 in
theorem rlet_bad (ep q now x ho e2 : Int) (ao : Option Addr) (c : Nat) (R : List (Int × Hg)) (w : World) (hR : HRow w 0 (.slice ao R.length c) R) (ha : R.Pairwise (fun p q => p.1 ≠ q.1)) (hl : R.length ≤ 10000) (hb : letN (whoL now R x) ho e2 ≠ 0) :
   Calls Try.prog 10 #[.agg #[.int .i64 ep, .int .i64 q, .slice ao R.length c], .int .i64 now, .int .i64 x, .int .i64 ho, .int .i64 e2] w fun e w' => e = .returned (.tuple #[.agg #[.int .i64 ep, .int .i64 q, .slice ao R.length c], .int .i64 (letN (whoL now R x) ho e2)]) ∧ HRow w' 0 (.slice ao R.length c) R ∧ Below w.heap.size w w' := by
  have X0 := blk_new w 28 #[.int .i64 ep, .int .i64 q, .slice ao R.length c]
  have B0 := belowA w (.cells #[.int .i64 ep, .int .i64 q, .slice ao R.length c] 28)
  have s0 : (w.alloc (.cells #[.int .i64 ep, .int .i64 q, .slice ao R.length c] 28)).heap.size = w.heap.size + 1 := by simp
  generalize hw0 : w.alloc (.cells #[.int .i64 ep, .int .i64 q, .slice ao R.length c] 28) = w0 at *
  have X1 := blk_new w0 28 #[.int .i64 0, .int .i64 0, .slice none 0 0]
  have B1 := belowA w0 (.cells #[.int .i64 0, .int .i64 0, .slice none 0 0] 28)
  have s1 : (w0.alloc (.cells #[.int .i64 0, .int .i64 0, .slice none 0 0] 28)).heap.size = w.heap.size + 1 + 1 := by simp [s0]
  have X01 := X0.below B1
  rw [s0] at X1
  generalize hw1 : w0.alloc (.cells #[.int .i64 0, .int .i64 0, .slice none 0 0] 28) = w1 at *
  have HB : Hid (Below w.heap.size w w1) := below_then B0 B1
  have z1 : w.heap.size + 1 + 1 ≤ w1.heap.size := by omega
  have HRF : Hid (∀ W', Below w.heap.size w W' → HRow W' 0 (.slice ao R.length c) R) := fun W' h => KRow.below hR h
  have k0 : w1.cell? ⟨w.heap.size, 0, none⟩ = some (.int .i64 ep) := X01.cell 0 rfl
  have k1 : w1.cell? ⟨w.heap.size, 1, none⟩ = some (.int .i64 q) := X01.cell 1 rfl
  have C1 := rfind_any ep q now x ao c 0 R w1 (HRF.out w1 HB.out) ha (by omega)
  generalize whoL now R x = o at *
  clear B0 B1 hR s1
  rcases o with _ | ⟨h1, h2, h3⟩
  · obtain ⟨y0, y1, y2, y3, hy⟩ : ∃ y0 y1 y2 y3 : Int, Rh.el' x none = .agg #[.int .i64 y0, .int .i64 y1, .int .i64 y2, .int .i64 y3] := ⟨0, 0, 0, 0, rfl⟩
    simp only [Option.isSome_none, hy] at C1
    have e : letN none ho e2 = 8 := rfl
    rw [e]
    clear hb e
    go_enter Try.func10, Try.ntmps10
    go_wp2_with (first
      | (refine wpList_load_row rfl 28 _ rfl w.heap.size rfl 28 _ (0, 0) _ X01 Try.underlying28 rfl Try.infoRs ?_)
      | (go_at_call 18; refine C1.mono ?_; rintro e w2 ⟨rfl, B2⟩; obtain ⟨XA, XB, BBB, zB⟩ := varR w2 33 #[.int .i64 0, .int .i64 0, .int .i64 0, .int .i64 0] #[.int .i64 y0, .int .i64 y1, .int .i64 y2, .int .i64 y3]; generalize hwA : w2.alloc (.cells #[.int .i64 0, .int .i64 0, .int .i64 0, .int .i64 0] 33) = wA at *; generalize hwB : wA.setRow w2.heap.size #[.int .i64 y0, .int .i64 y1, .int .i64 y2, .int .i64 y3] = wB at *; have z2 := B2.size; have X0B := (X01.below B2).below BBB; have X1B := (X1.below B2).below BBB; have kB0 : wB.cell? ⟨w.heap.size, 0, none⟩ = some (.int .i64 ep) := X0B.cell 0 rfl; have kB1 : wB.cell? ⟨w2.heap.size, 1, none⟩ = some (.int .i64 y1) := XB.cell 1 rfl; have kB2 : wB.cell? ⟨w2.heap.size, 2, none⟩ = some (.int .i64 y2) := XB.cell 2 rfl; have BBw := below_then HB.out (below_then B2 BBB))
      | (refine wpList_store_row rfl 33 _ _ rfl w2.heap.size _ rfl rfl 33 _ XA Try.infoRhS rfl (hall4 _ _ _ _) ?_; rw [hwB])
      | (refine wpList_load_row rfl 28 _ rfl w.heap.size rfl 28 _ (0, 0) _ X0B Try.underlying28 rfl Try.infoRs ?_)
      | (refine wpList_store_row rfl 28 _ _ rfl (w.heap.size + 1) _ rfl rfl 28 _ X1B Try.infoRs rfl (rallL _ _ _ _ _) ?_))
    refine bodyPost_ret (results_blk2 rfl _ _ (w.heap.size + 1) _ rfl (load_r (X1B.row _))) rfl ?_
    have BF := belowR BBw (show w.heap.size ≤ w.heap.size + 1 by omega) #[.int .i64 ep, .int .i64 q, .slice ao R.length c]
    exact ⟨rfl, HRF.out _ BF, BF⟩
  · simp only [Option.isSome_some, Rh.el'] at C1
    by_cases b8 : h1 = ho
    · by_cases b9 : h2 = e2
      · exact absurd (show letN (some ⟨h1, h2, h3⟩) ho e2 = 0 by unfold letN; simp [b8, b9]) hb
      · have e : letN (some ⟨h1, h2, h3⟩) ho e2 = 14 := by unfold letN; simp [b9]
        rw [e]
        have b8' : (h1 == ho) = true := (by simp [b8]); have b8n : (h1 != ho) = false := by simp [b8]
        have b9' : (h2 == e2) = false := (by simpa using b9); have b9n : (h2 != e2) = true := by simp [b9]
        clear hb e b8
        go_enter Try.func10, Try.ntmps10
        go_wp2_with (first
          | (refine wpList_load_row rfl 28 _ rfl w.heap.size rfl 28 _ (0, 0) _ X01 Try.underlying28 rfl Try.infoRs ?_)
          | (go_at_call 18; refine C1.mono ?_; rintro e w2 ⟨rfl, B2⟩; obtain ⟨XA, XB, BBB, zB⟩ := varR w2 33 #[.int .i64 0, .int .i64 0, .int .i64 0, .int .i64 0] #[.int .i64 x, .int .i64 h1, .int .i64 h2, .int .i64 h3]; generalize hwA : w2.alloc (.cells #[.int .i64 0, .int .i64 0, .int .i64 0, .int .i64 0] 33) = wA at *; generalize hwB : wA.setRow w2.heap.size #[.int .i64 x, .int .i64 h1, .int .i64 h2, .int .i64 h3] = wB at *; have z2 := B2.size; have X0B := (X01.below B2).below BBB; have X1B := (X1.below B2).below BBB; have kB0 : wB.cell? ⟨w.heap.size, 0, none⟩ = some (.int .i64 ep) := X0B.cell 0 rfl; have kB1 : wB.cell? ⟨w2.heap.size, 1, none⟩ = some (.int .i64 h1) := XB.cell 1 rfl; have kB2 : wB.cell? ⟨w2.heap.size, 2, none⟩ = some (.int .i64 h2) := XB.cell 2 rfl; have BBw := below_then HB.out (below_then B2 BBB))
          | (refine wpList_store_row rfl 33 _ _ rfl w2.heap.size _ rfl rfl 33 _ XA Try.infoRhS rfl (hall4 _ _ _ _) ?_; rw [hwB])
          | (refine wpList_load_row rfl 28 _ rfl w.heap.size rfl 28 _ (0, 0) _ X0B Try.underlying28 rfl Try.infoRs ?_)
          | (refine wpList_store_row rfl 28 _ _ rfl (w.heap.size + 1) _ rfl rfl 28 _ X1B Try.infoRs rfl (rallL _ _ _ _ _) ?_))
        refine bodyPost_ret (results_blk2 rfl _ _ (w.heap.size + 1) _ rfl (load_r (X1B.row _))) rfl ?_
        have BF := belowR BBw (show w.heap.size ≤ w.heap.size + 1 by omega) #[.int .i64 ep, .int .i64 q, .slice ao R.length c]
        exact ⟨rfl, HRF.out _ BF, BF⟩
    · have e : letN (some ⟨h1, h2, h3⟩) ho e2 = 14 := by unfold letN; simp [b8]
      rw [e]
      have b8' : (h1 == ho) = false := (by simpa using b8); have b8n : (h1 != ho) = true := by simp [b8]
      clear hb e
      go_enter Try.func10, Try.ntmps10
      go_wp2_with (first
        | (refine wpList_load_row rfl 28 _ rfl w.heap.size rfl 28 _ (0, 0) _ X01 Try.underlying28 rfl Try.infoRs ?_)
        | (go_at_call 18; refine C1.mono ?_; rintro e w2 ⟨rfl, B2⟩; obtain ⟨XA, XB, BBB, zB⟩ := varR w2 33 #[.int .i64 0, .int .i64 0, .int .i64 0, .int .i64 0] #[.int .i64 x, .int .i64 h1, .int .i64 h2, .int .i64 h3]; generalize hwA : w2.alloc (.cells #[.int .i64 0, .int .i64 0, .int .i64 0, .int .i64 0] 33) = wA at *; generalize hwB : wA.setRow w2.heap.size #[.int .i64 x, .int .i64 h1, .int .i64 h2, .int .i64 h3] = wB at *; have z2 := B2.size; have X0B := (X01.below B2).below BBB; have X1B := (X1.below B2).below BBB; have kB0 : wB.cell? ⟨w.heap.size, 0, none⟩ = some (.int .i64 ep) := X0B.cell 0 rfl; have kB1 : wB.cell? ⟨w2.heap.size, 1, none⟩ = some (.int .i64 h1) := XB.cell 1 rfl; have kB2 : wB.cell? ⟨w2.heap.size, 2, none⟩ = some (.int .i64 h2) := XB.cell 2 rfl; have BBw := below_then HB.out (below_then B2 BBB))
        | (refine wpList_store_row rfl 33 _ _ rfl w2.heap.size _ rfl rfl 33 _ XA Try.infoRhS rfl (hall4 _ _ _ _) ?_; rw [hwB])
        | (refine wpList_load_row rfl 28 _ rfl w.heap.size rfl 28 _ (0, 0) _ X0B Try.underlying28 rfl Try.infoRs ?_)
        | (refine wpList_store_row rfl 28 _ _ rfl (w.heap.size + 1) _ rfl rfl 28 _ X1B Try.infoRs rfl (rallL _ _ _ _ _) ?_))
      refine bodyPost_ret (results_blk2 rfl _ _ (w.heap.size + 1) _ rfl (load_r (X1B.row _))) rfl ?_
      have BF := belowR BBw (show w.heap.size ≤ w.heap.size + 1 by omega) #[.int .i64 ep, .int .i64 q, .slice ao R.length c]
      exact ⟨rfl, HRF.out _ BF, BF⟩
set_option maxRecDepth 100000 in
set_option maxHeartbeats 16000000 in
theorem rlet_ok (ep q now x ho e2 : Int) (ao : Option Addr) (c : Nat) (R : List (Int × Hg)) (w : World) (hR : HRow w 0 (.slice ao R.length c) R) (ha : R.Pairwise (fun p q => p.1 ≠ q.1)) (hl : R.length ≤ 10000) (hb : letN (whoL now R x) ho e2 = 0) :
   Calls Try.prog 10 #[.agg #[.int .i64 ep, .int .i64 q, .slice ao R.length c], .int .i64 now, .int .i64 x, .int .i64 ho, .int .i64 e2] w fun e w' => ∃ v', e = .returned (.tuple #[.agg #[.int .i64 ep, .int .i64 q, v'], .int .i64 0]) ∧ HRow w' 0 v' (delM (lastM now R) x) ∧ Below w.heap.size w w' := by
  have X0 := blk_new w 28 #[.int .i64 ep, .int .i64 q, .slice ao R.length c]
  have B0 := belowA w (.cells #[.int .i64 ep, .int .i64 q, .slice ao R.length c] 28)
  have s0 : (w.alloc (.cells #[.int .i64 ep, .int .i64 q, .slice ao R.length c] 28)).heap.size = w.heap.size + 1 := by simp
  generalize hw0 : w.alloc (.cells #[.int .i64 ep, .int .i64 q, .slice ao R.length c] 28) = w0 at *
  have X1 := blk_new w0 28 #[.int .i64 0, .int .i64 0, .slice none 0 0]
  have B1 := belowA w0 (.cells #[.int .i64 0, .int .i64 0, .slice none 0 0] 28)
  have s1 : (w0.alloc (.cells #[.int .i64 0, .int .i64 0, .slice none 0 0] 28)).heap.size = w.heap.size + 1 + 1 := by simp [s0]
  have X01 := X0.below B1
  rw [s0] at X1
  generalize hw1 : w0.alloc (.cells #[.int .i64 0, .int .i64 0, .slice none 0 0] 28) = w1 at *
  have HB : Hid (Below w.heap.size w w1) := below_then B0 B1
  have z1 : w.heap.size + 1 + 1 ≤ w1.heap.size := by omega
  have HRF : Hid (∀ W', Below w.heap.size w W' → HRow W' 0 (.slice ao R.length c) R) := fun W' h => KRow.below hR h
  have k0 : w1.cell? ⟨w.heap.size, 0, none⟩ = some (.int .i64 ep) := X01.cell 0 rfl
  have k1 : w1.cell? ⟨w.heap.size, 1, none⟩ = some (.int .i64 q) := X01.cell 1 rfl
  have C1 := rfind_any ep q now x ao c 0 R w1 (HRF.out w1 HB.out) ha (by omega)
  have HC2 : Hid (∀ W', Below w.heap.size w W' → _) := fun W' h => rwith_any ep q now x 0 0 0 0 true ao c R W' (HRF.out W' h) hl (by simp)
  rw [with_del (0, ⟨0, 0, 0⟩) x now R] at HC2
  generalize delM (lastM now R) x = NW at *
  generalize whoL now R x = o at *
  clear B0 B1 hR s1
  rcases o with _ | ⟨h1, h2, h3⟩
  · exact absurd hb (show ¬ (8 : Int) = 0 by decide)
  simp only [Option.isSome_some, Rh.el'] at C1
  have b : h1 = ho ∧ h2 = e2 := by
    simp only [letN] at hb
    exact Classical.byContradiction fun h => by
      rw [if_pos (show h1 ≠ ho ∨ h2 ≠ e2 by omega)] at hb
      omega
  obtain ⟨rfl, rfl⟩ := b
  clear hb
  go_enter Try.func10, Try.ntmps10
  go_wp2_with (first
    | (refine wpList_load_row rfl 28 _ rfl w.heap.size rfl 28 _ (0, 0) _ X01 Try.underlying28 rfl Try.infoRs ?_)
    | (go_at_call 18; refine C1.mono ?_; rintro e w2 ⟨rfl, B2⟩; obtain ⟨XA, XB, BBB, zB⟩ := varR w2 33 #[.int .i64 0, .int .i64 0, .int .i64 0, .int .i64 0] #[.int .i64 x, .int .i64 h1, .int .i64 h2, .int .i64 h3]; generalize hwA : w2.alloc (.cells #[.int .i64 0, .int .i64 0, .int .i64 0, .int .i64 0] 33) = wA at *; generalize hwB : wA.setRow w2.heap.size #[.int .i64 x, .int .i64 h1, .int .i64 h2, .int .i64 h3] = wB at *; have z2 := B2.size; have X0B := (X01.below B2).below BBB; have X1B := (X1.below B2).below BBB; have kB0 : wB.cell? ⟨w.heap.size, 0, none⟩ = some (.int .i64 ep) := X0B.cell 0 rfl; have kB1 : wB.cell? ⟨w2.heap.size, 1, none⟩ = some (.int .i64 h1) := XB.cell 1 rfl; have kB2 : wB.cell? ⟨w2.heap.size, 2, none⟩ = some (.int .i64 h2) := XB.cell 2 rfl; have BBw := below_then HB.out (below_then B2 BBB))
    | (refine wpList_store_row rfl 33 _ _ rfl w2.heap.size _ rfl rfl 33 _ XA Try.infoRhS rfl (hall4 _ _ _ _) ?_; rw [hwB])
    | (refine wpList_load_row rfl 28 _ rfl w.heap.size rfl 28 _ (0, 0) _ X0B Try.underlying28 rfl Try.infoRs ?_)
    | (go_at_call 19; refine (HC2.out wB BBw).mono ?_; rintro e w5 ⟨v5, rfl, O5, B5⟩; have z5 := B5.size; obtain ⟨a5, c5, e5⟩ := HRow.shape O5; obtain ⟨n5, hn5⟩ : ∃ n5, n5 = NW.length := ⟨_, rfl⟩; rw [← hn5] at e5; subst e5; clear hn5; have X15 := X1B.below B5)
    | (refine wpList_store_row rfl 28 _ _ rfl (w.heap.size + 1) _ rfl rfl 28 _ X15 Try.infoRs rfl (rallL _ _ _ _ _) ?_))
  refine bodyPost_ret (results_blk2 rfl _ _ (w.heap.size + 1) _ rfl (load_r (X15.row _))) rfl ?_
  have BF := belowR (below_then BBw B5) (show w.heap.size ≤ w.heap.size + 1 by omega) #[.int .i64 ep, .int .i64 q, .slice a5 n5 c5]
  exact ⟨.slice a5 n5 c5, rfl, KRow.base (KRow.stay O5 (fun g hg => setRow_other _ _ _ _ (by have := (KRow.ownlt O5 g hg).1; omega))) (Nat.zero_le _), BF⟩
theorem rwithin_any (n m : Int) (hm : 0 ≤ m) (w : World) : Calls Try.prog 21 #[.int .i64 n, .int .i64 m] w fun e w' => e = .returned (.int .i64 (witN n m)) ∧ w' = w := by
  obtain ⟨r, hr⟩ : ∃ r, r = witN n m := ⟨_, rfl⟩
  rw [← hr]
  have HR : Hid (r = witN n m) := hr
  clear hr
  by_cases h1 : n < 0
  · go_enter Try.func21, Try.ntmps21
    go_wp2
    go_ret
    exact ⟨ret_int (by rw [HR.out]; unfold witN; omega), rfl⟩
  · by_cases h2 : m < n
    · go_enter Try.func21, Try.ntmps21
      go_wp2
      go_ret
      exact ⟨ret_int (by rw [HR.out]; unfold witN; omega), rfl⟩
    · go_enter Try.func21, Try.ntmps21
      go_wp2
      go_ret
      exact ⟨ret_int (by rw [HR.out]; unfold witN; omega), rfl⟩
set_option maxRecDepth 100000 in
set_option maxHeartbeats 16000000 in
theorem rrestart_any (ep q now te : Int) (ao : Option Addr) (c n : Nat) (w : World) :
   Calls Try.prog 12 #[.agg #[.int .i64 ep, .int .i64 q, .slice ao n c], .int .i64 now, .int .i64 te] w fun e w' => e = .returned (.agg #[.int .i64 ep, .int .i64 (witN now 1099511627776 + witN te 1048576), .slice none 0 0]) ∧ Below w.heap.size w w' := by
  have X0 := blk_new w 28 #[.int .i64 ep, .int .i64 q, .slice ao n c]
  have B0 := belowA w (.cells #[.int .i64 ep, .int .i64 q, .slice ao n c] 28)
  have s0 : (w.alloc (.cells #[.int .i64 ep, .int .i64 q, .slice ao n c] 28)).heap.size = w.heap.size + 1 := by simp
  generalize hw0 : w.alloc (.cells #[.int .i64 ep, .int .i64 q, .slice ao n c] 28) = w0 at *
  have X1 := blk_new w0 28 #[.int .i64 0, .int .i64 0, .slice none 0 0]
  have B1 := belowA w0 (.cells #[.int .i64 0, .int .i64 0, .slice none 0 0] 28)
  have X01 := X0.below B1
  rw [s0] at X1
  generalize hw1 : w0.alloc (.cells #[.int .i64 0, .int .i64 0, .slice none 0 0] 28) = w1 at *
  have BB := below_then B0 B1
  have C1 := rwithin_any now 1099511627776 (by omega)
  have C2 := rwithin_any te 1048576 (by omega)
  have hq : wrap64 (witN now 1099511627776 + witN te 1048576) = witN now 1099511627776 + witN te 1048576 := by unfold wrap64 witN; omega
  have hub : 0 ≤ witN now 1099511627776 + witN te 1048576 ∧ witN now 1099511627776 + witN te 1048576 ≤ 1099512676352 := by unfold witN; omega
  have hq2 : IntKind.i64.wrap (witN now 1099511627776 + witN te 1048576) = witN now 1099511627776 + witN te 1048576 := by
    generalize witN now 1099511627776 + witN te 1048576 = uv at *
    simp [IntKind.wrap, IntKind.bits, IntKind.signed]; omega
  generalize witN now 1099511627776 = u at *
  generalize witN te 1048576 = v at *
  clear B0 B1
  go_enter Try.func12, Try.ntmps12
  go_wp2_with fail
  refine wp_region_held_drew (S := fun w' => Blk w' w.heap.size 28 #[.int .i64 ep, .int .i64 q, .slice ao n c]) (by kernel_rfl) (X01) (fun hHeld => ?_)
  have Bwd : Below w1.heap.size w1 w1.drew := (Below.refl w1.heap.size w1).drew
  have X1d := X1.below Bwd
  have X0d := X01.below Bwd
  have BBd := below_then BB Bwd
  generalize hwd : w1.drew = wd at *
  refine wpAnyH_take (i := 0) (v := (.pointer (some ⟨w.heap.size, 0, none⟩))) rfl (by kernel_rfl) (by kernel_rfl) (by kernel_rfl) (fun _ _ _ h => h) (Or.inl ⟨by rfl, ?_⟩) (by assumption) ?_
  · intro w' hSw
    go_simp
  simp only [List.getElem_toArray, List.getElem_cons_zero, Act.put, List.setIfInBounds_toArray, List.set_cons_zero, List.set_cons_succ]
  refine wpAnyH_take (i := 1) (v := (.int .i64 ep)) rfl (by kernel_rfl) (by kernel_rfl) (by kernel_rfl) (fun _ _ _ h => h) (Or.inl ⟨by rfl, ?_⟩) (by assumption) ?_
  · intro w' hSw
    have y0 : w'.cell? ⟨w.heap.size, 0, none⟩ = some (.int .i64 ep) := hSw.cell 0 rfl
    go_simp
  simp only [List.getElem_toArray, List.getElem_cons_succ, List.getElem_cons_zero, Act.put, List.setIfInBounds_toArray, List.set_cons_zero, List.set_cons_succ]
  refine wpAnyH_take (i := 2) (v := (.int .i64 now)) rfl (by kernel_rfl) (by kernel_rfl) (by kernel_rfl) (fun _ _ _ h => h) (Or.inl ⟨by rfl, ?_⟩) (by assumption) ?_
  · intro w' hSw
    go_simp
  simp only [List.getElem_toArray, List.getElem_cons_succ, List.getElem_cons_zero, Act.put, List.setIfInBounds_toArray, List.set_cons_zero, List.set_cons_succ]
  refine wpAnyH_take (i := 4) (v := (.int .i64 te)) rfl (by kernel_rfl) (by kernel_rfl) (by kernel_rfl) (fun _ _ _ h => h) (Or.inl ⟨by rfl, ?_⟩) (by assumption) ?_
  · intro w' hSw
    go_simp
  simp only [List.getElem_toArray, List.getElem_cons_succ, List.getElem_cons_zero, Act.put, List.setIfInBounds_toArray, List.set_cons_zero, List.set_cons_succ]
  refine wpAnyH_ready (rs := [3]) (by kernel_rfl) (by simp) ?_
  refine AllReadyH.cons rfl (fun Kc hKc => ?_) AllReadyH.nil
  simp only [List.getElem_toArray, List.getElem_cons_succ, List.getElem_cons_zero]
  rw [if_pos (by rfl)]
  go_wp2_with fail
  refine (C1 _).mono ?_
  rintro e wq ⟨rfl, hwq⟩
  obtain rfl := hwq.symm
  go_wp2_with fail
  refine hKc.out _ _ (X0d) (fun hHeld => ?_)
  clear hKc Kc
  refine wpAnyH_ready (rs := [5]) (by kernel_rfl) (by simp) ?_
  refine AllReadyH.cons rfl (fun Kc hKc => ?_) AllReadyH.nil
  simp only [List.getElem_toArray, List.getElem_cons_succ, List.getElem_cons_zero]
  rw [if_pos (by rfl)]
  go_wp2_with fail
  refine (C2 _).mono ?_
  rintro e wq ⟨rfl, hwq⟩
  obtain rfl := hwq.symm
  go_wp2_with fail
  refine hKc.out _ _ (X0d) (fun hHeld => ?_)
  clear hKc Kc
  refine wpAnyH_take (i := 6) (v := (.int .i64 (u + v))) rfl (by kernel_rfl) (by kernel_rfl) (by kernel_rfl) (fun _ _ _ h => h) (Or.inl ⟨by rfl, ?_⟩) (by assumption) ?_
  · intro w' hSw
    go_simp
  simp only [List.getElem_toArray, List.getElem_cons_succ, List.getElem_cons_zero, Act.put, List.setIfInBounds_toArray, List.set_cons_zero, List.set_cons_succ]
  refine wpAnyH_take (i := 7) (v := (.agg #[.int .i64 ep, .int .i64 (u + v), .slice none 0 0])) rfl (by kernel_rfl) (by kernel_rfl) (by kernel_rfl) (fun _ _ _ h => h) (Or.inl ⟨by rfl, ?_⟩) (by assumption) ?_
  · intro w' hSw
    go_simp
  simp only [List.getElem_toArray, List.getElem_cons_succ, List.getElem_cons_zero, Act.put, List.setIfInBounds_toArray, List.set_cons_zero, List.set_cons_succ]
  refine wpAnyH_ready (rs := [8]) (by kernel_rfl) (by simp) ?_
  refine AllReadyH.cons rfl (fun Kc hKc => ?_) AllReadyH.nil
  simp only [List.getElem_toArray, List.getElem_cons_succ, List.getElem_cons_zero]
  rw [if_pos (by rfl)]
  have XZ := X1d.row #[.int .i64 ep, .int .i64 (u + v), .slice none 0 0]
  have X0z := X0d.of_block (setRow_other wd (w.heap.size + 1) w.heap.size #[.int .i64 ep, .int .i64 (u + v), .slice none 0 0] (by omega))
  have BZ := belowR BBd (show w.heap.size ≤ w.heap.size + 1 by omega) #[.int .i64 ep, .int .i64 (u + v), .slice none 0 0]
  generalize hwz : wd.setRow (w.heap.size + 1) #[.int .i64 ep, .int .i64 (u + v), .slice none 0 0] = wz at *
  refine wp_store_row 28 _ _ rfl (w.heap.size + 1) #[.int .i64 ep, .int .i64 (u + v), .slice none 0 0] rfl rfl 28 _ X1d Try.infoRs rfl (rallL _ _ _ _ _) ?_
  rw [hwz]
  refine hKc.out _ _ (X0z) (fun hHeld => ?_)
  clear hKc Kc
  simp only [Act.put]
  refine wpAnyH_done (by kernel_rfl) ?_ _
  go_wp2_with fail
  refine bodyPost_ret (results_cell_row rfl _ _ (w.heap.size + 1) 28 _ _ _ rfl XZ Try.underlying28 rfl Try.infoRs) rfl ?_
  exact ⟨rfl, BZ⟩
end Go.Proofs.Ytacmphckmjangaa
