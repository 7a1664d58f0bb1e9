/- A holder's asking, and its crashes. Written by tools/genhask.py. -/
import Derived.Test.YtifbnnffejamaaaHdDen
namespace Go.Proofs.Ytifbnnffejamaaa
open Go.ChangeShapes Go.WideShapes Go.ChangeAt Go.RowKit Go.Maps
/-- Why nothing is asked; 0: it is. -/
def askN (li cn now : Int) : Int := if momD now = false ∨ li < 0 ∨ cn < 0 then 1 else if 524288 ≤ li ∨ 1048575 ≤ cn then 2 else 0
set_option maxRecDepth 100000 in
set_option maxHeartbeats 8000000 in
theorem hask_bad (li cn : Int) (mw mh : Option Nat) (now x : Int) (W : List (Int × Wn)) (H : List (Int × Hv)) (w : World) (hW : WnM w mw W) (hH : HvM w mh H) (hl : W.length ≤ 100000) (hk : H.length ≤ 100000) (hb : askN li cn now ≠ 0) :
   Calls Try.prog 6 #[hsV li cn mw mh, .int .i64 now, .int .i64 x] w fun e w' => ∃ bw bh, e = .returned (.tuple #[hsV li cn (some bw) (some bh), .int .i64 0, .int .i64 (askN li cn now)]) ∧ New w.heap.size w' bw bh W H ∧ Below w.heap.size w w' := by
  have X0 := blk_new w 26 #[.int .i64 li, .int .i64 cn, .map mw, .map mh]
  have B0 := belowA w (.cells #[.int .i64 li, .int .i64 cn, .map mw, .map mh] 26)
  have s0 : (w.alloc (.cells #[.int .i64 li, .int .i64 cn, .map mw, .map mh] 26)).heap.size = w.heap.size + 1 := by simp
  generalize hw0 : w.alloc (.cells #[.int .i64 li, .int .i64 cn, .map mw, .map mh] 26) = w0 at *
  have X1 := blk_new w0 26 #[.int .i64 0, .int .i64 0, .map none, .map none]
  have B1 := belowA w0 (.cells #[.int .i64 0, .int .i64 0, .map none, .map none] 26)
  have s1 : (w0.alloc (.cells #[.int .i64 0, .int .i64 0, .map none, .map none] 26)).heap.size = w.heap.size + 1 + 1 := by simp [s0]
  have X01 := X0.below B1
  rw [s0] at X1
  generalize hw1 : w0.alloc (.cells #[.int .i64 0, .int .i64 0, .map none, .map none] 26) = w1 at *
  have C := hcopied_any li cn mw mh W H w1 ((hW.below B0).below B1) ((hH.below B0).below B1) hl hk
  have HB : Hid (Below w.heap.size w w1) := below_then B0 B1
  have z1 : w.heap.size + 1 + 1 ≤ w1.heap.size := by omega
  have MO := hmom_any now
  obtain ⟨r, hr⟩ : ∃ r, r = askN li cn now := ⟨_, rfl⟩
  rw [← hr] at hb ⊢
  unfold askN at hr
  unfold hsV New at *
  clear B0 B1 hW hH s1
  by_cases hm : momD now = false
  · rw [if_pos (Or.inl hm)] at hr
    subst hr
    rw [hm] at MO
    go_enter Try.func6, Try.ntmps6
    go_wp2_with (first
      | (go_at_call 22; refine C.mono ?_; rintro e w2 ⟨bw, bh, rfl, Mw2, Mh2, hne, hbw, hbh, B2⟩; have z2 := B2.size; have X02 := X01.below B2; have X12 := X1.below B2; have X03 := X02.row #[.int .i64 li, .int .i64 cn, .map (some bw), .map (some bh)]; have X13 := X12.of_block (setRow_other w2 w.heap.size (w.heap.size + 1) #[.int .i64 li, .int .i64 cn, .map (some bw), .map (some bh)] (by omega)); have Mw := Mw2.keep (setRow_other w2 w.heap.size bw #[.int .i64 li, .int .i64 cn, .map (some bw), .map (some bh)] (by omega)); have Mh := Mh2.keep (setRow_other w2 w.heap.size bh #[.int .i64 li, .int .i64 cn, .map (some bw), .map (some bh)] (by omega)); have B3 := belowR (below_then HB.out B2) (Nat.le_refl w.heap.size) #[.int .i64 li, .int .i64 cn, .map (some bw), .map (some bh)]; have z3 : w2.heap.size ≤ (w2.setRow w.heap.size #[.int .i64 li, .int .i64 cn, .map (some bw), .map (some bh)]).heap.size := (by rw [setRow_size]; exact Nat.le_refl _); generalize hw3 : w2.setRow w.heap.size #[.int .i64 li, .int .i64 cn, .map (some bw), .map (some bh)] = w3 at *; have k30 : w3.cell? ⟨w.heap.size, 0, none⟩ = some (.int .i64 li) := X03.cell 0 rfl; have k31 : w3.cell? ⟨w.heap.size, 1, none⟩ = some (.int .i64 cn) := X03.cell 1 rfl)
      | (go_at_call 23; refine (MO _).mono ?_; rintro e w9 ⟨rfl, rfl⟩)
      | (refine wpList_load_row rfl 26 _ rfl w.heap.size rfl 26 _ (0, 0) _ X01 Try.underlying26 rfl Try.infoHs ?_)
      | (refine wpList_store_row rfl 26 _ _ rfl w.heap.size _ rfl rfl 26 _ X02 Try.infoHs rfl (sall _ _ _ _) ?_; rw [hw3])
      | (refine wpList_load_row rfl 26 _ rfl w.heap.size rfl 26 _ (0, 0) _ X03 Try.underlying26 rfl Try.infoHs ?_)
      | (refine wpList_store_row rfl 26 _ _ rfl (w.heap.size + 1) _ rfl rfl 26 _ X13 Try.infoHs rfl (sall _ _ _ _) ?_))
    refine bodyPost_ret (results_s3 rfl _ _ (w.heap.size + 1) _ rfl (load_hs (X13.row _))) rfl ?_
    refine ⟨bw, bh, rfl, ⟨Mw.keep (setRow_other _ _ _ _ (by omega)), Mh.keep (setRow_other _ _ _ _ (by omega)), hne, by omega, by omega⟩, belowR B3 (by omega) _⟩
  have hm' : momD now = true := by simpa using hm
  rw [hm'] at MO
  by_cases h1 : li < 0
  · rw [if_pos (Or.inr (Or.inl h1))] at hr
    subst hr
    go_enter Try.func6, Try.ntmps6
    go_wp2_with (first
      | (go_at_call 22; refine C.mono ?_; rintro e w2 ⟨bw, bh, rfl, Mw2, Mh2, hne, hbw, hbh, B2⟩; have z2 := B2.size; have X02 := X01.below B2; have X12 := X1.below B2; have X03 := X02.row #[.int .i64 li, .int .i64 cn, .map (some bw), .map (some bh)]; have X13 := X12.of_block (setRow_other w2 w.heap.size (w.heap.size + 1) #[.int .i64 li, .int .i64 cn, .map (some bw), .map (some bh)] (by omega)); have Mw := Mw2.keep (setRow_other w2 w.heap.size bw #[.int .i64 li, .int .i64 cn, .map (some bw), .map (some bh)] (by omega)); have Mh := Mh2.keep (setRow_other w2 w.heap.size bh #[.int .i64 li, .int .i64 cn, .map (some bw), .map (some bh)] (by omega)); have B3 := belowR (below_then HB.out B2) (Nat.le_refl w.heap.size) #[.int .i64 li, .int .i64 cn, .map (some bw), .map (some bh)]; have z3 : w2.heap.size ≤ (w2.setRow w.heap.size #[.int .i64 li, .int .i64 cn, .map (some bw), .map (some bh)]).heap.size := (by rw [setRow_size]; exact Nat.le_refl _); generalize hw3 : w2.setRow w.heap.size #[.int .i64 li, .int .i64 cn, .map (some bw), .map (some bh)] = w3 at *; have k30 : w3.cell? ⟨w.heap.size, 0, none⟩ = some (.int .i64 li) := X03.cell 0 rfl; have k31 : w3.cell? ⟨w.heap.size, 1, none⟩ = some (.int .i64 cn) := X03.cell 1 rfl)
      | (go_at_call 23; refine (MO _).mono ?_; rintro e w9 ⟨rfl, rfl⟩)
      | (refine wpList_load_row rfl 26 _ rfl w.heap.size rfl 26 _ (0, 0) _ X01 Try.underlying26 rfl Try.infoHs ?_)
      | (refine wpList_store_row rfl 26 _ _ rfl w.heap.size _ rfl rfl 26 _ X02 Try.infoHs rfl (sall _ _ _ _) ?_; rw [hw3])
      | (refine wpList_load_row rfl 26 _ rfl w.heap.size rfl 26 _ (0, 0) _ X03 Try.underlying26 rfl Try.infoHs ?_)
      | (refine wpList_store_row rfl 26 _ _ rfl (w.heap.size + 1) _ rfl rfl 26 _ X13 Try.infoHs rfl (sall _ _ _ _) ?_))
    refine bodyPost_ret (results_s3 rfl _ _ (w.heap.size + 1) _ rfl (load_hs (X13.row _))) rfl ?_
    refine ⟨bw, bh, rfl, ⟨Mw.keep (setRow_other _ _ _ _ (by omega)), Mh.keep (setRow_other _ _ _ _ (by omega)), hne, by omega, by omega⟩, belowR B3 (by omega) _⟩
  by_cases h2 : cn < 0
  · rw [if_pos (Or.inr (Or.inr h2))] at hr
    subst hr
    go_enter Try.func6, Try.ntmps6
    go_wp2_with (first
      | (go_at_call 22; refine C.mono ?_; rintro e w2 ⟨bw, bh, rfl, Mw2, Mh2, hne, hbw, hbh, B2⟩; have z2 := B2.size; have X02 := X01.below B2; have X12 := X1.below B2; have X03 := X02.row #[.int .i64 li, .int .i64 cn, .map (some bw), .map (some bh)]; have X13 := X12.of_block (setRow_other w2 w.heap.size (w.heap.size + 1) #[.int .i64 li, .int .i64 cn, .map (some bw), .map (some bh)] (by omega)); have Mw := Mw2.keep (setRow_other w2 w.heap.size bw #[.int .i64 li, .int .i64 cn, .map (some bw), .map (some bh)] (by omega)); have Mh := Mh2.keep (setRow_other w2 w.heap.size bh #[.int .i64 li, .int .i64 cn, .map (some bw), .map (some bh)] (by omega)); have B3 := belowR (below_then HB.out B2) (Nat.le_refl w.heap.size) #[.int .i64 li, .int .i64 cn, .map (some bw), .map (some bh)]; have z3 : w2.heap.size ≤ (w2.setRow w.heap.size #[.int .i64 li, .int .i64 cn, .map (some bw), .map (some bh)]).heap.size := (by rw [setRow_size]; exact Nat.le_refl _); generalize hw3 : w2.setRow w.heap.size #[.int .i64 li, .int .i64 cn, .map (some bw), .map (some bh)] = w3 at *; have k30 : w3.cell? ⟨w.heap.size, 0, none⟩ = some (.int .i64 li) := X03.cell 0 rfl; have k31 : w3.cell? ⟨w.heap.size, 1, none⟩ = some (.int .i64 cn) := X03.cell 1 rfl)
      | (go_at_call 23; refine (MO _).mono ?_; rintro e w9 ⟨rfl, rfl⟩)
      | (refine wpList_load_row rfl 26 _ rfl w.heap.size rfl 26 _ (0, 0) _ X01 Try.underlying26 rfl Try.infoHs ?_)
      | (refine wpList_store_row rfl 26 _ _ rfl w.heap.size _ rfl rfl 26 _ X02 Try.infoHs rfl (sall _ _ _ _) ?_; rw [hw3])
      | (refine wpList_load_row rfl 26 _ rfl w.heap.size rfl 26 _ (0, 0) _ X03 Try.underlying26 rfl Try.infoHs ?_)
      | (refine wpList_store_row rfl 26 _ _ rfl (w.heap.size + 1) _ rfl rfl 26 _ X13 Try.infoHs rfl (sall _ _ _ _) ?_))
    refine bodyPost_ret (results_s3 rfl _ _ (w.heap.size + 1) _ rfl (load_hs (X13.row _))) rfl ?_
    refine ⟨bw, bh, rfl, ⟨Mw.keep (setRow_other _ _ _ _ (by omega)), Mh.keep (setRow_other _ _ _ _ (by omega)), hne, by omega, by omega⟩, belowR B3 (by omega) _⟩
  rw [if_neg (fun e => by rcases e with e | e | e <;> first | exact hm e | exact h1 e | exact h2 e)] at hr
  by_cases h3 : 524288 ≤ li
  · rw [if_pos (Or.inl h3)] at hr
    subst hr
    go_enter Try.func6, Try.ntmps6
    go_wp2_with (first
      | (go_at_call 22; refine C.mono ?_; rintro e w2 ⟨bw, bh, rfl, Mw2, Mh2, hne, hbw, hbh, B2⟩; have z2 := B2.size; have X02 := X01.below B2; have X12 := X1.below B2; have X03 := X02.row #[.int .i64 li, .int .i64 cn, .map (some bw), .map (some bh)]; have X13 := X12.of_block (setRow_other w2 w.heap.size (w.heap.size + 1) #[.int .i64 li, .int .i64 cn, .map (some bw), .map (some bh)] (by omega)); have Mw := Mw2.keep (setRow_other w2 w.heap.size bw #[.int .i64 li, .int .i64 cn, .map (some bw), .map (some bh)] (by omega)); have Mh := Mh2.keep (setRow_other w2 w.heap.size bh #[.int .i64 li, .int .i64 cn, .map (some bw), .map (some bh)] (by omega)); have B3 := belowR (below_then HB.out B2) (Nat.le_refl w.heap.size) #[.int .i64 li, .int .i64 cn, .map (some bw), .map (some bh)]; have z3 : w2.heap.size ≤ (w2.setRow w.heap.size #[.int .i64 li, .int .i64 cn, .map (some bw), .map (some bh)]).heap.size := (by rw [setRow_size]; exact Nat.le_refl _); generalize hw3 : w2.setRow w.heap.size #[.int .i64 li, .int .i64 cn, .map (some bw), .map (some bh)] = w3 at *; have k30 : w3.cell? ⟨w.heap.size, 0, none⟩ = some (.int .i64 li) := X03.cell 0 rfl; have k31 : w3.cell? ⟨w.heap.size, 1, none⟩ = some (.int .i64 cn) := X03.cell 1 rfl)
      | (go_at_call 23; refine (MO _).mono ?_; rintro e w9 ⟨rfl, rfl⟩)
      | (refine wpList_load_row rfl 26 _ rfl w.heap.size rfl 26 _ (0, 0) _ X01 Try.underlying26 rfl Try.infoHs ?_)
      | (refine wpList_store_row rfl 26 _ _ rfl w.heap.size _ rfl rfl 26 _ X02 Try.infoHs rfl (sall _ _ _ _) ?_; rw [hw3])
      | (refine wpList_load_row rfl 26 _ rfl w.heap.size rfl 26 _ (0, 0) _ X03 Try.underlying26 rfl Try.infoHs ?_)
      | (refine wpList_store_row rfl 26 _ _ rfl (w.heap.size + 1) _ rfl rfl 26 _ X13 Try.infoHs rfl (sall _ _ _ _) ?_))
    refine bodyPost_ret (results_s3 rfl _ _ (w.heap.size + 1) _ rfl (load_hs (X13.row _))) rfl ?_
    refine ⟨bw, bh, rfl, ⟨Mw.keep (setRow_other _ _ _ _ (by omega)), Mh.keep (setRow_other _ _ _ _ (by omega)), hne, by omega, by omega⟩, belowR B3 (by omega) _⟩
  by_cases h4 : 1048575 ≤ cn
  · rw [if_pos (Or.inr h4)] at hr
    subst hr
    go_enter Try.func6, Try.ntmps6
    go_wp2_with (first
      | (go_at_call 22; refine C.mono ?_; rintro e w2 ⟨bw, bh, rfl, Mw2, Mh2, hne, hbw, hbh, B2⟩; have z2 := B2.size; have X02 := X01.below B2; have X12 := X1.below B2; have X03 := X02.row #[.int .i64 li, .int .i64 cn, .map (some bw), .map (some bh)]; have X13 := X12.of_block (setRow_other w2 w.heap.size (w.heap.size + 1) #[.int .i64 li, .int .i64 cn, .map (some bw), .map (some bh)] (by omega)); have Mw := Mw2.keep (setRow_other w2 w.heap.size bw #[.int .i64 li, .int .i64 cn, .map (some bw), .map (some bh)] (by omega)); have Mh := Mh2.keep (setRow_other w2 w.heap.size bh #[.int .i64 li, .int .i64 cn, .map (some bw), .map (some bh)] (by omega)); have B3 := belowR (below_then HB.out B2) (Nat.le_refl w.heap.size) #[.int .i64 li, .int .i64 cn, .map (some bw), .map (some bh)]; have z3 : w2.heap.size ≤ (w2.setRow w.heap.size #[.int .i64 li, .int .i64 cn, .map (some bw), .map (some bh)]).heap.size := (by rw [setRow_size]; exact Nat.le_refl _); generalize hw3 : w2.setRow w.heap.size #[.int .i64 li, .int .i64 cn, .map (some bw), .map (some bh)] = w3 at *; have k30 : w3.cell? ⟨w.heap.size, 0, none⟩ = some (.int .i64 li) := X03.cell 0 rfl; have k31 : w3.cell? ⟨w.heap.size, 1, none⟩ = some (.int .i64 cn) := X03.cell 1 rfl)
      | (go_at_call 23; refine (MO _).mono ?_; rintro e w9 ⟨rfl, rfl⟩)
      | (refine wpList_load_row rfl 26 _ rfl w.heap.size rfl 26 _ (0, 0) _ X01 Try.underlying26 rfl Try.infoHs ?_)
      | (refine wpList_store_row rfl 26 _ _ rfl w.heap.size _ rfl rfl 26 _ X02 Try.infoHs rfl (sall _ _ _ _) ?_; rw [hw3])
      | (refine wpList_load_row rfl 26 _ rfl w.heap.size rfl 26 _ (0, 0) _ X03 Try.underlying26 rfl Try.infoHs ?_)
      | (refine wpList_store_row rfl 26 _ _ rfl (w.heap.size + 1) _ rfl rfl 26 _ X13 Try.infoHs rfl (sall _ _ _ _) ?_))
    refine bodyPost_ret (results_s3 rfl _ _ (w.heap.size + 1) _ rfl (load_hs (X13.row _))) rfl ?_
    refine ⟨bw, bh, rfl, ⟨Mw.keep (setRow_other _ _ _ _ (by omega)), Mh.keep (setRow_other _ _ _ _ (by omega)), hne, by omega, by omega⟩, belowR B3 (by omega) _⟩
  rw [if_neg (by omega)] at hr
  exact absurd hr hb
theorem ask_zero {li cn now : Int} (hb : askN li cn now = 0) : momD now = true ∧ 0 ≤ li ∧ 0 ≤ cn ∧ li < 524288 ∧ cn < 1048575 := by
  unfold askN at hb
  by_cases h1 : momD now = false ∨ li < 0 ∨ cn < 0
  · rw [if_pos h1] at hb; omega
  · rw [if_neg h1] at hb
    by_cases h2 : 524288 ≤ li ∨ 1048575 ≤ cn
    · rw [if_pos h2] at hb; omega
    · have h3 : momD now = true := by
        cases h : momD now
        · exact absurd (Or.inl h) h1
        · rfl
      exact ⟨h3, by omega, by omega, by omega, by omega⟩
set_option maxRecDepth 100000 in
set_option maxHeartbeats 8000000 in
theorem hask_ok (li cn : Int) (mw mh : Option Nat) (now x : Int) (W : List (Int × Wn)) (H : List (Int × Hv)) (w : World) (hW : WnM w mw W) (hH : HvM w mh H) (hl : W.length ≤ 100000) (hk : H.length ≤ 100000) (hx : -9223372036854775808 ≤ x ∧ x ≤ 9223372036854775807) (hb : askN li cn now = 0) :
   Calls Try.prog 6 #[hsV li cn mw mh, .int .i64 now, .int .i64 x] w fun e w' => ∃ bw bh, e = .returned (.tuple #[hsV li (cn + 1) (some bw) (some bh), .int .i64 (li * 1048576 + (cn + 1)), .int .i64 0]) ∧ New w.heap.size w' bw bh (putM W x ⟨li * 1048576 + (cn + 1), now⟩) H ∧ Below w.heap.size w w' := by
  have X0 := blk_new w 26 #[.int .i64 li, .int .i64 cn, .map mw, .map mh]
  have B0 := belowA w (.cells #[.int .i64 li, .int .i64 cn, .map mw, .map mh] 26)
  have s0 : (w.alloc (.cells #[.int .i64 li, .int .i64 cn, .map mw, .map mh] 26)).heap.size = w.heap.size + 1 := by simp
  generalize hw0 : w.alloc (.cells #[.int .i64 li, .int .i64 cn, .map mw, .map mh] 26) = w0 at *
  have X1 := blk_new w0 26 #[.int .i64 0, .int .i64 0, .map none, .map none]
  have B1 := belowA w0 (.cells #[.int .i64 0, .int .i64 0, .map none, .map none] 26)
  have s1 : (w0.alloc (.cells #[.int .i64 0, .int .i64 0, .map none, .map none] 26)).heap.size = w.heap.size + 1 + 1 := by simp [s0]
  have X01 := X0.below B1
  rw [s0] at X1
  generalize hw1 : w0.alloc (.cells #[.int .i64 0, .int .i64 0, .map none, .map none] 26) = w1 at *
  have C := hcopied_any li cn mw mh W H w1 ((hW.below B0).below B1) ((hH.below B0).below B1) hl hk
  have HB : Hid (Below w.heap.size w w1) := below_then B0 B1
  have z1 : w.heap.size + 1 + 1 ≤ w1.heap.size := by omega
  have MO := hmom_any now
  obtain ⟨hm, h1, h2, h3, h4⟩ := ask_zero hb
  rw [hm] at MO
  have HE : Hid (∀ (W' : World) (b : Nat), MapAt Wn.val W' b W → ∃ w', (Instr.mapUpdate 23 (.map (some b)) (.int .i64 x) (.agg #[.int .i64 (li * 1048576 + (cn + 1)), .int .i64 now])).run Try.prog W' = .ok () w' ∧ MapAt Wn.val w' b (putM W x ⟨li * 1048576 + (cn + 1), now⟩) ∧ But b W' w' ∧ w'.heap.size = W'.heap.size) := fun W' b h => h.store Try.underlying23 (by omega) x hx ⟨li * 1048576 + (cn + 1), now⟩
  unfold hsV New at *
  clear B0 B1 hW hH s1 hb hm
  go_enter Try.func6, Try.ntmps6
  go_wp2_with (first
    | (go_at_call 22; refine C.mono ?_; rintro e w2 ⟨bw, bh, rfl, Mw2, Mh2, hne, hbw, hbh, B2⟩; have z2 := B2.size; have X02 := X01.below B2; have X12 := X1.below B2; have X03 := X02.row #[.int .i64 li, .int .i64 cn, .map (some bw), .map (some bh)]; have X13 := X12.of_block (setRow_other w2 w.heap.size (w.heap.size + 1) #[.int .i64 li, .int .i64 cn, .map (some bw), .map (some bh)] (by omega)); have Mw := Mw2.keep (setRow_other w2 w.heap.size bw #[.int .i64 li, .int .i64 cn, .map (some bw), .map (some bh)] (by omega)); have Mh := Mh2.keep (setRow_other w2 w.heap.size bh #[.int .i64 li, .int .i64 cn, .map (some bw), .map (some bh)] (by omega)); have B3 := belowR (below_then HB.out B2) (Nat.le_refl w.heap.size) #[.int .i64 li, .int .i64 cn, .map (some bw), .map (some bh)]; have z3 : w2.heap.size ≤ (w2.setRow w.heap.size #[.int .i64 li, .int .i64 cn, .map (some bw), .map (some bh)]).heap.size := (by rw [setRow_size]; exact Nat.le_refl _); generalize hw3 : w2.setRow w.heap.size #[.int .i64 li, .int .i64 cn, .map (some bw), .map (some bh)] = w3 at *; have k30 : w3.cell? ⟨w.heap.size, 0, none⟩ = some (.int .i64 li) := X03.cell 0 rfl; have k31 : w3.cell? ⟨w.heap.size, 1, none⟩ = some (.int .i64 cn) := X03.cell 1 rfl; have f31 := X03.frozen 1; have X04 := X03.set 1 (.int .i64 (cn + 1)); have X14 := X13.other (a := ⟨w.heap.size, 1, none⟩) (by show _ ≠ w.heap.size; omega) (.int .i64 (cn + 1)); have Mw4 := Mw.keep (Below.heap_setCell w3 ⟨w.heap.size, 1, none⟩ (.int .i64 (cn + 1)) bw (by show _ ≠ w.heap.size; omega)); have Mh4 := Mh.keep (Below.heap_setCell w3 ⟨w.heap.size, 1, none⟩ (.int .i64 (cn + 1)) bh (by show _ ≠ w.heap.size; omega)); have B4 := B3.setCell (p := ⟨w.heap.size, 1, none⟩) (Nat.le_refl _) (.int .i64 (cn + 1)); generalize hw4 : w3.setCell ⟨w.heap.size, 1, none⟩ (.int .i64 (cn + 1)) = w4 at *; have k40 : w4.cell? ⟨w.heap.size, 0, none⟩ = some (.int .i64 li) := X04.cell 0 rfl; have k41 : w4.cell? ⟨w.heap.size, 1, none⟩ = some (.int .i64 (cn + 1)) := X04.cell 1 rfl; have k42 : w4.cell? ⟨w.heap.size, 2, none⟩ = some (.map (some bw)) := X04.cell 2 rfl; obtain ⟨wD, hrunD, MD, BD, sD⟩ := HE.out w4 bw Mw4; have X0D := X04.but BD (by omega); have X1D := X14.but BD (by omega); have MOD := Mh4.keep (BD.block bh Mh4.lt (fun e => hne e.symm)); clear sD)
    | (go_at_call 23; refine (MO _).mono ?_; rintro e w9 ⟨rfl, rfl⟩)
    | (refine wpList_load_row rfl 26 _ rfl w.heap.size rfl 26 _ (0, 0) _ X01 Try.underlying26 rfl Try.infoHs ?_)
    | (refine wpList_store_row rfl 26 _ _ rfl w.heap.size _ rfl rfl 26 _ X02 Try.infoHs rfl (sall _ _ _ _) ?_; rw [hw3])
    | (refine wpList_load_row rfl 26 _ rfl w.heap.size rfl 26 _ (0, 0) _ X0D Try.underlying26 rfl Try.infoHs ?_)
    | (refine wpList_store_row rfl 26 _ _ rfl (w.heap.size + 1) _ rfl rfl 26 _ X1D Try.infoHs rfl (sall _ _ _ _) ?_))
  refine bodyPost_ret (results_s3 rfl _ _ (w.heap.size + 1) _ rfl (load_hs (X1D.row _))) rfl ?_
  refine ⟨bw, bh, rfl, ⟨MD.keep (setRow_other _ _ _ _ (by omega)), MOD.keep (setRow_other _ _ _ _ (by omega)), hne, by omega, by omega⟩, belowR (B4.trans (BD.below (B := w.heap.size) (by have := B4.size; omega) (by omega))) (by omega) _⟩
/-- The life that a crash begins. -/
def newLife (li : Int) : Int := min (max li 0) 524287 + 1
set_option maxRecDepth 100000 in
set_option maxHeartbeats 8000000 in
theorem hcrash_any (li cn : Int) (mw mh : Option Nat) (w : World) (hli : -9223372036854775808 ≤ li ∧ li ≤ 9223372036854775807) :
   Calls Try.prog 14 #[hsV li cn mw mh] w fun e w' => e = .returned (hsV (newLife li) 0 none none) ∧ Below w.heap.size w w' := by
  have X0 := blk_new w 26 #[.int .i64 li, .int .i64 cn, .map mw, .map mh]
  have B0 := belowA w (.cells #[.int .i64 li, .int .i64 cn, .map mw, .map mh] 26)
  have s0 : (w.alloc (.cells #[.int .i64 li, .int .i64 cn, .map mw, .map mh] 26)).heap.size = w.heap.size + 1 := by simp
  generalize hw0 : w.alloc (.cells #[.int .i64 li, .int .i64 cn, .map mw, .map mh] 26) = w0 at *
  have X1 := blk_new w0 26 #[.int .i64 0, .int .i64 0, .map none, .map none]
  have B1 := belowA w0 (.cells #[.int .i64 0, .int .i64 0, .map none, .map none] 26)
  have s1 : (w0.alloc (.cells #[.int .i64 0, .int .i64 0, .map none, .map none] 26)).heap.size = w.heap.size + 1 + 1 := by simp [s0]
  have X01 := X0.below B1
  rw [s0] at X1
  generalize hw1 : w0.alloc (.cells #[.int .i64 0, .int .i64 0, .map none, .map none] 26) = w1 at *
  have HB : Hid (Below w.heap.size w w1) := below_then B0 B1
  have k0 : w1.cell? ⟨w.heap.size, 0, none⟩ = some (.int .i64 li) := X01.cell 0 rfl
  unfold hsV at *
  clear B0 B1 s1
  by_cases h1 : li < 0
  · have e : newLife li = 1 := by unfold newLife; omega
    rw [e]
    clear e
    go_enter Try.func14, Try.ntmps14
    go_wp2_with (first
      | (refine wpList_store_row rfl 26 _ _ rfl (w.heap.size + 1) _ rfl rfl 26 _ X1 Try.infoHs rfl (sall _ _ _ _) ?_))
    refine bodyPost_ret (results_cell_row rfl _ _ (w.heap.size + 1) 26 _ _ _ rfl (X1.row _) Try.underlying26 rfl Try.infoHs) rfl ?_
    exact ⟨rfl, belowR HB.out (by omega) _⟩
  by_cases h2 : 524287 < li
  · have e : newLife li = 524288 := by unfold newLife; omega
    rw [e]
    clear e
    go_enter Try.func14, Try.ntmps14
    go_wp2_with (first
      | (refine wpList_store_row rfl 26 _ _ rfl (w.heap.size + 1) _ rfl rfl 26 _ X1 Try.infoHs rfl (sall _ _ _ _) ?_))
    refine bodyPost_ret (results_cell_row rfl _ _ (w.heap.size + 1) 26 _ _ _ rfl (X1.row _) Try.underlying26 rfl Try.infoHs) rfl ?_
    exact ⟨rfl, belowR HB.out (by omega) _⟩
  · have e : newLife li = li + 1 := by unfold newLife; omega
    rw [e]
    clear e
    go_enter Try.func14, Try.ntmps14
    go_wp2_with (first
      | (refine wpList_store_row rfl 26 _ _ rfl (w.heap.size + 1) _ rfl rfl 26 _ X1 Try.infoHs rfl (sall _ _ _ _) ?_))
    refine bodyPost_ret (results_cell_row rfl _ _ (w.heap.size + 1) 26 _ _ _ rfl (X1.row _) Try.underlying26 rfl Try.infoHs) rfl ?_
    exact ⟨rfl, belowR HB.out (by omega) _⟩
end Go.Proofs.Ytifbnnffejamaaa
