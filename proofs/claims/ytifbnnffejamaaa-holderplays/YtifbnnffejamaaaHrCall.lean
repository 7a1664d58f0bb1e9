/- The document's calls on its rows: Denied, Let, Crash. Written by tools/genhref.py. -/
import Derived.Test.YtifbnnffejamaaaHrRow
namespace Go.Proofs.Ytifbnnffejamaaa
open Go.ChangeShapes Go.WideShapes Go.ChangeAt Go.RowKit Go.Maps
/-- A state of the document's that a call hands out. -/
def Ref (w : World) (vw vh : Value) (W : List (Int × Wn)) (H : List (Int × Hv)) : Prop := WnR w 0 vw W ∧ HvR w 0 vh H
theorem Ref.below {w w' : World} {vw vh : Value} {W : List (Int × Wn)} {H : List (Int × Hv)} (h : Ref w vw vh W H) (hb : Below w.heap.size w w') : Ref w' vw vh W H := ⟨h.1.below hb, h.2.below hb⟩
theorem krow_lt {w w' : World} {B : Nat} {T : TypeId} {k : Nat} {v : Value} {R : List (List Int)} (h : KRow w B T k v R) {g : Nat} (hg : B ≤ g → g < w.heap.size → w'.heap[g]? = w.heap[g]?) (ho : ∀ j, v.ownBlock = some j → j = g) : KRow w' B T k v R := by
  refine ⟨⟨h.own.1, ?_⟩, h.each⟩
  rcases h.own.2 with h2 | ⟨g', cap, cur, h3, h4, h5, h6⟩
  · exact Or.inl h2
  · have e := ho g' (by rw [h3]; rfl)
    subst e
    exact Or.inr ⟨g', cap, cur, h3, h4, (hg h4 (Array.getElem?_eq_some_iff.1 h5).1).trans h5, h6⟩
set_option maxRecDepth 100000 in
set_option maxHeartbeats 8000000 in
theorem rden_bad (li cn x num : Int) (ao bo : Option Addr) (c d : Nat) (W : List (Int × Wn)) (H : List (Int × Hv)) (w : World) (hW : WnR w 0 (.slice ao W.length c) W) (hH : HvR w 0 (.slice bo H.length d) H) (hl : W.length ≤ 100000) (_hk : H.length ≤ 100000) (hb : denN W x num ≠ 0) :
   Calls Try.prog 11 #[rsV li cn (.slice ao W.length c) (.slice bo H.length d), .int .i64 x, .int .i64 num] w fun e w' => ∃ vw vh, e = .returned (.tuple #[rsV li cn vw vh, .int .i64 (denN W x num)]) ∧ Ref w' vw vh W H ∧ Below w.heap.size w w' := by
  have X0 := blk_new w 30 #[.int .i64 li, .int .i64 cn, .slice ao W.length c, .slice bo H.length d]
  have B0 := belowA w (.cells #[.int .i64 li, .int .i64 cn, .slice ao W.length c, .slice bo H.length d] 30)
  have s0 : (w.alloc (.cells #[.int .i64 li, .int .i64 cn, .slice ao W.length c, .slice bo H.length d] 30)).heap.size = w.heap.size + 1 := by simp
  generalize hw0 : w.alloc (.cells #[.int .i64 li, .int .i64 cn, .slice ao W.length c, .slice bo H.length d] 30) = w0 at *
  have X1 := blk_new w0 30 #[.int .i64 0, .int .i64 0, .slice none 0 0, .slice none 0 0]
  have B1 := belowA w0 (.cells #[.int .i64 0, .int .i64 0, .slice none 0 0, .slice none 0 0] 30)
  have s1 : (w0.alloc (.cells #[.int .i64 0, .int .i64 0, .slice none 0 0, .slice none 0 0] 30)).heap.size = w.heap.size + 1 + 1 := by simp [s0]
  have X01 := X0.below B1
  rw [s0] at X1
  generalize hw1 : w0.alloc (.cells #[.int .i64 0, .int .i64 0, .slice none 0 0, .slice none 0 0] 30) = w1 at *
  have HB : Hid (Below w.heap.size w w1) := below_then B0 B1
  have z1 : w.heap.size + 1 + 1 ≤ w1.heap.size := by omega
  have HRF : Hid (∀ W', Below w.heap.size w W' → Ref W' (.slice ao W.length c) (.slice bo H.length d) W H) := fun W' h => ⟨hW.below h, hH.below h⟩
  have C1 := rWanted_any li cn x ao bo c H.length d 0 W w1 ((hW.below B0).below B1) hl
  have HC2 : Hid (∀ W', Below w.heap.size w W' → _) := fun W' h => runwant_any li cn x ao bo c H.length d 0 W W' (hW.below h) hl
  have HV : Hid (∀ (W' : World) (a b c : Int), _) := tvar 77
  unfold denN at *
  generalize getM W x = o at *
  unfold rsV at *
  clear B0 B1 hW hH s1 HC2
  rcases o with _ | h
  · obtain ⟨p, q, r, hp⟩ : ∃ p q r : Int, Wn.el x none = .agg #[.int .i64 p, .int .i64 q, .int .i64 r] := ⟨0, 0, 0, rfl⟩
    simp only [Option.isSome_none, hp] at C1
    clear hb
    go_enter Try.func11, Try.ntmps11
    go_wp2_with (first
      | (go_at_call 28; refine C1.mono ?_; rintro e w2 ⟨rfl, B2⟩; obtain ⟨XA, XB, BBB, zB⟩ := HV.out w2 p q r; generalize hwA : w2.alloc (.cells #[.int .i64 0, .int .i64 0, .int .i64 0] 77) = wA at *; generalize hwB : wA.setRow w2.heap.size #[.int .i64 p, .int .i64 q, .int .i64 r] = wB at *; have z2 := B2.size; have X0B := (X01.below B2).below BBB; have X1B := (X1.below B2).below BBB; have kB0 : wB.cell? ⟨w2.heap.size, 0, none⟩ = some (.int .i64 p) := XB.cell 0 rfl; have kB1 : wB.cell? ⟨w2.heap.size, 1, none⟩ = some (.int .i64 q) := XB.cell 1 rfl; have BBw := below_then HB.out (below_then B2 BBB))
      | (refine wpList_load_row rfl 30 _ rfl w.heap.size rfl 30 _ (0, 0) _ X01 Try.underlying30 rfl Try.infoRsH ?_)
      | (refine wpList_store_row rfl 77 _ _ rfl w2.heap.size _ rfl rfl 77 _ XA Try.infoRWnS rfl (tall _ _ _) ?_; rw [hwB])
      | (refine wpList_load_row rfl 30 _ rfl w.heap.size rfl 30 _ (0, 0) _ X0B Try.underlying30 rfl Try.infoRsH ?_)
      | (refine wpList_store_row rfl 30 _ _ rfl (w.heap.size + 1) _ rfl rfl 30 _ X1B Try.infoRsH rfl (rall _ _ _ _ _ _ _ _) ?_))
    refine bodyPost_ret (results_s2 rfl _ _ (w.heap.size + 1) _ rfl (load_rs (X1B.row _))) rfl ?_
    have BF := belowR BBw (show w.heap.size ≤ w.heap.size + 1 by omega) #[.int .i64 li, .int .i64 cn, .slice ao W.length c, .slice bo H.length d]
    exact ⟨.slice ao W.length c, .slice bo H.length d, rfl, HRF.out _ BF, BF⟩
  · obtain ⟨q, r⟩ := h
    have hne0 : ¬ q = num := fun e => hb (if_pos e)
    simp only [if_neg hne0]
    simp only [Option.isSome_some, Wn.el] at C1
    clear hb
    go_enter Try.func11, Try.ntmps11
    go_wp2_with (first
      | (go_at_call 28; refine C1.mono ?_; rintro e w2 ⟨rfl, B2⟩; obtain ⟨XA, XB, BBB, zB⟩ := HV.out w2 x q r; generalize hwA : w2.alloc (.cells #[.int .i64 0, .int .i64 0, .int .i64 0] 77) = wA at *; generalize hwB : wA.setRow w2.heap.size #[.int .i64 x, .int .i64 q, .int .i64 r] = wB at *; have z2 := B2.size; have X0B := (X01.below B2).below BBB; have X1B := (X1.below B2).below BBB; have kB0 : wB.cell? ⟨w2.heap.size, 0, none⟩ = some (.int .i64 x) := XB.cell 0 rfl; have kB1 : wB.cell? ⟨w2.heap.size, 1, none⟩ = some (.int .i64 q) := XB.cell 1 rfl; have BBw := below_then HB.out (below_then B2 BBB))
      | (refine wpList_load_row rfl 30 _ rfl w.heap.size rfl 30 _ (0, 0) _ X01 Try.underlying30 rfl Try.infoRsH ?_)
      | (refine wpList_store_row rfl 77 _ _ rfl w2.heap.size _ rfl rfl 77 _ XA Try.infoRWnS rfl (tall _ _ _) ?_; rw [hwB])
      | (refine wpList_load_row rfl 30 _ rfl w.heap.size rfl 30 _ (0, 0) _ X0B Try.underlying30 rfl Try.infoRsH ?_)
      | (refine wpList_store_row rfl 30 _ _ rfl (w.heap.size + 1) _ rfl rfl 30 _ X1B Try.infoRsH rfl (rall _ _ _ _ _ _ _ _) ?_))
    refine bodyPost_ret (results_s2 rfl _ _ (w.heap.size + 1) _ rfl (load_rs (X1B.row _))) rfl ?_
    have BF := belowR BBw (show w.heap.size ≤ w.heap.size + 1 by omega) #[.int .i64 li, .int .i64 cn, .slice ao W.length c, .slice bo H.length d]
    exact ⟨.slice ao W.length c, .slice bo H.length d, rfl, HRF.out _ BF, BF⟩
set_option maxRecDepth 100000 in
set_option maxHeartbeats 8000000 in
theorem rden_ok (li cn x num : Int) (ao bo : Option Addr) (c d : Nat) (W : List (Int × Wn)) (H : List (Int × Hv)) (w : World) (hW : WnR w 0 (.slice ao W.length c) W) (hH : HvR w 0 (.slice bo H.length d) H) (hl : W.length ≤ 100000) (_hk : H.length ≤ 100000) (hb : denN W x num = 0) :
   Calls Try.prog 11 #[rsV li cn (.slice ao W.length c) (.slice bo H.length d), .int .i64 x, .int .i64 num] w fun e w' => ∃ vw vh, e = .returned (.tuple #[rsV li cn vw vh, .int .i64 0]) ∧ Ref w' vw vh (delM W x) H ∧ Below w.heap.size w w' := by
  have X0 := blk_new w 30 #[.int .i64 li, .int .i64 cn, .slice ao W.length c, .slice bo H.length d]
  have B0 := belowA w (.cells #[.int .i64 li, .int .i64 cn, .slice ao W.length c, .slice bo H.length d] 30)
  have s0 : (w.alloc (.cells #[.int .i64 li, .int .i64 cn, .slice ao W.length c, .slice bo H.length d] 30)).heap.size = w.heap.size + 1 := by simp
  generalize hw0 : w.alloc (.cells #[.int .i64 li, .int .i64 cn, .slice ao W.length c, .slice bo H.length d] 30) = w0 at *
  have X1 := blk_new w0 30 #[.int .i64 0, .int .i64 0, .slice none 0 0, .slice none 0 0]
  have B1 := belowA w0 (.cells #[.int .i64 0, .int .i64 0, .slice none 0 0, .slice none 0 0] 30)
  have s1 : (w0.alloc (.cells #[.int .i64 0, .int .i64 0, .slice none 0 0, .slice none 0 0] 30)).heap.size = w.heap.size + 1 + 1 := by simp [s0]
  have X01 := X0.below B1
  rw [s0] at X1
  generalize hw1 : w0.alloc (.cells #[.int .i64 0, .int .i64 0, .slice none 0 0, .slice none 0 0] 30) = w1 at *
  have HB : Hid (Below w.heap.size w w1) := below_then B0 B1
  have z1 : w.heap.size + 1 + 1 ≤ w1.heap.size := by omega
  have HRF : Hid (∀ W', Below w.heap.size w W' → Ref W' (.slice ao W.length c) (.slice bo H.length d) W H) := fun W' h => ⟨hW.below h, hH.below h⟩
  have C1 := rWanted_any li cn x ao bo c H.length d 0 W w1 ((hW.below B0).below B1) hl
  have HC2 : Hid (∀ W', Below w.heap.size w W' → _) := fun W' h => runwant_any li cn x ao bo c H.length d 0 W W' (hW.below h) hl
  have HV : Hid (∀ (W' : World) (a b c : Int), _) := tvar 77
  unfold denN at *
  generalize getM W x = o at *
  unfold rsV at *
  clear B0 B1 hW hH s1
  rcases o with _ | h
  · exact absurd hb (show ¬ (8 : Int) = 0 by decide)
  · obtain ⟨q, r⟩ := h
    have hne0 : q = num := Decidable.of_not_not fun e => by simp only [if_neg e] at hb; omega
    subst hne0
    simp only [Option.isSome_some, Wn.el] at C1
    clear hb
    go_enter Try.func11, Try.ntmps11
    go_wp2_with (first
      | (go_at_call 28; refine C1.mono ?_; rintro e w2 ⟨rfl, B2⟩; obtain ⟨XA, XB, BBB, zB⟩ := HV.out w2 x q r; generalize hwA : w2.alloc (.cells #[.int .i64 0, .int .i64 0, .int .i64 0] 77) = wA at *; generalize hwB : wA.setRow w2.heap.size #[.int .i64 x, .int .i64 q, .int .i64 r] = wB at *; have z2 := B2.size; have X0B := (X01.below B2).below BBB; have X1B := (X1.below B2).below BBB; have kB0 : wB.cell? ⟨w2.heap.size, 0, none⟩ = some (.int .i64 x) := XB.cell 0 rfl; have kB1 : wB.cell? ⟨w2.heap.size, 1, none⟩ = some (.int .i64 q) := XB.cell 1 rfl; have BBw := below_then HB.out (below_then B2 BBB); have C2 := HC2.out wB BBw)
      | (refine wpList_load_row rfl 30 _ rfl w.heap.size rfl 30 _ (0, 0) _ X01 Try.underlying30 rfl Try.infoRsH ?_)
      | (refine wpList_store_row rfl 77 _ _ rfl w2.heap.size _ rfl rfl 77 _ XA Try.infoRWnS rfl (tall _ _ _) ?_; rw [hwB])
      | (refine wpList_load_row rfl 30 _ rfl w.heap.size rfl 30 _ (0, 0) _ X0B Try.underlying30 rfl Try.infoRsH ?_)
      | (go_at_call 25; refine C2.mono ?_; rintro e w5 ⟨v5, rfl, O5, B5⟩; have z5 := B5.size; obtain ⟨a5, c5, e5⟩ := O5.shape; obtain ⟨n5, hn5⟩ : ∃ n5, n5 = (delM W x).length := ⟨_, rfl⟩; rw [← hn5] at e5; subst e5; clear hn5; have X15 := X1B.below B5; have XB5 := XB.below B5; have k50 : w5.cell? ⟨w2.heap.size, 1, none⟩ = some (.int .i64 q) := XB5.cell 1 rfl)
      | (refine wpList_store_row rfl 30 _ _ rfl (w.heap.size + 1) _ rfl rfl 30 _ X15 Try.infoRsH rfl (rall _ _ _ _ _ _ _ _) ?_))
    refine bodyPost_ret (results_s2 rfl _ _ (w.heap.size + 1) _ rfl (load_rs (X15.row _))) rfl ?_
    have OLDW := HRF.out _ (belowR (below_then BBw B5) (show w.heap.size ≤ w.heap.size + 1 by omega) #[.int .i64 li, .int .i64 cn, .slice a5 n5 c5, .slice bo H.length d])
    exact ⟨.slice a5 n5 c5, .slice bo H.length d, rfl, ⟨KRow.base (KRow.of_block O5 (fun g hg _ => setRow_other _ _ _ _ (by omega))) (by omega), (OLDW.2)⟩, belowR (below_then BBw B5) (by omega) _⟩
set_option maxRecDepth 100000 in
set_option maxHeartbeats 8000000 in
theorem rlet_none (li cn x : Int) (ao bo : Option Addr) (c d : Nat) (W : List (Int × Wn)) (H : List (Int × Hv)) (w : World) (hW : WnR w 0 (.slice ao W.length c) W) (hH : HvR w 0 (.slice bo H.length d) H) (_hl : W.length ≤ 100000) (hk : H.length ≤ 100000) (hb : getM H x = none) :
   Calls Try.prog 13 #[rsV li cn (.slice ao W.length c) (.slice bo H.length d), .int .i64 x] w fun e w' => ∃ vw vh, e = .returned (.tuple #[rsV li cn vw vh, .int .i64 0, .int .i64 8]) ∧ Ref w' vw vh W H ∧ Below w.heap.size w w' := by
  have X0 := blk_new w 30 #[.int .i64 li, .int .i64 cn, .slice ao W.length c, .slice bo H.length d]
  have B0 := belowA w (.cells #[.int .i64 li, .int .i64 cn, .slice ao W.length c, .slice bo H.length d] 30)
  have s0 : (w.alloc (.cells #[.int .i64 li, .int .i64 cn, .slice ao W.length c, .slice bo H.length d] 30)).heap.size = w.heap.size + 1 := by simp
  generalize hw0 : w.alloc (.cells #[.int .i64 li, .int .i64 cn, .slice ao W.length c, .slice bo H.length d] 30) = w0 at *
  have X1 := blk_new w0 30 #[.int .i64 0, .int .i64 0, .slice none 0 0, .slice none 0 0]
  have B1 := belowA w0 (.cells #[.int .i64 0, .int .i64 0, .slice none 0 0, .slice none 0 0] 30)
  have s1 : (w0.alloc (.cells #[.int .i64 0, .int .i64 0, .slice none 0 0, .slice none 0 0] 30)).heap.size = w.heap.size + 1 + 1 := by simp [s0]
  have X01 := X0.below B1
  rw [s0] at X1
  generalize hw1 : w0.alloc (.cells #[.int .i64 0, .int .i64 0, .slice none 0 0, .slice none 0 0] 30) = w1 at *
  have HB : Hid (Below w.heap.size w w1) := below_then B0 B1
  have z1 : w.heap.size + 1 + 1 ≤ w1.heap.size := by omega
  have HRF : Hid (∀ W', Below w.heap.size w W' → Ref W' (.slice ao W.length c) (.slice bo H.length d) W H) := fun W' h => ⟨hW.below h, hH.below h⟩
  have C1 := rHad_any li cn x bo ao d W.length c 0 H w1 ((hH.below B0).below B1) hk
  have HC2 : Hid (∀ W', Below w.heap.size w W' → _) := fun W' h => runhave_any li cn x bo ao d W.length c 0 H W' (hH.below h) hk
  have HV : Hid (∀ (W' : World) (a b c : Int), _) := tvar 85
  rw [hb] at C1
  unfold rsV at *
  clear B0 B1 hW hH s1 HC2 hb
  obtain ⟨p, q, r, hp⟩ : ∃ p q r : Int, Hv.el x none = .agg #[.int .i64 p, .int .i64 q, .int .i64 r] := ⟨0, 0, 0, rfl⟩
  simp only [Option.isSome_none, hp] at C1
  go_enter Try.func13, Try.ntmps13
  go_wp2_with (first
    | (go_at_call 29; refine C1.mono ?_; rintro e w2 ⟨rfl, B2⟩; obtain ⟨XA, XB, BBB, zB⟩ := HV.out w2 p q r; generalize hwA : w2.alloc (.cells #[.int .i64 0, .int .i64 0, .int .i64 0] 85) = wA at *; generalize hwB : wA.setRow w2.heap.size #[.int .i64 p, .int .i64 q, .int .i64 r] = wB at *; have z2 := B2.size; have X0B := (X01.below B2).below BBB; have X1B := (X1.below B2).below BBB; have kB0 : wB.cell? ⟨w2.heap.size, 0, none⟩ = some (.int .i64 p) := XB.cell 0 rfl; have kB1 : wB.cell? ⟨w2.heap.size, 1, none⟩ = some (.int .i64 q) := XB.cell 1 rfl; have BBw := below_then HB.out (below_then B2 BBB))
    | (refine wpList_load_row rfl 30 _ rfl w.heap.size rfl 30 _ (0, 0) _ X01 Try.underlying30 rfl Try.infoRsH ?_)
    | (refine wpList_store_row rfl 85 _ _ rfl w2.heap.size _ rfl rfl 85 _ XA Try.infoRHvS rfl (tall _ _ _) ?_; rw [hwB])
    | (refine wpList_load_row rfl 30 _ rfl w.heap.size rfl 30 _ (0, 0) _ X0B Try.underlying30 rfl Try.infoRsH ?_)
    | (refine wpList_store_row rfl 30 _ _ rfl (w.heap.size + 1) _ rfl rfl 30 _ X1B Try.infoRsH rfl (rall _ _ _ _ _ _ _ _) ?_))
  refine bodyPost_ret (results_s3 rfl _ _ (w.heap.size + 1) _ rfl (load_rs (X1B.row _))) rfl ?_
  have BF := belowR BBw (show w.heap.size ≤ w.heap.size + 1 by omega) #[.int .i64 li, .int .i64 cn, .slice ao W.length c, .slice bo H.length d]
  exact ⟨.slice ao W.length c, .slice bo H.length d, rfl, HRF.out _ BF, BF⟩
set_option maxRecDepth 100000 in
set_option maxHeartbeats 8000000 in
theorem rlet_some (li cn x : Int) (ao bo : Option Addr) (c d : Nat) (W : List (Int × Wn)) (H : List (Int × Hv)) (w : World) (hW : WnR w 0 (.slice ao W.length c) W) (hH : HvR w 0 (.slice bo H.length d) H) (_hl : W.length ≤ 100000) (hk : H.length ≤ 100000) (h : Hv) (hb : getM H x = some h) :
   Calls Try.prog 13 #[rsV li cn (.slice ao W.length c) (.slice bo H.length d), .int .i64 x] w fun e w' => ∃ vw vh, e = .returned (.tuple #[rsV li cn vw vh, .int .i64 h.epo, .int .i64 0]) ∧ Ref w' vw vh W (delM H x) ∧ Below w.heap.size w w' := by
  have X0 := blk_new w 30 #[.int .i64 li, .int .i64 cn, .slice ao W.length c, .slice bo H.length d]
  have B0 := belowA w (.cells #[.int .i64 li, .int .i64 cn, .slice ao W.length c, .slice bo H.length d] 30)
  have s0 : (w.alloc (.cells #[.int .i64 li, .int .i64 cn, .slice ao W.length c, .slice bo H.length d] 30)).heap.size = w.heap.size + 1 := by simp
  generalize hw0 : w.alloc (.cells #[.int .i64 li, .int .i64 cn, .slice ao W.length c, .slice bo H.length d] 30) = w0 at *
  have X1 := blk_new w0 30 #[.int .i64 0, .int .i64 0, .slice none 0 0, .slice none 0 0]
  have B1 := belowA w0 (.cells #[.int .i64 0, .int .i64 0, .slice none 0 0, .slice none 0 0] 30)
  have s1 : (w0.alloc (.cells #[.int .i64 0, .int .i64 0, .slice none 0 0, .slice none 0 0] 30)).heap.size = w.heap.size + 1 + 1 := by simp [s0]
  have X01 := X0.below B1
  rw [s0] at X1
  generalize hw1 : w0.alloc (.cells #[.int .i64 0, .int .i64 0, .slice none 0 0, .slice none 0 0] 30) = w1 at *
  have HB : Hid (Below w.heap.size w w1) := below_then B0 B1
  have z1 : w.heap.size + 1 + 1 ≤ w1.heap.size := by omega
  have HRF : Hid (∀ W', Below w.heap.size w W' → Ref W' (.slice ao W.length c) (.slice bo H.length d) W H) := fun W' h => ⟨hW.below h, hH.below h⟩
  have C1 := rHad_any li cn x bo ao d W.length c 0 H w1 ((hH.below B0).below B1) hk
  have HC2 : Hid (∀ W', Below w.heap.size w W' → _) := fun W' h => runhave_any li cn x bo ao d W.length c 0 H W' (hH.below h) hk
  have HV : Hid (∀ (W' : World) (a b c : Int), _) := tvar 85
  rw [hb] at C1
  obtain ⟨q, r⟩ := h
  unfold rsV at *
  clear B0 B1 hW hH s1 hb
  simp only [Option.isSome_some, Hv.el] at C1 ⊢
  go_enter Try.func13, Try.ntmps13
  go_wp2_with (first
    | (go_at_call 29; refine C1.mono ?_; rintro e w2 ⟨rfl, B2⟩; obtain ⟨XA, XB, BBB, zB⟩ := HV.out w2 x q r; generalize hwA : w2.alloc (.cells #[.int .i64 0, .int .i64 0, .int .i64 0] 85) = wA at *; generalize hwB : wA.setRow w2.heap.size #[.int .i64 x, .int .i64 q, .int .i64 r] = wB at *; have z2 := B2.size; have X0B := (X01.below B2).below BBB; have X1B := (X1.below B2).below BBB; have kB0 : wB.cell? ⟨w2.heap.size, 0, none⟩ = some (.int .i64 x) := XB.cell 0 rfl; have kB1 : wB.cell? ⟨w2.heap.size, 1, none⟩ = some (.int .i64 q) := XB.cell 1 rfl; have BBw := below_then HB.out (below_then B2 BBB))
    | (refine wpList_load_row rfl 30 _ rfl w.heap.size rfl 30 _ (0, 0) _ X01 Try.underlying30 rfl Try.infoRsH ?_)
    | (refine wpList_store_row rfl 85 _ _ rfl w2.heap.size _ rfl rfl 85 _ XA Try.infoRHvS rfl (tall _ _ _) ?_; rw [hwB]))
  have x0 : wB.cell? ⟨w.heap.size, 0, none⟩ = some (.int .i64 li) := X0B.cell 0 rfl
  have x1 : wB.cell? ⟨w.heap.size, 1, none⟩ = some (.int .i64 cn) := X0B.cell 1 rfl
  have x2 : wB.cell? ⟨w.heap.size, 2, none⟩ = some (.slice ao W.length c) := X0B.cell 2 rfl
  have x3 : wB.cell? ⟨w.heap.size, 3, none⟩ = some (.slice bo H.length d) := X0B.cell 3 rfl
  go_region_with (go_at_call 30; refine (HC2.out _ (by exact BBw.drew)).mono ?_; rintro e w5 ⟨v5, rfl, O5, B5⟩; have z5 := B5.size; obtain ⟨a5, c5, e5⟩ := O5.shape; obtain ⟨n5, hn5⟩ : ∃ n5, n5 = (delM H x).length := ⟨_, rfl⟩; rw [← hn5] at e5; subst e5; clear hn5; have X15 := Blk.below (w := wB.drew) (by exact X1B) B5; have XB5 := Blk.below (w := wB.drew) (by exact XB) B5; have k50 : w5.cell? ⟨w2.heap.size, 1, none⟩ = some (.int .i64 q) := XB5.cell 1 rfl; have y0 : w5.cell? ⟨w.heap.size + 1, 0, none⟩ = some (.int .i64 0) := X15.cell 0 rfl; have y1 : w5.cell? ⟨w.heap.size + 1, 1, none⟩ = some (.int .i64 0) := X15.cell 1 rfl; have y2 : w5.cell? ⟨w.heap.size + 1, 2, none⟩ = some (.slice none 0 0) := X15.cell 2 rfl; have y3 : w5.cell? ⟨w.heap.size + 1, 3, none⟩ = some (.slice none 0 0) := X15.cell 3 rfl; have g0 := X15.frozen 0; have g1 := X15.frozen 1; have g2 := X15.frozen 2; have g3 := X15.frozen 3)
  all_goals
    have zd : wB.drew.heap.size = wB.heap.size := rfl
    have X17 := (((X15.set 0 (.int .i64 li)).set 1 (.int .i64 cn)).set 2 (.slice ao W.length c)).set 3 (.slice a5 n5 c5)
    have BF : Below w.heap.size w ((((w5.setCell ⟨w.heap.size + 1, 0, none⟩ (.int .i64 li)).setCell ⟨w.heap.size + 1, 1, none⟩ (.int .i64 cn)).setCell ⟨w.heap.size + 1, 2, none⟩ (.slice ao W.length c)).setCell ⟨w.heap.size + 1, 3, none⟩ (.slice a5 n5 c5)) := ((((below_then BBw.drew B5).setCell (p := ⟨w.heap.size + 1, 0, none⟩) (by show w.heap.size ≤ w.heap.size + 1; omega) (.int .i64 li)).setCell (p := ⟨w.heap.size + 1, 1, none⟩) (by show w.heap.size ≤ w.heap.size + 1; omega) (.int .i64 cn)).setCell (p := ⟨w.heap.size + 1, 2, none⟩) (by show w.heap.size ≤ w.heap.size + 1; omega) (.slice ao W.length c)).setCell (p := ⟨w.heap.size + 1, 3, none⟩) (by show w.heap.size ≤ w.heap.size + 1; omega) (.slice a5 n5 c5)
    have OLDW := HRF.out _ BF
    have O7 := KRow.of_block O5 (w' := (((w5.setCell ⟨w.heap.size + 1, 0, none⟩ (.int .i64 li)).setCell ⟨w.heap.size + 1, 1, none⟩ (.int .i64 cn)).setCell ⟨w.heap.size + 1, 2, none⟩ (.slice ao W.length c)).setCell ⟨w.heap.size + 1, 3, none⟩ (.slice a5 n5 c5)) (fun g hg _ => by rw [Below.heap_setCell _ _ _ _ (show g ≠ w.heap.size + 1 by omega), Below.heap_setCell _ _ _ _ (show g ≠ w.heap.size + 1 by omega), Below.heap_setCell _ _ _ _ (show g ≠ w.heap.size + 1 by omega), Below.heap_setCell _ _ _ _ (show g ≠ w.heap.size + 1 by omega)])
    generalize hw7 : (((w5.setCell ⟨w.heap.size + 1, 0, none⟩ (.int .i64 li)).setCell ⟨w.heap.size + 1, 1, none⟩ (.int .i64 cn)).setCell ⟨w.heap.size + 1, 2, none⟩ (.slice ao W.length c)).setCell ⟨w.heap.size + 1, 3, none⟩ (.slice a5 n5 c5) = w7 at *
    clear x0 x1 x2 x3 y0 y1 y2 y3 g0 g1 g2 g3
    go_wp2_with fail
    refine bodyPost_ret (results_s3 rfl _ _ (w.heap.size + 1) _ rfl (load_rs X17)) rfl ?_
    exact ⟨.slice ao W.length c, .slice a5 n5 c5, rfl, ⟨OLDW.1, KRow.base O7 (by omega)⟩, BF⟩
set_option maxRecDepth 100000 in
set_option maxHeartbeats 8000000 in
theorem rcrash_any (li cn : Int) (ao bo : Option Addr) (c d m n : Nat) (w : World) (hli : -9223372036854775808 ≤ li ∧ li ≤ 9223372036854775807) :
   Calls Try.prog 15 #[rsV li cn (.slice ao m c) (.slice bo n d)] w fun e w' => e = .returned (rsV (newLife li) 0 (.slice none 0 0) (.slice none 0 0)) ∧ Below w.heap.size w w' := by
  have X0 := blk_new w 30 #[.int .i64 li, .int .i64 cn, .slice ao m c, .slice bo n d]
  have B0 := belowA w (.cells #[.int .i64 li, .int .i64 cn, .slice ao m c, .slice bo n d] 30)
  have s0 : (w.alloc (.cells #[.int .i64 li, .int .i64 cn, .slice ao m c, .slice bo n d] 30)).heap.size = w.heap.size + 1 := by simp
  generalize hw0 : w.alloc (.cells #[.int .i64 li, .int .i64 cn, .slice ao m c, .slice bo n d] 30) = w0 at *
  have X1 := blk_new w0 30 #[.int .i64 0, .int .i64 0, .slice none 0 0, .slice none 0 0]
  have B1 := belowA w0 (.cells #[.int .i64 0, .int .i64 0, .slice none 0 0, .slice none 0 0] 30)
  have s1 : (w0.alloc (.cells #[.int .i64 0, .int .i64 0, .slice none 0 0, .slice none 0 0] 30)).heap.size = w.heap.size + 1 + 1 := by simp [s0]
  have X01 := X0.below B1
  rw [s0] at X1
  generalize hw1 : w0.alloc (.cells #[.int .i64 0, .int .i64 0, .slice none 0 0, .slice none 0 0] 30) = w1 at *
  have HB : Hid (Below w.heap.size w w1) := below_then B0 B1
  have z1 : w.heap.size + 1 + 1 ≤ w1.heap.size := by omega
  have k0 : w1.cell? ⟨w.heap.size, 0, none⟩ = some (.int .i64 li) := X01.cell 0 rfl
  unfold rsV at *
  clear B0 B1 s1
  by_cases h1 : li < 0
  · have e : newLife li = 1 := by unfold newLife; omega
    rw [e]
    clear e
    go_enter Try.func15, Try.ntmps15
    go_wp2_with (refine wpList_store_row rfl 30 _ _ rfl (w.heap.size + 1) _ rfl rfl 30 _ X1 Try.infoRsH rfl (rall _ _ _ _ _ _ _ _) ?_)
    refine bodyPost_ret (results_cell_row rfl _ _ (w.heap.size + 1) 30 _ _ _ rfl (X1.row _) Try.underlying30 rfl Try.infoRsH) rfl ?_
    exact ⟨rfl, belowR HB.out (by omega) _⟩
  by_cases h2 : 524287 < li
  · have e : newLife li = 524288 := by unfold newLife; omega
    rw [e]
    clear e
    go_enter Try.func15, Try.ntmps15
    go_wp2_with (refine wpList_store_row rfl 30 _ _ rfl (w.heap.size + 1) _ rfl rfl 30 _ X1 Try.infoRsH rfl (rall _ _ _ _ _ _ _ _) ?_)
    refine bodyPost_ret (results_cell_row rfl _ _ (w.heap.size + 1) 30 _ _ _ rfl (X1.row _) Try.underlying30 rfl Try.infoRsH) rfl ?_
    exact ⟨rfl, belowR HB.out (by omega) _⟩
  · have e : newLife li = li + 1 := by unfold newLife; omega
    rw [e]
    clear e
    go_enter Try.func15, Try.ntmps15
    go_wp2_with (refine wpList_store_row rfl 30 _ _ rfl (w.heap.size + 1) _ rfl rfl 30 _ X1 Try.infoRsH rfl (rall _ _ _ _ _ _ _ _) ?_)
    refine bodyPost_ret (results_cell_row rfl _ _ (w.heap.size + 1) 30 _ _ _ rfl (X1.row _) Try.underlying30 rfl Try.infoRsH) rfl ?_
    exact ⟨rfl, belowR HB.out (by omega) _⟩
end Go.Proofs.Ytifbnnffejamaaa
