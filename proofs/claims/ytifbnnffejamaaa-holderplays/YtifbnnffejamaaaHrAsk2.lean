/- The document's Ask where it grants a number. -/
import Derived.Test.YtifbnnffejamaaaHrAsk
namespace Go.Proofs.Ytifbnnffejamaaa
open Go.ChangeShapes Go.WideShapes Go.ChangeAt Go.RowKit Go.Maps
theorem varR (W : World) (T : TypeId) (z R : Array Value) : Blk (W.alloc (.cells z T)) W.heap.size T z ∧ Blk ((W.alloc (.cells z T)).setRow W.heap.size R) W.heap.size T R ∧ Below W.heap.size W ((W.alloc (.cells z T)).setRow W.heap.size R) ∧ W.heap.size + 1 ≤ ((W.alloc (.cells z T)).setRow W.heap.size R).heap.size :=
  ⟨blk_new _ _ _, (blk_new W _ _).row _, belowR (belowA _ _) (Nat.le_refl _) _, by rw [setRow_size]; simp⟩
/-- A row stays where its own block stays. -/
theorem KRow.stay {w w' : World} {B : Nat} {T : TypeId} {k : Nat} {v : Value} {R : List (List Int)} (h : KRow w B T k v R) (hb : ∀ g, v.ownBlock = some g → w'.heap[g]? = w.heap[g]?) : KRow w' B T k v R := by
  refine ⟨⟨h.own.1, ?_⟩, h.each⟩
  rcases h.own.2 with h2 | ⟨g', cap, cur, h3, h4, h5, h6⟩
  · exact Or.inl h2
  · exact Or.inr ⟨g', cap, cur, h3, h4, (hb g' (by rw [h3]; rfl)).trans h5, h6⟩
/-- A row's block holds nothing else. -/
theorem KRow.off {w : World} {B : Nat} {T T' : TypeId} {k : Nat} {v : Value} {R : List (List Int)} {b : Nat} {cs : Array Value} (h : KRow w B T k v R) (hT : T ≠ T') (hx : Blk w b T' cs) : ∀ g, v.ownBlock = some g → g ≠ b := by
  intro g hg e
  rcases h.own.2 with ⟨h2, _⟩ | ⟨g', cap, cur, h3, h4, h5, h6⟩
  · rw [h2] at hg; cases hg
  · rw [h3] at hg
    injection hg with hg
    have hg' : g' = g := hg
    subst hg'
    unfold Blk at hx
    rw [← e, h5] at hx
    injection hx with hx
    injection hx with h7 h8
    exact hT h8
theorem KRow.ownlt {w : World} {B : Nat} {T : TypeId} {k : Nat} {v : Value} {R : List (List Int)} (h : KRow w B T k v R) : ∀ g, v.ownBlock = some g → B ≤ g ∧ g < w.heap.size := fun g hg => h.own.lt g hg
set_option maxRecDepth 100000 in
set_option maxHeartbeats 8000000 in
theorem rask_ok (li cn now x : Int) (ao bo : Option Addr) (c d : Nat) (W : List (Int × Wn)) (H : List (Int × Hv)) (w : World) (hW : WnR w 0 (.slice ao W.length c) W) (hH : HvR w 0 (.slice bo H.length d) H) (hl : W.length ≤ 100000) (hb : askN li cn now = 0) :
   Calls Try.prog 7 #[rsV li cn (.slice ao W.length c) (.slice bo H.length d), .int .i64 now, .int .i64 x] w fun e w' => ∃ vw vh, e = .returned (.tuple #[rsV li (cn + 1) vw vh, .int .i64 (li * 1048576 + (cn + 1)), .int .i64 0]) ∧ Ref w' vw vh (putM W x ⟨li * 1048576 + (cn + 1), now⟩) H ∧ Below w.heap.size w w' := by
  have X0 := blk_new w 30 #[.int .i64 li, .int .i64 cn, .slice ao W.length c, .slice bo H.length d]
  have B0 := belowA w (.cells #[.int .i64 li, .int .i64 cn, .slice ao W.length c, .slice bo H.length d] 30)
  have s0 : (w.alloc (.cells #[.int .i64 li, .int .i64 cn, .slice ao W.length c, .slice bo H.length d] 30)).heap.size = w.heap.size + 1 := by simp
  generalize hw0 : w.alloc (.cells #[.int .i64 li, .int .i64 cn, .slice ao W.length c, .slice bo H.length d] 30) = w0 at *
  have X1 := blk_new w0 30 #[.int .i64 0, .int .i64 0, .slice none 0 0, .slice none 0 0]
  have B1 := belowA w0 (.cells #[.int .i64 0, .int .i64 0, .slice none 0 0, .slice none 0 0] 30)
  have s1 : (w0.alloc (.cells #[.int .i64 0, .int .i64 0, .slice none 0 0, .slice none 0 0] 30)).heap.size = w.heap.size + 1 + 1 := by simp [s0]
  have X01 := X0.below B1
  rw [s0] at X1
  generalize hw1 : w0.alloc (.cells #[.int .i64 0, .int .i64 0, .slice none 0 0, .slice none 0 0] 30) = w1 at *
  have HB : Hid (Below w.heap.size w w1) := below_then B0 B1
  have z1 : w.heap.size + 1 + 1 ≤ w1.heap.size := by omega
  have HRF : Hid (∀ W', Below w.heap.size w W' → HvR W' 0 (.slice bo H.length d) H) := fun W' h => hH.below h
  have k0 : w1.cell? ⟨w.heap.size, 0, none⟩ = some (.int .i64 li) := X01.cell 0 rfl
  have k1 : w1.cell? ⟨w.heap.size, 1, none⟩ = some (.int .i64 cn) := X01.cell 1 rfl
  have MO := rmom_any now
  obtain ⟨hm, h1, h2, h3, h4⟩ := ask_zero hb
  rw [hm] at MO
  have UW := runwant_any li cn x ao bo c H.length d 0 W w1 ((hW.below B0).below B1) hl
  have hdl : ((delM W x).map cvWn).length ≤ 100000 := by
    rw [List.length_map]
    have := List.length_filter_le (fun p : Int × Wn => decide (p.1 ≠ x)) W
    unfold delM
    omega
  obtain ⟨num, hnum⟩ : ∃ n, n = 1048576 * li + (cn + 1) := ⟨_, rfl⟩
  have hnum1 : 1048576 * li + (cn + 1) = num := hnum.symm
  have hnum2 : li * 1048576 + (cn + 1) = num := by rw [hnum, Int.mul_comm]
  have hnb : -9223372036854775808 ≤ num ∧ num ≤ 9223372036854775807 := by omega
  rw [hnum2]
  have HPM : Hid (putM W x ⟨num, now⟩ = delM W x ++ [(x, ⟨num, now⟩)]) := rfl
  generalize putM W x ⟨num, now⟩ = WP at *
  unfold rsV at *
  clear B0 B1 hW hH s1 hb hm hnum hnum2
  go_enter Try.func7, Try.ntmps7
  go_upto_region 6 with (first
    | (go_at_call 24; refine (MO _).mono ?_; rintro e w9 ⟨rfl, h9⟩; obtain rfl := h9.symm)
    | (refine wpList_load_row rfl 30 _ rfl w.heap.size rfl 30 _ (0, 0) _ X01 Try.underlying30 rfl Try.infoRsH ?_)
    | (go_at_call 25; refine UW.mono ?_; rintro e w5 ⟨v5, rfl, O5, B5⟩; have z5 := B5.size; obtain ⟨a5, c5, e5⟩ := O5.shape; obtain ⟨n5, hn5⟩ : ∃ n5, n5 = (delM W x).length := ⟨_, rfl⟩; rw [← hn5] at e5; subst e5; clear hn5; obtain ⟨XA, XB, BBB, zB⟩ := varR w5 30 #[.int .i64 0, .int .i64 0, .slice none 0 0, .slice none 0 0] #[.int .i64 li, .int .i64 cn, .slice a5 n5 c5, .slice bo H.length d]; generalize hwA : w5.alloc (.cells #[.int .i64 0, .int .i64 0, .slice none 0 0, .slice none 0 0] 30) = wA at *; generalize hwB : wA.setRow w5.heap.size #[.int .i64 li, .int .i64 cn, .slice a5 n5 c5, .slice bo H.length d] = wB at *)
    | (refine wpList_store_row rfl 30 _ _ rfl w5.heap.size _ rfl rfl 30 _ XA Try.infoRsH rfl (rall _ _ _ _ _ _ _ _) ?_; rw [hwB]))
  have BW5 := below_then HB.out B5
  have X0B := (X01.below B5).below BBB
  have X1B := (X1.below B5).below BBB
  have O5B := KRow.below O5 BBB
  have O5L := KRow.ownlt O5
  have BWB := below_then BW5 BBB
  have q1 : wB.cell? ⟨w.heap.size, 1, none⟩ = some (.int .i64 cn) := X0B.cell 1 rfl
  have r1 : wB.cell? ⟨w5.heap.size, 1, none⟩ = some (.int .i64 cn) := XB.cell 1 rfl
  have f1 := XB.frozen 1
  have XC := XB.set 1 (.int .i64 (cn + 1))
  have X0C := X0B.other (a := ⟨w5.heap.size, 1, none⟩) (by show w.heap.size ≠ w5.heap.size; omega) (.int .i64 (cn + 1))
  have X1C := X1B.other (a := ⟨w5.heap.size, 1, none⟩) (by show w.heap.size + 1 ≠ w5.heap.size; omega) (.int .i64 (cn + 1))
  have OC := KRow.stay (w' := wB.setCell ⟨w5.heap.size, 1, none⟩ (.int .i64 (cn + 1))) O5B (fun g hg => Below.heap_setCell _ _ _ _ (by show g ≠ w5.heap.size; have := (O5L g hg).2; omega))
  have BWC := BWB.setCell (p := ⟨w5.heap.size, 1, none⟩) (by show w.heap.size ≤ w5.heap.size; omega) (.int .i64 (cn + 1))
  have zC : wB.heap.size ≤ (wB.setCell ⟨w5.heap.size, 1, none⟩ (.int .i64 (cn + 1))).heap.size := by simp [World.setCell]
  generalize hwC : wB.setCell ⟨w5.heap.size, 1, none⟩ (.int .i64 (cn + 1)) = wC at *
  clear k0 k1 MO UW
  go_upto_region 7 with fail
  have k0 : wC.cell? ⟨w.heap.size, 0, none⟩ = some (.int .i64 li) := X0C.cell 0 rfl
  have r1 : wC.cell? ⟨w5.heap.size, 1, none⟩ = some (.int .i64 (cn + 1)) := XC.cell 1 rfl
  have r2 : wC.cell? ⟨w5.heap.size, 2, none⟩ = some (.slice a5 n5 c5) := XC.cell 2 rfl
  have BE := belowA wC (.cells #[.int .i64 x, .int .i64 num, .int .i64 now] 77)
  have OE := KRow.below OC BE
  have XE := XC.below BE
  have X1E := X1C.below BE
  have BWE := below_then BWC BE
  have zE : wC.heap.size + 1 ≤ (wC.alloc (.cells #[.int .i64 x, .int .i64 num, .int .i64 now] 77)).heap.size := by simp
  have CC := cells3 77 wC x num now
  generalize hwE : wC.alloc (.cells #[.int .i64 x, .int .i64 num, .int .i64 now] 77) = wE at *
  go_wp2_with (first
    | (at_builtin; refine wpList_append_k rfl _ _ 77 27 3 _ Try.underlying27 Try.infoRWn rfl (by omega) (by omega) rfl w1.heap.size _ _ rfl OE wC.heap.size [x, num, now] rfl rfl CC hdl (by omega) ?_; intro v8 w8 O8 B8 G8; obtain ⟨a8, c8, e8, _⟩ := KRow.len O8; obtain ⟨n8, hn8⟩ : ∃ n8, n8 = ((delM W x).map cvWn ++ [[x, num, now]]).length := ⟨_, rfl⟩; rw [← hn8] at e8; subst e8; clear hn8; have X8 := XE.of_block (G8.block w5.heap.size (by omega) (fun e => by have := (O5L w5.heap.size e.symm).2; omega)); have X18 := X1E.of_block (B8.block (w.heap.size + 1) (by omega)); have r8 : w8.cell? ⟨w5.heap.size, 2, none⟩ = some (.slice a5 n5 c5) := X8.cell 2 rfl; have f8 := X8.frozen 2; have X9 := X8.set 2 (.slice a8 n8 c8); have X19 := X18.other (a := ⟨w5.heap.size, 2, none⟩) (by show w.heap.size + 1 ≠ w5.heap.size; omega) (.slice a8 n8 c8))
    | (refine wpList_load_row rfl 30 _ rfl w5.heap.size rfl 30 _ (0, 0) _ X9 Try.underlying30 rfl Try.infoRsH ?_)
    | (refine wpList_store_row rfl 30 _ _ rfl (w.heap.size + 1) _ rfl rfl 30 _ X19 Try.infoRsH rfl (rall _ _ _ _ _ _ _ _) ?_))
  refine bodyPost_ret (results_s3 rfl _ _ (w.heap.size + 1) _ rfl (load_rs (X19.row _))) rfl ?_
  have BF := belowR ((BWE.trans (B8.mono (show w.heap.size ≤ w1.heap.size by omega))).setCell (p := ⟨w5.heap.size, 2, none⟩) (by show w.heap.size ≤ w5.heap.size; omega) (.slice a8 n8 c8)) (show w.heap.size ≤ w.heap.size + 1 by omega) #[.int .i64 li, .int .i64 (cn + 1), .slice a8 n8 c8, .slice bo H.length d]
  refine ⟨.slice a8 n8 c8, .slice bo H.length d, rfl, ⟨?_, HRF.out _ BF⟩, BF⟩
  rw [HPM.out]
  unfold WnR
  rw [List.map_append]
  refine KRow.base (KRow.stay O8 (fun g hg => ?_)) (Nat.zero_le _)
  have h9 := (KRow.ownlt O8 g hg).1
  have h10 := KRow.off O8 (by decide) X8 g hg
  rw [setRow_other _ _ _ _ (by omega), Below.heap_setCell _ _ _ _ h10]
end Go.Proofs.Ytifbnnffejamaaa
