/- The document's Ask. Written by tools/genhrask.py. -/
import Derived.Test.YtifbnnffejamaaaHrCall
namespace Go.Proofs.Ytifbnnffejamaaa
open Go.ChangeShapes Go.WideShapes Go.ChangeAt Go.RowKit Go.Maps
set_option maxRecDepth 100000 in
theorem rmom_any (now : Int) (w : World) : Calls Try.prog 24 #[.int .i64 now] w fun e w' => e = .returned (.bool (momD now)) ∧ w' = w := by
  by_cases h : 0 ≤ now
  · by_cases h2 : now ≤ 1099511627776
    · have e : momD now = true := decide_eq_true ⟨h, h2⟩
      rw [e]
      clear e
      go_enter Try.func24, Try.ntmps24
      go_wp2
      go_ret
      exact ⟨rfl, rfl⟩
    · have e : momD now = false := decide_eq_false (fun k => h2 k.2)
      rw [e]
      clear e
      go_enter Try.func24, Try.ntmps24
      go_wp2
      go_ret
      exact ⟨rfl, rfl⟩
  · have e : momD now = false := decide_eq_false (fun k => h k.1)
    rw [e]
    clear e
    go_enter Try.func24, Try.ntmps24
    go_wp2
    go_ret
    exact ⟨rfl, rfl⟩
set_option maxRecDepth 100000 in
set_option maxHeartbeats 8000000 in
theorem rask_bad (li cn now x : Int) (ao bo : Option Addr) (c d : Nat) (W : List (Int × Wn)) (H : List (Int × Hv)) (w : World) (hW : WnR w 0 (.slice ao W.length c) W) (hH : HvR w 0 (.slice bo H.length d) H) (hb : askN li cn now ≠ 0) :
   Calls Try.prog 7 #[rsV li cn (.slice ao W.length c) (.slice bo H.length d), .int .i64 now, .int .i64 x] w fun e w' => ∃ vw vh, e = .returned (.tuple #[rsV li cn vw vh, .int .i64 0, .int .i64 (askN li cn now)]) ∧ Ref w' vw vh W H ∧ Below w.heap.size w w' := by
  have X0 := blk_new w 30 #[.int .i64 li, .int .i64 cn, .slice ao W.length c, .slice bo H.length d]
  have B0 := belowA w (.cells #[.int .i64 li, .int .i64 cn, .slice ao W.length c, .slice bo H.length d] 30)
  have s0 : (w.alloc (.cells #[.int .i64 li, .int .i64 cn, .slice ao W.length c, .slice bo H.length d] 30)).heap.size = w.heap.size + 1 := by simp
  generalize hw0 : w.alloc (.cells #[.int .i64 li, .int .i64 cn, .slice ao W.length c, .slice bo H.length d] 30) = w0 at *
  have X1 := blk_new w0 30 #[.int .i64 0, .int .i64 0, .slice none 0 0, .slice none 0 0]
  have B1 := belowA w0 (.cells #[.int .i64 0, .int .i64 0, .slice none 0 0, .slice none 0 0] 30)
  have s1 : (w0.alloc (.cells #[.int .i64 0, .int .i64 0, .slice none 0 0, .slice none 0 0] 30)).heap.size = w.heap.size + 1 + 1 := by simp [s0]
  have X01 := X0.below B1
  rw [s0] at X1
  generalize hw1 : w0.alloc (.cells #[.int .i64 0, .int .i64 0, .slice none 0 0, .slice none 0 0] 30) = w1 at *
  have HB : Hid (Below w.heap.size w w1) := below_then B0 B1
  have z1 : w.heap.size + 1 + 1 ≤ w1.heap.size := by omega
  have HRF : Hid (∀ W', Below w.heap.size w W' → Ref W' (.slice ao W.length c) (.slice bo H.length d) W H) := fun W' h => ⟨hW.below h, hH.below h⟩
  have k0 : w1.cell? ⟨w.heap.size, 0, none⟩ = some (.int .i64 li) := X01.cell 0 rfl
  have k1 : w1.cell? ⟨w.heap.size, 1, none⟩ = some (.int .i64 cn) := X01.cell 1 rfl
  have MO := rmom_any now
  obtain ⟨r, hr⟩ : ∃ r, r = askN li cn now := ⟨_, rfl⟩
  rw [← hr] at hb ⊢
  unfold askN at hr
  unfold rsV at *
  clear B0 B1 hW hH s1
  by_cases hm : momD now = false
  · rw [if_pos (Or.inl hm)] at hr
    subst hr
    rw [hm] at MO
    go_enter Try.func7, Try.ntmps7
    go_wp2_with (first
      | (go_at_call 24; refine (MO _).mono ?_; rintro e w9 ⟨rfl, h9⟩; obtain rfl := h9.symm)
      | (refine wpList_load_row rfl 30 _ rfl w.heap.size rfl 30 _ (0, 0) _ X01 Try.underlying30 rfl Try.infoRsH ?_)
      | (refine wpList_store_row rfl 30 _ _ rfl (w.heap.size + 1) _ rfl rfl 30 _ X1 Try.infoRsH rfl (rall _ _ _ _ _ _ _ _) ?_))
    refine bodyPost_ret (results_s3 rfl _ _ (w.heap.size + 1) _ rfl (load_rs (X1.row _))) rfl ?_
    have BF := belowR HB.out (show w.heap.size ≤ w.heap.size + 1 by omega) #[.int .i64 li, .int .i64 cn, .slice ao W.length c, .slice bo H.length d]
    exact ⟨.slice ao W.length c, .slice bo H.length d, rfl, HRF.out _ BF, BF⟩
  have hm' : momD now = true := by simpa using hm
  rw [hm'] at MO
  by_cases h1 : li < 0
  · rw [if_pos (Or.inr (Or.inl h1))] at hr
    subst hr
    go_enter Try.func7, Try.ntmps7
    go_wp2_with (first
      | (go_at_call 24; refine (MO _).mono ?_; rintro e w9 ⟨rfl, h9⟩; obtain rfl := h9.symm)
      | (refine wpList_load_row rfl 30 _ rfl w.heap.size rfl 30 _ (0, 0) _ X01 Try.underlying30 rfl Try.infoRsH ?_)
      | (refine wpList_store_row rfl 30 _ _ rfl (w.heap.size + 1) _ rfl rfl 30 _ X1 Try.infoRsH rfl (rall _ _ _ _ _ _ _ _) ?_))
    refine bodyPost_ret (results_s3 rfl _ _ (w.heap.size + 1) _ rfl (load_rs (X1.row _))) rfl ?_
    have BF := belowR HB.out (show w.heap.size ≤ w.heap.size + 1 by omega) #[.int .i64 li, .int .i64 cn, .slice ao W.length c, .slice bo H.length d]
    exact ⟨.slice ao W.length c, .slice bo H.length d, rfl, HRF.out _ BF, BF⟩
  by_cases h2 : cn < 0
  · rw [if_pos (Or.inr (Or.inr h2))] at hr
    subst hr
    go_enter Try.func7, Try.ntmps7
    go_wp2_with (first
      | (go_at_call 24; refine (MO _).mono ?_; rintro e w9 ⟨rfl, h9⟩; obtain rfl := h9.symm)
      | (refine wpList_load_row rfl 30 _ rfl w.heap.size rfl 30 _ (0, 0) _ X01 Try.underlying30 rfl Try.infoRsH ?_)
      | (refine wpList_store_row rfl 30 _ _ rfl (w.heap.size + 1) _ rfl rfl 30 _ X1 Try.infoRsH rfl (rall _ _ _ _ _ _ _ _) ?_))
    refine bodyPost_ret (results_s3 rfl _ _ (w.heap.size + 1) _ rfl (load_rs (X1.row _))) rfl ?_
    have BF := belowR HB.out (show w.heap.size ≤ w.heap.size + 1 by omega) #[.int .i64 li, .int .i64 cn, .slice ao W.length c, .slice bo H.length d]
    exact ⟨.slice ao W.length c, .slice bo H.length d, rfl, HRF.out _ BF, BF⟩
  rw [if_neg (fun e => by rcases e with e | e | e <;> first | exact hm e | exact h1 e | exact h2 e)] at hr
  by_cases h3 : 524288 ≤ li
  · rw [if_pos (Or.inl h3)] at hr
    subst hr
    go_enter Try.func7, Try.ntmps7
    go_wp2_with (first
      | (go_at_call 24; refine (MO _).mono ?_; rintro e w9 ⟨rfl, h9⟩; obtain rfl := h9.symm)
      | (refine wpList_load_row rfl 30 _ rfl w.heap.size rfl 30 _ (0, 0) _ X01 Try.underlying30 rfl Try.infoRsH ?_)
      | (refine wpList_store_row rfl 30 _ _ rfl (w.heap.size + 1) _ rfl rfl 30 _ X1 Try.infoRsH rfl (rall _ _ _ _ _ _ _ _) ?_))
    refine bodyPost_ret (results_s3 rfl _ _ (w.heap.size + 1) _ rfl (load_rs (X1.row _))) rfl ?_
    have BF := belowR HB.out (show w.heap.size ≤ w.heap.size + 1 by omega) #[.int .i64 li, .int .i64 cn, .slice ao W.length c, .slice bo H.length d]
    exact ⟨.slice ao W.length c, .slice bo H.length d, rfl, HRF.out _ BF, BF⟩
  by_cases h4 : 1048575 ≤ cn
  · rw [if_pos (Or.inr h4)] at hr
    subst hr
    go_enter Try.func7, Try.ntmps7
    go_wp2_with (first
      | (go_at_call 24; refine (MO _).mono ?_; rintro e w9 ⟨rfl, h9⟩; obtain rfl := h9.symm)
      | (refine wpList_load_row rfl 30 _ rfl w.heap.size rfl 30 _ (0, 0) _ X01 Try.underlying30 rfl Try.infoRsH ?_)
      | (refine wpList_store_row rfl 30 _ _ rfl (w.heap.size + 1) _ rfl rfl 30 _ X1 Try.infoRsH rfl (rall _ _ _ _ _ _ _ _) ?_))
    refine bodyPost_ret (results_s3 rfl _ _ (w.heap.size + 1) _ rfl (load_rs (X1.row _))) rfl ?_
    have BF := belowR HB.out (show w.heap.size ≤ w.heap.size + 1 by omega) #[.int .i64 li, .int .i64 cn, .slice ao W.length c, .slice bo H.length d]
    exact ⟨.slice ao W.length c, .slice bo H.length d, rfl, HRF.out _ BF, BF⟩
  rw [if_neg (by omega)] at hr
  exact absurd hr hb
end Go.Proofs.Ytifbnnffejamaaa
