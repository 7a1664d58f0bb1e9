/- How many places are had, and who has one. -/
import Derived.Test.YtacmphckmjangaaLsFun
namespace Go.Proofs.Ytacmphckmjangaa
open Go.ChangeShapes Go.WideShapes Go.ChangeAt Go.RowKit Go.Maps
theorem lcount_any (ep q : Int) (mo : Option Nat) (now : Int) (L : List (Int × Hg)) (w : World) (hM : HgM w mo L) (hl : L.length ≤ 100000) :
   Calls Try.prog 14 #[lsV ep q mo, .int .i64 now] w fun e w' => e = .returned (.int .i64 ((lastM now L).length : Int)) ∧ Below w.heap.size w w' := by
  have X0 := blk_new w 26 #[.int .i64 ep, .int .i64 q, .map mo]
  have B0 := below_alloc' w (.cells #[.int .i64 ep, .int .i64 q, .map mo] 26)
  generalize hw0 : w.alloc (.cells #[.int .i64 ep, .int .i64 q, .map mo] 26) = w0 at *
  have C := llasting_any ep q mo now L w0 (hM.below B0) hl
  unfold lsV at *
  have hfl : ∀ (b : Nat) (w : World), (Instr.field 26 (.agg #[.int .i64 ep, .int .i64 q, .map (some b)]) 2).run Try.prog w = .ok (.map (some b)) w := fun b w => by kernel_rfl
  go_enter Try.func14, Try.ntmps14
  go_wp2_with (first
    | (go_at_call 17; refine C.mono ?_; rintro e w2 ⟨b, rfl, M2, hb, B2⟩; have LN := M2.len Try.underlying24)
    | (refine wpList_load_row rfl 26 _ rfl w.heap.size rfl 26 _ (0, 0) _ X0 Try.underlying26 rfl Try.infoLs ?_))
  go_ret
  exact ⟨rfl, below_then B0 B2⟩
theorem whoL_none {now : Int} {L : List (Int × Hg)} {x : Int} (h : getM L x = none) : whoL now L x = none := by unfold whoL; rw [h]
theorem whoL_over {now : Int} {L : List (Int × Hg)} {x : Int} {h : Hg} (hg : getM L x = some h) (hu : h.unt ≤ now) : whoL now L x = none := by unfold whoL; rw [hg]; simp only; rw [if_neg (by omega)]
theorem whoL_some {now : Int} {L : List (Int × Hg)} {x : Int} {h : Hg} (hg : getM L x = some h) (hu : now < h.unt) : whoL now L x = some h := by unfold whoL; rw [hg]; simp only; rw [if_pos hu]
theorem hall3 (a b c : Int) : Array.all (#[.int .i64 a, .int .i64 b, .int .i64 c] : Array Value) (fun v => v.oneCell') = true := by simp [Value.oneCell']
set_option maxHeartbeats 4000000 in
theorem lwho_any (ep q : Int) (mo : Option Nat) (now x : Int) (L : List (Int × Hg)) (w : World) (hM : HgM w mo L) (hx : -9223372036854775808 ≤ x ∧ x ≤ 9223372036854775807) :
   Calls Try.prog 13 #[lsV ep q mo, .int .i64 now, .int .i64 x] w fun e w' => e = .returned (.tuple #[((whoL now L x).getD Hg.zero).val, .bool (whoL now L x).isSome]) ∧ Below w.heap.size w w' := by
  have X0 := blk_new w 26 #[.int .i64 ep, .int .i64 q, .map mo]
  have B0 := below_alloc' w (.cells #[.int .i64 ep, .int .i64 q, .map mo] 26)
  have s0 : (w.alloc (.cells #[.int .i64 ep, .int .i64 q, .map mo] 26)).heap.size = w.heap.size + 1 := by simp
  generalize hw0 : w.alloc (.cells #[.int .i64 ep, .int .i64 q, .map mo] 26) = w0 at *
  have X1 := blk_new w0 51 #[.int .i64 0, .int .i64 0, .int .i64 0]
  have B1 := below_alloc' w0 (.cells #[.int .i64 0, .int .i64 0, .int .i64 0] 51)
  have s1 : (w0.alloc (.cells #[.int .i64 0, .int .i64 0, .int .i64 0] 51)).heap.size = w.heap.size + 1 + 1 := by simp [s0]
  have X01 := X0.below B1
  rw [s0] at X1
  generalize hw1 : w0.alloc (.cells #[.int .i64 0, .int .i64 0, .int .i64 0] 51) = w1 at *
  have O := lover_any now w1
  have X2 := blk_new w1 3 #[.int .i64 now]
  have B2 := below_alloc' w1 (.cells #[.int .i64 now] 3)
  have s2 : (w1.alloc (.cells #[.int .i64 now] 3)).heap.size = w.heap.size + 1 + 1 + 1 := by simp [s1]
  have X02 := X01.below B2
  have X12 := X1.below B2
  rw [s1] at X2 O
  generalize hw2 : w1.alloc (.cells #[.int .i64 now] 3) = w2 at *
  have M2 := ((hM.below B0).below B1).below B2
  have LK := M2.look x hx
  have BB := below_then (below_then B0 B1) B2
  obtain ⟨h, hh⟩ : ∃ h, h = (getM L x).getD Hg.zero := ⟨_, rfl⟩
  rw [← hh] at LK
  obtain ⟨ho, eo, uo⟩ := h
  have X3 := blk_new w2 51 #[.int .i64 0, .int .i64 0, .int .i64 0]
  have B3 := below_alloc' w2 (.cells #[.int .i64 0, .int .i64 0, .int .i64 0] 51)
  have s3 : (w2.alloc (.cells #[.int .i64 0, .int .i64 0, .int .i64 0] 51)).heap.size = w.heap.size + 1 + 1 + 1 + 1 := by simp [s2]
  have X13 := X12.below B3
  have X23 := X2.below B3
  rw [s2] at X3
  generalize hw3 : w2.alloc (.cells #[.int .i64 0, .int .i64 0, .int .i64 0] 51) = w3 at *
  have X34 := X3.row #[.int .i64 ho, .int .i64 eo, .int .i64 uo]
  have e4 : ∀ k, k ≠ w.heap.size + 1 + 1 + 1 → (w3.setRow (w.heap.size + 1 + 1 + 1) #[.int .i64 ho, .int .i64 eo, .int .i64 uo]).heap[k]? = w3.heap[k]? := fun k hk => setRow_other _ _ _ _ hk
  have X14 := X13.of_block (e4 _ (by omega))
  have X24 := X23.of_block (e4 _ (by omega))
  have B4 := below_row (below_then BB B3) (show w.heap.size ≤ w.heap.size + 1 + 1 + 1 by omega) #[.int .i64 ho, .int .i64 eo, .int .i64 uo]
  have z4 : w.heap.size + 1 + 1 + 1 + 1 ≤ (w3.setRow (w.heap.size + 1 + 1 + 1) #[.int .i64 ho, .int .i64 eo, .int .i64 uo]).heap.size := by rw [setRow_size]; omega
  generalize hw4 : w3.setRow (w.heap.size + 1 + 1 + 1) #[.int .i64 ho, .int .i64 eo, .int .i64 uo] = w4 at *
  have F := loverf_any x now ⟨ho, eo, uo⟩ (w.heap.size + 1 + 1) w4 (X24.cell 0 rfl)
  simp only at F
  have X15 := X14.below (below_alloc' w4 (.cells #[.int .i64 ho, .int .i64 eo, .int .i64 uo] 51))
  have X35 := X34.below (below_alloc' w4 (.cells #[.int .i64 ho, .int .i64 eo, .int .i64 uo] 51))
  have B5 := B4.alloc (by omega) (.cells #[.int .i64 ho, .int .i64 eo, .int .i64 uo] 51)
  have c0 : w2.cell? ⟨w.heap.size, 2, none⟩ = some (.map mo) := X02.cell 2 rfl
  have eg : ∀ args w, (callFunc 25 args).run Try.prog w = .ok (.enter 25 args) w := enters_of Try.func25 (by kernel_rfl) rfl
  unfold lsV
  unfold Hg.val at LK F
  clear B0 B1 B2 B3 BB hM M2 e4 X01 X0 X1 X2 X12 X13 X23
  rcases hg : getM L x with _ | h
  · rw [whoL_none hg]
    rw [hg] at LK hh
    clear hg
    have hz : Hid (Hg.mk ho eo uo = Hg.zero) := hh
    clear hh F X15 X35
    go_enter Try.func13, Try.ntmps13
    go_wp2_with (first
      | (go_at_call 22; refine O.mono ?_; rintro e w2 ⟨rfl, rfl⟩)
      | (refine wpList_store_row rfl 51 _ _ rfl (w.heap.size + 1 + 1 + 1) #[.int .i64 ho, .int .i64 eo, .int .i64 uo] rfl rfl 51 _ X3 Try.infoHg rfl (hall3 _ _ _) ?_; rw [hw4])
      | (refine wpList_store_row rfl 51 _ _ rfl (w.heap.size + 1) #[.int .i64 0, .int .i64 0, .int .i64 0] rfl rfl 51 _ X14 Try.infoHg rfl (hall3 _ _ _) ?_))
    refine bodyPost_ret (results_blk2 rfl _ _ (w.heap.size + 1) _ rfl (load_h (X14.row _))) rfl ?_
    exact ⟨rfl, below_row B4 (by omega) _⟩
  · rw [hg] at LK hh
    have hz : Hg.mk ho eo uo = h := hh
    subst hz
    have k0 : w4.cell? ⟨w.heap.size + 1 + 1 + 1, 0, none⟩ = some (.int .i64 ho) := X34.cell 0 rfl
    have k1 : w4.cell? ⟨w.heap.size + 1 + 1 + 1, 1, none⟩ = some (.int .i64 eo) := X34.cell 1 rfl
    have k2 : w4.cell? ⟨w.heap.size + 1 + 1 + 1, 2, none⟩ = some (.int .i64 uo) := X34.cell 2 rfl
    rcases Decidable.em (uo ≤ now) with hu | hu
    · rw [whoL_over hg hu]
      rw [decide_eq_true hu] at F
      clear hg hh
      go_enter Try.func13, Try.ntmps13
      go_wp2_with (first
        | (go_at_call 22; refine O.mono ?_; rintro e w2 ⟨rfl, rfl⟩)
        | (go_at_fn 25; refine F.mono ?_; rintro e w5 ⟨rfl, rfl⟩)
        | (refine wpList_load_row rfl 51 _ rfl (w.heap.size + 1 + 1 + 1) rfl 51 _ (0, 0) _ X34 Try.underlying51 rfl Try.infoHg ?_)
        | (refine wpList_store_row rfl 51 _ _ rfl (w.heap.size + 1 + 1 + 1) #[.int .i64 ho, .int .i64 eo, .int .i64 uo] rfl rfl 51 _ X3 Try.infoHg rfl (hall3 _ _ _) ?_; rw [hw4])
        | (refine wpList_store_row rfl 51 _ _ rfl (w.heap.size + 1) #[.int .i64 0, .int .i64 0, .int .i64 0] rfl rfl 51 _ X15 Try.infoHg rfl (hall3 _ _ _) ?_))
      refine bodyPost_ret (results_blk2 rfl _ _ (w.heap.size + 1) _ rfl (load_h (X15.row _))) rfl ?_
      exact ⟨rfl, below_row B5 (by omega) _⟩
    · rw [whoL_some hg (by simp only; omega)]
      rw [decide_eq_false hu] at F
      clear hg hh
      go_enter Try.func13, Try.ntmps13
      go_wp2_with (first
        | (go_at_call 22; refine O.mono ?_; rintro e w2 ⟨rfl, rfl⟩)
        | (go_at_fn 25; refine F.mono ?_; rintro e w5 ⟨rfl, rfl⟩)
        | (refine wpList_load_row rfl 51 _ rfl (w.heap.size + 1 + 1 + 1) rfl 51 _ (0, 0) _ X34 Try.underlying51 rfl Try.infoHg ?_)
        | (refine wpList_load_row rfl 51 _ rfl (w.heap.size + 1 + 1 + 1) rfl 51 _ (0, 0) _ X35 Try.underlying51 rfl Try.infoHg ?_)
        | (refine wpList_store_row rfl 51 _ _ rfl (w.heap.size + 1 + 1 + 1) #[.int .i64 ho, .int .i64 eo, .int .i64 uo] rfl rfl 51 _ X3 Try.infoHg rfl (hall3 _ _ _) ?_; rw [hw4])
        | (refine wpList_store_row rfl 51 _ _ rfl (w.heap.size + 1) #[.int .i64 ho, .int .i64 eo, .int .i64 uo] rfl rfl 51 _ X15 Try.infoHg rfl (hall3 _ _ _) ?_))
      refine bodyPost_ret (results_blk2 rfl _ _ (w.heap.size + 1) _ rfl (load_h (X15.row _))) rfl ?_
      exact ⟨rfl, below_row B5 (by omega) _⟩
end Go.Proofs.Ytacmphckmjangaa
