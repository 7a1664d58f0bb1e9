/- The authority's calls: Let and Restart. -/
import Derived.Test.YtacmphckmjangaaLsGrant
namespace Go.Proofs.Ytacmphckmjangaa
open Go.ChangeShapes Go.WideShapes Go.ChangeAt Go.RowKit Go.Maps
/-- Why a place can't be given back; 0: it is. -/
def letN (o : Option Hg) (ho e : Int) : Int := match o with
  | none => 8
  | some h => if h.hol ≠ ho ∨ h.epo ≠ e then 14 else 0
set_option maxHeartbeats 4000000 in
theorem llet_bad (ep q : Int) (mo : Option Nat) (now x ho ep2 : Int) (L : List (Int × Hg)) (w : World) (hM : HgM w mo L) (hl : L.length ≤ 100000) (hx : -9223372036854775808 ≤ x ∧ x ≤ 9223372036854775807) (hb : letN (whoL now L x) ho ep2 ≠ 0) :
   Calls Try.prog 9 #[lsV ep q mo, .int .i64 now, .int .i64 x, .int .i64 ho, .int .i64 ep2] w fun e w' => ∃ b, e = .returned (.tuple #[lsV ep q (some b), .int .i64 (letN (whoL now L x) ho ep2)]) ∧ MapAt Hg.val w' b L ∧ w.heap.size ≤ b ∧ Below w.heap.size w w' := by
  have X0 := blk_new w 26 #[.int .i64 ep, .int .i64 q, .map mo]
  have B0 := below_alloc' w (.cells #[.int .i64 ep, .int .i64 q, .map mo] 26)
  have s0 : (w.alloc (.cells #[.int .i64 ep, .int .i64 q, .map mo] 26)).heap.size = w.heap.size + 1 := by simp
  generalize hw0 : w.alloc (.cells #[.int .i64 ep, .int .i64 q, .map mo] 26) = w0 at *
  have X1 := blk_new w0 26 #[.int .i64 0, .int .i64 0, .map none]
  have B1 := below_alloc' w0 (.cells #[.int .i64 0, .int .i64 0, .map none] 26)
  have s1 : (w0.alloc (.cells #[.int .i64 0, .int .i64 0, .map none] 26)).heap.size = w.heap.size + 1 + 1 := by simp [s0]
  have X01 := X0.below B1
  rw [s0] at X1
  generalize hw1 : w0.alloc (.cells #[.int .i64 0, .int .i64 0, .map none] 26) = w1 at *
  have M1 := (hM.below B0).below B1
  have C1 := lwho_any ep q mo now x L w1 M1 hx
  have HC : Hid (∀ W, Below w1.heap.size w1 W → Calls Try.prog 16 #[lsV ep q mo] W fun e w' => e = .returned (lsV ep q (some (W.heap.size + 2))) ∧ MapAt Hg.val w' (W.heap.size + 2) L ∧ Below W.heap.size W w') := fun W hW => lcopied_any ep q mo L W (M1.below hW) hl
  have HB : Hid (Below w.heap.size w w1) := below_then B0 B1
  have z1 : w.heap.size + 1 + 1 ≤ w1.heap.size := by omega
  generalize whoL now L x = o at *
  unfold lsV at *
  clear B0 B1 hM M1 s1
  rcases o with _ | h
  · have hr : letN none ho ep2 = 8 := rfl
    rw [hr]
    clear hb hr
    simp only [Option.getD_none, Option.isSome_none] at C1
    unfold Hg.val Hg.zero at C1
    simp only at C1
    go_enter Try.func9, Try.ntmps9
    go_wp2_with (first
      | (go_at_call 13; refine C1.mono ?_; rintro e w2 ⟨rfl, B2⟩; have z2 := B2.size; have XW := (blk_new w2 51 #[.int .i64 0, .int .i64 0, .int .i64 0]); have X02 := (X01.below B2).below (below_alloc' w2 (.cells #[.int .i64 0, .int .i64 0, .int .i64 0] 51)); have X12 := (X1.below B2).below (below_alloc' w2 (.cells #[.int .i64 0, .int .i64 0, .int .i64 0] 51)); have BA := below_then (below_then HB.out B2) (below_alloc' w2 (.cells #[.int .i64 0, .int .i64 0, .int .i64 0] 51)); have zA : w2.heap.size + 1 ≤ (w2.alloc (.cells #[.int .i64 0, .int .i64 0, .int .i64 0] 51)).heap.size := (by simp); have BA1 := below_then B2 (below_alloc' w2 (.cells #[.int .i64 0, .int .i64 0, .int .i64 0] 51)); generalize hwA : w2.alloc (.cells #[.int .i64 0, .int .i64 0, .int .i64 0] 51) = wA at *; have XB := XW.row #[.int .i64 0, .int .i64 0, .int .i64 0]; have X03 := X02.of_block (setRow_other wA w2.heap.size w.heap.size #[.int .i64 0, .int .i64 0, .int .i64 0] (by omega)); have X13 := X12.of_block (setRow_other wA w2.heap.size (w.heap.size + 1) #[.int .i64 0, .int .i64 0, .int .i64 0] (by omega)); have BB := below_row BA (show w.heap.size ≤ w2.heap.size by omega) #[.int .i64 0, .int .i64 0, .int .i64 0]; have BB1 := below_row BA1 (show w1.heap.size ≤ w2.heap.size by omega) #[.int .i64 0, .int .i64 0, .int .i64 0]; have zB : w2.heap.size + 1 ≤ (wA.setRow w2.heap.size #[.int .i64 0, .int .i64 0, .int .i64 0]).heap.size := (by rw [setRow_size]; omega); generalize hwB : wA.setRow w2.heap.size #[.int .i64 0, .int .i64 0, .int .i64 0] = wB at *; have kB0 : wB.cell? ⟨w2.heap.size, 0, none⟩ = some (.int .i64 0) := XB.cell 0 rfl; have kB1 : wB.cell? ⟨w2.heap.size, 1, none⟩ = some (.int .i64 0) := XB.cell 1 rfl; have C2 := HC.out wB BB1)
      | (go_at_call 16; refine C2.mono ?_; rintro e w3 ⟨rfl, M3, B3⟩; have X14 := X13.below B3; have z3 := B3.size)
      | (refine wpList_load_row rfl 26 _ rfl w.heap.size rfl 26 _ (0, 0) _ X01 Try.underlying26 rfl Try.infoLs ?_)
      | (refine wpList_load_row rfl 26 _ rfl w.heap.size rfl 26 _ (0, 0) _ X03 Try.underlying26 rfl Try.infoLs ?_)
      | (refine wpList_store_row rfl 51 _ _ rfl w2.heap.size _ rfl rfl 51 _ XW Try.infoHg rfl (hall3 _ _ _) ?_; rw [hwB])
      | (refine wpList_store_row rfl 26 _ _ rfl (w.heap.size + 1) _ rfl rfl 26 _ X14 Try.infoLs rfl (lall _ _ _) ?_))
    refine bodyPost_ret (results_blk2 rfl _ _ (w.heap.size + 1) _ rfl (load_s (X14.row _))) rfl ?_
    exact ⟨_, rfl, M3.keep (setRow_other _ _ _ _ (by omega)), by omega, below_row (below_then BB B3) (by omega) _⟩
  · obtain ⟨a, b, c⟩ := h
    have hr : letN (some ⟨a, b, c⟩) ho ep2 = 14 ∧ (a ≠ ho ∨ b ≠ ep2) := by
      unfold letN at hb ⊢
      simp only at hb ⊢
      by_cases h : a ≠ ho ∨ b ≠ ep2
      · rw [if_pos h]; exact ⟨rfl, h⟩
      · rw [if_neg h] at hb; exact absurd rfl hb
    rw [hr.1]
    have hr2 := hr.2
    clear hb hr
    simp only [Option.getD_some, Option.isSome_some] at C1
    unfold Hg.val at C1
    simp only at C1
    by_cases ha : a = ho
    · subst ha
      have hbe : ¬ b = ep2 := by rcases hr2 with h | h; exact absurd rfl h; exact h
      clear hr2
      go_enter Try.func9, Try.ntmps9
      go_wp2_with (first
        | (go_at_call 13; refine C1.mono ?_; rintro e w2 ⟨rfl, B2⟩; have z2 := B2.size; have XW := (blk_new w2 51 #[.int .i64 0, .int .i64 0, .int .i64 0]); have X02 := (X01.below B2).below (below_alloc' w2 (.cells #[.int .i64 0, .int .i64 0, .int .i64 0] 51)); have X12 := (X1.below B2).below (below_alloc' w2 (.cells #[.int .i64 0, .int .i64 0, .int .i64 0] 51)); have BA := below_then (below_then HB.out B2) (below_alloc' w2 (.cells #[.int .i64 0, .int .i64 0, .int .i64 0] 51)); have zA : w2.heap.size + 1 ≤ (w2.alloc (.cells #[.int .i64 0, .int .i64 0, .int .i64 0] 51)).heap.size := (by simp); have BA1 := below_then B2 (below_alloc' w2 (.cells #[.int .i64 0, .int .i64 0, .int .i64 0] 51)); generalize hwA : w2.alloc (.cells #[.int .i64 0, .int .i64 0, .int .i64 0] 51) = wA at *; have XB := XW.row #[.int .i64 a, .int .i64 b, .int .i64 c]; have X03 := X02.of_block (setRow_other wA w2.heap.size w.heap.size #[.int .i64 a, .int .i64 b, .int .i64 c] (by omega)); have X13 := X12.of_block (setRow_other wA w2.heap.size (w.heap.size + 1) #[.int .i64 a, .int .i64 b, .int .i64 c] (by omega)); have BB := below_row BA (show w.heap.size ≤ w2.heap.size by omega) #[.int .i64 a, .int .i64 b, .int .i64 c]; have BB1 := below_row BA1 (show w1.heap.size ≤ w2.heap.size by omega) #[.int .i64 a, .int .i64 b, .int .i64 c]; have zB : w2.heap.size + 1 ≤ (wA.setRow w2.heap.size #[.int .i64 a, .int .i64 b, .int .i64 c]).heap.size := (by rw [setRow_size]; omega); generalize hwB : wA.setRow w2.heap.size #[.int .i64 a, .int .i64 b, .int .i64 c] = wB at *; have kB0 : wB.cell? ⟨w2.heap.size, 0, none⟩ = some (.int .i64 a) := XB.cell 0 rfl; have kB1 : wB.cell? ⟨w2.heap.size, 1, none⟩ = some (.int .i64 b) := XB.cell 1 rfl; have C2 := HC.out wB BB1)
        | (go_at_call 16; refine C2.mono ?_; rintro e w3 ⟨rfl, M3, B3⟩; have X14 := X13.below B3; have z3 := B3.size)
        | (refine wpList_load_row rfl 26 _ rfl w.heap.size rfl 26 _ (0, 0) _ X01 Try.underlying26 rfl Try.infoLs ?_)
        | (refine wpList_load_row rfl 26 _ rfl w.heap.size rfl 26 _ (0, 0) _ X03 Try.underlying26 rfl Try.infoLs ?_)
        | (refine wpList_store_row rfl 51 _ _ rfl w2.heap.size _ rfl rfl 51 _ XW Try.infoHg rfl (hall3 _ _ _) ?_; rw [hwB])
        | (refine wpList_store_row rfl 26 _ _ rfl (w.heap.size + 1) _ rfl rfl 26 _ X14 Try.infoLs rfl (lall _ _ _) ?_))
      refine bodyPost_ret (results_blk2 rfl _ _ (w.heap.size + 1) _ rfl (load_s (X14.row _))) rfl ?_
      exact ⟨_, rfl, M3.keep (setRow_other _ _ _ _ (by omega)), by omega, below_row (below_then BB B3) (by omega) _⟩
    · clear hr2
      go_enter Try.func9, Try.ntmps9
      go_wp2_with (first
        | (go_at_call 13; refine C1.mono ?_; rintro e w2 ⟨rfl, B2⟩; have z2 := B2.size; have XW := (blk_new w2 51 #[.int .i64 0, .int .i64 0, .int .i64 0]); have X02 := (X01.below B2).below (below_alloc' w2 (.cells #[.int .i64 0, .int .i64 0, .int .i64 0] 51)); have X12 := (X1.below B2).below (below_alloc' w2 (.cells #[.int .i64 0, .int .i64 0, .int .i64 0] 51)); have BA := below_then (below_then HB.out B2) (below_alloc' w2 (.cells #[.int .i64 0, .int .i64 0, .int .i64 0] 51)); have zA : w2.heap.size + 1 ≤ (w2.alloc (.cells #[.int .i64 0, .int .i64 0, .int .i64 0] 51)).heap.size := (by simp); have BA1 := below_then B2 (below_alloc' w2 (.cells #[.int .i64 0, .int .i64 0, .int .i64 0] 51)); generalize hwA : w2.alloc (.cells #[.int .i64 0, .int .i64 0, .int .i64 0] 51) = wA at *; have XB := XW.row #[.int .i64 a, .int .i64 b, .int .i64 c]; have X03 := X02.of_block (setRow_other wA w2.heap.size w.heap.size #[.int .i64 a, .int .i64 b, .int .i64 c] (by omega)); have X13 := X12.of_block (setRow_other wA w2.heap.size (w.heap.size + 1) #[.int .i64 a, .int .i64 b, .int .i64 c] (by omega)); have BB := below_row BA (show w.heap.size ≤ w2.heap.size by omega) #[.int .i64 a, .int .i64 b, .int .i64 c]; have BB1 := below_row BA1 (show w1.heap.size ≤ w2.heap.size by omega) #[.int .i64 a, .int .i64 b, .int .i64 c]; have zB : w2.heap.size + 1 ≤ (wA.setRow w2.heap.size #[.int .i64 a, .int .i64 b, .int .i64 c]).heap.size := (by rw [setRow_size]; omega); generalize hwB : wA.setRow w2.heap.size #[.int .i64 a, .int .i64 b, .int .i64 c] = wB at *; have kB0 : wB.cell? ⟨w2.heap.size, 0, none⟩ = some (.int .i64 a) := XB.cell 0 rfl; have kB1 : wB.cell? ⟨w2.heap.size, 1, none⟩ = some (.int .i64 b) := XB.cell 1 rfl; have C2 := HC.out wB BB1)
        | (go_at_call 16; refine C2.mono ?_; rintro e w3 ⟨rfl, M3, B3⟩; have X14 := X13.below B3; have z3 := B3.size)
        | (refine wpList_load_row rfl 26 _ rfl w.heap.size rfl 26 _ (0, 0) _ X01 Try.underlying26 rfl Try.infoLs ?_)
        | (refine wpList_load_row rfl 26 _ rfl w.heap.size rfl 26 _ (0, 0) _ X03 Try.underlying26 rfl Try.infoLs ?_)
        | (refine wpList_store_row rfl 51 _ _ rfl w2.heap.size _ rfl rfl 51 _ XW Try.infoHg rfl (hall3 _ _ _) ?_; rw [hwB])
        | (refine wpList_store_row rfl 26 _ _ rfl (w.heap.size + 1) _ rfl rfl 26 _ X14 Try.infoLs rfl (lall _ _ _) ?_))
      refine bodyPost_ret (results_blk2 rfl _ _ (w.heap.size + 1) _ rfl (load_s (X14.row _))) rfl ?_
      exact ⟨_, rfl, M3.keep (setRow_other _ _ _ _ (by omega)), by omega, below_row (below_then BB B3) (by omega) _⟩
set_option maxHeartbeats 4000000 in
theorem llet_ok (ep q : Int) (mo : Option Nat) (now x ho ep2 : Int) (L : List (Int × Hg)) (w : World) (hM : HgM w mo L) (hl : L.length ≤ 100000) (hx : -9223372036854775808 ≤ x ∧ x ≤ 9223372036854775807) (hb : letN (whoL now L x) ho ep2 = 0) :
   Calls Try.prog 9 #[lsV ep q mo, .int .i64 now, .int .i64 x, .int .i64 ho, .int .i64 ep2] w fun e w' => ∃ b, e = .returned (.tuple #[lsV ep q (some b), .int .i64 0]) ∧ MapAt Hg.val w' b (delM (lastM now L) x) ∧ w.heap.size ≤ b ∧ Below w.heap.size w w' := by
  have X0 := blk_new w 26 #[.int .i64 ep, .int .i64 q, .map mo]
  have B0 := below_alloc' w (.cells #[.int .i64 ep, .int .i64 q, .map mo] 26)
  have s0 : (w.alloc (.cells #[.int .i64 ep, .int .i64 q, .map mo] 26)).heap.size = w.heap.size + 1 := by simp
  generalize hw0 : w.alloc (.cells #[.int .i64 ep, .int .i64 q, .map mo] 26) = w0 at *
  have X1 := blk_new w0 26 #[.int .i64 0, .int .i64 0, .map none]
  have B1 := below_alloc' w0 (.cells #[.int .i64 0, .int .i64 0, .map none] 26)
  have s1 : (w0.alloc (.cells #[.int .i64 0, .int .i64 0, .map none] 26)).heap.size = w.heap.size + 1 + 1 := by simp [s0]
  have X01 := X0.below B1
  rw [s0] at X1
  generalize hw1 : w0.alloc (.cells #[.int .i64 0, .int .i64 0, .map none] 26) = w1 at *
  have M1 := (hM.below B0).below B1
  have C1 := lwho_any ep q mo now x L w1 M1 hx
  have HC : Hid (∀ W, Below w1.heap.size w1 W → Calls Try.prog 17 #[lsV ep q mo, .int .i64 now] W fun e w' => ∃ b, e = .returned (lsV ep q (some b)) ∧ MapAt Hg.val w' b (lastM now L) ∧ W.heap.size ≤ b ∧ Below W.heap.size W w') := fun W hW => llasting_any ep q mo now L W (M1.below hW) hl
  have HB : Hid (Below w.heap.size w w1) := below_then B0 B1
  have z1 : w.heap.size + 1 + 1 ≤ w1.heap.size := by omega
  have HE : Hid (∀ (W : World) (b : Nat), MapAt Hg.val W b (lastM now L) → ∃ w', (Builtin.delete_ #[24, 3] 0 #[.map (some b), .int .i64 x]).run Try.prog W = .ok (.tuple #[]) w' ∧ MapAt Hg.val w' b (delM (lastM now L) x) ∧ But b W w' ∧ w'.heap.size = W.heap.size) := fun W b hW => hW.drop Try.underlying24 x hx _
  generalize whoL now L x = o at *
  unfold lsV at *
  clear B0 B1 hM M1 s1
  rcases o with _ | h
  · exact absurd hb (show ¬ (8 : Int) = 0 by decide)
  obtain ⟨a, b, c⟩ := h
  obtain ⟨rfl, rfl⟩ : a = ho ∧ b = ep2 := by
    unfold letN at hb
    simp only at hb
    by_cases h : a ≠ ho ∨ b ≠ ep2
    · rw [if_pos h] at hb; omega
    · exact ⟨Decidable.of_not_not (fun e => h (Or.inl e)), Decidable.of_not_not (fun e => h (Or.inr e))⟩
  clear hb
  simp only [Option.getD_some, Option.isSome_some] at C1
  unfold Hg.val at C1
  simp only at C1
  go_enter Try.func9, Try.ntmps9
  go_wp2_with (first
    | (go_at_call 13; refine C1.mono ?_; rintro e w2 ⟨rfl, B2⟩; have z2 := B2.size; have XW := (blk_new w2 51 #[.int .i64 0, .int .i64 0, .int .i64 0]); have X02 := (X01.below B2).below (below_alloc' w2 (.cells #[.int .i64 0, .int .i64 0, .int .i64 0] 51)); have X12 := (X1.below B2).below (below_alloc' w2 (.cells #[.int .i64 0, .int .i64 0, .int .i64 0] 51)); have BA := below_then (below_then HB.out B2) (below_alloc' w2 (.cells #[.int .i64 0, .int .i64 0, .int .i64 0] 51)); have zA : w2.heap.size + 1 ≤ (w2.alloc (.cells #[.int .i64 0, .int .i64 0, .int .i64 0] 51)).heap.size := (by simp); have BA1 := below_then B2 (below_alloc' w2 (.cells #[.int .i64 0, .int .i64 0, .int .i64 0] 51)); generalize hwA : w2.alloc (.cells #[.int .i64 0, .int .i64 0, .int .i64 0] 51) = wA at *; have XB := XW.row #[.int .i64 a, .int .i64 b, .int .i64 c]; have X03 := X02.of_block (setRow_other wA w2.heap.size w.heap.size #[.int .i64 a, .int .i64 b, .int .i64 c] (by omega)); have X13 := X12.of_block (setRow_other wA w2.heap.size (w.heap.size + 1) #[.int .i64 a, .int .i64 b, .int .i64 c] (by omega)); have BB := below_row BA (show w.heap.size ≤ w2.heap.size by omega) #[.int .i64 a, .int .i64 b, .int .i64 c]; have BB1 := below_row BA1 (show w1.heap.size ≤ w2.heap.size by omega) #[.int .i64 a, .int .i64 b, .int .i64 c]; have zB : w2.heap.size + 1 ≤ (wA.setRow w2.heap.size #[.int .i64 a, .int .i64 b, .int .i64 c]).heap.size := (by rw [setRow_size]; omega); generalize hwB : wA.setRow w2.heap.size #[.int .i64 a, .int .i64 b, .int .i64 c] = wB at *; have kB0 : wB.cell? ⟨w2.heap.size, 0, none⟩ = some (.int .i64 a) := XB.cell 0 rfl; have kB1 : wB.cell? ⟨w2.heap.size, 1, none⟩ = some (.int .i64 b) := XB.cell 1 rfl; have C2 := HC.out wB BB1)
    | (go_at_call 17; refine C2.mono ?_; rintro e w3 ⟨b0, rfl, M3, hb3, B3⟩; have X04 := X03.below B3; have X14 := X13.below B3; have z3 := B3.size; have X05 := X04.row #[.int .i64 ep, .int .i64 q, .map (some b0)]; have X15 := X14.of_block (setRow_other w3 w.heap.size (w.heap.size + 1) #[.int .i64 ep, .int .i64 q, .map (some b0)] (by omega)); have M5 := M3.keep (setRow_other w3 w.heap.size b0 #[.int .i64 ep, .int .i64 q, .map (some b0)] (by omega)); have B5 := below_row (below_then BB B3) (Nat.le_refl w.heap.size) #[.int .i64 ep, .int .i64 q, .map (some b0)]; have z5 : w3.heap.size ≤ (w3.setRow w.heap.size #[.int .i64 ep, .int .i64 q, .map (some b0)]).heap.size := (by rw [setRow_size]; exact Nat.le_refl _); generalize hw5 : w3.setRow w.heap.size #[.int .i64 ep, .int .i64 q, .map (some b0)] = w5 at *; have k52 : w5.cell? ⟨w.heap.size, 2, none⟩ = some (.map (some b0)) := X05.cell 2 rfl; obtain ⟨w6, hrun6, M6, B6, s6⟩ := HE.out w5 b0 M5; have X06 := X05.but B6 (by omega); have X16 := X15.but B6 (by omega); clear s6)
    | (refine wpList_load_row rfl 26 _ rfl w.heap.size rfl 26 _ (0, 0) _ X01 Try.underlying26 rfl Try.infoLs ?_)
    | (refine wpList_load_row rfl 26 _ rfl w.heap.size rfl 26 _ (0, 0) _ X03 Try.underlying26 rfl Try.infoLs ?_)
    | (refine wpList_store_row rfl 51 _ _ rfl w2.heap.size _ rfl rfl 51 _ XW Try.infoHg rfl (hall3 _ _ _) ?_; rw [hwB])
    | (refine wpList_load_row rfl 26 _ rfl w.heap.size rfl 26 _ (0, 0) _ X06 Try.underlying26 rfl Try.infoLs ?_)
    | (refine wpList_store_row rfl 26 _ _ rfl w.heap.size _ rfl rfl 26 _ X04 Try.infoLs rfl (lall _ _ _) ?_; rw [hw5])
    | (refine wpList_store_row rfl 26 _ _ rfl (w.heap.size + 1) _ rfl rfl 26 _ X16 Try.infoLs rfl (lall _ _ _) ?_))
  refine bodyPost_ret (results_blk2 rfl _ _ (w.heap.size + 1) _ rfl (load_s (X16.row _))) rfl ?_
  exact ⟨_, rfl, M6.keep (setRow_other _ _ _ _ (by omega)), by omega, below_row (B5.trans (B6.below (B := w.heap.size) (by omega) (by omega))) (by omega) _⟩
/-- A number between 0 and most. -/
def witN (n most : Int) : Int := min (max n 0) most
theorem lwithin_any (n m : Int) (w : World) : Calls Try.prog 20 #[.int .i64 n, .int .i64 m] w fun e w' => e = .returned (.int .i64 (witN n m)) ∧ w' = w := by
  obtain ⟨r, hr⟩ : ∃ r, r = witN n m := ⟨_, rfl⟩
  rw [← hr]
  have HR : Hid (r = witN n m) := hr
  clear hr
  by_cases h1 : n < 0
  · by_cases h2 : m < 0
    · go_enter Try.func20, Try.ntmps20
      go_wp2
      go_ret
      exact ⟨ret_int (by rw [HR.out]; unfold witN; omega), rfl⟩
    · go_enter Try.func20, Try.ntmps20
      go_wp2
      go_ret
      exact ⟨ret_int (by rw [HR.out]; unfold witN; omega), rfl⟩
  · by_cases h2 : m < n
    · go_enter Try.func20, Try.ntmps20
      go_wp2
      go_ret
      exact ⟨ret_int (by rw [HR.out]; unfold witN; omega), rfl⟩
    · go_enter Try.func20, Try.ntmps20
      go_wp2
      go_ret
      exact ⟨ret_int (by rw [HR.out]; unfold witN; omega), rfl⟩
set_option maxHeartbeats 4000000 in
theorem lrestart_any (ep q : Int) (mo : Option Nat) (now term : Int) (w : World) :
   Calls Try.prog 11 #[lsV ep q mo, .int .i64 now, .int .i64 term] w fun e w' => e = .returned (lsV ep (witN now 1099511627776 + witN term 1048576) none) ∧ Below w.heap.size w w' := by
  have X0 := blk_new w 26 #[.int .i64 ep, .int .i64 q, .map mo]
  have B0 := below_alloc' w (.cells #[.int .i64 ep, .int .i64 q, .map mo] 26)
  have s0 : (w.alloc (.cells #[.int .i64 ep, .int .i64 q, .map mo] 26)).heap.size = w.heap.size + 1 := by simp
  generalize hw0 : w.alloc (.cells #[.int .i64 ep, .int .i64 q, .map mo] 26) = w0 at *
  have X1 := blk_new w0 26 #[.int .i64 0, .int .i64 0, .map none]
  have B1 := below_alloc' w0 (.cells #[.int .i64 0, .int .i64 0, .map none] 26)
  have X01 := X0.below B1
  rw [s0] at X1
  generalize hw1 : w0.alloc (.cells #[.int .i64 0, .int .i64 0, .map none] 26) = w1 at *
  have BB := below_then B0 B1
  have C1 := lwithin_any now 1099511627776
  have C2 := lwithin_any term 1048576
  have k0 : w1.cell? ⟨w.heap.size, 0, none⟩ = some (.int .i64 ep) := X01.cell 0 rfl
  have hq : wrap64 (witN now 1099511627776 + witN term 1048576) = witN now 1099511627776 + witN term 1048576 := by unfold wrap64 witN; omega
  generalize witN now 1099511627776 = u at *
  generalize witN term 1048576 = v at *
  unfold lsV
  clear B0 B1
  go_enter Try.func11, Try.ntmps11
  go_wp2_with (first
    | (go_at_call_of 20 now; refine (C1 _).mono ?_; rintro e w1 ⟨rfl, rfl⟩)
    | (go_at_call_of 20 term; refine (C2 _).mono ?_; rintro e w1 ⟨rfl, rfl⟩)
    | (refine wpList_store_row rfl 26 _ _ rfl (w.heap.size + 1) _ rfl rfl 26 _ X1 Try.infoLs rfl (lall _ _ _) ?_))
  refine bodyPost_ret (results_cell_row rfl _ _ (w.heap.size + 1) 26 _ _ _ rfl (X1.row _) Try.underlying26 rfl Try.infoLs) rfl ?_
  exact ⟨rfl, below_row BB (by omega) _⟩
end Go.Proofs.Ytacmphckmjangaa
