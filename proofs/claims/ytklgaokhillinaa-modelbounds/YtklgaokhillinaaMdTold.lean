/- No numbers, told as the document's. -/
import Derived.Test.YtklgaokhillinaaMdRShape
import Derived.Test.YtklgaokhillinaaMdRMake
import Derived.Test.YtklgaokhillinaaMdSame
import Derived.Deep.RegionHeld3
namespace Go.Proofs.Ytklgaokhillinaa
open Go.ChangeShapes Go.WideShapes Go.ChangeAt Go.RowKit
set_option maxHeartbeats 1600000 in
theorem mfew_take (r c : Int) (ao : Option Addr) (n ca : Nat) (D : List Int) (w : World) (hD : Arg w ao n ca D) :
   Calls Try.prog 23 #[matV r c ao n ca] w fun e w' => ∃ g n' cap, e = .returned (matV r c (some ⟨g, 0, none⟩) n' cap) ∧ n' ≤ 2000 ∧ Fresh w' w.heap.size g n' cap (D.take 2000) ∧ Below w.heap.size w w' := by
  have X0 := box_new w r c ao n ca
  have B0 : Below w.heap.size w (w.alloc (.cells #[.int .i64 r, .int .i64 c, .slice ao n ca] 26)) := (Below.refl _ _).alloc (Nat.le_refl _) _
  generalize hw0 : w.alloc (.cells #[.int .i64 r, .int .i64 c, .slice ao n ca] 26) = w0 at X0 B0
  have hs0 : w0.heap.size = w.heap.size + 1 := by rw [← hw0]; simp
  have X1 := box_new w0 0 0 none 0 0
  have B1 : Below w0.heap.size w0 (w0.alloc (.cells #[.int .i64 0, .int .i64 0, .slice none 0 0] 26)) := (Below.refl _ _).alloc (Nat.le_refl _) _
  generalize hw1 : w0.alloc (.cells #[.int .i64 0, .int .i64 0, .slice none 0 0] 26) = w1 at X1 B1
  replace X0 := X0.below B1
  replace B1 := below_then B0 B1
  rw [hs0] at X1
  have q2 := X0.c2
  go_enter Try.func23, Try.ntmps23
  unfold matV at *
  go_wp2_with fail
  refine (few_any ao n ca D 2000 2000 _ rfl (by exact hD.below B1) (by omega)).mono ?_
  rintro e w2 ⟨g2, n2, c2, rfl, l2, F2, B2⟩
  have i2 := F2.base
  have i0 := X0.lt
  have i1 := X1.lt
  replace X0 := X0.below B2
  replace X1 := X1.below B2
  replace B2 := below_then B1 B2
  clear hw0 hw1 q2
  have q0 := X0.c0
  have q1 := X0.c1
  have q2 := X0.c2
  have f2 := X0.frozen 2
  have u0 := X1.c0
  have u1 := X1.c1
  have u2 := X1.c2
  have v0 := X1.frozen 0
  have v1 := X1.frozen 1
  have v2 := X1.frozen 2
  go_wp2
  have X2 := X1.block (w' := w2.setCell ⟨w.heap.size, 2, none⟩ (.slice (some ⟨g2, 0, none⟩) n2 c2)) (Below.heap_setCell _ _ _ _ (by show w.heap.size + 1 ≠ w.heap.size; omega))
  have F3 := F2.setOther (a := ⟨w.heap.size, 2, none⟩) (by show g2 ≠ w.heap.size; omega) (.slice (some ⟨g2, 0, none⟩) n2 c2)
  have B3 := B2.setCell (p := ⟨w.heap.size, 2, none⟩) (Nat.le_refl _) (.slice (some ⟨g2, 0, none⟩) n2 c2)
  generalize w2.setCell ⟨w.heap.size, 2, none⟩ (.slice (some ⟨g2, 0, none⟩) n2 c2) = w3 at *
  refine bodyPost_ret (results_cell_row rfl _ _ (w.heap.size + 1) _ _ _ _ rfl (X2.put _ _ _ _ _) Try.underlying26 rfl (by kernel_rfl)) rfl ?_
  exact ⟨g2, n2, c2, rfl, l2, (F3.mono (by omega)).put (by omega) _ _ _, Below.put B3 (by omega) _ _ _⟩
theorem xa_of {u v : World} (h : Below (u.alloc (.cells #[.int .i64 0, .int .i64 0, .slice none 0 0, .slice none 0 0, .slice none 0 0, .int .i64 0, .int .i64 0, .slice none 0 0] 33)).heap.size (u.alloc (.cells #[.int .i64 0, .int .i64 0, .slice none 0 0, .slice none 0 0, .slice none 0 0, .int .i64 0, .int .i64 0, .slice none 0 0] 33)) v) : Blk v u.heap.size 33 #[.int .i64 0, .int .i64 0, .slice none 0 0, .slice none 0 0, .slice none 0 0, .int .i64 0, .int .i64 0, .slice none 0 0] := (blk_new u _ _).below h
theorem arg_nil (w : World) : Arg w none 0 0 [] := ⟨RowAt.nil w none, by omega, by omega, fun _ => rfl⟩
theorem mfew_nil (w : World) : Calls Try.prog 23 #[.agg #[.int .i64 0, .int .i64 0, .slice none 0 0]] w fun e w' => ∃ g cap, e = .returned (.agg #[.int .i64 0, .int .i64 0, .slice (some ⟨g, 0, none⟩) 0 cap]) ∧ Below w.heap.size w w' := by
  refine (mfew_take 0 0 none 0 0 [] w (arg_nil w)).mono ?_
  rintro e w' ⟨g, n', cap, rfl, _, F, B⟩
  have := F.len
  simp at this
  subst this
  exact ⟨g, cap, rfl, B⟩
theorem few_nil (w : World) : Calls Try.prog 24 #[.slice none 0 0, .int .i64 100] w fun e w' => ∃ g cap, e = .returned (.slice (some ⟨g, 0, none⟩) 0 cap) ∧ Below w.heap.size w w' := by
  refine (few_any none 0 0 [] 100 100 w rfl (arg_nil w) (by omega)).mono ?_
  rintro e w' ⟨g, n', cap, rfl, _, F, B⟩
  have := F.len
  simp at this
  subst this
  exact ⟨g, cap, rfl, B⟩
set_option maxRecDepth 100000 in
set_option maxHeartbeats 1600000 in
theorem told_none (w : World) :
   Calls Try.prog 7 #[.agg noW] w fun e w' => ∃ ge ce gl cl gu cu, e = .returned (.agg (Wt.cells ⟨⟨0, 0, ⟨some ⟨ge, 0, none⟩, 0, ce⟩⟩, ⟨none, 0, 0⟩, ⟨some ⟨gl, 0, none⟩, 0, cl⟩, ⟨0, 0, ⟨some ⟨gu, 0, none⟩, 0, cu⟩⟩⟩)) ∧ Below w.heap.size w w' := by
  have X0 := blk_new w 29 noW
  have B0 : Below w.heap.size w (w.alloc (.cells noW 29)) := (Below.refl _ _).alloc (Nat.le_refl _) _
  have s0 : (w.alloc (.cells noW 29)).heap.size = w.heap.size + 1 := by simp
  unfold noW at *
  generalize hw0 : w.alloc (.cells #[.int .i64 0, .int .i64 0, .slice none 0 0, .slice none 0 0, .slice none 0 0, .int .i64 0, .int .i64 0, .slice none 0 0] 29) = w0 at *
  have X1 := blk_new w0 33 #[.int .i64 0, .int .i64 0, .slice none 0 0, .slice none 0 0, .slice none 0 0, .int .i64 0, .int .i64 0, .slice none 0 0]
  have B1 : Below w0.heap.size w0 (w0.alloc (.cells #[.int .i64 0, .int .i64 0, .slice none 0 0, .slice none 0 0, .slice none 0 0, .int .i64 0, .int .i64 0, .slice none 0 0] 33)) := (Below.refl _ _).alloc (Nat.le_refl _) _
  rw [s0] at X1
  generalize hw1 : w0.alloc (.cells #[.int .i64 0, .int .i64 0, .slice none 0 0, .slice none 0 0, .slice none 0 0, .int .i64 0, .int .i64 0, .slice none 0 0] 33) = w1 at *
  replace X0 := X0.below B1
  have DB := below_then B0 B1
  go_enter Try.func7, Try.ntmps7
  go_wp2_with fail
  clear hw0 hw1 B0 s0 B1
  have zX := X1.lt
  replace X0 := X0.below ((Below.refl _ _).drew)
  replace X1 := X1.below ((Below.refl _ _).drew)
  replace DB := DB.drew
  replace zX : w.heap.size + 1 < w1.drew.heap.size := zX
  refine wp_region_held_drew (S := fun w' => Blk w' w.heap.size 29 #[.int .i64 0, .int .i64 0, .slice none 0 0, .slice none 0 0, .slice none 0 0, .int .i64 0, .int .i64 0, .slice none 0 0]) (by kernel_rfl) (X0) (fun hHeld => ?_)
  generalize hA : w1.drew = wA at *
  clear hA
  refine wpAnyH_take (i := 0) (v := (.pointer (some ⟨w.heap.size, 0, none⟩))) rfl (by kernel_rfl) (by kernel_rfl) (by kernel_rfl) (fun _ _ _ h => h) (Or.inl ⟨by rfl, ?_⟩) (by assumption) ?_
  · intro w' hSw
    go_simp
  simp only [List.getElem_toArray, List.getElem_cons_zero, Act.put, List.setIfInBounds_toArray, List.set_cons_zero, List.set_cons_succ]
  refine wpAnyH_take (i := 1) (v := (.agg #[.int .i64 0, .int .i64 0, .slice none 0 0])) rfl (by kernel_rfl) (by kernel_rfl) (by kernel_rfl) (fun _ _ _ h => h) (Or.inl ⟨by rfl, ?_⟩) (by assumption) ?_
  · intro w' hSw
    have cc0 : w'.cell? ⟨w.heap.size, 0, none⟩ = some (.int .i64 0) := hSw.cell 0 rfl
    have cc1 : w'.cell? ⟨w.heap.size, 1, none⟩ = some (.int .i64 0) := hSw.cell 1 rfl
    have cc2 : w'.cell? ⟨w.heap.size, 2, none⟩ = some (.slice none 0 0) := hSw.cell 2 rfl
    go_simp
  simp only [List.getElem_toArray, List.getElem_cons_succ, List.getElem_cons_zero, Act.put, List.setIfInBounds_toArray, List.set_cons_zero, List.set_cons_succ]
  refine wpAnyH_take (i := 3) (v := (.pointer (some ⟨w.heap.size, 4, none⟩))) rfl (by kernel_rfl) (by kernel_rfl) (by kernel_rfl) (fun _ _ _ h => h) (Or.inl ⟨by rfl, ?_⟩) (by assumption) ?_
  · intro w' hSw
    go_simp
  simp only [List.getElem_toArray, List.getElem_cons_succ, List.getElem_cons_zero, Act.put, List.setIfInBounds_toArray, List.set_cons_zero, List.set_cons_succ]
  refine wpAnyH_take (i := 4) (v := (.slice none 0 0)) rfl (by kernel_rfl) (by kernel_rfl) (by kernel_rfl) (fun _ _ _ h => h) (Or.inl ⟨by rfl, ?_⟩) (by assumption) ?_
  · intro w' hSw
    have cc4 : w'.cell? ⟨w.heap.size, 4, none⟩ = some (.slice none 0 0) := hSw.cell 4 rfl
    go_simp
  simp only [List.getElem_toArray, List.getElem_cons_succ, List.getElem_cons_zero, Act.put, List.setIfInBounds_toArray, List.set_cons_zero, List.set_cons_succ]
  refine wpAnyH_take (i := 6) (v := (.pointer (some ⟨w.heap.size, 5, none⟩))) rfl (by kernel_rfl) (by kernel_rfl) (by kernel_rfl) (fun _ _ _ h => h) (Or.inl ⟨by rfl, ?_⟩) (by assumption) ?_
  · intro w' hSw
    go_simp
  simp only [List.getElem_toArray, List.getElem_cons_succ, List.getElem_cons_zero, Act.put, List.setIfInBounds_toArray, List.set_cons_zero, List.set_cons_succ]
  refine wpAnyH_take (i := 7) (v := (.agg #[.int .i64 0, .int .i64 0, .slice none 0 0])) rfl (by kernel_rfl) (by kernel_rfl) (by kernel_rfl) (fun _ _ _ h => h) (Or.inl ⟨by rfl, ?_⟩) (by assumption) ?_
  · intro w' hSw
    have cc5 : w'.cell? ⟨w.heap.size, 5, none⟩ = some (.int .i64 0) := hSw.cell 5 rfl
    have cc6 : w'.cell? ⟨w.heap.size, 6, none⟩ = some (.int .i64 0) := hSw.cell 6 rfl
    have cc7 : w'.cell? ⟨w.heap.size, 7, none⟩ = some (.slice none 0 0) := hSw.cell 7 rfl
    go_simp
  simp only [List.getElem_toArray, List.getElem_cons_succ, List.getElem_cons_zero, Act.put, List.setIfInBounds_toArray, List.set_cons_zero, List.set_cons_succ]
  refine wpAnyH_ready (rs := [2, 10]) (by kernel_rfl) (by simp) ?_
  refine AllReadyH.cons rfl (fun Kc hKc => ?_) (AllReadyH.cons rfl (fun Kc hKc => ?_) AllReadyH.nil)
  · simp only [List.getElem_toArray, List.getElem_cons_succ, List.getElem_cons_zero]
    rw [if_pos (by rfl)]
    go_wp2_with fail
    refine (mfew_nil wA).mono ?_
    rintro e wN1 ⟨g1, k1, rfl, EM⟩
    replace X0 := X0.below EM
    replace X1 := X1.below EM
    replace DB := below_then DB EM
    replace zX := Nat.lt_of_lt_of_le zX EM.size
    go_wp2_with fail
    refine hKc.out _ _ X0 (fun hHeld => ?_)
    clear hKc Kc EM
    refine wpAnyH_ready (rs := [5, 10]) (by kernel_rfl) (by simp) ?_
    refine AllReadyH.cons rfl (fun Kc hKc => ?_) (AllReadyH.cons rfl (fun Kc hKc => ?_) AllReadyH.nil)
    · simp only [List.getElem_toArray, List.getElem_cons_succ, List.getElem_cons_zero]
      rw [if_pos (by rfl)]
      go_wp2_with fail
      refine (few_nil wN1).mono ?_
      rintro e wN2 ⟨g2, k2, rfl, EM⟩
      replace X0 := X0.below EM
      replace X1 := X1.below EM
      replace DB := below_then DB EM
      replace zX := Nat.lt_of_lt_of_le zX EM.size
      go_wp2_with fail
      refine hKc.out _ _ X0 (fun hHeld => ?_)
      clear hKc Kc EM
      refine wpAnyH_ready (rs := [8, 10]) (by kernel_rfl) (by simp) ?_
      refine AllReadyH.cons rfl (fun Kc hKc => ?_) (AllReadyH.cons rfl (fun Kc hKc => ?_) AllReadyH.nil)
      · simp only [List.getElem_toArray, List.getElem_cons_succ, List.getElem_cons_zero]
        rw [if_pos (by rfl)]
        go_wp2_with fail
        refine (mfew_nil wN2).mono ?_
        rintro e wN3 ⟨g3, k3, rfl, EM⟩
        replace X0 := X0.below EM
        replace X1 := X1.below EM
        replace DB := below_then DB EM
        replace zX := Nat.lt_of_lt_of_le zX EM.size
        go_wp2_with fail
        refine hKc.out _ _ X0 (fun hHeld => ?_)
        clear hKc Kc EM
        refine wpAnyH_take (i := 9) (v := (.agg #[.int .i64 0, .int .i64 0, .slice (some ⟨g1, 0, none⟩) 0 k1, .slice none 0 0, .slice (some ⟨g2, 0, none⟩) 0 k2, .int .i64 0, .int .i64 0, .slice (some ⟨g3, 0, none⟩) 0 k3])) rfl (by kernel_rfl) (by kernel_rfl) (by kernel_rfl) (fun _ _ _ h => h) (Or.inl ⟨by rfl, ?_⟩) (by assumption) ?_
        · intro w' hSw
          go_simp
        simp only [List.getElem_toArray, List.getElem_cons_succ, List.getElem_cons_zero, Act.put, List.setIfInBounds_toArray, List.set_cons_zero, List.set_cons_succ]
        refine wpAnyH_ready (rs := [10]) (by kernel_rfl) (by simp) ?_
        refine AllReadyH.cons rfl (fun Kc hKc => ?_) AllReadyH.nil
        simp only [List.getElem_toArray, List.getElem_cons_succ, List.getElem_cons_zero]
        rw [if_pos (by rfl)]
        go_wp2_with fail
        have XA0 := blk_new wN3 33 #[.int .i64 0, .int .i64 0, .slice none 0 0, .slice none 0 0, .slice none 0 0, .int .i64 0, .int .i64 0, .slice none 0 0]
        have zA : w.heap.size + 1 < wN3.heap.size := zX
        have EM : Below wN3.heap.size wN3 (wN3.alloc (.cells #[.int .i64 0, .int .i64 0, .slice none 0 0, .slice none 0 0, .slice none 0 0, .int .i64 0, .int .i64 0, .slice none 0 0] 33)) := (Below.refl _ _).alloc (Nat.le_refl _) _
        generalize hn : wN3.alloc (.cells #[.int .i64 0, .int .i64 0, .slice none 0 0, .slice none 0 0, .slice none 0 0, .int .i64 0, .int .i64 0, .slice none 0 0] 33) = wN4 at *
        replace X0 := X0.below EM
        replace X1 := X1.below EM
        replace DB := below_then DB EM
        replace zX := Nat.lt_of_lt_of_le zX EM.size
        have XA := XA0
        clear XA0 hn
        refine hKc.out _ _ X0 (fun hHeld => ?_)
        clear hKc Kc EM
        refine wpAnyH_ready (rs := [11]) (by kernel_rfl) (by simp) ?_
        refine AllReadyH.cons rfl (fun Kc hKc => ?_) AllReadyH.nil
        simp only [List.getElem_toArray, List.getElem_cons_succ, List.getElem_cons_zero]
        rw [if_pos (by rfl)]
        have one : Array.all (#[.int .i64 0, .int .i64 0, .slice (some ⟨g1, 0, none⟩) 0 k1, .slice none 0 0, .slice (some ⟨g2, 0, none⟩) 0 k2, .int .i64 0, .int .i64 0, .slice (some ⟨g3, 0, none⟩) 0 k3] : Array Value) (fun v => v.oneCell') = true := by simp [Value.oneCell']
        refine wp_store_row 33 _ _ rfl wN3.heap.size #[.int .i64 0, .int .i64 0, .slice (some ⟨g1, 0, none⟩) 0 k1, .slice none 0 0, .slice (some ⟨g2, 0, none⟩) 0 k2, .int .i64 0, .int .i64 0, .slice (some ⟨g3, 0, none⟩) 0 k3] rfl rfl 33 _ XA Try.infoRW rfl one ?_
        have so : ∀ b, b ≠ wN3.heap.size → (wN4.setRow wN3.heap.size #[.int .i64 0, .int .i64 0, .slice (some ⟨g1, 0, none⟩) 0 k1, .slice none 0 0, .slice (some ⟨g2, 0, none⟩) 0 k2, .int .i64 0, .int .i64 0, .slice (some ⟨g3, 0, none⟩) 0 k3]).heap[b]? = wN4.heap[b]? := fun b hb => setRow_other _ _ _ _ hb
        replace X0 := Blk.of_block X0 (so _ (by omega))
        replace X1 := Blk.of_block X1 (so _ (by omega))
        have XR := XA.row #[.int .i64 0, .int .i64 0, .slice (some ⟨g1, 0, none⟩) 0 k1, .slice none 0 0, .slice (some ⟨g2, 0, none⟩) 0 k2, .int .i64 0, .int .i64 0, .slice (some ⟨g3, 0, none⟩) 0 k3]
        replace DB := below_setRow DB (show w.heap.size ≤ wN3.heap.size by omega) #[.int .i64 0, .int .i64 0, .slice (some ⟨g1, 0, none⟩) 0 k1, .slice none 0 0, .slice (some ⟨g2, 0, none⟩) 0 k2, .int .i64 0, .int .i64 0, .slice (some ⟨g3, 0, none⟩) 0 k3]
        generalize hn : wN4.setRow wN3.heap.size #[.int .i64 0, .int .i64 0, .slice (some ⟨g1, 0, none⟩) 0 k1, .slice none 0 0, .slice (some ⟨g2, 0, none⟩) 0 k2, .int .i64 0, .int .i64 0, .slice (some ⟨g3, 0, none⟩) 0 k3] = wS at *
        generalize wN3.heap.size = gA at *
        refine hKc.out _ _ X0 (fun hHeld => ?_)
        clear hKc Kc hn so XA
        refine wpAnyH_done (by kernel_rfl) ?_ _
        clear hHeld zX zA
        have a3 : wS.cell? ⟨w.heap.size, 3, none⟩ = some (.slice none 0 0) := X0.cell 3 rfl
        go_wp2_with fail
        go_loopg [4] 1 (fun _ i wr => i = .int .i64 0 ∧ wr = wS)
        case atStart => exact ⟨rfl, rfl⟩
        case round =>
          obtain ⟨rfl, rfl⟩ := hrel
          go_wp2_with (first | (refine wpList_load_row rfl 33 _ rfl gA rfl 33 _ (0, 0) _ XR Try.underlying33 rfl Try.infoRW ?_) | (refine wpList_store_row rfl 33 _ _ rfl (w.heap.size + 1) _ rfl rfl 33 _ X1 Try.infoRW rfl one ?_))
          refine bodyPost_ret (results_cell_row rfl _ _ (w.heap.size + 1) 33 _ _ _ rfl (X1.row _) Try.underlying33 rfl Try.infoRW) rfl ?_
          exact ⟨g1, k1, g2, k2, g3, k3, rfl, below_setRow DB (by omega) _⟩
      · simp only [List.getElem_toArray, List.getElem_cons_succ, List.getElem_cons_zero]
        rw [if_pos (by rfl)]
        go_wp2_with fail
        have XA0 := blk_new wN2 33 #[.int .i64 0, .int .i64 0, .slice none 0 0, .slice none 0 0, .slice none 0 0, .int .i64 0, .int .i64 0, .slice none 0 0]
        have zA : w.heap.size + 1 < wN2.heap.size := zX
        have EM : Below wN2.heap.size wN2 (wN2.alloc (.cells #[.int .i64 0, .int .i64 0, .slice none 0 0, .slice none 0 0, .slice none 0 0, .int .i64 0, .int .i64 0, .slice none 0 0] 33)) := (Below.refl _ _).alloc (Nat.le_refl _) _
        generalize hn : wN2.alloc (.cells #[.int .i64 0, .int .i64 0, .slice none 0 0, .slice none 0 0, .slice none 0 0, .int .i64 0, .int .i64 0, .slice none 0 0] 33) = wN5 at *
        replace X0 := X0.below EM
        replace X1 := X1.below EM
        replace DB := below_then DB EM
        replace zX := Nat.lt_of_lt_of_le zX EM.size
        have XA := XA0
        clear XA0 hn
        refine hKc.out _ _ X0 (fun hHeld => ?_)
        clear hKc Kc EM
        refine wpAnyH_ready (rs := [8]) (by kernel_rfl) (by simp) ?_
        refine AllReadyH.cons rfl (fun Kc hKc => ?_) AllReadyH.nil
        simp only [List.getElem_toArray, List.getElem_cons_succ, List.getElem_cons_zero]
        rw [if_pos (by rfl)]
        go_wp2_with fail
        refine (mfew_nil wN5).mono ?_
        rintro e wN6 ⟨g3, k3, rfl, EM⟩
        replace X0 := X0.below EM
        replace X1 := X1.below EM
        replace XA := XA.below EM
        replace DB := below_then DB EM
        replace zX := Nat.lt_of_lt_of_le zX EM.size
        go_wp2_with fail
        refine hKc.out _ _ X0 (fun hHeld => ?_)
        clear hKc Kc EM
        refine wpAnyH_take (i := 9) (v := (.agg #[.int .i64 0, .int .i64 0, .slice (some ⟨g1, 0, none⟩) 0 k1, .slice none 0 0, .slice (some ⟨g2, 0, none⟩) 0 k2, .int .i64 0, .int .i64 0, .slice (some ⟨g3, 0, none⟩) 0 k3])) rfl (by kernel_rfl) (by kernel_rfl) (by kernel_rfl) (fun _ _ _ h => h) (Or.inl ⟨by rfl, ?_⟩) (by assumption) ?_
        · intro w' hSw
          go_simp
        simp only [List.getElem_toArray, List.getElem_cons_succ, List.getElem_cons_zero, Act.put, List.setIfInBounds_toArray, List.set_cons_zero, List.set_cons_succ]
        refine wpAnyH_ready (rs := [11]) (by kernel_rfl) (by simp) ?_
        refine AllReadyH.cons rfl (fun Kc hKc => ?_) AllReadyH.nil
        simp only [List.getElem_toArray, List.getElem_cons_succ, List.getElem_cons_zero]
        rw [if_pos (by rfl)]
        have one : Array.all (#[.int .i64 0, .int .i64 0, .slice (some ⟨g1, 0, none⟩) 0 k1, .slice none 0 0, .slice (some ⟨g2, 0, none⟩) 0 k2, .int .i64 0, .int .i64 0, .slice (some ⟨g3, 0, none⟩) 0 k3] : Array Value) (fun v => v.oneCell') = true := by simp [Value.oneCell']
        refine wp_store_row 33 _ _ rfl wN2.heap.size #[.int .i64 0, .int .i64 0, .slice (some ⟨g1, 0, none⟩) 0 k1, .slice none 0 0, .slice (some ⟨g2, 0, none⟩) 0 k2, .int .i64 0, .int .i64 0, .slice (some ⟨g3, 0, none⟩) 0 k3] rfl rfl 33 _ XA Try.infoRW rfl one ?_
        have so : ∀ b, b ≠ wN2.heap.size → (wN6.setRow wN2.heap.size #[.int .i64 0, .int .i64 0, .slice (some ⟨g1, 0, none⟩) 0 k1, .slice none 0 0, .slice (some ⟨g2, 0, none⟩) 0 k2, .int .i64 0, .int .i64 0, .slice (some ⟨g3, 0, none⟩) 0 k3]).heap[b]? = wN6.heap[b]? := fun b hb => setRow_other _ _ _ _ hb
        replace X0 := Blk.of_block X0 (so _ (by omega))
        replace X1 := Blk.of_block X1 (so _ (by omega))
        have XR := XA.row #[.int .i64 0, .int .i64 0, .slice (some ⟨g1, 0, none⟩) 0 k1, .slice none 0 0, .slice (some ⟨g2, 0, none⟩) 0 k2, .int .i64 0, .int .i64 0, .slice (some ⟨g3, 0, none⟩) 0 k3]
        replace DB := below_setRow DB (show w.heap.size ≤ wN2.heap.size by omega) #[.int .i64 0, .int .i64 0, .slice (some ⟨g1, 0, none⟩) 0 k1, .slice none 0 0, .slice (some ⟨g2, 0, none⟩) 0 k2, .int .i64 0, .int .i64 0, .slice (some ⟨g3, 0, none⟩) 0 k3]
        generalize hn : wN6.setRow wN2.heap.size #[.int .i64 0, .int .i64 0, .slice (some ⟨g1, 0, none⟩) 0 k1, .slice none 0 0, .slice (some ⟨g2, 0, none⟩) 0 k2, .int .i64 0, .int .i64 0, .slice (some ⟨g3, 0, none⟩) 0 k3] = wS at *
        generalize wN2.heap.size = gA at *
        refine hKc.out _ _ X0 (fun hHeld => ?_)
        clear hKc Kc hn so XA
        refine wpAnyH_done (by kernel_rfl) ?_ _
        clear hHeld zX zA
        have a3 : wS.cell? ⟨w.heap.size, 3, none⟩ = some (.slice none 0 0) := X0.cell 3 rfl
        go_wp2_with fail
        go_loopg [4] 1 (fun _ i wr => i = .int .i64 0 ∧ wr = wS)
        case atStart => exact ⟨rfl, rfl⟩
        case round =>
          obtain ⟨rfl, rfl⟩ := hrel
          go_wp2_with (first | (refine wpList_load_row rfl 33 _ rfl gA rfl 33 _ (0, 0) _ XR Try.underlying33 rfl Try.infoRW ?_) | (refine wpList_store_row rfl 33 _ _ rfl (w.heap.size + 1) _ rfl rfl 33 _ X1 Try.infoRW rfl one ?_))
          refine bodyPost_ret (results_cell_row rfl _ _ (w.heap.size + 1) 33 _ _ _ rfl (X1.row _) Try.underlying33 rfl Try.infoRW) rfl ?_
          exact ⟨g1, k1, g2, k2, g3, k3, rfl, below_setRow DB (by omega) _⟩
    · simp only [List.getElem_toArray, List.getElem_cons_succ, List.getElem_cons_zero]
      rw [if_pos (by rfl)]
      go_wp2_with fail
      have XA0 := blk_new wN1 33 #[.int .i64 0, .int .i64 0, .slice none 0 0, .slice none 0 0, .slice none 0 0, .int .i64 0, .int .i64 0, .slice none 0 0]
      have zA : w.heap.size + 1 < wN1.heap.size := zX
      have EM : Below wN1.heap.size wN1 (wN1.alloc (.cells #[.int .i64 0, .int .i64 0, .slice none 0 0, .slice none 0 0, .slice none 0 0, .int .i64 0, .int .i64 0, .slice none 0 0] 33)) := (Below.refl _ _).alloc (Nat.le_refl _) _
      generalize hn : wN1.alloc (.cells #[.int .i64 0, .int .i64 0, .slice none 0 0, .slice none 0 0, .slice none 0 0, .int .i64 0, .int .i64 0, .slice none 0 0] 33) = wN7 at *
      replace X0 := X0.below EM
      replace X1 := X1.below EM
      replace DB := below_then DB EM
      replace zX := Nat.lt_of_lt_of_le zX EM.size
      have XA := XA0
      clear XA0 hn
      refine hKc.out _ _ X0 (fun hHeld => ?_)
      clear hKc Kc EM
      refine wpAnyH_ready (rs := [5]) (by kernel_rfl) (by simp) ?_
      refine AllReadyH.cons rfl (fun Kc hKc => ?_) AllReadyH.nil
      simp only [List.getElem_toArray, List.getElem_cons_succ, List.getElem_cons_zero]
      rw [if_pos (by rfl)]
      go_wp2_with fail
      refine (few_nil wN7).mono ?_
      rintro e wN8 ⟨g2, k2, rfl, EM⟩
      replace X0 := X0.below EM
      replace X1 := X1.below EM
      replace XA := XA.below EM
      replace DB := below_then DB EM
      replace zX := Nat.lt_of_lt_of_le zX EM.size
      go_wp2_with fail
      refine hKc.out _ _ X0 (fun hHeld => ?_)
      clear hKc Kc EM
      refine wpAnyH_ready (rs := [8]) (by kernel_rfl) (by simp) ?_
      refine AllReadyH.cons rfl (fun Kc hKc => ?_) AllReadyH.nil
      simp only [List.getElem_toArray, List.getElem_cons_succ, List.getElem_cons_zero]
      rw [if_pos (by rfl)]
      go_wp2_with fail
      refine (mfew_nil wN8).mono ?_
      rintro e wN9 ⟨g3, k3, rfl, EM⟩
      replace X0 := X0.below EM
      replace X1 := X1.below EM
      replace XA := XA.below EM
      replace DB := below_then DB EM
      replace zX := Nat.lt_of_lt_of_le zX EM.size
      go_wp2_with fail
      refine hKc.out _ _ X0 (fun hHeld => ?_)
      clear hKc Kc EM
      refine wpAnyH_take (i := 9) (v := (.agg #[.int .i64 0, .int .i64 0, .slice (some ⟨g1, 0, none⟩) 0 k1, .slice none 0 0, .slice (some ⟨g2, 0, none⟩) 0 k2, .int .i64 0, .int .i64 0, .slice (some ⟨g3, 0, none⟩) 0 k3])) rfl (by kernel_rfl) (by kernel_rfl) (by kernel_rfl) (fun _ _ _ h => h) (Or.inl ⟨by rfl, ?_⟩) (by assumption) ?_
      · intro w' hSw
        go_simp
      simp only [List.getElem_toArray, List.getElem_cons_succ, List.getElem_cons_zero, Act.put, List.setIfInBounds_toArray, List.set_cons_zero, List.set_cons_succ]
      refine wpAnyH_ready (rs := [11]) (by kernel_rfl) (by simp) ?_
      refine AllReadyH.cons rfl (fun Kc hKc => ?_) AllReadyH.nil
      simp only [List.getElem_toArray, List.getElem_cons_succ, List.getElem_cons_zero]
      rw [if_pos (by rfl)]
      have one : Array.all (#[.int .i64 0, .int .i64 0, .slice (some ⟨g1, 0, none⟩) 0 k1, .slice none 0 0, .slice (some ⟨g2, 0, none⟩) 0 k2, .int .i64 0, .int .i64 0, .slice (some ⟨g3, 0, none⟩) 0 k3] : Array Value) (fun v => v.oneCell') = true := by simp [Value.oneCell']
      refine wp_store_row 33 _ _ rfl wN1.heap.size #[.int .i64 0, .int .i64 0, .slice (some ⟨g1, 0, none⟩) 0 k1, .slice none 0 0, .slice (some ⟨g2, 0, none⟩) 0 k2, .int .i64 0, .int .i64 0, .slice (some ⟨g3, 0, none⟩) 0 k3] rfl rfl 33 _ XA Try.infoRW rfl one ?_
      have so : ∀ b, b ≠ wN1.heap.size → (wN9.setRow wN1.heap.size #[.int .i64 0, .int .i64 0, .slice (some ⟨g1, 0, none⟩) 0 k1, .slice none 0 0, .slice (some ⟨g2, 0, none⟩) 0 k2, .int .i64 0, .int .i64 0, .slice (some ⟨g3, 0, none⟩) 0 k3]).heap[b]? = wN9.heap[b]? := fun b hb => setRow_other _ _ _ _ hb
      replace X0 := Blk.of_block X0 (so _ (by omega))
      replace X1 := Blk.of_block X1 (so _ (by omega))
      have XR := XA.row #[.int .i64 0, .int .i64 0, .slice (some ⟨g1, 0, none⟩) 0 k1, .slice none 0 0, .slice (some ⟨g2, 0, none⟩) 0 k2, .int .i64 0, .int .i64 0, .slice (some ⟨g3, 0, none⟩) 0 k3]
      replace DB := below_setRow DB (show w.heap.size ≤ wN1.heap.size by omega) #[.int .i64 0, .int .i64 0, .slice (some ⟨g1, 0, none⟩) 0 k1, .slice none 0 0, .slice (some ⟨g2, 0, none⟩) 0 k2, .int .i64 0, .int .i64 0, .slice (some ⟨g3, 0, none⟩) 0 k3]
      generalize hn : wN9.setRow wN1.heap.size #[.int .i64 0, .int .i64 0, .slice (some ⟨g1, 0, none⟩) 0 k1, .slice none 0 0, .slice (some ⟨g2, 0, none⟩) 0 k2, .int .i64 0, .int .i64 0, .slice (some ⟨g3, 0, none⟩) 0 k3] = wS at *
      generalize wN1.heap.size = gA at *
      refine hKc.out _ _ X0 (fun hHeld => ?_)
      clear hKc Kc hn so XA
      refine wpAnyH_done (by kernel_rfl) ?_ _
      clear hHeld zX zA
      have a3 : wS.cell? ⟨w.heap.size, 3, none⟩ = some (.slice none 0 0) := X0.cell 3 rfl
      go_wp2_with fail
      go_loopg [4] 1 (fun _ i wr => i = .int .i64 0 ∧ wr = wS)
      case atStart => exact ⟨rfl, rfl⟩
      case round =>
        obtain ⟨rfl, rfl⟩ := hrel
        go_wp2_with (first | (refine wpList_load_row rfl 33 _ rfl gA rfl 33 _ (0, 0) _ XR Try.underlying33 rfl Try.infoRW ?_) | (refine wpList_store_row rfl 33 _ _ rfl (w.heap.size + 1) _ rfl rfl 33 _ X1 Try.infoRW rfl one ?_))
        refine bodyPost_ret (results_cell_row rfl _ _ (w.heap.size + 1) 33 _ _ _ rfl (X1.row _) Try.underlying33 rfl Try.infoRW) rfl ?_
        exact ⟨g1, k1, g2, k2, g3, k3, rfl, below_setRow DB (by omega) _⟩
  · simp only [List.getElem_toArray, List.getElem_cons_succ, List.getElem_cons_zero]
    rw [if_pos (by rfl)]
    go_wp2_with fail
    have XA0 := blk_new wA 33 #[.int .i64 0, .int .i64 0, .slice none 0 0, .slice none 0 0, .slice none 0 0, .int .i64 0, .int .i64 0, .slice none 0 0]
    have zA : w.heap.size + 1 < wA.heap.size := zX
    have EM : Below wA.heap.size wA (wA.alloc (.cells #[.int .i64 0, .int .i64 0, .slice none 0 0, .slice none 0 0, .slice none 0 0, .int .i64 0, .int .i64 0, .slice none 0 0] 33)) := (Below.refl _ _).alloc (Nat.le_refl _) _
    generalize hn : wA.alloc (.cells #[.int .i64 0, .int .i64 0, .slice none 0 0, .slice none 0 0, .slice none 0 0, .int .i64 0, .int .i64 0, .slice none 0 0] 33) = wN10 at *
    replace X0 := X0.below EM
    replace X1 := X1.below EM
    replace DB := below_then DB EM
    replace zX := Nat.lt_of_lt_of_le zX EM.size
    have XA := XA0
    clear XA0 hn
    refine hKc.out _ _ X0 (fun hHeld => ?_)
    clear hKc Kc EM
    refine wpAnyH_ready (rs := [2]) (by kernel_rfl) (by simp) ?_
    refine AllReadyH.cons rfl (fun Kc hKc => ?_) AllReadyH.nil
    simp only [List.getElem_toArray, List.getElem_cons_succ, List.getElem_cons_zero]
    rw [if_pos (by rfl)]
    go_wp2_with fail
    refine (mfew_nil wN10).mono ?_
    rintro e wN11 ⟨g1, k1, rfl, EM⟩
    replace X0 := X0.below EM
    replace X1 := X1.below EM
    replace XA := XA.below EM
    replace DB := below_then DB EM
    replace zX := Nat.lt_of_lt_of_le zX EM.size
    go_wp2_with fail
    refine hKc.out _ _ X0 (fun hHeld => ?_)
    clear hKc Kc EM
    refine wpAnyH_ready (rs := [5]) (by kernel_rfl) (by simp) ?_
    refine AllReadyH.cons rfl (fun Kc hKc => ?_) AllReadyH.nil
    simp only [List.getElem_toArray, List.getElem_cons_succ, List.getElem_cons_zero]
    rw [if_pos (by rfl)]
    go_wp2_with fail
    refine (few_nil wN11).mono ?_
    rintro e wN12 ⟨g2, k2, rfl, EM⟩
    replace X0 := X0.below EM
    replace X1 := X1.below EM
    replace XA := XA.below EM
    replace DB := below_then DB EM
    replace zX := Nat.lt_of_lt_of_le zX EM.size
    go_wp2_with fail
    refine hKc.out _ _ X0 (fun hHeld => ?_)
    clear hKc Kc EM
    refine wpAnyH_ready (rs := [8]) (by kernel_rfl) (by simp) ?_
    refine AllReadyH.cons rfl (fun Kc hKc => ?_) AllReadyH.nil
    simp only [List.getElem_toArray, List.getElem_cons_succ, List.getElem_cons_zero]
    rw [if_pos (by rfl)]
    go_wp2_with fail
    refine (mfew_nil wN12).mono ?_
    rintro e wN13 ⟨g3, k3, rfl, EM⟩
    replace X0 := X0.below EM
    replace X1 := X1.below EM
    replace XA := XA.below EM
    replace DB := below_then DB EM
    replace zX := Nat.lt_of_lt_of_le zX EM.size
    go_wp2_with fail
    refine hKc.out _ _ X0 (fun hHeld => ?_)
    clear hKc Kc EM
    refine wpAnyH_take (i := 9) (v := (.agg #[.int .i64 0, .int .i64 0, .slice (some ⟨g1, 0, none⟩) 0 k1, .slice none 0 0, .slice (some ⟨g2, 0, none⟩) 0 k2, .int .i64 0, .int .i64 0, .slice (some ⟨g3, 0, none⟩) 0 k3])) rfl (by kernel_rfl) (by kernel_rfl) (by kernel_rfl) (fun _ _ _ h => h) (Or.inl ⟨by rfl, ?_⟩) (by assumption) ?_
    · intro w' hSw
      go_simp
    simp only [List.getElem_toArray, List.getElem_cons_succ, List.getElem_cons_zero, Act.put, List.setIfInBounds_toArray, List.set_cons_zero, List.set_cons_succ]
    refine wpAnyH_ready (rs := [11]) (by kernel_rfl) (by simp) ?_
    refine AllReadyH.cons rfl (fun Kc hKc => ?_) AllReadyH.nil
    simp only [List.getElem_toArray, List.getElem_cons_succ, List.getElem_cons_zero]
    rw [if_pos (by rfl)]
    have one : Array.all (#[.int .i64 0, .int .i64 0, .slice (some ⟨g1, 0, none⟩) 0 k1, .slice none 0 0, .slice (some ⟨g2, 0, none⟩) 0 k2, .int .i64 0, .int .i64 0, .slice (some ⟨g3, 0, none⟩) 0 k3] : Array Value) (fun v => v.oneCell') = true := by simp [Value.oneCell']
    refine wp_store_row 33 _ _ rfl wA.heap.size #[.int .i64 0, .int .i64 0, .slice (some ⟨g1, 0, none⟩) 0 k1, .slice none 0 0, .slice (some ⟨g2, 0, none⟩) 0 k2, .int .i64 0, .int .i64 0, .slice (some ⟨g3, 0, none⟩) 0 k3] rfl rfl 33 _ XA Try.infoRW rfl one ?_
    have so : ∀ b, b ≠ wA.heap.size → (wN13.setRow wA.heap.size #[.int .i64 0, .int .i64 0, .slice (some ⟨g1, 0, none⟩) 0 k1, .slice none 0 0, .slice (some ⟨g2, 0, none⟩) 0 k2, .int .i64 0, .int .i64 0, .slice (some ⟨g3, 0, none⟩) 0 k3]).heap[b]? = wN13.heap[b]? := fun b hb => setRow_other _ _ _ _ hb
    replace X0 := Blk.of_block X0 (so _ (by omega))
    replace X1 := Blk.of_block X1 (so _ (by omega))
    have XR := XA.row #[.int .i64 0, .int .i64 0, .slice (some ⟨g1, 0, none⟩) 0 k1, .slice none 0 0, .slice (some ⟨g2, 0, none⟩) 0 k2, .int .i64 0, .int .i64 0, .slice (some ⟨g3, 0, none⟩) 0 k3]
    replace DB := below_setRow DB (show w.heap.size ≤ wA.heap.size by omega) #[.int .i64 0, .int .i64 0, .slice (some ⟨g1, 0, none⟩) 0 k1, .slice none 0 0, .slice (some ⟨g2, 0, none⟩) 0 k2, .int .i64 0, .int .i64 0, .slice (some ⟨g3, 0, none⟩) 0 k3]
    generalize hn : wN13.setRow wA.heap.size #[.int .i64 0, .int .i64 0, .slice (some ⟨g1, 0, none⟩) 0 k1, .slice none 0 0, .slice (some ⟨g2, 0, none⟩) 0 k2, .int .i64 0, .int .i64 0, .slice (some ⟨g3, 0, none⟩) 0 k3] = wS at *
    generalize wA.heap.size = gA at *
    refine hKc.out _ _ X0 (fun hHeld => ?_)
    clear hKc Kc hn so XA
    refine wpAnyH_done (by kernel_rfl) ?_ _
    clear hHeld zX zA
    have a3 : wS.cell? ⟨w.heap.size, 3, none⟩ = some (.slice none 0 0) := X0.cell 3 rfl
    go_wp2_with fail
    go_loopg [4] 1 (fun _ i wr => i = .int .i64 0 ∧ wr = wS)
    case atStart => exact ⟨rfl, rfl⟩
    case round =>
      obtain ⟨rfl, rfl⟩ := hrel
      go_wp2_with (first | (refine wpList_load_row rfl 33 _ rfl gA rfl 33 _ (0, 0) _ XR Try.underlying33 rfl Try.infoRW ?_) | (refine wpList_store_row rfl 33 _ _ rfl (w.heap.size + 1) _ rfl rfl 33 _ X1 Try.infoRW rfl one ?_))
      refine bodyPost_ret (results_cell_row rfl _ _ (w.heap.size + 1) 33 _ _ _ rfl (X1.row _) Try.underlying33 rfl Try.infoRW) rfl ?_
      exact ⟨g1, k1, g2, k2, g3, k3, rfl, below_setRow DB (by omega) _⟩
end Go.Proofs.Ytklgaokhillinaa
