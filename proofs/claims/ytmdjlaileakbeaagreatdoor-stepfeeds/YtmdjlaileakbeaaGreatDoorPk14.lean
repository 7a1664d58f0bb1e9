/- Contracts of the program's functions, part 14 of 19: what each call returns and leaves of memory. -/
import Derived.Test.YtmdjlaileakbeaaGreatDoorPk13
import Derived.Test.YtmdjlaileakbeaaGreatDoorPk6
import Derived.Deep.MidRow
/- Told of layer 6, of any numbers. -/
namespace Go.Proofs.YtmdjlaileakbeaaGreatDoor
open Go.ChangeShapes Go.WideShapes Go.ChangeAt Go.RowKit Go.Deep
theorem var3e (w : World) (T : TypeId) (z row : Array Value) : Blk (w.alloc (.cells z T)) w.heap.size T z ∧ Blk ((w.alloc (.cells z T)).setRow w.heap.size row) w.heap.size T row ∧ Below w.heap.size w ((w.alloc (.cells z T)).setRow w.heap.size row) :=
  ⟨blk_new w T z, (blk_new w T z).row row, below_setRow ((Below.refl _ _).alloc (Nat.le_refl _) _) (Nat.le_refl _) _⟩
set_option maxRecDepth 100000 in
set_option maxHeartbeats 6400000 in
theorem told6O_any (W : Wt) (bs : List Bk) (M : Mdl) (w : World) (hW : WtR w W bs M) :
   Calls Tryz.prog 4 #[.agg W.cells] w fun e w' => ∃ W' : Wt, e = .returned (.agg W'.cells) ∧ (∃ xs : List Bk, WTold w' w.heap.size 100 (min 5 W.b.n) W W' bs xs M ∧ OwnB w' w.heap.size W'.b xs) ∧ Below w.heap.size w w' := by
  have hbm := hW.b.max
  have hbl := hW.b.len
  have HW0 : Hid (∀ wv, Below w.heap.size w wv → WtR wv W bs M) := fun wv hb => hW.below hb
  clear hW
  obtain ⟨⟨er, ec, ⟨ea, en, ez⟩⟩, ⟨ba, bn, bz⟩, ⟨la, ln, lz⟩, ⟨gr, gc, ⟨ga, gn, gz⟩⟩⟩ := W
  have HW : Hid (∀ wv, Below w.heap.size w wv → WtR wv ⟨⟨er, ec, ⟨ea, en, ez⟩⟩, ⟨ba, bn, bz⟩, ⟨la, ln, lz⟩, ⟨gr, gc, ⟨ga, gn, gz⟩⟩⟩ bs M) := HW0.out
  have HBL : Hid (bs.length = bn) := hbl
  clear HW0 hbl
  simp only at hbm 
  show Calls Tryz.prog 4 #[.agg #[.int .i64 er, .int .i64 ec, .slice ea en ez, .slice ba bn bz, .slice la ln lz, .int .i64 gr, .int .i64 gc, .slice ga gn gz]] w _
  have X0 := blk_new w 29 #[.int .i64 er, .int .i64 ec, .slice ea en ez, .slice ba bn bz, .slice la ln lz, .int .i64 gr, .int .i64 gc, .slice ga gn gz]
  have B0 : Below w.heap.size w (w.alloc (.cells #[.int .i64 er, .int .i64 ec, .slice ea en ez, .slice ba bn bz, .slice la ln lz, .int .i64 gr, .int .i64 gc, .slice ga gn gz] 29)) := (Below.refl _ _).alloc (Nat.le_refl _) _
  have s0 : (w.alloc (.cells #[.int .i64 er, .int .i64 ec, .slice ea en ez, .slice ba bn bz, .slice la ln lz, .int .i64 gr, .int .i64 gc, .slice ga gn gz] 29)).heap.size = w.heap.size + 1 := by simp
  generalize hw0 : w.alloc (.cells #[.int .i64 er, .int .i64 ec, .slice ea en ez, .slice ba bn bz, .slice la ln lz, .int .i64 gr, .int .i64 gc, .slice ga gn gz] 29) = w0 at *
  have X1 := blk_new w0 38 #[.int .i64 0, .int .i64 0, .slice none 0 0, .slice none 0 0, .slice none 0 0, .int .i64 0, .int .i64 0, .slice none 0 0]
  have B1 : Below w0.heap.size w0 (w0.alloc (.cells #[.int .i64 0, .int .i64 0, .slice none 0 0, .slice none 0 0, .slice none 0 0, .int .i64 0, .int .i64 0, .slice none 0 0] 38)) := (Below.refl _ _).alloc (Nat.le_refl _) _
  rw [s0] at X1
  generalize hw1 : w0.alloc (.cells #[.int .i64 0, .int .i64 0, .slice none 0 0, .slice none 0 0, .slice none 0 0, .int .i64 0, .int .i64 0, .slice none 0 0] 38) = w1 at *
  replace X0 := X0.below B1
  have DB := below_then B0 B1
  go_enter Tryz.func4, Tryz.ntmps4
  go_wp2_with fail
  clear hw0 hw1 B0 s0 B1
  have zX := X1.lt
  replace X0 := X0.below ((Below.refl _ _).drew)
  replace X1 := X1.below ((Below.refl _ _).drew)
  replace DB := DB.drew
  replace zX : w.heap.size + 1 < w1.drew.heap.size := zX
  refine wp_region_held_drew (S := fun w' => Blk w' w.heap.size 29 #[.int .i64 er, .int .i64 ec, .slice ea en ez, .slice ba bn bz, .slice la ln lz, .int .i64 gr, .int .i64 gc, .slice ga gn gz]) (by kernel_rfl) (X0) (fun hHeld => ?_)
  generalize hA : w1.drew = wA at *
  clear hA
  refine wpAnyH_take (i := 0) (v := (.pointer (some ⟨w.heap.size, 0, none⟩))) rfl (by kernel_rfl) (by kernel_rfl) (by kernel_rfl) (fun _ _ _ h => h) (Or.inl ⟨by rfl, ?_⟩) (by assumption) ?_
  · intro w' hSw
    go_simp
  simp only [List.getElem_toArray, List.getElem_cons_zero, Act.put, List.setIfInBounds_toArray, List.set_cons_zero, List.set_cons_succ]
  refine wpAnyH_take (i := 1) (v := (.agg #[.int .i64 er, .int .i64 ec, .slice ea en ez])) rfl (by kernel_rfl) (by kernel_rfl) (by kernel_rfl) (fun _ _ _ h => h) (Or.inl ⟨by rfl, ?_⟩) (by assumption) ?_
  · intro w' hSw
    have cc0 : w'.cell? ⟨w.heap.size, 0, none⟩ = some (.int .i64 er) := hSw.cell 0 rfl
    have cc1 : w'.cell? ⟨w.heap.size, 1, none⟩ = some (.int .i64 ec) := hSw.cell 1 rfl
    have cc2 : w'.cell? ⟨w.heap.size, 2, none⟩ = some (.slice ea en ez) := hSw.cell 2 rfl
    go_simp
  simp only [List.getElem_toArray, List.getElem_cons_succ, List.getElem_cons_zero, Act.put, List.setIfInBounds_toArray, List.set_cons_zero, List.set_cons_succ]
  refine wpAnyH_take (i := 3) (v := (.pointer (some ⟨w.heap.size, 4, none⟩))) rfl (by kernel_rfl) (by kernel_rfl) (by kernel_rfl) (fun _ _ _ h => h) (Or.inl ⟨by rfl, ?_⟩) (by assumption) ?_
  · intro w' hSw
    go_simp
  simp only [List.getElem_toArray, List.getElem_cons_succ, List.getElem_cons_zero, Act.put, List.setIfInBounds_toArray, List.set_cons_zero, List.set_cons_succ]
  refine wpAnyH_take (i := 4) (v := (.slice la ln lz)) rfl (by kernel_rfl) (by kernel_rfl) (by kernel_rfl) (fun _ _ _ h => h) (Or.inl ⟨by rfl, ?_⟩) (by assumption) ?_
  · intro w' hSw
    have cc4 : w'.cell? ⟨w.heap.size, 4, none⟩ = some (.slice la ln lz) := hSw.cell 4 rfl
    go_simp
  simp only [List.getElem_toArray, List.getElem_cons_succ, List.getElem_cons_zero, Act.put, List.setIfInBounds_toArray, List.set_cons_zero, List.set_cons_succ]
  refine wpAnyH_take (i := 6) (v := (.pointer (some ⟨w.heap.size, 5, none⟩))) rfl (by kernel_rfl) (by kernel_rfl) (by kernel_rfl) (fun _ _ _ h => h) (Or.inl ⟨by rfl, ?_⟩) (by assumption) ?_
  · intro w' hSw
    go_simp
  simp only [List.getElem_toArray, List.getElem_cons_succ, List.getElem_cons_zero, Act.put, List.setIfInBounds_toArray, List.set_cons_zero, List.set_cons_succ]
  refine wpAnyH_take (i := 7) (v := (.agg #[.int .i64 gr, .int .i64 gc, .slice ga gn gz])) rfl (by kernel_rfl) (by kernel_rfl) (by kernel_rfl) (fun _ _ _ h => h) (Or.inl ⟨by rfl, ?_⟩) (by assumption) ?_
  · intro w' hSw
    have cc5 : w'.cell? ⟨w.heap.size, 5, none⟩ = some (.int .i64 gr) := hSw.cell 5 rfl
    have cc6 : w'.cell? ⟨w.heap.size, 6, none⟩ = some (.int .i64 gc) := hSw.cell 6 rfl
    have cc7 : w'.cell? ⟨w.heap.size, 7, none⟩ = some (.slice ga gn gz) := hSw.cell 7 rfl
    go_simp
  simp only [List.getElem_toArray, List.getElem_cons_succ, List.getElem_cons_zero, Act.put, List.setIfInBounds_toArray, List.set_cons_zero, List.set_cons_succ]
  refine wpAnyH_ready (rs := [2, 10]) (by kernel_rfl) (by simp) ?_
  refine AllReadyH.cons rfl (fun Kc hKc => ?_) (AllReadyH.cons rfl (fun Kc hKc => ?_) AllReadyH.nil)
  · simp only [List.getElem_toArray, List.getElem_cons_succ, List.getElem_cons_zero]
    rw [if_pos (by rfl)]
    go_wp2_with fail
    refine (mfewR_any er ec ea en ez M.E wA (HW.out wA DB).e).mono ?_
    rintro e wN1 ⟨g1, n1, k1, rfl, hn1, FF, EM⟩
    rw [show matV _ _ (some ⟨g1, 0, none⟩) n1 k1 = .agg #[.int .i64 er, .int .i64 ec, .slice (some ⟨g1, 0, none⟩) n1 k1] from rfl]
    have G1 : FR wN1 w.heap.size ⟨some ⟨g1, 0, none⟩, n1, k1⟩ n1 (M.E.take 2000) := ⟨g1, rfl, rfl, FF.mono DB.size⟩
    clear FF
    replace X0 := X0.below EM
    replace X1 := X1.below EM
    replace DB := below_then DB EM
    replace zX := Nat.lt_of_lt_of_le zX EM.size
    go_wp2_with fail
    refine hKc.out _ _ X0 (fun hHeld => ?_)
    clear hKc Kc EM
    refine wpAnyH_ready (rs := [5, 10]) (by kernel_rfl) (by simp) ?_
    refine AllReadyH.cons rfl (fun Kc hKc => ?_) (AllReadyH.cons rfl (fun Kc hKc => ?_) AllReadyH.nil)
    · simp only [List.getElem_toArray, List.getElem_cons_succ, List.getElem_cons_zero]
      rw [if_pos (by rfl)]
      go_wp2_with fail
      refine (fewR_any la ln lz M.G 100 100 wN1 rfl (HW.out wN1 DB).l (by omega)).mono ?_
      rintro e wN2 ⟨g2, n2, k2, rfl, hn2, FF, EM⟩
      have G2 : FR wN2 w.heap.size ⟨some ⟨g2, 0, none⟩, n2, k2⟩ n2 (M.G.take 100) := ⟨g2, rfl, rfl, FF.mono DB.size⟩
      clear FF
      replace X0 := X0.below EM
      replace X1 := X1.below EM
      replace G1 := G1.below EM
      replace DB := below_then DB EM
      replace zX := Nat.lt_of_lt_of_le zX EM.size
      go_wp2_with fail
      refine hKc.out _ _ X0 (fun hHeld => ?_)
      clear hKc Kc EM
      refine wpAnyH_ready (rs := [8, 10]) (by kernel_rfl) (by simp) ?_
      refine AllReadyH.cons rfl (fun Kc hKc => ?_) (AllReadyH.cons rfl (fun Kc hKc => ?_) AllReadyH.nil)
      · simp only [List.getElem_toArray, List.getElem_cons_succ, List.getElem_cons_zero]
        rw [if_pos (by rfl)]
        go_wp2_with fail
        refine (mfewR_any gr gc ga gn gz M.O wN2 (HW.out wN2 DB).o).mono ?_
        rintro e wN3 ⟨g3, n3, k3, rfl, hn3, FF, EM⟩
        rw [show matV _ _ (some ⟨g3, 0, none⟩) n3 k3 = .agg #[.int .i64 gr, .int .i64 gc, .slice (some ⟨g3, 0, none⟩) n3 k3] from rfl]
        have G3 : FR wN3 w.heap.size ⟨some ⟨g3, 0, none⟩, n3, k3⟩ n3 (M.O.take 2000) := ⟨g3, rfl, rfl, FF.mono DB.size⟩
        clear FF
        replace X0 := X0.below EM
        replace X1 := X1.below EM
        replace G1 := G1.below EM
        replace G2 := G2.below EM
        replace DB := below_then DB EM
        replace zX := Nat.lt_of_lt_of_le zX EM.size
        go_wp2_with fail
        refine hKc.out _ _ X0 (fun hHeld => ?_)
        clear hKc Kc EM
        refine wpAnyH_take (i := 9) (v := (.agg #[.int .i64 er, .int .i64 ec, .slice (some ⟨g1, 0, none⟩) n1 k1, .slice none 0 0, .slice (some ⟨g2, 0, none⟩) n2 k2, .int .i64 gr, .int .i64 gc, .slice (some ⟨g3, 0, none⟩) n3 k3])) rfl (by kernel_rfl) (by kernel_rfl) (by kernel_rfl) (fun _ _ _ h => h) (Or.inl ⟨by rfl, ?_⟩) (by assumption) ?_
        · intro w' hSw
          go_simp
        simp only [List.getElem_toArray, List.getElem_cons_succ, List.getElem_cons_zero, Act.put, List.setIfInBounds_toArray, List.set_cons_zero, List.set_cons_succ]
        refine wpAnyH_ready (rs := [10]) (by kernel_rfl) (by simp) ?_
        refine AllReadyH.cons rfl (fun Kc hKc => ?_) AllReadyH.nil
        simp only [List.getElem_toArray, List.getElem_cons_succ, List.getElem_cons_zero]
        rw [if_pos (by rfl)]
        go_wp2_with fail
        have XA0 := blk_new wN3 38 #[.int .i64 0, .int .i64 0, .slice none 0 0, .slice none 0 0, .slice none 0 0, .int .i64 0, .int .i64 0, .slice none 0 0]
        have zA : w.heap.size + 1 < wN3.heap.size := zX
        have EM : Below wN3.heap.size wN3 (wN3.alloc (.cells #[.int .i64 0, .int .i64 0, .slice none 0 0, .slice none 0 0, .slice none 0 0, .int .i64 0, .int .i64 0, .slice none 0 0] 38)) := (Below.refl _ _).alloc (Nat.le_refl _) _
        generalize hn : wN3.alloc (.cells #[.int .i64 0, .int .i64 0, .slice none 0 0, .slice none 0 0, .slice none 0 0, .int .i64 0, .int .i64 0, .slice none 0 0] 38) = wN4 at *
        replace X0 := X0.below EM
        replace X1 := X1.below EM
        replace G1 := G1.below EM
        replace G2 := G2.below EM
        replace G3 := G3.below EM
        replace DB := below_then DB EM
        replace zX := Nat.lt_of_lt_of_le zX EM.size
        have XA := XA0
        clear XA0 hn
        refine hKc.out _ _ X0 (fun hHeld => ?_)
        clear hKc Kc EM
        refine wpAnyH_ready (rs := [11]) (by kernel_rfl) (by simp) ?_
        refine AllReadyH.cons rfl (fun Kc hKc => ?_) AllReadyH.nil
        simp only [List.getElem_toArray, List.getElem_cons_succ, List.getElem_cons_zero]
        rw [if_pos (by rfl)]
        have one : Array.all (#[.int .i64 er, .int .i64 ec, .slice (some ⟨g1, 0, none⟩) n1 k1, .slice none 0 0, .slice (some ⟨g2, 0, none⟩) n2 k2, .int .i64 gr, .int .i64 gc, .slice (some ⟨g3, 0, none⟩) n3 k3] : Array Value) (fun v => v.oneCell') = true := by simp [Value.oneCell']
        refine wp_store_row 38 _ _ rfl wN3.heap.size #[.int .i64 er, .int .i64 ec, .slice (some ⟨g1, 0, none⟩) n1 k1, .slice none 0 0, .slice (some ⟨g2, 0, none⟩) n2 k2, .int .i64 gr, .int .i64 gc, .slice (some ⟨g3, 0, none⟩) n3 k3] rfl rfl 38 _ XA Tryz.infoRW rfl one ?_
        have so : ∀ b, b ≠ wN3.heap.size → (wN4.setRow wN3.heap.size #[.int .i64 er, .int .i64 ec, .slice (some ⟨g1, 0, none⟩) n1 k1, .slice none 0 0, .slice (some ⟨g2, 0, none⟩) n2 k2, .int .i64 gr, .int .i64 gc, .slice (some ⟨g3, 0, none⟩) n3 k3]).heap[b]? = wN4.heap[b]? := fun b hb => setRow_other _ _ _ _ hb
        replace X0 := Blk.of_block X0 (so _ (by omega))
        replace X1 := Blk.of_block X1 (so _ (by omega))
        replace G1 := G1.keep XA (by decide) so
        replace G2 := G2.keep XA (by decide) so
        replace G3 := G3.keep XA (by decide) so
        have XR := XA.row #[.int .i64 er, .int .i64 ec, .slice (some ⟨g1, 0, none⟩) n1 k1, .slice none 0 0, .slice (some ⟨g2, 0, none⟩) n2 k2, .int .i64 gr, .int .i64 gc, .slice (some ⟨g3, 0, none⟩) n3 k3]
        replace DB := below_setRow DB (show w.heap.size ≤ wN3.heap.size by omega) #[.int .i64 er, .int .i64 ec, .slice (some ⟨g1, 0, none⟩) n1 k1, .slice none 0 0, .slice (some ⟨g2, 0, none⟩) n2 k2, .int .i64 gr, .int .i64 gc, .slice (some ⟨g3, 0, none⟩) n3 k3]
        have hgA : w.heap.size + 1 < wN3.heap.size := by omega
        generalize hn : wN4.setRow wN3.heap.size #[.int .i64 er, .int .i64 ec, .slice (some ⟨g1, 0, none⟩) n1 k1, .slice none 0 0, .slice (some ⟨g2, 0, none⟩) n2 k2, .int .i64 gr, .int .i64 gc, .slice (some ⟨g3, 0, none⟩) n3 k3] = wS at *
        generalize wN3.heap.size = gA at *
        refine hKc.out _ _ X0 (fun hHeld => ?_)
        clear hKc Kc hn so XA
        refine wpAnyH_done (by kernel_rfl) ?_ _
        clear hHeld zX zA
        have a3 : wS.cell? ⟨w.heap.size, 3, none⟩ = some (.slice ba bn bz) := X0.cell 3 rfl
        go_wp2_with fail
        clear a3
        go_loopg [4] bn (fun r i wr => ∃ (k : Nat) (S : Sl) (xs : List Bk), k ≤ bn ∧ k ≤ 5 ∧ r = bn - k ∧ i = .int .i64 (k : Int) ∧ S.n = k ∧ Blk wr w.heap.size 29 #[.int .i64 er, .int .i64 ec, .slice ea en ez, .slice ba bn bz, .slice la ln lz, .int .i64 gr, .int .i64 gc, .slice ga gn gz] ∧ Blk wr (w.heap.size + 1) 38 #[.int .i64 0, .int .i64 0, .slice none 0 0, .slice none 0 0, .slice none 0 0, .int .i64 0, .int .i64 0, .slice none 0 0] ∧ Blk wr gA 38 #[.int .i64 er, .int .i64 ec, .slice (some ⟨g1, 0, none⟩) n1 k1, S.v, .slice (some ⟨g2, 0, none⟩) n2 k2, .int .i64 gr, .int .i64 gc, .slice (some ⟨g3, 0, none⟩) n3 k3] ∧ OwnB wr w.heap.size S xs ∧ BTs wr w.heap.size 100 k bs xs M.Ls ∧ FR wr w.heap.size ⟨some ⟨g1, 0, none⟩, n1, k1⟩ n1 (M.E.take 2000) ∧ FR wr w.heap.size ⟨some ⟨g2, 0, none⟩, n2, k2⟩ n2 (M.G.take 100) ∧ FR wr w.heap.size ⟨some ⟨g3, 0, none⟩, n3, k3⟩ n3 (M.O.take 2000) ∧ Below w.heap.size w wr)
        case atStart => exact ⟨0, ⟨none, 0, 0⟩, [], by omega, by omega, by omega, rfl, rfl, X0, X1, XR, ownB_nil _ _, bts_nil _ _ _ _ _, G1, G2, G3, DB⟩
        case round =>
          clear X0 X1 XR G1 G2 G3 DB
          obtain ⟨k, S, xs, hk, hk5, rfl, rfl, hSn, X0, X1, XG, OB, XT, G1, G2, G3, DR⟩ := hrel
          by_cases hlt0 : k < bn ∧ k < 5
          · have hlt : k < bn := by omega
            have h5 : (k : Int) < 5 := by omega
            obtain ⟨xx, hxx⟩ : ∃ x, bs[k]? = some x := ⟨_, List.getElem?_eq_getElem (show k < bs.length by have := HBL.out; omega)⟩
            obtain ⟨yy, hyy, hL0⟩ := (HW.out w (Below.refl _ _)).ls k xx hxx
            obtain ⟨gb, ob, eba, hcb⟩ := (HW.out wr DR).b.cells (by show 0 < bn; omega)
            have eba' : ba = some ⟨gb, ob, none⟩ := eba
            subst eba'
            have r0 := hcb k xx hxx
            have hok := (HW.out w (Below.refl _ _)).b.ok xx (List.mem_of_getElem? hxx)
            have HYY : Hid (M.Ls[k]? = some yy) := hyy
            obtain ⟨⟨vfa, vfn, vfz⟩, ⟨vqr, vqc, ⟨vqa, vqn, vqz⟩⟩, ⟨vkr, vkc, ⟨vka, vkn, vkz⟩⟩, ⟨vvr, vvc, ⟨vva, vvn, vvz⟩⟩, ⟨vor, voc, ⟨voa, von, voz⟩⟩, ⟨vsa, vsn, vsz⟩, ⟨vur, vuc, ⟨vua, vun, vuz⟩⟩, ⟨vdr, vdc, ⟨vda, vdn, vdz⟩⟩⟩ := xx
            have HBX : Hid (bs[k]? = some ⟨⟨vfa, vfn, vfz⟩, ⟨vqr, vqc, ⟨vqa, vqn, vqz⟩⟩, ⟨vkr, vkc, ⟨vka, vkn, vkz⟩⟩, ⟨vvr, vvc, ⟨vva, vvn, vvz⟩⟩, ⟨vor, voc, ⟨voa, von, voz⟩⟩, ⟨vsa, vsn, vsz⟩, ⟨vur, vuc, ⟨vua, vun, vuz⟩⟩, ⟨vdr, vdc, ⟨vda, vdn, vdz⟩⟩⟩) := hxx
            have HL : Hid (∀ wv, Below w.heap.size w wv → LyR wv ⟨⟨vfa, vfn, vfz⟩, ⟨vqr, vqc, ⟨vqa, vqn, vqz⟩⟩, ⟨vkr, vkc, ⟨vka, vkn, vkz⟩⟩, ⟨vvr, vvc, ⟨vva, vvn, vvz⟩⟩, ⟨vor, voc, ⟨voa, von, voz⟩⟩, ⟨vsa, vsn, vsz⟩, ⟨vur, vuc, ⟨vua, vun, vuz⟩⟩, ⟨vdr, vdc, ⟨vda, vdn, vdz⟩⟩⟩ yy) := fun wv hb => hL0.below hb
            have HOK : Hid (Bk.Ok ⟨⟨vfa, vfn, vfz⟩, ⟨vqr, vqc, ⟨vqa, vqn, vqz⟩⟩, ⟨vkr, vkc, ⟨vka, vkn, vkz⟩⟩, ⟨vvr, vvc, ⟨vva, vvn, vvz⟩⟩, ⟨vor, voc, ⟨voa, von, voz⟩⟩, ⟨vsa, vsn, vsz⟩, ⟨vur, vuc, ⟨vua, vun, vuz⟩⟩, ⟨vdr, vdc, ⟨vda, vdn, vdz⟩⟩⟩) := hok
            rw [show Bk.cells ⟨⟨vfa, vfn, vfz⟩, ⟨vqr, vqc, ⟨vqa, vqn, vqz⟩⟩, ⟨vkr, vkc, ⟨vka, vkn, vkz⟩⟩, ⟨vvr, vvc, ⟨vva, vvn, vvz⟩⟩, ⟨vor, voc, ⟨voa, von, voz⟩⟩, ⟨vsa, vsn, vsz⟩, ⟨vur, vuc, ⟨vua, vun, vuz⟩⟩, ⟨vdr, vdc, ⟨vda, vdn, vdz⟩⟩⟩ = #[.slice vfa vfn vfz, .int .i64 vqr, .int .i64 vqc, .slice vqa vqn vqz, .int .i64 vkr, .int .i64 vkc, .slice vka vkn vkz, .int .i64 vvr, .int .i64 vvc, .slice vva vvn vvz, .int .i64 vor, .int .i64 voc, .slice voa von voz, .slice vsa vsn vsz, .int .i64 vur, .int .i64 vuc, .slice vua vun vuz, .int .i64 vdr, .int .i64 vdc, .slice vda vdn vdz] from rfl] at r0
            clear hL0 hxx hyy hcb hok eba
            have szr := DR.size
            obtain ⟨XE, XB, BF⟩ := var3e wr 60 #[.slice none 0 0, .int .i64 0, .int .i64 0, .slice none 0 0, .int .i64 0, .int .i64 0, .slice none 0 0, .int .i64 0, .int .i64 0, .slice none 0 0, .int .i64 0, .int .i64 0, .slice none 0 0, .slice none 0 0, .int .i64 0, .int .i64 0, .slice none 0 0, .int .i64 0, .int .i64 0, .slice none 0 0] #[.slice vfa vfn vfz, .int .i64 vqr, .int .i64 vqc, .slice vqa vqn vqz, .int .i64 vkr, .int .i64 vkc, .slice vka vkn vkz, .int .i64 vvr, .int .i64 vvc, .slice vva vvn vvz, .int .i64 vor, .int .i64 voc, .slice voa von voz, .slice vsa vsn vsz, .int .i64 vur, .int .i64 vuc, .slice vua vun vuz, .int .i64 vdr, .int .i64 vdc, .slice vda vdn vdz]
            have hone : Array.all (#[.slice vfa vfn vfz, .int .i64 vqr, .int .i64 vqc, .slice vqa vqn vqz, .int .i64 vkr, .int .i64 vkc, .slice vka vkn vkz, .int .i64 vvr, .int .i64 vvc, .slice vva vvn vvz, .int .i64 vor, .int .i64 voc, .slice voa von voz, .slice vsa vsn vsz, .int .i64 vur, .int .i64 vuc, .slice vua vun vuz, .int .i64 vdr, .int .i64 vdc, .slice vda vdn vdz] : Array Value) (fun v => v.oneCell') = true := by simp [Value.oneCell']
            have a3 : wr.cell? ⟨w.heap.size, 3, none⟩ = some (.slice (some ⟨gb, ob, none⟩) bn bz) := X0.cell 3 rfl
            generalize hwe : wr.alloc (.cells #[.slice none 0 0, .int .i64 0, .int .i64 0, .slice none 0 0, .int .i64 0, .int .i64 0, .slice none 0 0, .int .i64 0, .int .i64 0, .slice none 0 0, .int .i64 0, .int .i64 0, .slice none 0 0, .slice none 0 0, .int .i64 0, .int .i64 0, .slice none 0 0, .int .i64 0, .int .i64 0, .slice none 0 0] 60) = we at *
            generalize hwf : we.setRow wr.heap.size #[.slice vfa vfn vfz, .int .i64 vqr, .int .i64 vqc, .slice vqa vqn vqz, .int .i64 vkr, .int .i64 vkc, .slice vka vkn vkz, .int .i64 vvr, .int .i64 vvc, .slice vva vvn vvz, .int .i64 vor, .int .i64 voc, .slice voa von voz, .slice vsa vsn vsz, .int .i64 vur, .int .i64 vuc, .slice vua vun vuz, .int .i64 vdr, .int .i64 vdc, .slice vda vdn vdz] = wf at *
            have DF := below_then DR BF
            replace X0 := X0.below BF
            replace X1 := X1.below BF
            replace XG := XG.below BF
            replace OB := OB.below BF
            replace XT := XT.map (fun h => h.below BF)
            replace G1 := G1.below BF
            replace G2 := G2.below BF
            replace G3 := G3.below BF
            clear BF
            go_upto_region 6 with (first | (refine wpList_load_mid rfl 60 _ rfl gb (ob + k * 20) rfl (#[.slice vfa vfn vfz, .int .i64 vqr, .int .i64 vqc, .slice vqa vqn vqz, .int .i64 vkr, .int .i64 vkc, .slice vka vkn vkz, .int .i64 vvr, .int .i64 vvc, .slice vva vvn vvz, .int .i64 vor, .int .i64 voc, .slice voa von voz, .slice vsa vsn vsz, .int .i64 vur, .int .i64 vuc, .slice vua vun vuz, .int .i64 vdr, .int .i64 vdc, .slice vda vdn vdz] : Array Value).toList _ r0 Tryz.underlying60 rfl (by exact Tryz.infoB) ?_) | (refine wpList_store_row rfl 60 _ _ rfl wr.heap.size #[.slice vfa vfn vfz, .int .i64 vqr, .int .i64 vqc, .slice vqa vqn vqz, .int .i64 vkr, .int .i64 vkc, .slice vka vkn vkz, .int .i64 vvr, .int .i64 vvc, .slice vva vvn vvz, .int .i64 vor, .int .i64 voc, .slice voa von voz, .slice vsa vsn vsz, .int .i64 vur, .int .i64 vuc, .slice vua vun vuz, .int .i64 vdr, .int .i64 vdc, .slice vda vdn vdz] rfl rfl 60 _ XE (by exact Tryz.infoB) rfl hone ?_; rw [hwf]))
            clear hwe hwf XE r0 a3 hone
            have BD : Below wf.heap.size wf wf.drew := (Below.refl _ wf).drew
            replace XB := XB.below BD
            replace XG := XG.below BD
            replace DF := below_then DF BD
            have DC : Below wf.heap.size wf wf.drew := BD
            have zF := DF.size
            have zB := XB.lt
            refine wp_region_late (S := fun w' => Blk w' wr.heap.size 60 #[.slice vfa vfn vfz, .int .i64 vqr, .int .i64 vqc, .slice vqa vqn vqz, .int .i64 vkr, .int .i64 vkc, .slice vka vkn vkz, .int .i64 vvr, .int .i64 vvc, .slice vva vvn vvz, .int .i64 vor, .int .i64 voc, .slice voa von voz, .slice vsa vsn vsz, .int .i64 vur, .int .i64 vuc, .slice vua vun vuz, .int .i64 vdr, .int .i64 vdc, .slice vda vdn vdz] ∧ Blk w' gA 38 #[.int .i64 er, .int .i64 ec, .slice (some ⟨g1, 0, none⟩) n1 k1, S.v, .slice (some ⟨g2, 0, none⟩) n2 k2, .int .i64 gr, .int .i64 gc, .slice (some ⟨g3, 0, none⟩) n3 k3]) 30 (by kernel_rfl) (⟨XB, XG⟩) (fun hHeld => ?_)
            generalize hA : wf.drew = wd at *
            clear hA BD
            refine wpLate_pure (i := 0) (v := (.pointer (some ⟨gA, 3, none⟩))) rfl (by decide) (by kernel_rfl) (by kernel_rfl) (by kernel_rfl) (fun _ _ _ h => h) (Or.inl ⟨by rfl, ?_⟩) (fun _ => by assumption) ?_
            · intro w' _
              go_simp
            simp only [List.getElem_toArray, List.getElem_cons_zero, Act.put, List.setIfInBounds_toArray, List.set_cons_zero, List.set_cons_succ]
            refine wpLate_take (i := 1) (v := S.v) rfl (by kernel_rfl) (by kernel_rfl) (by kernel_rfl) (by kernel_rfl) (by kernel_rfl) (fun _ _ _ h => h) (Or.inl ⟨by rfl, ?_⟩) (by assumption) ?_
            · intro w' hSw
              have c0 : w'.cell? ⟨gA, 3, none⟩ = some S.v := hSw.2.cell 3 rfl
              go_simp
            simp only [List.getElem_toArray, List.getElem_cons_succ, List.getElem_cons_zero, Act.put, List.setIfInBounds_toArray, List.set_cons_zero, List.set_cons_succ]
            refine wpLate_pure (i := 2) (v := (.pointer (some ⟨wr.heap.size, 0, none⟩))) rfl (by decide) (by kernel_rfl) (by kernel_rfl) (by kernel_rfl) (fun _ _ _ h => h) (Or.inl ⟨by rfl, ?_⟩) (fun _ => by assumption) ?_
            · intro w' _
              go_simp
            simp only [List.getElem_toArray, List.getElem_cons_succ, List.getElem_cons_zero, Act.put, List.setIfInBounds_toArray, List.set_cons_zero, List.set_cons_succ]
            refine wpLate_take (i := 3) (v := (.slice vfa vfn vfz)) rfl (by kernel_rfl) (by kernel_rfl) (by kernel_rfl) (by kernel_rfl) (by kernel_rfl) (fun _ _ _ h => h) (Or.inl ⟨by rfl, ?_⟩) (by assumption) ?_
            · intro w' hSw
              have c0 : w'.cell? ⟨wr.heap.size, 0, none⟩ = some (.slice vfa vfn vfz) := hSw.1.cell 0 rfl
              go_simp
            simp only [List.getElem_toArray, List.getElem_cons_succ, List.getElem_cons_zero, Act.put, List.setIfInBounds_toArray, List.set_cons_zero, List.set_cons_succ]
            refine wpLate_pure (i := 5) (v := (.pointer (some ⟨wr.heap.size, 1, none⟩))) rfl (by decide) (by kernel_rfl) (by kernel_rfl) (by kernel_rfl) (fun _ _ _ h => h) (Or.inl ⟨by rfl, ?_⟩) (fun _ => by assumption) ?_
            · intro w' _
              go_simp
            simp only [List.getElem_toArray, List.getElem_cons_succ, List.getElem_cons_zero, Act.put, List.setIfInBounds_toArray, List.set_cons_zero, List.set_cons_succ]
            refine wpLate_take (i := 6) (v := (.agg #[.int .i64 vqr, .int .i64 vqc, .slice vqa vqn vqz])) rfl (by kernel_rfl) (by kernel_rfl) (by kernel_rfl) (by kernel_rfl) (by kernel_rfl) (fun _ _ _ h => h) (Or.inl ⟨by rfl, ?_⟩) (by assumption) ?_
            · intro w' hSw
              have c0 : w'.cell? ⟨wr.heap.size, 1, none⟩ = some (.int .i64 vqr) := hSw.1.cell 1 rfl
              have c1 : w'.cell? ⟨wr.heap.size, 2, none⟩ = some (.int .i64 vqc) := hSw.1.cell 2 rfl
              have c2 : w'.cell? ⟨wr.heap.size, 3, none⟩ = some (.slice vqa vqn vqz) := hSw.1.cell 3 rfl
              go_simp
            simp only [List.getElem_toArray, List.getElem_cons_succ, List.getElem_cons_zero, Act.put, List.setIfInBounds_toArray, List.set_cons_zero, List.set_cons_succ]
            refine wpLate_pure (i := 8) (v := (.pointer (some ⟨wr.heap.size, 4, none⟩))) rfl (by decide) (by kernel_rfl) (by kernel_rfl) (by kernel_rfl) (fun _ _ _ h => h) (Or.inl ⟨by rfl, ?_⟩) (fun _ => by assumption) ?_
            · intro w' _
              go_simp
            simp only [List.getElem_toArray, List.getElem_cons_succ, List.getElem_cons_zero, Act.put, List.setIfInBounds_toArray, List.set_cons_zero, List.set_cons_succ]
            refine wpLate_take (i := 9) (v := (.agg #[.int .i64 vkr, .int .i64 vkc, .slice vka vkn vkz])) rfl (by kernel_rfl) (by kernel_rfl) (by kernel_rfl) (by kernel_rfl) (by kernel_rfl) (fun _ _ _ h => h) (Or.inl ⟨by rfl, ?_⟩) (by assumption) ?_
            · intro w' hSw
              have c0 : w'.cell? ⟨wr.heap.size, 4, none⟩ = some (.int .i64 vkr) := hSw.1.cell 4 rfl
              have c1 : w'.cell? ⟨wr.heap.size, 5, none⟩ = some (.int .i64 vkc) := hSw.1.cell 5 rfl
              have c2 : w'.cell? ⟨wr.heap.size, 6, none⟩ = some (.slice vka vkn vkz) := hSw.1.cell 6 rfl
              go_simp
            simp only [List.getElem_toArray, List.getElem_cons_succ, List.getElem_cons_zero, Act.put, List.setIfInBounds_toArray, List.set_cons_zero, List.set_cons_succ]
            refine wpLate_pure (i := 11) (v := (.pointer (some ⟨wr.heap.size, 7, none⟩))) rfl (by decide) (by kernel_rfl) (by kernel_rfl) (by kernel_rfl) (fun _ _ _ h => h) (Or.inl ⟨by rfl, ?_⟩) (fun _ => by assumption) ?_
            · intro w' _
              go_simp
            simp only [List.getElem_toArray, List.getElem_cons_succ, List.getElem_cons_zero, Act.put, List.setIfInBounds_toArray, List.set_cons_zero, List.set_cons_succ]
            refine wpLate_take (i := 12) (v := (.agg #[.int .i64 vvr, .int .i64 vvc, .slice vva vvn vvz])) rfl (by kernel_rfl) (by kernel_rfl) (by kernel_rfl) (by kernel_rfl) (by kernel_rfl) (fun _ _ _ h => h) (Or.inl ⟨by rfl, ?_⟩) (by assumption) ?_
            · intro w' hSw
              have c0 : w'.cell? ⟨wr.heap.size, 7, none⟩ = some (.int .i64 vvr) := hSw.1.cell 7 rfl
              have c1 : w'.cell? ⟨wr.heap.size, 8, none⟩ = some (.int .i64 vvc) := hSw.1.cell 8 rfl
              have c2 : w'.cell? ⟨wr.heap.size, 9, none⟩ = some (.slice vva vvn vvz) := hSw.1.cell 9 rfl
              go_simp
            simp only [List.getElem_toArray, List.getElem_cons_succ, List.getElem_cons_zero, Act.put, List.setIfInBounds_toArray, List.set_cons_zero, List.set_cons_succ]
            refine wpLate_pure (i := 14) (v := (.pointer (some ⟨wr.heap.size, 10, none⟩))) rfl (by decide) (by kernel_rfl) (by kernel_rfl) (by kernel_rfl) (fun _ _ _ h => h) (Or.inl ⟨by rfl, ?_⟩) (fun _ => by assumption) ?_
            · intro w' _
              go_simp
            simp only [List.getElem_toArray, List.getElem_cons_succ, List.getElem_cons_zero, Act.put, List.setIfInBounds_toArray, List.set_cons_zero, List.set_cons_succ]
            refine wpLate_take (i := 15) (v := (.agg #[.int .i64 vor, .int .i64 voc, .slice voa von voz])) rfl (by kernel_rfl) (by kernel_rfl) (by kernel_rfl) (by kernel_rfl) (by kernel_rfl) (fun _ _ _ h => h) (Or.inl ⟨by rfl, ?_⟩) (by assumption) ?_
            · intro w' hSw
              have c0 : w'.cell? ⟨wr.heap.size, 10, none⟩ = some (.int .i64 vor) := hSw.1.cell 10 rfl
              have c1 : w'.cell? ⟨wr.heap.size, 11, none⟩ = some (.int .i64 voc) := hSw.1.cell 11 rfl
              have c2 : w'.cell? ⟨wr.heap.size, 12, none⟩ = some (.slice voa von voz) := hSw.1.cell 12 rfl
              go_simp
            simp only [List.getElem_toArray, List.getElem_cons_succ, List.getElem_cons_zero, Act.put, List.setIfInBounds_toArray, List.set_cons_zero, List.set_cons_succ]
            refine wpLate_pure (i := 17) (v := (.pointer (some ⟨wr.heap.size, 13, none⟩))) rfl (by decide) (by kernel_rfl) (by kernel_rfl) (by kernel_rfl) (fun _ _ _ h => h) (Or.inl ⟨by rfl, ?_⟩) (fun _ => by assumption) ?_
            · intro w' _
              go_simp
            simp only [List.getElem_toArray, List.getElem_cons_succ, List.getElem_cons_zero, Act.put, List.setIfInBounds_toArray, List.set_cons_zero, List.set_cons_succ]
            refine wpLate_take (i := 18) (v := (.slice vsa vsn vsz)) rfl (by kernel_rfl) (by kernel_rfl) (by kernel_rfl) (by kernel_rfl) (by kernel_rfl) (fun _ _ _ h => h) (Or.inl ⟨by rfl, ?_⟩) (by assumption) ?_
            · intro w' hSw
              have c0 : w'.cell? ⟨wr.heap.size, 13, none⟩ = some (.slice vsa vsn vsz) := hSw.1.cell 13 rfl
              go_simp
            simp only [List.getElem_toArray, List.getElem_cons_succ, List.getElem_cons_zero, Act.put, List.setIfInBounds_toArray, List.set_cons_zero, List.set_cons_succ]
            refine wpLate_pure (i := 20) (v := (.pointer (some ⟨wr.heap.size, 14, none⟩))) rfl (by decide) (by kernel_rfl) (by kernel_rfl) (by kernel_rfl) (fun _ _ _ h => h) (Or.inl ⟨by rfl, ?_⟩) (fun _ => by assumption) ?_
            · intro w' _
              go_simp
            simp only [List.getElem_toArray, List.getElem_cons_succ, List.getElem_cons_zero, Act.put, List.setIfInBounds_toArray, List.set_cons_zero, List.set_cons_succ]
            refine wpLate_take (i := 21) (v := (.agg #[.int .i64 vur, .int .i64 vuc, .slice vua vun vuz])) rfl (by kernel_rfl) (by kernel_rfl) (by kernel_rfl) (by kernel_rfl) (by kernel_rfl) (fun _ _ _ h => h) (Or.inl ⟨by rfl, ?_⟩) (by assumption) ?_
            · intro w' hSw
              have c0 : w'.cell? ⟨wr.heap.size, 14, none⟩ = some (.int .i64 vur) := hSw.1.cell 14 rfl
              have c1 : w'.cell? ⟨wr.heap.size, 15, none⟩ = some (.int .i64 vuc) := hSw.1.cell 15 rfl
              have c2 : w'.cell? ⟨wr.heap.size, 16, none⟩ = some (.slice vua vun vuz) := hSw.1.cell 16 rfl
              go_simp
            simp only [List.getElem_toArray, List.getElem_cons_succ, List.getElem_cons_zero, Act.put, List.setIfInBounds_toArray, List.set_cons_zero, List.set_cons_succ]
            refine wpLate_pure (i := 23) (v := (.pointer (some ⟨wr.heap.size, 17, none⟩))) rfl (by decide) (by kernel_rfl) (by kernel_rfl) (by kernel_rfl) (fun _ _ _ h => h) (Or.inl ⟨by rfl, ?_⟩) (fun _ => by assumption) ?_
            · intro w' _
              go_simp
            simp only [List.getElem_toArray, List.getElem_cons_succ, List.getElem_cons_zero, Act.put, List.setIfInBounds_toArray, List.set_cons_zero, List.set_cons_succ]
            refine wpLate_take (i := 24) (v := (.agg #[.int .i64 vdr, .int .i64 vdc, .slice vda vdn vdz])) rfl (by kernel_rfl) (by kernel_rfl) (by kernel_rfl) (by kernel_rfl) (by kernel_rfl) (fun _ _ _ h => h) (Or.inl ⟨by rfl, ?_⟩) (by assumption) ?_
            · intro w' hSw
              have c0 : w'.cell? ⟨wr.heap.size, 17, none⟩ = some (.int .i64 vdr) := hSw.1.cell 17 rfl
              have c1 : w'.cell? ⟨wr.heap.size, 18, none⟩ = some (.int .i64 vdc) := hSw.1.cell 18 rfl
              have c2 : w'.cell? ⟨wr.heap.size, 19, none⟩ = some (.slice vda vdn vdz) := hSw.1.cell 19 rfl
              go_simp
            simp only [List.getElem_toArray, List.getElem_cons_succ, List.getElem_cons_zero, Act.put, List.setIfInBounds_toArray, List.set_cons_zero, List.set_cons_succ]
            refine wpLate_ready (rs := [4]) (by kernel_rfl) (by simp) ?_
            refine wpLate_cons rfl (fun Kc hKc => ?_) wpLate_nil
            simp only [List.getElem_toArray, List.getElem_cons_succ, List.getElem_cons_zero]
            rw [if_pos (by rfl)]
            go_wp2_with fail
            refine (fewR_any vfa vfn vfz yy.F 100 100 wd rfl (HL.out wd DF).f (by omega)).mono ?_
            rintro e wc0 ⟨yfg, yfn, yfz, rfl, hnf, FF, EM⟩
            have Ef : FR wc0 w.heap.size ⟨some ⟨yfg, 0, none⟩, yfn, yfz⟩ yfn (yy.F.take 100) := ⟨yfg, rfl, rfl, FF.mono DF.size⟩
            clear FF
            replace XB := XB.below EM
            replace XG := XG.below EM
            replace DF := below_then DF EM
            replace DC := below_then DC EM
            clear EM
            go_wp2_with fail
            refine hKc.out _ _ (fun _ _ => ⟨XB, XG⟩) ?_
            clear hKc Kc
            refine wpLate_ready (rs := [7]) (by kernel_rfl) (by simp) ?_
            refine wpLate_cons rfl (fun Kc hKc => ?_) wpLate_nil
            simp only [List.getElem_toArray, List.getElem_cons_succ, List.getElem_cons_zero]
            rw [if_pos (by rfl)]
            go_wp2_with fail
            refine (mfewR_any vqr vqc vqa vqn vqz yy.Q wc0 (HL.out wc0 DF).q).mono ?_
            rintro e wc1 ⟨yqg, yqn, yqz, rfl, hnq, FF, EM⟩
            rw [show matV vqr vqc (some ⟨yqg, 0, none⟩) yqn yqz = .agg #[.int .i64 vqr, .int .i64 vqc, .slice (some ⟨yqg, 0, none⟩) yqn yqz] from rfl]
            have Eq : FR wc1 w.heap.size ⟨some ⟨yqg, 0, none⟩, yqn, yqz⟩ yqn (yy.Q.take 2000) := ⟨yqg, rfl, rfl, FF.mono DF.size⟩
            clear FF
            replace Ef := Ef.below EM
            replace XB := XB.below EM
            replace XG := XG.below EM
            replace DF := below_then DF EM
            replace DC := below_then DC EM
            clear EM
            go_wp2_with fail
            refine hKc.out _ _ (fun _ _ => ⟨XB, XG⟩) ?_
            clear hKc Kc
            refine wpLate_ready (rs := [10]) (by kernel_rfl) (by simp) ?_
            refine wpLate_cons rfl (fun Kc hKc => ?_) wpLate_nil
            simp only [List.getElem_toArray, List.getElem_cons_succ, List.getElem_cons_zero]
            rw [if_pos (by rfl)]
            go_wp2_with fail
            refine (mfewR_any vkr vkc vka vkn vkz yy.K wc1 (HL.out wc1 DF).k).mono ?_
            rintro e wc2 ⟨ykg, ykn, ykz, rfl, hnk, FF, EM⟩
            rw [show matV vkr vkc (some ⟨ykg, 0, none⟩) ykn ykz = .agg #[.int .i64 vkr, .int .i64 vkc, .slice (some ⟨ykg, 0, none⟩) ykn ykz] from rfl]
            have Ek : FR wc2 w.heap.size ⟨some ⟨ykg, 0, none⟩, ykn, ykz⟩ ykn (yy.K.take 2000) := ⟨ykg, rfl, rfl, FF.mono DF.size⟩
            clear FF
            replace Ef := Ef.below EM
            replace Eq := Eq.below EM
            replace XB := XB.below EM
            replace XG := XG.below EM
            replace DF := below_then DF EM
            replace DC := below_then DC EM
            clear EM
            go_wp2_with fail
            refine hKc.out _ _ (fun _ _ => ⟨XB, XG⟩) ?_
            clear hKc Kc
            refine wpLate_ready (rs := [13]) (by kernel_rfl) (by simp) ?_
            refine wpLate_cons rfl (fun Kc hKc => ?_) wpLate_nil
            simp only [List.getElem_toArray, List.getElem_cons_succ, List.getElem_cons_zero]
            rw [if_pos (by rfl)]
            go_wp2_with fail
            refine (mfewR_any vvr vvc vva vvn vvz yy.V wc2 (HL.out wc2 DF).v).mono ?_
            rintro e wc3 ⟨yvg, yvn, yvz, rfl, hnv, FF, EM⟩
            rw [show matV vvr vvc (some ⟨yvg, 0, none⟩) yvn yvz = .agg #[.int .i64 vvr, .int .i64 vvc, .slice (some ⟨yvg, 0, none⟩) yvn yvz] from rfl]
            have Ev : FR wc3 w.heap.size ⟨some ⟨yvg, 0, none⟩, yvn, yvz⟩ yvn (yy.V.take 2000) := ⟨yvg, rfl, rfl, FF.mono DF.size⟩
            clear FF
            replace Ef := Ef.below EM
            replace Eq := Eq.below EM
            replace Ek := Ek.below EM
            replace XB := XB.below EM
            replace XG := XG.below EM
            replace DF := below_then DF EM
            replace DC := below_then DC EM
            clear EM
            go_wp2_with fail
            refine hKc.out _ _ (fun _ _ => ⟨XB, XG⟩) ?_
            clear hKc Kc
            refine wpLate_ready (rs := [16]) (by kernel_rfl) (by simp) ?_
            refine wpLate_cons rfl (fun Kc hKc => ?_) wpLate_nil
            simp only [List.getElem_toArray, List.getElem_cons_succ, List.getElem_cons_zero]
            rw [if_pos (by rfl)]
            go_wp2_with fail
            refine (mfewR_any vor voc voa von voz yy.O wc3 (HL.out wc3 DF).o).mono ?_
            rintro e wc4 ⟨yog, yon, yoz, rfl, hno, FF, EM⟩
            rw [show matV vor voc (some ⟨yog, 0, none⟩) yon yoz = .agg #[.int .i64 vor, .int .i64 voc, .slice (some ⟨yog, 0, none⟩) yon yoz] from rfl]
            have Eo : FR wc4 w.heap.size ⟨some ⟨yog, 0, none⟩, yon, yoz⟩ yon (yy.O.take 2000) := ⟨yog, rfl, rfl, FF.mono DF.size⟩
            clear FF
            replace Ef := Ef.below EM
            replace Eq := Eq.below EM
            replace Ek := Ek.below EM
            replace Ev := Ev.below EM
            replace XB := XB.below EM
            replace XG := XG.below EM
            replace DF := below_then DF EM
            replace DC := below_then DC EM
            clear EM
            go_wp2_with fail
            refine hKc.out _ _ (fun _ _ => ⟨XB, XG⟩) ?_
            clear hKc Kc
            refine wpLate_ready (rs := [19]) (by kernel_rfl) (by simp) ?_
            refine wpLate_cons rfl (fun Kc hKc => ?_) wpLate_nil
            simp only [List.getElem_toArray, List.getElem_cons_succ, List.getElem_cons_zero]
            rw [if_pos (by rfl)]
            go_wp2_with fail
            refine (fewR_any vsa vsn vsz yy.S 100 100 wc4 rfl (HL.out wc4 DF).s (by omega)).mono ?_
            rintro e wc5 ⟨ysg, ysn, ysz, rfl, hns, FF, EM⟩
            have Es : FR wc5 w.heap.size ⟨some ⟨ysg, 0, none⟩, ysn, ysz⟩ ysn (yy.S.take 100) := ⟨ysg, rfl, rfl, FF.mono DF.size⟩
            clear FF
            replace Ef := Ef.below EM
            replace Eq := Eq.below EM
            replace Ek := Ek.below EM
            replace Ev := Ev.below EM
            replace Eo := Eo.below EM
            replace XB := XB.below EM
            replace XG := XG.below EM
            replace DF := below_then DF EM
            replace DC := below_then DC EM
            clear EM
            go_wp2_with fail
            refine hKc.out _ _ (fun _ _ => ⟨XB, XG⟩) ?_
            clear hKc Kc
            refine wpLate_ready (rs := [22]) (by kernel_rfl) (by simp) ?_
            refine wpLate_cons rfl (fun Kc hKc => ?_) wpLate_nil
            simp only [List.getElem_toArray, List.getElem_cons_succ, List.getElem_cons_zero]
            rw [if_pos (by rfl)]
            go_wp2_with fail
            refine (mfewR_any vur vuc vua vun vuz yy.U wc5 (HL.out wc5 DF).u).mono ?_
            rintro e wc6 ⟨yug, yun, yuz, rfl, hnu, FF, EM⟩
            rw [show matV vur vuc (some ⟨yug, 0, none⟩) yun yuz = .agg #[.int .i64 vur, .int .i64 vuc, .slice (some ⟨yug, 0, none⟩) yun yuz] from rfl]
            have Eu : FR wc6 w.heap.size ⟨some ⟨yug, 0, none⟩, yun, yuz⟩ yun (yy.U.take 2000) := ⟨yug, rfl, rfl, FF.mono DF.size⟩
            clear FF
            replace Ef := Ef.below EM
            replace Eq := Eq.below EM
            replace Ek := Ek.below EM
            replace Ev := Ev.below EM
            replace Eo := Eo.below EM
            replace Es := Es.below EM
            replace XB := XB.below EM
            replace XG := XG.below EM
            replace DF := below_then DF EM
            replace DC := below_then DC EM
            clear EM
            go_wp2_with fail
            refine hKc.out _ _ (fun _ _ => ⟨XB, XG⟩) ?_
            clear hKc Kc
            refine wpLate_ready (rs := [25]) (by kernel_rfl) (by simp) ?_
            refine wpLate_cons rfl (fun Kc hKc => ?_) wpLate_nil
            simp only [List.getElem_toArray, List.getElem_cons_succ, List.getElem_cons_zero]
            rw [if_pos (by rfl)]
            go_wp2_with fail
            refine (mfewR_any vdr vdc vda vdn vdz yy.N wc6 (HL.out wc6 DF).d).mono ?_
            rintro e wc7 ⟨ydg, ydn, ydz, rfl, hnd, FF, EM⟩
            rw [show matV vdr vdc (some ⟨ydg, 0, none⟩) ydn ydz = .agg #[.int .i64 vdr, .int .i64 vdc, .slice (some ⟨ydg, 0, none⟩) ydn ydz] from rfl]
            have Ed : FR wc7 w.heap.size ⟨some ⟨ydg, 0, none⟩, ydn, ydz⟩ ydn (yy.N.take 2000) := ⟨ydg, rfl, rfl, FF.mono DF.size⟩
            clear FF
            replace Ef := Ef.below EM
            replace Eq := Eq.below EM
            replace Ek := Ek.below EM
            replace Ev := Ev.below EM
            replace Eo := Eo.below EM
            replace Es := Es.below EM
            replace Eu := Eu.below EM
            replace XB := XB.below EM
            replace XG := XG.below EM
            replace DF := below_then DF EM
            replace DC := below_then DC EM
            clear EM
            go_wp2_with fail
            refine hKc.out _ _ (fun _ _ => ⟨XB, XG⟩) ?_
            clear hKc Kc
            refine wpLate_pure (i := 26) (v := (.agg #[.slice (some ⟨yfg, 0, none⟩) yfn yfz, .int .i64 vqr, .int .i64 vqc, .slice (some ⟨yqg, 0, none⟩) yqn yqz, .int .i64 vkr, .int .i64 vkc, .slice (some ⟨ykg, 0, none⟩) ykn ykz, .int .i64 vvr, .int .i64 vvc, .slice (some ⟨yvg, 0, none⟩) yvn yvz, .int .i64 vor, .int .i64 voc, .slice (some ⟨yog, 0, none⟩) yon yoz, .slice (some ⟨ysg, 0, none⟩) ysn ysz, .int .i64 vur, .int .i64 vuc, .slice (some ⟨yug, 0, none⟩) yun yuz, .int .i64 vdr, .int .i64 vdc, .slice (some ⟨ydg, 0, none⟩) ydn ydz])) rfl (by decide) (by kernel_rfl) (by kernel_rfl) (by kernel_rfl) (fun _ _ _ h => h) (Or.inl ⟨by rfl, ?_⟩) (fun _ => ⟨XB, XG⟩) ?_
            · intro w' _
              go_simp
            simp only [List.getElem_toArray, List.getElem_cons_succ, List.getElem_cons_zero, Act.put, List.setIfInBounds_toArray, List.set_cons_zero, List.set_cons_succ]
            refine wpLate_ready (rs := [27]) (by kernel_rfl) (by simp) ?_
            refine wpLate_cons rfl (fun Kc hKc => ?_) wpLate_nil
            simp only [List.getElem_toArray, List.getElem_cons_succ, List.getElem_cons_zero]
            rw [if_pos (by rfl)]
            have CN := blk_new wc7 61 #[.slice (some ⟨yfg, 0, none⟩) yfn yfz, .int .i64 vqr, .int .i64 vqc, .slice (some ⟨yqg, 0, none⟩) yqn yqz, .int .i64 vkr, .int .i64 vkc, .slice (some ⟨ykg, 0, none⟩) ykn ykz, .int .i64 vvr, .int .i64 vvc, .slice (some ⟨yvg, 0, none⟩) yvn yvz, .int .i64 vor, .int .i64 voc, .slice (some ⟨yog, 0, none⟩) yon yoz, .slice (some ⟨ysg, 0, none⟩) ysn ysz, .int .i64 vur, .int .i64 vuc, .slice (some ⟨yug, 0, none⟩) yun yuz, .int .i64 vdr, .int .i64 vdc, .slice (some ⟨ydg, 0, none⟩) ydn ydz]
            have EM : Below wc7.heap.size wc7 (wc7.alloc (.cells #[.slice (some ⟨yfg, 0, none⟩) yfn yfz, .int .i64 vqr, .int .i64 vqc, .slice (some ⟨yqg, 0, none⟩) yqn yqz, .int .i64 vkr, .int .i64 vkc, .slice (some ⟨ykg, 0, none⟩) ykn ykz, .int .i64 vvr, .int .i64 vvc, .slice (some ⟨yvg, 0, none⟩) yvn yvz, .int .i64 vor, .int .i64 voc, .slice (some ⟨yog, 0, none⟩) yon yoz, .slice (some ⟨ysg, 0, none⟩) ysn ysz, .int .i64 vur, .int .i64 vuc, .slice (some ⟨yug, 0, none⟩) yun yuz, .int .i64 vdr, .int .i64 vdc, .slice (some ⟨ydg, 0, none⟩) ydn ydz] 61)) := (Below.refl _ _).alloc (Nat.le_refl _) _
            generalize hwn : wc7.alloc (.cells #[.slice (some ⟨yfg, 0, none⟩) yfn yfz, .int .i64 vqr, .int .i64 vqc, .slice (some ⟨yqg, 0, none⟩) yqn yqz, .int .i64 vkr, .int .i64 vkc, .slice (some ⟨ykg, 0, none⟩) ykn ykz, .int .i64 vvr, .int .i64 vvc, .slice (some ⟨yvg, 0, none⟩) yvn yvz, .int .i64 vor, .int .i64 voc, .slice (some ⟨yog, 0, none⟩) yon yoz, .slice (some ⟨ysg, 0, none⟩) ysn ysz, .int .i64 vur, .int .i64 vuc, .slice (some ⟨yug, 0, none⟩) yun yuz, .int .i64 vdr, .int .i64 vdc, .slice (some ⟨ydg, 0, none⟩) ydn ydz] 61) = wg at *
            go_wp2_with fail
            replace Ef := Ef.below EM
            replace Eq := Eq.below EM
            replace Ek := Ek.below EM
            replace Ev := Ev.below EM
            replace Eo := Eo.below EM
            replace Es := Es.below EM
            replace Eu := Eu.below EM
            replace Ed := Ed.below EM
            replace XB := XB.below EM
            replace XG := XG.below EM
            replace DF := below_then DF EM
            replace DC := below_then DC EM
            clear EM hwn
            refine hKc.out _ _ (fun _ _ => ⟨XB, XG⟩) ?_
            clear hKc Kc
            have zS := DF.size
            have BTN : BT wg w.heap.size ⟨⟨vfa, vfn, vfz⟩, ⟨vqr, vqc, ⟨vqa, vqn, vqz⟩⟩, ⟨vkr, vkc, ⟨vka, vkn, vkz⟩⟩, ⟨vvr, vvc, ⟨vva, vvn, vvz⟩⟩, ⟨vor, voc, ⟨voa, von, voz⟩⟩, ⟨vsa, vsn, vsz⟩, ⟨vur, vuc, ⟨vua, vun, vuz⟩⟩, ⟨vdr, vdc, ⟨vda, vdn, vdz⟩⟩⟩ ⟨⟨some ⟨yfg, 0, none⟩, yfn, yfz⟩, ⟨vqr, vqc, ⟨some ⟨yqg, 0, none⟩, yqn, yqz⟩⟩, ⟨vkr, vkc, ⟨some ⟨ykg, 0, none⟩, ykn, ykz⟩⟩, ⟨vvr, vvc, ⟨some ⟨yvg, 0, none⟩, yvn, yvz⟩⟩, ⟨vor, voc, ⟨some ⟨yog, 0, none⟩, yon, yoz⟩⟩, ⟨some ⟨ysg, 0, none⟩, ysn, ysz⟩, ⟨vur, vuc, ⟨some ⟨yug, 0, none⟩, yun, yuz⟩⟩, ⟨vdr, vdc, ⟨some ⟨ydg, 0, none⟩, ydn, ydz⟩⟩⟩ (cutL 100 yy) := ⟨Ef, Eq, Ek, Ev, Eo, Es, Eu, Ed, ⟨rfl, rfl⟩, ⟨rfl, rfl⟩, ⟨rfl, rfl⟩, ⟨rfl, rfl⟩, ⟨rfl, rfl⟩, ⟨rfl, rfl⟩⟩
            have yok : Bk.Ok ⟨⟨some ⟨yfg, 0, none⟩, yfn, yfz⟩, ⟨vqr, vqc, ⟨some ⟨yqg, 0, none⟩, yqn, yqz⟩⟩, ⟨vkr, vkc, ⟨some ⟨ykg, 0, none⟩, ykn, ykz⟩⟩, ⟨vvr, vvc, ⟨some ⟨yvg, 0, none⟩, yvn, yvz⟩⟩, ⟨vor, voc, ⟨some ⟨yog, 0, none⟩, yon, yoz⟩⟩, ⟨some ⟨ysg, 0, none⟩, ysn, ysz⟩, ⟨vur, vuc, ⟨some ⟨yug, 0, none⟩, yun, yuz⟩⟩, ⟨vdr, vdc, ⟨some ⟨ydg, 0, none⟩, ydn, ydz⟩⟩⟩ := ⟨by show yfn ≤ _; omega, ⟨HOK.out.q.r, HOK.out.q.c⟩, ⟨HOK.out.k.r, HOK.out.k.c⟩, ⟨HOK.out.v.r, HOK.out.v.c⟩, ⟨HOK.out.o.r, HOK.out.o.c⟩, by show ysn ≤ _; omega, ⟨HOK.out.u.r, HOK.out.u.c⟩, ⟨HOK.out.d.r, HOK.out.d.c⟩⟩
            clear Ef Eq Ek Ev Eo Es Eu Ed
            have OB2 := OB.below DC
            have XT2 := XT.map (fun h => h.below DC)
            have G12 := G1.below DC
            have G22 := G2.below DC
            have G32 := G3.below DC
            have X02 := X0.below DC
            have X12 := X1.below DC
            refine wpLate_ready (rs := [28]) (by kernel_rfl) (by simp) ?_
            refine wpLate_cons rfl (fun Kc hKc => ?_) wpLate_nil
            simp only [List.getElem_toArray, List.getElem_cons_succ, List.getElem_cons_zero]
            rw [if_pos (by rfl)]
            refine wp_append_blockR _ _ rfl w.heap.size S xs rfl (by exact OB2) wc7.heap.size ⟨⟨some ⟨yfg, 0, none⟩, yfn, yfz⟩, ⟨vqr, vqc, ⟨some ⟨yqg, 0, none⟩, yqn, yqz⟩⟩, ⟨vkr, vkc, ⟨some ⟨ykg, 0, none⟩, ykn, ykz⟩⟩, ⟨vvr, vvc, ⟨some ⟨yvg, 0, none⟩, yvn, yvz⟩⟩, ⟨vor, voc, ⟨some ⟨yog, 0, none⟩, yon, yoz⟩⟩, ⟨some ⟨ysg, 0, none⟩, ysn, ysz⟩, ⟨vur, vuc, ⟨some ⟨yug, 0, none⟩, yun, yuz⟩⟩, ⟨vdr, vdc, ⟨some ⟨ydg, 0, none⟩, ydn, ydz⟩⟩⟩ rfl (by exact CN) yok (by omega) (by omega) ?_
            intro S2 wh hS2 OB3 BH hk
            obtain ⟨s2a, s2n, s2c⟩ := S2
            simp only at hS2
            obtain rfl : s2n = k + 1 := by omega
            clear hS2
            have XT3 := XT2.map (fun h => h.typeR hk)
            have BN3 := BTN.typeR hk
            have G13 := G12.type hk
            have G23 := G22.type hk
            have G33 := G32.type hk
            have X03 := X02.of_block (hk _ _ _ X02 (by decide))
            have X13 := X12.of_block (hk _ _ _ X12 (by decide))
            have XB3 := XB.of_block (hk _ _ _ XB (by decide))
            have XG3 := XG.of_block (hk _ _ _ XG (by decide))
            have DH := DF.trans BH
            clear hk OB2 XT2 BTN G12 G22 G32 X02 X12 XB XG CN BH
            refine hKc.out _ _ (fun _ _ => ⟨XB3, XG3⟩) ?_
            clear hKc Kc
            rw [show Sl.v ⟨s2a, k + 1, s2c⟩ = .slice s2a (k + 1) s2c from rfl]
            refine wpLate_pure (i := 29) (v := (.pointer (some ⟨gA, 3, none⟩))) rfl (by decide) (by kernel_rfl) (by kernel_rfl) (by kernel_rfl) (fun _ _ _ h => h) (Or.inl ⟨by rfl, ?_⟩) (fun _ => ⟨XB3, XG3⟩) ?_
            · intro w' _
              go_simp
            simp only [List.getElem_toArray, List.getElem_cons_succ, List.getElem_cons_zero, Act.put, List.setIfInBounds_toArray, List.set_cons_zero, List.set_cons_succ]
            refine wpLate_ready (rs := [30]) (by kernel_rfl) (by simp) ?_
            refine wpLate_cons rfl (fun Kc hKc => ?_) wpLate_nil
            simp only [List.getElem_toArray, List.getElem_cons_succ, List.getElem_cons_zero]
            rw [if_pos (by rfl)]
            have fz := XG3.frozen 3
            have c3 : wh.cell? ⟨gA, 3, none⟩ = some S.v := XG3.cell 3 rfl
            go_wp2_with fail
            refine hKc.out _ _ (fun hne _ => absurd rfl hne) ?_
            clear hKc Kc fz c3
            have so : ∀ b, b ≠ gA → (wh.setCell ⟨gA, 3, none⟩ (.slice s2a (k + 1) s2c)).heap[b]? = wh.heap[b]? := set1_other
            have XG4 : Blk (wh.setCell ⟨gA, 3, none⟩ (.slice s2a (k + 1) s2c)) gA 38 #[.int .i64 er, .int .i64 ec, .slice (some ⟨g1, 0, none⟩) n1 k1, .slice s2a (k + 1) s2c, .slice (some ⟨g2, 0, none⟩) n2 k2, .int .i64 gr, .int .i64 gc, .slice (some ⟨g3, 0, none⟩) n3 k3] := XG3.set 3 (.slice s2a (k + 1) s2c)
            have OB4 := OB3.keep XG3 (by decide) so
            have XT4 := XT3.map (fun h => h.keep XG3 (by decide) so)
            have BN4 := BN3.keep XG3 (by decide) so
            have G14 := G13.keep XG3 (by decide) so
            have G24 := G23.keep XG3 (by decide) so
            have G34 := G33.keep XG3 (by decide) so
            have X04 := X03.of_block (so _ (by omega))
            have X14 := X13.of_block (so _ (by omega))
            have D4 : Below w.heap.size w (wh.setCell ⟨gA, 3, none⟩ (.slice s2a (k + 1) s2c)) := DH.setCell (p := ⟨gA, 3, none⟩) (by show w.heap.size ≤ gA; omega) _
            generalize wh.setCell ⟨gA, 3, none⟩ (.slice s2a (k + 1) s2c) = w4 at *
            clear so XG3 OB3 XT3 BN3 G13 G23 G33 X03 X13 XB3 DH
            refine wpLate_done (by kernel_rfl) ?_ _
            have XT5 := XT4.snoc HBX.out HYY.out BN4
            go_wp2_with fail
            go_roundg (bn - (k + 1))
            case measure => omega
            case rel =>
              exact ⟨k + 1, ⟨s2a, k + 1, s2c⟩, _, by omega, by omega, rfl, by go_num, rfl, X04, X14, XG4, OB4, XT5, G14, G24, G34, D4⟩
          · have e5 : k = min 5 bn := by omega
            have a3 : wr.cell? ⟨w.heap.size, 3, none⟩ = some (.slice ba bn bz) := X0.cell 3 rfl
            by_cases hb : k < bn
            · have h5 : ¬ (k : Int) < 5 := by omega
              have oneS : Array.all (#[.int .i64 er, .int .i64 ec, .slice (some ⟨g1, 0, none⟩) n1 k1, S.v, .slice (some ⟨g2, 0, none⟩) n2 k2, .int .i64 gr, .int .i64 gc, .slice (some ⟨g3, 0, none⟩) n3 k3] : Array Value) (fun v => v.oneCell') = true := by simp [Value.oneCell', Sl.v]
              go_wp2_with (first | (refine wpList_load_row rfl 38 _ rfl gA rfl 38 _ (0, 0) _ XG Tryz.underlying38 rfl Tryz.infoRW ?_) | (refine wpList_store_row rfl 38 _ _ rfl (w.heap.size + 1) _ rfl rfl 38 _ X1 Tryz.infoRW rfl oneS ?_))
              refine bodyPost_ret (results_cell_row rfl _ _ (w.heap.size + 1) 38 _ _ _ rfl (X1.row _) Tryz.underlying38 rfl Tryz.infoRW) rfl ?_
              have sr : ∀ b, b ≠ w.heap.size + 1 → (wr.setRow (w.heap.size + 1) #[.int .i64 er, .int .i64 ec, .slice (some ⟨g1, 0, none⟩) n1 k1, S.v, .slice (some ⟨g2, 0, none⟩) n2 k2, .int .i64 gr, .int .i64 gc, .slice (some ⟨g3, 0, none⟩) n3 k3]).heap[b]? = wr.heap[b]? := fun b hb => setRow_other _ _ _ _ hb
              refine ⟨⟨⟨er, ec, ⟨some ⟨g1, 0, none⟩, n1, k1⟩⟩, S, ⟨some ⟨g2, 0, none⟩, n2, k2⟩, ⟨gr, gc, ⟨some ⟨g3, 0, none⟩, n3, k3⟩⟩⟩, rfl, ⟨xs, ⟨G1.keep X1 (by decide) sr, ⟨rfl, rfl⟩, G2.keep X1 (by decide) sr, G3.keep X1 (by decide) sr, ⟨rfl, rfl⟩, (OB.keep X1 (by decide) sr).blocks, ?_⟩, OB.keep X1 (by decide) sr⟩, below_setRow DR (by omega) _⟩
              rw [← e5]
              exact XT.map (fun h => h.keep X1 (by decide) sr)
            · have hb2 : ¬ (k : Int) < (bn : Int) := by omega
              have oneS : Array.all (#[.int .i64 er, .int .i64 ec, .slice (some ⟨g1, 0, none⟩) n1 k1, S.v, .slice (some ⟨g2, 0, none⟩) n2 k2, .int .i64 gr, .int .i64 gc, .slice (some ⟨g3, 0, none⟩) n3 k3] : Array Value) (fun v => v.oneCell') = true := by simp [Value.oneCell', Sl.v]
              go_wp2_with (first | (refine wpList_load_row rfl 38 _ rfl gA rfl 38 _ (0, 0) _ XG Tryz.underlying38 rfl Tryz.infoRW ?_) | (refine wpList_store_row rfl 38 _ _ rfl (w.heap.size + 1) _ rfl rfl 38 _ X1 Tryz.infoRW rfl oneS ?_))
              refine bodyPost_ret (results_cell_row rfl _ _ (w.heap.size + 1) 38 _ _ _ rfl (X1.row _) Tryz.underlying38 rfl Tryz.infoRW) rfl ?_
              have sr : ∀ b, b ≠ w.heap.size + 1 → (wr.setRow (w.heap.size + 1) #[.int .i64 er, .int .i64 ec, .slice (some ⟨g1, 0, none⟩) n1 k1, S.v, .slice (some ⟨g2, 0, none⟩) n2 k2, .int .i64 gr, .int .i64 gc, .slice (some ⟨g3, 0, none⟩) n3 k3]).heap[b]? = wr.heap[b]? := fun b hb => setRow_other _ _ _ _ hb
              refine ⟨⟨⟨er, ec, ⟨some ⟨g1, 0, none⟩, n1, k1⟩⟩, S, ⟨some ⟨g2, 0, none⟩, n2, k2⟩, ⟨gr, gc, ⟨some ⟨g3, 0, none⟩, n3, k3⟩⟩⟩, rfl, ⟨xs, ⟨G1.keep X1 (by decide) sr, ⟨rfl, rfl⟩, G2.keep X1 (by decide) sr, G3.keep X1 (by decide) sr, ⟨rfl, rfl⟩, (OB.keep X1 (by decide) sr).blocks, ?_⟩, OB.keep X1 (by decide) sr⟩, below_setRow DR (by omega) _⟩
              rw [← e5]
              exact XT.map (fun h => h.keep X1 (by decide) sr)
      · simp only [List.getElem_toArray, List.getElem_cons_succ, List.getElem_cons_zero]
        rw [if_pos (by rfl)]
        go_wp2_with fail
        have XA0 := blk_new wN2 38 #[.int .i64 0, .int .i64 0, .slice none 0 0, .slice none 0 0, .slice none 0 0, .int .i64 0, .int .i64 0, .slice none 0 0]
        have zA : w.heap.size + 1 < wN2.heap.size := zX
        have EM : Below wN2.heap.size wN2 (wN2.alloc (.cells #[.int .i64 0, .int .i64 0, .slice none 0 0, .slice none 0 0, .slice none 0 0, .int .i64 0, .int .i64 0, .slice none 0 0] 38)) := (Below.refl _ _).alloc (Nat.le_refl _) _
        generalize hn : wN2.alloc (.cells #[.int .i64 0, .int .i64 0, .slice none 0 0, .slice none 0 0, .slice none 0 0, .int .i64 0, .int .i64 0, .slice none 0 0] 38) = wN5 at *
        replace X0 := X0.below EM
        replace X1 := X1.below EM
        replace G1 := G1.below EM
        replace G2 := G2.below EM
        replace DB := below_then DB EM
        replace zX := Nat.lt_of_lt_of_le zX EM.size
        have XA := XA0
        clear XA0 hn
        refine hKc.out _ _ X0 (fun hHeld => ?_)
        clear hKc Kc EM
        refine wpAnyH_ready (rs := [8]) (by kernel_rfl) (by simp) ?_
        refine AllReadyH.cons rfl (fun Kc hKc => ?_) AllReadyH.nil
        simp only [List.getElem_toArray, List.getElem_cons_succ, List.getElem_cons_zero]
        rw [if_pos (by rfl)]
        go_wp2_with fail
        refine (mfewR_any gr gc ga gn gz M.O wN5 (HW.out wN5 DB).o).mono ?_
        rintro e wN6 ⟨g3, n3, k3, rfl, hn3, FF, EM⟩
        rw [show matV _ _ (some ⟨g3, 0, none⟩) n3 k3 = .agg #[.int .i64 gr, .int .i64 gc, .slice (some ⟨g3, 0, none⟩) n3 k3] from rfl]
        have G3 : FR wN6 w.heap.size ⟨some ⟨g3, 0, none⟩, n3, k3⟩ n3 (M.O.take 2000) := ⟨g3, rfl, rfl, FF.mono DB.size⟩
        clear FF
        replace X0 := X0.below EM
        replace X1 := X1.below EM
        replace XA := XA.below EM
        replace G1 := G1.below EM
        replace G2 := G2.below EM
        replace DB := below_then DB EM
        replace zX := Nat.lt_of_lt_of_le zX EM.size
        go_wp2_with fail
        refine hKc.out _ _ X0 (fun hHeld => ?_)
        clear hKc Kc EM
        refine wpAnyH_take (i := 9) (v := (.agg #[.int .i64 er, .int .i64 ec, .slice (some ⟨g1, 0, none⟩) n1 k1, .slice none 0 0, .slice (some ⟨g2, 0, none⟩) n2 k2, .int .i64 gr, .int .i64 gc, .slice (some ⟨g3, 0, none⟩) n3 k3])) rfl (by kernel_rfl) (by kernel_rfl) (by kernel_rfl) (fun _ _ _ h => h) (Or.inl ⟨by rfl, ?_⟩) (by assumption) ?_
        · intro w' hSw
          go_simp
        simp only [List.getElem_toArray, List.getElem_cons_succ, List.getElem_cons_zero, Act.put, List.setIfInBounds_toArray, List.set_cons_zero, List.set_cons_succ]
        refine wpAnyH_ready (rs := [11]) (by kernel_rfl) (by simp) ?_
        refine AllReadyH.cons rfl (fun Kc hKc => ?_) AllReadyH.nil
        simp only [List.getElem_toArray, List.getElem_cons_succ, List.getElem_cons_zero]
        rw [if_pos (by rfl)]
        have one : Array.all (#[.int .i64 er, .int .i64 ec, .slice (some ⟨g1, 0, none⟩) n1 k1, .slice none 0 0, .slice (some ⟨g2, 0, none⟩) n2 k2, .int .i64 gr, .int .i64 gc, .slice (some ⟨g3, 0, none⟩) n3 k3] : Array Value) (fun v => v.oneCell') = true := by simp [Value.oneCell']
        refine wp_store_row 38 _ _ rfl wN2.heap.size #[.int .i64 er, .int .i64 ec, .slice (some ⟨g1, 0, none⟩) n1 k1, .slice none 0 0, .slice (some ⟨g2, 0, none⟩) n2 k2, .int .i64 gr, .int .i64 gc, .slice (some ⟨g3, 0, none⟩) n3 k3] rfl rfl 38 _ XA Tryz.infoRW rfl one ?_
        have so : ∀ b, b ≠ wN2.heap.size → (wN6.setRow wN2.heap.size #[.int .i64 er, .int .i64 ec, .slice (some ⟨g1, 0, none⟩) n1 k1, .slice none 0 0, .slice (some ⟨g2, 0, none⟩) n2 k2, .int .i64 gr, .int .i64 gc, .slice (some ⟨g3, 0, none⟩) n3 k3]).heap[b]? = wN6.heap[b]? := fun b hb => setRow_other _ _ _ _ hb
        replace X0 := Blk.of_block X0 (so _ (by omega))
        replace X1 := Blk.of_block X1 (so _ (by omega))
        replace G1 := G1.keep XA (by decide) so
        replace G2 := G2.keep XA (by decide) so
        replace G3 := G3.keep XA (by decide) so
        have XR := XA.row #[.int .i64 er, .int .i64 ec, .slice (some ⟨g1, 0, none⟩) n1 k1, .slice none 0 0, .slice (some ⟨g2, 0, none⟩) n2 k2, .int .i64 gr, .int .i64 gc, .slice (some ⟨g3, 0, none⟩) n3 k3]
        replace DB := below_setRow DB (show w.heap.size ≤ wN2.heap.size by omega) #[.int .i64 er, .int .i64 ec, .slice (some ⟨g1, 0, none⟩) n1 k1, .slice none 0 0, .slice (some ⟨g2, 0, none⟩) n2 k2, .int .i64 gr, .int .i64 gc, .slice (some ⟨g3, 0, none⟩) n3 k3]
        have hgA : w.heap.size + 1 < wN2.heap.size := by omega
        generalize hn : wN6.setRow wN2.heap.size #[.int .i64 er, .int .i64 ec, .slice (some ⟨g1, 0, none⟩) n1 k1, .slice none 0 0, .slice (some ⟨g2, 0, none⟩) n2 k2, .int .i64 gr, .int .i64 gc, .slice (some ⟨g3, 0, none⟩) n3 k3] = wS at *
        generalize wN2.heap.size = gA at *
        refine hKc.out _ _ X0 (fun hHeld => ?_)
        clear hKc Kc hn so XA
        refine wpAnyH_done (by kernel_rfl) ?_ _
        clear hHeld zX zA
        have a3 : wS.cell? ⟨w.heap.size, 3, none⟩ = some (.slice ba bn bz) := X0.cell 3 rfl
        go_wp2_with fail
        clear a3
        go_loopg [4] bn (fun r i wr => ∃ (k : Nat) (S : Sl) (xs : List Bk), k ≤ bn ∧ k ≤ 5 ∧ r = bn - k ∧ i = .int .i64 (k : Int) ∧ S.n = k ∧ Blk wr w.heap.size 29 #[.int .i64 er, .int .i64 ec, .slice ea en ez, .slice ba bn bz, .slice la ln lz, .int .i64 gr, .int .i64 gc, .slice ga gn gz] ∧ Blk wr (w.heap.size + 1) 38 #[.int .i64 0, .int .i64 0, .slice none 0 0, .slice none 0 0, .slice none 0 0, .int .i64 0, .int .i64 0, .slice none 0 0] ∧ Blk wr gA 38 #[.int .i64 er, .int .i64 ec, .slice (some ⟨g1, 0, none⟩) n1 k1, S.v, .slice (some ⟨g2, 0, none⟩) n2 k2, .int .i64 gr, .int .i64 gc, .slice (some ⟨g3, 0, none⟩) n3 k3] ∧ OwnB wr w.heap.size S xs ∧ BTs wr w.heap.size 100 k bs xs M.Ls ∧ FR wr w.heap.size ⟨some ⟨g1, 0, none⟩, n1, k1⟩ n1 (M.E.take 2000) ∧ FR wr w.heap.size ⟨some ⟨g2, 0, none⟩, n2, k2⟩ n2 (M.G.take 100) ∧ FR wr w.heap.size ⟨some ⟨g3, 0, none⟩, n3, k3⟩ n3 (M.O.take 2000) ∧ Below w.heap.size w wr)
        case atStart => exact ⟨0, ⟨none, 0, 0⟩, [], by omega, by omega, by omega, rfl, rfl, X0, X1, XR, ownB_nil _ _, bts_nil _ _ _ _ _, G1, G2, G3, DB⟩
        case round =>
          clear X0 X1 XR G1 G2 G3 DB
          obtain ⟨k, S, xs, hk, hk5, rfl, rfl, hSn, X0, X1, XG, OB, XT, G1, G2, G3, DR⟩ := hrel
          by_cases hlt0 : k < bn ∧ k < 5
          · have hlt : k < bn := by omega
            have h5 : (k : Int) < 5 := by omega
            obtain ⟨xx, hxx⟩ : ∃ x, bs[k]? = some x := ⟨_, List.getElem?_eq_getElem (show k < bs.length by have := HBL.out; omega)⟩
            obtain ⟨yy, hyy, hL0⟩ := (HW.out w (Below.refl _ _)).ls k xx hxx
            obtain ⟨gb, ob, eba, hcb⟩ := (HW.out wr DR).b.cells (by show 0 < bn; omega)
            have eba' : ba = some ⟨gb, ob, none⟩ := eba
            subst eba'
            have r0 := hcb k xx hxx
            have hok := (HW.out w (Below.refl _ _)).b.ok xx (List.mem_of_getElem? hxx)
            have HYY : Hid (M.Ls[k]? = some yy) := hyy
            obtain ⟨⟨vfa, vfn, vfz⟩, ⟨vqr, vqc, ⟨vqa, vqn, vqz⟩⟩, ⟨vkr, vkc, ⟨vka, vkn, vkz⟩⟩, ⟨vvr, vvc, ⟨vva, vvn, vvz⟩⟩, ⟨vor, voc, ⟨voa, von, voz⟩⟩, ⟨vsa, vsn, vsz⟩, ⟨vur, vuc, ⟨vua, vun, vuz⟩⟩, ⟨vdr, vdc, ⟨vda, vdn, vdz⟩⟩⟩ := xx
            have HBX : Hid (bs[k]? = some ⟨⟨vfa, vfn, vfz⟩, ⟨vqr, vqc, ⟨vqa, vqn, vqz⟩⟩, ⟨vkr, vkc, ⟨vka, vkn, vkz⟩⟩, ⟨vvr, vvc, ⟨vva, vvn, vvz⟩⟩, ⟨vor, voc, ⟨voa, von, voz⟩⟩, ⟨vsa, vsn, vsz⟩, ⟨vur, vuc, ⟨vua, vun, vuz⟩⟩, ⟨vdr, vdc, ⟨vda, vdn, vdz⟩⟩⟩) := hxx
            have HL : Hid (∀ wv, Below w.heap.size w wv → LyR wv ⟨⟨vfa, vfn, vfz⟩, ⟨vqr, vqc, ⟨vqa, vqn, vqz⟩⟩, ⟨vkr, vkc, ⟨vka, vkn, vkz⟩⟩, ⟨vvr, vvc, ⟨vva, vvn, vvz⟩⟩, ⟨vor, voc, ⟨voa, von, voz⟩⟩, ⟨vsa, vsn, vsz⟩, ⟨vur, vuc, ⟨vua, vun, vuz⟩⟩, ⟨vdr, vdc, ⟨vda, vdn, vdz⟩⟩⟩ yy) := fun wv hb => hL0.below hb
            have HOK : Hid (Bk.Ok ⟨⟨vfa, vfn, vfz⟩, ⟨vqr, vqc, ⟨vqa, vqn, vqz⟩⟩, ⟨vkr, vkc, ⟨vka, vkn, vkz⟩⟩, ⟨vvr, vvc, ⟨vva, vvn, vvz⟩⟩, ⟨vor, voc, ⟨voa, von, voz⟩⟩, ⟨vsa, vsn, vsz⟩, ⟨vur, vuc, ⟨vua, vun, vuz⟩⟩, ⟨vdr, vdc, ⟨vda, vdn, vdz⟩⟩⟩) := hok
            rw [show Bk.cells ⟨⟨vfa, vfn, vfz⟩, ⟨vqr, vqc, ⟨vqa, vqn, vqz⟩⟩, ⟨vkr, vkc, ⟨vka, vkn, vkz⟩⟩, ⟨vvr, vvc, ⟨vva, vvn, vvz⟩⟩, ⟨vor, voc, ⟨voa, von, voz⟩⟩, ⟨vsa, vsn, vsz⟩, ⟨vur, vuc, ⟨vua, vun, vuz⟩⟩, ⟨vdr, vdc, ⟨vda, vdn, vdz⟩⟩⟩ = #[.slice vfa vfn vfz, .int .i64 vqr, .int .i64 vqc, .slice vqa vqn vqz, .int .i64 vkr, .int .i64 vkc, .slice vka vkn vkz, .int .i64 vvr, .int .i64 vvc, .slice vva vvn vvz, .int .i64 vor, .int .i64 voc, .slice voa von voz, .slice vsa vsn vsz, .int .i64 vur, .int .i64 vuc, .slice vua vun vuz, .int .i64 vdr, .int .i64 vdc, .slice vda vdn vdz] from rfl] at r0
            clear hL0 hxx hyy hcb hok eba
            have szr := DR.size
            obtain ⟨XE, XB, BF⟩ := var3e wr 60 #[.slice none 0 0, .int .i64 0, .int .i64 0, .slice none 0 0, .int .i64 0, .int .i64 0, .slice none 0 0, .int .i64 0, .int .i64 0, .slice none 0 0, .int .i64 0, .int .i64 0, .slice none 0 0, .slice none 0 0, .int .i64 0, .int .i64 0, .slice none 0 0, .int .i64 0, .int .i64 0, .slice none 0 0] #[.slice vfa vfn vfz, .int .i64 vqr, .int .i64 vqc, .slice vqa vqn vqz, .int .i64 vkr, .int .i64 vkc, .slice vka vkn vkz, .int .i64 vvr, .int .i64 vvc, .slice vva vvn vvz, .int .i64 vor, .int .i64 voc, .slice voa von voz, .slice vsa vsn vsz, .int .i64 vur, .int .i64 vuc, .slice vua vun vuz, .int .i64 vdr, .int .i64 vdc, .slice vda vdn vdz]
            have hone : Array.all (#[.slice vfa vfn vfz, .int .i64 vqr, .int .i64 vqc, .slice vqa vqn vqz, .int .i64 vkr, .int .i64 vkc, .slice vka vkn vkz, .int .i64 vvr, .int .i64 vvc, .slice vva vvn vvz, .int .i64 vor, .int .i64 voc, .slice voa von voz, .slice vsa vsn vsz, .int .i64 vur, .int .i64 vuc, .slice vua vun vuz, .int .i64 vdr, .int .i64 vdc, .slice vda vdn vdz] : Array Value) (fun v => v.oneCell') = true := by simp [Value.oneCell']
            have a3 : wr.cell? ⟨w.heap.size, 3, none⟩ = some (.slice (some ⟨gb, ob, none⟩) bn bz) := X0.cell 3 rfl
            generalize hwe : wr.alloc (.cells #[.slice none 0 0, .int .i64 0, .int .i64 0, .slice none 0 0, .int .i64 0, .int .i64 0, .slice none 0 0, .int .i64 0, .int .i64 0, .slice none 0 0, .int .i64 0, .int .i64 0, .slice none 0 0, .slice none 0 0, .int .i64 0, .int .i64 0, .slice none 0 0, .int .i64 0, .int .i64 0, .slice none 0 0] 60) = we at *
            generalize hwf : we.setRow wr.heap.size #[.slice vfa vfn vfz, .int .i64 vqr, .int .i64 vqc, .slice vqa vqn vqz, .int .i64 vkr, .int .i64 vkc, .slice vka vkn vkz, .int .i64 vvr, .int .i64 vvc, .slice vva vvn vvz, .int .i64 vor, .int .i64 voc, .slice voa von voz, .slice vsa vsn vsz, .int .i64 vur, .int .i64 vuc, .slice vua vun vuz, .int .i64 vdr, .int .i64 vdc, .slice vda vdn vdz] = wf at *
            have DF := below_then DR BF
            replace X0 := X0.below BF
            replace X1 := X1.below BF
            replace XG := XG.below BF
            replace OB := OB.below BF
            replace XT := XT.map (fun h => h.below BF)
            replace G1 := G1.below BF
            replace G2 := G2.below BF
            replace G3 := G3.below BF
            clear BF
            go_upto_region 6 with (first | (refine wpList_load_mid rfl 60 _ rfl gb (ob + k * 20) rfl (#[.slice vfa vfn vfz, .int .i64 vqr, .int .i64 vqc, .slice vqa vqn vqz, .int .i64 vkr, .int .i64 vkc, .slice vka vkn vkz, .int .i64 vvr, .int .i64 vvc, .slice vva vvn vvz, .int .i64 vor, .int .i64 voc, .slice voa von voz, .slice vsa vsn vsz, .int .i64 vur, .int .i64 vuc, .slice vua vun vuz, .int .i64 vdr, .int .i64 vdc, .slice vda vdn vdz] : Array Value).toList _ r0 Tryz.underlying60 rfl (by exact Tryz.infoB) ?_) | (refine wpList_store_row rfl 60 _ _ rfl wr.heap.size #[.slice vfa vfn vfz, .int .i64 vqr, .int .i64 vqc, .slice vqa vqn vqz, .int .i64 vkr, .int .i64 vkc, .slice vka vkn vkz, .int .i64 vvr, .int .i64 vvc, .slice vva vvn vvz, .int .i64 vor, .int .i64 voc, .slice voa von voz, .slice vsa vsn vsz, .int .i64 vur, .int .i64 vuc, .slice vua vun vuz, .int .i64 vdr, .int .i64 vdc, .slice vda vdn vdz] rfl rfl 60 _ XE (by exact Tryz.infoB) rfl hone ?_; rw [hwf]))
            clear hwe hwf XE r0 a3 hone
            have BD : Below wf.heap.size wf wf.drew := (Below.refl _ wf).drew
            replace XB := XB.below BD
            replace XG := XG.below BD
            replace DF := below_then DF BD
            have DC : Below wf.heap.size wf wf.drew := BD
            have zF := DF.size
            have zB := XB.lt
            refine wp_region_late (S := fun w' => Blk w' wr.heap.size 60 #[.slice vfa vfn vfz, .int .i64 vqr, .int .i64 vqc, .slice vqa vqn vqz, .int .i64 vkr, .int .i64 vkc, .slice vka vkn vkz, .int .i64 vvr, .int .i64 vvc, .slice vva vvn vvz, .int .i64 vor, .int .i64 voc, .slice voa von voz, .slice vsa vsn vsz, .int .i64 vur, .int .i64 vuc, .slice vua vun vuz, .int .i64 vdr, .int .i64 vdc, .slice vda vdn vdz] ∧ Blk w' gA 38 #[.int .i64 er, .int .i64 ec, .slice (some ⟨g1, 0, none⟩) n1 k1, S.v, .slice (some ⟨g2, 0, none⟩) n2 k2, .int .i64 gr, .int .i64 gc, .slice (some ⟨g3, 0, none⟩) n3 k3]) 30 (by kernel_rfl) (⟨XB, XG⟩) (fun hHeld => ?_)
            generalize hA : wf.drew = wd at *
            clear hA BD
            refine wpLate_pure (i := 0) (v := (.pointer (some ⟨gA, 3, none⟩))) rfl (by decide) (by kernel_rfl) (by kernel_rfl) (by kernel_rfl) (fun _ _ _ h => h) (Or.inl ⟨by rfl, ?_⟩) (fun _ => by assumption) ?_
            · intro w' _
              go_simp
            simp only [List.getElem_toArray, List.getElem_cons_zero, Act.put, List.setIfInBounds_toArray, List.set_cons_zero, List.set_cons_succ]
            refine wpLate_take (i := 1) (v := S.v) rfl (by kernel_rfl) (by kernel_rfl) (by kernel_rfl) (by kernel_rfl) (by kernel_rfl) (fun _ _ _ h => h) (Or.inl ⟨by rfl, ?_⟩) (by assumption) ?_
            · intro w' hSw
              have c0 : w'.cell? ⟨gA, 3, none⟩ = some S.v := hSw.2.cell 3 rfl
              go_simp
            simp only [List.getElem_toArray, List.getElem_cons_succ, List.getElem_cons_zero, Act.put, List.setIfInBounds_toArray, List.set_cons_zero, List.set_cons_succ]
            refine wpLate_pure (i := 2) (v := (.pointer (some ⟨wr.heap.size, 0, none⟩))) rfl (by decide) (by kernel_rfl) (by kernel_rfl) (by kernel_rfl) (fun _ _ _ h => h) (Or.inl ⟨by rfl, ?_⟩) (fun _ => by assumption) ?_
            · intro w' _
              go_simp
            simp only [List.getElem_toArray, List.getElem_cons_succ, List.getElem_cons_zero, Act.put, List.setIfInBounds_toArray, List.set_cons_zero, List.set_cons_succ]
            refine wpLate_take (i := 3) (v := (.slice vfa vfn vfz)) rfl (by kernel_rfl) (by kernel_rfl) (by kernel_rfl) (by kernel_rfl) (by kernel_rfl) (fun _ _ _ h => h) (Or.inl ⟨by rfl, ?_⟩) (by assumption) ?_
            · intro w' hSw
              have c0 : w'.cell? ⟨wr.heap.size, 0, none⟩ = some (.slice vfa vfn vfz) := hSw.1.cell 0 rfl
              go_simp
            simp only [List.getElem_toArray, List.getElem_cons_succ, List.getElem_cons_zero, Act.put, List.setIfInBounds_toArray, List.set_cons_zero, List.set_cons_succ]
            refine wpLate_pure (i := 5) (v := (.pointer (some ⟨wr.heap.size, 1, none⟩))) rfl (by decide) (by kernel_rfl) (by kernel_rfl) (by kernel_rfl) (fun _ _ _ h => h) (Or.inl ⟨by rfl, ?_⟩) (fun _ => by assumption) ?_
            · intro w' _
              go_simp
            simp only [List.getElem_toArray, List.getElem_cons_succ, List.getElem_cons_zero, Act.put, List.setIfInBounds_toArray, List.set_cons_zero, List.set_cons_succ]
            refine wpLate_take (i := 6) (v := (.agg #[.int .i64 vqr, .int .i64 vqc, .slice vqa vqn vqz])) rfl (by kernel_rfl) (by kernel_rfl) (by kernel_rfl) (by kernel_rfl) (by kernel_rfl) (fun _ _ _ h => h) (Or.inl ⟨by rfl, ?_⟩) (by assumption) ?_
            · intro w' hSw
              have c0 : w'.cell? ⟨wr.heap.size, 1, none⟩ = some (.int .i64 vqr) := hSw.1.cell 1 rfl
              have c1 : w'.cell? ⟨wr.heap.size, 2, none⟩ = some (.int .i64 vqc) := hSw.1.cell 2 rfl
              have c2 : w'.cell? ⟨wr.heap.size, 3, none⟩ = some (.slice vqa vqn vqz) := hSw.1.cell 3 rfl
              go_simp
            simp only [List.getElem_toArray, List.getElem_cons_succ, List.getElem_cons_zero, Act.put, List.setIfInBounds_toArray, List.set_cons_zero, List.set_cons_succ]
            refine wpLate_pure (i := 8) (v := (.pointer (some ⟨wr.heap.size, 4, none⟩))) rfl (by decide) (by kernel_rfl) (by kernel_rfl) (by kernel_rfl) (fun _ _ _ h => h) (Or.inl ⟨by rfl, ?_⟩) (fun _ => by assumption) ?_
            · intro w' _
              go_simp
            simp only [List.getElem_toArray, List.getElem_cons_succ, List.getElem_cons_zero, Act.put, List.setIfInBounds_toArray, List.set_cons_zero, List.set_cons_succ]
            refine wpLate_take (i := 9) (v := (.agg #[.int .i64 vkr, .int .i64 vkc, .slice vka vkn vkz])) rfl (by kernel_rfl) (by kernel_rfl) (by kernel_rfl) (by kernel_rfl) (by kernel_rfl) (fun _ _ _ h => h) (Or.inl ⟨by rfl, ?_⟩) (by assumption) ?_
            · intro w' hSw
              have c0 : w'.cell? ⟨wr.heap.size, 4, none⟩ = some (.int .i64 vkr) := hSw.1.cell 4 rfl
              have c1 : w'.cell? ⟨wr.heap.size, 5, none⟩ = some (.int .i64 vkc) := hSw.1.cell 5 rfl
              have c2 : w'.cell? ⟨wr.heap.size, 6, none⟩ = some (.slice vka vkn vkz) := hSw.1.cell 6 rfl
              go_simp
            simp only [List.getElem_toArray, List.getElem_cons_succ, List.getElem_cons_zero, Act.put, List.setIfInBounds_toArray, List.set_cons_zero, List.set_cons_succ]
            refine wpLate_pure (i := 11) (v := (.pointer (some ⟨wr.heap.size, 7, none⟩))) rfl (by decide) (by kernel_rfl) (by kernel_rfl) (by kernel_rfl) (fun _ _ _ h => h) (Or.inl ⟨by rfl, ?_⟩) (fun _ => by assumption) ?_
            · intro w' _
              go_simp
            simp only [List.getElem_toArray, List.getElem_cons_succ, List.getElem_cons_zero, Act.put, List.setIfInBounds_toArray, List.set_cons_zero, List.set_cons_succ]
            refine wpLate_take (i := 12) (v := (.agg #[.int .i64 vvr, .int .i64 vvc, .slice vva vvn vvz])) rfl (by kernel_rfl) (by kernel_rfl) (by kernel_rfl) (by kernel_rfl) (by kernel_rfl) (fun _ _ _ h => h) (Or.inl ⟨by rfl, ?_⟩) (by assumption) ?_
            · intro w' hSw
              have c0 : w'.cell? ⟨wr.heap.size, 7, none⟩ = some (.int .i64 vvr) := hSw.1.cell 7 rfl
              have c1 : w'.cell? ⟨wr.heap.size, 8, none⟩ = some (.int .i64 vvc) := hSw.1.cell 8 rfl
              have c2 : w'.cell? ⟨wr.heap.size, 9, none⟩ = some (.slice vva vvn vvz) := hSw.1.cell 9 rfl
              go_simp
            simp only [List.getElem_toArray, List.getElem_cons_succ, List.getElem_cons_zero, Act.put, List.setIfInBounds_toArray, List.set_cons_zero, List.set_cons_succ]
            refine wpLate_pure (i := 14) (v := (.pointer (some ⟨wr.heap.size, 10, none⟩))) rfl (by decide) (by kernel_rfl) (by kernel_rfl) (by kernel_rfl) (fun _ _ _ h => h) (Or.inl ⟨by rfl, ?_⟩) (fun _ => by assumption) ?_
            · intro w' _
              go_simp
            simp only [List.getElem_toArray, List.getElem_cons_succ, List.getElem_cons_zero, Act.put, List.setIfInBounds_toArray, List.set_cons_zero, List.set_cons_succ]
            refine wpLate_take (i := 15) (v := (.agg #[.int .i64 vor, .int .i64 voc, .slice voa von voz])) rfl (by kernel_rfl) (by kernel_rfl) (by kernel_rfl) (by kernel_rfl) (by kernel_rfl) (fun _ _ _ h => h) (Or.inl ⟨by rfl, ?_⟩) (by assumption) ?_
            · intro w' hSw
              have c0 : w'.cell? ⟨wr.heap.size, 10, none⟩ = some (.int .i64 vor) := hSw.1.cell 10 rfl
              have c1 : w'.cell? ⟨wr.heap.size, 11, none⟩ = some (.int .i64 voc) := hSw.1.cell 11 rfl
              have c2 : w'.cell? ⟨wr.heap.size, 12, none⟩ = some (.slice voa von voz) := hSw.1.cell 12 rfl
              go_simp
            simp only [List.getElem_toArray, List.getElem_cons_succ, List.getElem_cons_zero, Act.put, List.setIfInBounds_toArray, List.set_cons_zero, List.set_cons_succ]
            refine wpLate_pure (i := 17) (v := (.pointer (some ⟨wr.heap.size, 13, none⟩))) rfl (by decide) (by kernel_rfl) (by kernel_rfl) (by kernel_rfl) (fun _ _ _ h => h) (Or.inl ⟨by rfl, ?_⟩) (fun _ => by assumption) ?_
            · intro w' _
              go_simp
            simp only [List.getElem_toArray, List.getElem_cons_succ, List.getElem_cons_zero, Act.put, List.setIfInBounds_toArray, List.set_cons_zero, List.set_cons_succ]
            refine wpLate_take (i := 18) (v := (.slice vsa vsn vsz)) rfl (by kernel_rfl) (by kernel_rfl) (by kernel_rfl) (by kernel_rfl) (by kernel_rfl) (fun _ _ _ h => h) (Or.inl ⟨by rfl, ?_⟩) (by assumption) ?_
            · intro w' hSw
              have c0 : w'.cell? ⟨wr.heap.size, 13, none⟩ = some (.slice vsa vsn vsz) := hSw.1.cell 13 rfl
              go_simp
            simp only [List.getElem_toArray, List.getElem_cons_succ, List.getElem_cons_zero, Act.put, List.setIfInBounds_toArray, List.set_cons_zero, List.set_cons_succ]
            refine wpLate_pure (i := 20) (v := (.pointer (some ⟨wr.heap.size, 14, none⟩))) rfl (by decide) (by kernel_rfl) (by kernel_rfl) (by kernel_rfl) (fun _ _ _ h => h) (Or.inl ⟨by rfl, ?_⟩) (fun _ => by assumption) ?_
            · intro w' _
              go_simp
            simp only [List.getElem_toArray, List.getElem_cons_succ, List.getElem_cons_zero, Act.put, List.setIfInBounds_toArray, List.set_cons_zero, List.set_cons_succ]
            refine wpLate_take (i := 21) (v := (.agg #[.int .i64 vur, .int .i64 vuc, .slice vua vun vuz])) rfl (by kernel_rfl) (by kernel_rfl) (by kernel_rfl) (by kernel_rfl) (by kernel_rfl) (fun _ _ _ h => h) (Or.inl ⟨by rfl, ?_⟩) (by assumption) ?_
            · intro w' hSw
              have c0 : w'.cell? ⟨wr.heap.size, 14, none⟩ = some (.int .i64 vur) := hSw.1.cell 14 rfl
              have c1 : w'.cell? ⟨wr.heap.size, 15, none⟩ = some (.int .i64 vuc) := hSw.1.cell 15 rfl
              have c2 : w'.cell? ⟨wr.heap.size, 16, none⟩ = some (.slice vua vun vuz) := hSw.1.cell 16 rfl
              go_simp
            simp only [List.getElem_toArray, List.getElem_cons_succ, List.getElem_cons_zero, Act.put, List.setIfInBounds_toArray, List.set_cons_zero, List.set_cons_succ]
            refine wpLate_pure (i := 23) (v := (.pointer (some ⟨wr.heap.size, 17, none⟩))) rfl (by decide) (by kernel_rfl) (by kernel_rfl) (by kernel_rfl) (fun _ _ _ h => h) (Or.inl ⟨by rfl, ?_⟩) (fun _ => by assumption) ?_
            · intro w' _
              go_simp
            simp only [List.getElem_toArray, List.getElem_cons_succ, List.getElem_cons_zero, Act.put, List.setIfInBounds_toArray, List.set_cons_zero, List.set_cons_succ]
            refine wpLate_take (i := 24) (v := (.agg #[.int .i64 vdr, .int .i64 vdc, .slice vda vdn vdz])) rfl (by kernel_rfl) (by kernel_rfl) (by kernel_rfl) (by kernel_rfl) (by kernel_rfl) (fun _ _ _ h => h) (Or.inl ⟨by rfl, ?_⟩) (by assumption) ?_
            · intro w' hSw
              have c0 : w'.cell? ⟨wr.heap.size, 17, none⟩ = some (.int .i64 vdr) := hSw.1.cell 17 rfl
              have c1 : w'.cell? ⟨wr.heap.size, 18, none⟩ = some (.int .i64 vdc) := hSw.1.cell 18 rfl
              have c2 : w'.cell? ⟨wr.heap.size, 19, none⟩ = some (.slice vda vdn vdz) := hSw.1.cell 19 rfl
              go_simp
            simp only [List.getElem_toArray, List.getElem_cons_succ, List.getElem_cons_zero, Act.put, List.setIfInBounds_toArray, List.set_cons_zero, List.set_cons_succ]
            refine wpLate_ready (rs := [4]) (by kernel_rfl) (by simp) ?_
            refine wpLate_cons rfl (fun Kc hKc => ?_) wpLate_nil
            simp only [List.getElem_toArray, List.getElem_cons_succ, List.getElem_cons_zero]
            rw [if_pos (by rfl)]
            go_wp2_with fail
            refine (fewR_any vfa vfn vfz yy.F 100 100 wd rfl (HL.out wd DF).f (by omega)).mono ?_
            rintro e wc0 ⟨yfg, yfn, yfz, rfl, hnf, FF, EM⟩
            have Ef : FR wc0 w.heap.size ⟨some ⟨yfg, 0, none⟩, yfn, yfz⟩ yfn (yy.F.take 100) := ⟨yfg, rfl, rfl, FF.mono DF.size⟩
            clear FF
            replace XB := XB.below EM
            replace XG := XG.below EM
            replace DF := below_then DF EM
            replace DC := below_then DC EM
            clear EM
            go_wp2_with fail
            refine hKc.out _ _ (fun _ _ => ⟨XB, XG⟩) ?_
            clear hKc Kc
            refine wpLate_ready (rs := [7]) (by kernel_rfl) (by simp) ?_
            refine wpLate_cons rfl (fun Kc hKc => ?_) wpLate_nil
            simp only [List.getElem_toArray, List.getElem_cons_succ, List.getElem_cons_zero]
            rw [if_pos (by rfl)]
            go_wp2_with fail
            refine (mfewR_any vqr vqc vqa vqn vqz yy.Q wc0 (HL.out wc0 DF).q).mono ?_
            rintro e wc1 ⟨yqg, yqn, yqz, rfl, hnq, FF, EM⟩
            rw [show matV vqr vqc (some ⟨yqg, 0, none⟩) yqn yqz = .agg #[.int .i64 vqr, .int .i64 vqc, .slice (some ⟨yqg, 0, none⟩) yqn yqz] from rfl]
            have Eq : FR wc1 w.heap.size ⟨some ⟨yqg, 0, none⟩, yqn, yqz⟩ yqn (yy.Q.take 2000) := ⟨yqg, rfl, rfl, FF.mono DF.size⟩
            clear FF
            replace Ef := Ef.below EM
            replace XB := XB.below EM
            replace XG := XG.below EM
            replace DF := below_then DF EM
            replace DC := below_then DC EM
            clear EM
            go_wp2_with fail
            refine hKc.out _ _ (fun _ _ => ⟨XB, XG⟩) ?_
            clear hKc Kc
            refine wpLate_ready (rs := [10]) (by kernel_rfl) (by simp) ?_
            refine wpLate_cons rfl (fun Kc hKc => ?_) wpLate_nil
            simp only [List.getElem_toArray, List.getElem_cons_succ, List.getElem_cons_zero]
            rw [if_pos (by rfl)]
            go_wp2_with fail
            refine (mfewR_any vkr vkc vka vkn vkz yy.K wc1 (HL.out wc1 DF).k).mono ?_
            rintro e wc2 ⟨ykg, ykn, ykz, rfl, hnk, FF, EM⟩
            rw [show matV vkr vkc (some ⟨ykg, 0, none⟩) ykn ykz = .agg #[.int .i64 vkr, .int .i64 vkc, .slice (some ⟨ykg, 0, none⟩) ykn ykz] from rfl]
            have Ek : FR wc2 w.heap.size ⟨some ⟨ykg, 0, none⟩, ykn, ykz⟩ ykn (yy.K.take 2000) := ⟨ykg, rfl, rfl, FF.mono DF.size⟩
            clear FF
            replace Ef := Ef.below EM
            replace Eq := Eq.below EM
            replace XB := XB.below EM
            replace XG := XG.below EM
            replace DF := below_then DF EM
            replace DC := below_then DC EM
            clear EM
            go_wp2_with fail
            refine hKc.out _ _ (fun _ _ => ⟨XB, XG⟩) ?_
            clear hKc Kc
            refine wpLate_ready (rs := [13]) (by kernel_rfl) (by simp) ?_
            refine wpLate_cons rfl (fun Kc hKc => ?_) wpLate_nil
            simp only [List.getElem_toArray, List.getElem_cons_succ, List.getElem_cons_zero]
            rw [if_pos (by rfl)]
            go_wp2_with fail
            refine (mfewR_any vvr vvc vva vvn vvz yy.V wc2 (HL.out wc2 DF).v).mono ?_
            rintro e wc3 ⟨yvg, yvn, yvz, rfl, hnv, FF, EM⟩
            rw [show matV vvr vvc (some ⟨yvg, 0, none⟩) yvn yvz = .agg #[.int .i64 vvr, .int .i64 vvc, .slice (some ⟨yvg, 0, none⟩) yvn yvz] from rfl]
            have Ev : FR wc3 w.heap.size ⟨some ⟨yvg, 0, none⟩, yvn, yvz⟩ yvn (yy.V.take 2000) := ⟨yvg, rfl, rfl, FF.mono DF.size⟩
            clear FF
            replace Ef := Ef.below EM
            replace Eq := Eq.below EM
            replace Ek := Ek.below EM
            replace XB := XB.below EM
            replace XG := XG.below EM
            replace DF := below_then DF EM
            replace DC := below_then DC EM
            clear EM
            go_wp2_with fail
            refine hKc.out _ _ (fun _ _ => ⟨XB, XG⟩) ?_
            clear hKc Kc
            refine wpLate_ready (rs := [16]) (by kernel_rfl) (by simp) ?_
            refine wpLate_cons rfl (fun Kc hKc => ?_) wpLate_nil
            simp only [List.getElem_toArray, List.getElem_cons_succ, List.getElem_cons_zero]
            rw [if_pos (by rfl)]
            go_wp2_with fail
            refine (mfewR_any vor voc voa von voz yy.O wc3 (HL.out wc3 DF).o).mono ?_
            rintro e wc4 ⟨yog, yon, yoz, rfl, hno, FF, EM⟩
            rw [show matV vor voc (some ⟨yog, 0, none⟩) yon yoz = .agg #[.int .i64 vor, .int .i64 voc, .slice (some ⟨yog, 0, none⟩) yon yoz] from rfl]
            have Eo : FR wc4 w.heap.size ⟨some ⟨yog, 0, none⟩, yon, yoz⟩ yon (yy.O.take 2000) := ⟨yog, rfl, rfl, FF.mono DF.size⟩
            clear FF
            replace Ef := Ef.below EM
            replace Eq := Eq.below EM
            replace Ek := Ek.below EM
            replace Ev := Ev.below EM
            replace XB := XB.below EM
            replace XG := XG.below EM
            replace DF := below_then DF EM
            replace DC := below_then DC EM
            clear EM
            go_wp2_with fail
            refine hKc.out _ _ (fun _ _ => ⟨XB, XG⟩) ?_
            clear hKc Kc
            refine wpLate_ready (rs := [19]) (by kernel_rfl) (by simp) ?_
            refine wpLate_cons rfl (fun Kc hKc => ?_) wpLate_nil
            simp only [List.getElem_toArray, List.getElem_cons_succ, List.getElem_cons_zero]
            rw [if_pos (by rfl)]
            go_wp2_with fail
            refine (fewR_any vsa vsn vsz yy.S 100 100 wc4 rfl (HL.out wc4 DF).s (by omega)).mono ?_
            rintro e wc5 ⟨ysg, ysn, ysz, rfl, hns, FF, EM⟩
            have Es : FR wc5 w.heap.size ⟨some ⟨ysg, 0, none⟩, ysn, ysz⟩ ysn (yy.S.take 100) := ⟨ysg, rfl, rfl, FF.mono DF.size⟩
            clear FF
            replace Ef := Ef.below EM
            replace Eq := Eq.below EM
            replace Ek := Ek.below EM
            replace Ev := Ev.below EM
            replace Eo := Eo.below EM
            replace XB := XB.below EM
            replace XG := XG.below EM
            replace DF := below_then DF EM
            replace DC := below_then DC EM
            clear EM
            go_wp2_with fail
            refine hKc.out _ _ (fun _ _ => ⟨XB, XG⟩) ?_
            clear hKc Kc
            refine wpLate_ready (rs := [22]) (by kernel_rfl) (by simp) ?_
            refine wpLate_cons rfl (fun Kc hKc => ?_) wpLate_nil
            simp only [List.getElem_toArray, List.getElem_cons_succ, List.getElem_cons_zero]
            rw [if_pos (by rfl)]
            go_wp2_with fail
            refine (mfewR_any vur vuc vua vun vuz yy.U wc5 (HL.out wc5 DF).u).mono ?_
            rintro e wc6 ⟨yug, yun, yuz, rfl, hnu, FF, EM⟩
            rw [show matV vur vuc (some ⟨yug, 0, none⟩) yun yuz = .agg #[.int .i64 vur, .int .i64 vuc, .slice (some ⟨yug, 0, none⟩) yun yuz] from rfl]
            have Eu : FR wc6 w.heap.size ⟨some ⟨yug, 0, none⟩, yun, yuz⟩ yun (yy.U.take 2000) := ⟨yug, rfl, rfl, FF.mono DF.size⟩
            clear FF
            replace Ef := Ef.below EM
            replace Eq := Eq.below EM
            replace Ek := Ek.below EM
            replace Ev := Ev.below EM
            replace Eo := Eo.below EM
            replace Es := Es.below EM
            replace XB := XB.below EM
            replace XG := XG.below EM
            replace DF := below_then DF EM
            replace DC := below_then DC EM
            clear EM
            go_wp2_with fail
            refine hKc.out _ _ (fun _ _ => ⟨XB, XG⟩) ?_
            clear hKc Kc
            refine wpLate_ready (rs := [25]) (by kernel_rfl) (by simp) ?_
            refine wpLate_cons rfl (fun Kc hKc => ?_) wpLate_nil
            simp only [List.getElem_toArray, List.getElem_cons_succ, List.getElem_cons_zero]
            rw [if_pos (by rfl)]
            go_wp2_with fail
            refine (mfewR_any vdr vdc vda vdn vdz yy.N wc6 (HL.out wc6 DF).d).mono ?_
            rintro e wc7 ⟨ydg, ydn, ydz, rfl, hnd, FF, EM⟩
            rw [show matV vdr vdc (some ⟨ydg, 0, none⟩) ydn ydz = .agg #[.int .i64 vdr, .int .i64 vdc, .slice (some ⟨ydg, 0, none⟩) ydn ydz] from rfl]
            have Ed : FR wc7 w.heap.size ⟨some ⟨ydg, 0, none⟩, ydn, ydz⟩ ydn (yy.N.take 2000) := ⟨ydg, rfl, rfl, FF.mono DF.size⟩
            clear FF
            replace Ef := Ef.below EM
            replace Eq := Eq.below EM
            replace Ek := Ek.below EM
            replace Ev := Ev.below EM
            replace Eo := Eo.below EM
            replace Es := Es.below EM
            replace Eu := Eu.below EM
            replace XB := XB.below EM
            replace XG := XG.below EM
            replace DF := below_then DF EM
            replace DC := below_then DC EM
            clear EM
            go_wp2_with fail
            refine hKc.out _ _ (fun _ _ => ⟨XB, XG⟩) ?_
            clear hKc Kc
            refine wpLate_pure (i := 26) (v := (.agg #[.slice (some ⟨yfg, 0, none⟩) yfn yfz, .int .i64 vqr, .int .i64 vqc, .slice (some ⟨yqg, 0, none⟩) yqn yqz, .int .i64 vkr, .int .i64 vkc, .slice (some ⟨ykg, 0, none⟩) ykn ykz, .int .i64 vvr, .int .i64 vvc, .slice (some ⟨yvg, 0, none⟩) yvn yvz, .int .i64 vor, .int .i64 voc, .slice (some ⟨yog, 0, none⟩) yon yoz, .slice (some ⟨ysg, 0, none⟩) ysn ysz, .int .i64 vur, .int .i64 vuc, .slice (some ⟨yug, 0, none⟩) yun yuz, .int .i64 vdr, .int .i64 vdc, .slice (some ⟨ydg, 0, none⟩) ydn ydz])) rfl (by decide) (by kernel_rfl) (by kernel_rfl) (by kernel_rfl) (fun _ _ _ h => h) (Or.inl ⟨by rfl, ?_⟩) (fun _ => ⟨XB, XG⟩) ?_
            · intro w' _
              go_simp
            simp only [List.getElem_toArray, List.getElem_cons_succ, List.getElem_cons_zero, Act.put, List.setIfInBounds_toArray, List.set_cons_zero, List.set_cons_succ]
            refine wpLate_ready (rs := [27]) (by kernel_rfl) (by simp) ?_
            refine wpLate_cons rfl (fun Kc hKc => ?_) wpLate_nil
            simp only [List.getElem_toArray, List.getElem_cons_succ, List.getElem_cons_zero]
            rw [if_pos (by rfl)]
            have CN := blk_new wc7 61 #[.slice (some ⟨yfg, 0, none⟩) yfn yfz, .int .i64 vqr, .int .i64 vqc, .slice (some ⟨yqg, 0, none⟩) yqn yqz, .int .i64 vkr, .int .i64 vkc, .slice (some ⟨ykg, 0, none⟩) ykn ykz, .int .i64 vvr, .int .i64 vvc, .slice (some ⟨yvg, 0, none⟩) yvn yvz, .int .i64 vor, .int .i64 voc, .slice (some ⟨yog, 0, none⟩) yon yoz, .slice (some ⟨ysg, 0, none⟩) ysn ysz, .int .i64 vur, .int .i64 vuc, .slice (some ⟨yug, 0, none⟩) yun yuz, .int .i64 vdr, .int .i64 vdc, .slice (some ⟨ydg, 0, none⟩) ydn ydz]
            have EM : Below wc7.heap.size wc7 (wc7.alloc (.cells #[.slice (some ⟨yfg, 0, none⟩) yfn yfz, .int .i64 vqr, .int .i64 vqc, .slice (some ⟨yqg, 0, none⟩) yqn yqz, .int .i64 vkr, .int .i64 vkc, .slice (some ⟨ykg, 0, none⟩) ykn ykz, .int .i64 vvr, .int .i64 vvc, .slice (some ⟨yvg, 0, none⟩) yvn yvz, .int .i64 vor, .int .i64 voc, .slice (some ⟨yog, 0, none⟩) yon yoz, .slice (some ⟨ysg, 0, none⟩) ysn ysz, .int .i64 vur, .int .i64 vuc, .slice (some ⟨yug, 0, none⟩) yun yuz, .int .i64 vdr, .int .i64 vdc, .slice (some ⟨ydg, 0, none⟩) ydn ydz] 61)) := (Below.refl _ _).alloc (Nat.le_refl _) _
            generalize hwn : wc7.alloc (.cells #[.slice (some ⟨yfg, 0, none⟩) yfn yfz, .int .i64 vqr, .int .i64 vqc, .slice (some ⟨yqg, 0, none⟩) yqn yqz, .int .i64 vkr, .int .i64 vkc, .slice (some ⟨ykg, 0, none⟩) ykn ykz, .int .i64 vvr, .int .i64 vvc, .slice (some ⟨yvg, 0, none⟩) yvn yvz, .int .i64 vor, .int .i64 voc, .slice (some ⟨yog, 0, none⟩) yon yoz, .slice (some ⟨ysg, 0, none⟩) ysn ysz, .int .i64 vur, .int .i64 vuc, .slice (some ⟨yug, 0, none⟩) yun yuz, .int .i64 vdr, .int .i64 vdc, .slice (some ⟨ydg, 0, none⟩) ydn ydz] 61) = wg at *
            go_wp2_with fail
            replace Ef := Ef.below EM
            replace Eq := Eq.below EM
            replace Ek := Ek.below EM
            replace Ev := Ev.below EM
            replace Eo := Eo.below EM
            replace Es := Es.below EM
            replace Eu := Eu.below EM
            replace Ed := Ed.below EM
            replace XB := XB.below EM
            replace XG := XG.below EM
            replace DF := below_then DF EM
            replace DC := below_then DC EM
            clear EM hwn
            refine hKc.out _ _ (fun _ _ => ⟨XB, XG⟩) ?_
            clear hKc Kc
            have zS := DF.size
            have BTN : BT wg w.heap.size ⟨⟨vfa, vfn, vfz⟩, ⟨vqr, vqc, ⟨vqa, vqn, vqz⟩⟩, ⟨vkr, vkc, ⟨vka, vkn, vkz⟩⟩, ⟨vvr, vvc, ⟨vva, vvn, vvz⟩⟩, ⟨vor, voc, ⟨voa, von, voz⟩⟩, ⟨vsa, vsn, vsz⟩, ⟨vur, vuc, ⟨vua, vun, vuz⟩⟩, ⟨vdr, vdc, ⟨vda, vdn, vdz⟩⟩⟩ ⟨⟨some ⟨yfg, 0, none⟩, yfn, yfz⟩, ⟨vqr, vqc, ⟨some ⟨yqg, 0, none⟩, yqn, yqz⟩⟩, ⟨vkr, vkc, ⟨some ⟨ykg, 0, none⟩, ykn, ykz⟩⟩, ⟨vvr, vvc, ⟨some ⟨yvg, 0, none⟩, yvn, yvz⟩⟩, ⟨vor, voc, ⟨some ⟨yog, 0, none⟩, yon, yoz⟩⟩, ⟨some ⟨ysg, 0, none⟩, ysn, ysz⟩, ⟨vur, vuc, ⟨some ⟨yug, 0, none⟩, yun, yuz⟩⟩, ⟨vdr, vdc, ⟨some ⟨ydg, 0, none⟩, ydn, ydz⟩⟩⟩ (cutL 100 yy) := ⟨Ef, Eq, Ek, Ev, Eo, Es, Eu, Ed, ⟨rfl, rfl⟩, ⟨rfl, rfl⟩, ⟨rfl, rfl⟩, ⟨rfl, rfl⟩, ⟨rfl, rfl⟩, ⟨rfl, rfl⟩⟩
            have yok : Bk.Ok ⟨⟨some ⟨yfg, 0, none⟩, yfn, yfz⟩, ⟨vqr, vqc, ⟨some ⟨yqg, 0, none⟩, yqn, yqz⟩⟩, ⟨vkr, vkc, ⟨some ⟨ykg, 0, none⟩, ykn, ykz⟩⟩, ⟨vvr, vvc, ⟨some ⟨yvg, 0, none⟩, yvn, yvz⟩⟩, ⟨vor, voc, ⟨some ⟨yog, 0, none⟩, yon, yoz⟩⟩, ⟨some ⟨ysg, 0, none⟩, ysn, ysz⟩, ⟨vur, vuc, ⟨some ⟨yug, 0, none⟩, yun, yuz⟩⟩, ⟨vdr, vdc, ⟨some ⟨ydg, 0, none⟩, ydn, ydz⟩⟩⟩ := ⟨by show yfn ≤ _; omega, ⟨HOK.out.q.r, HOK.out.q.c⟩, ⟨HOK.out.k.r, HOK.out.k.c⟩, ⟨HOK.out.v.r, HOK.out.v.c⟩, ⟨HOK.out.o.r, HOK.out.o.c⟩, by show ysn ≤ _; omega, ⟨HOK.out.u.r, HOK.out.u.c⟩, ⟨HOK.out.d.r, HOK.out.d.c⟩⟩
            clear Ef Eq Ek Ev Eo Es Eu Ed
            have OB2 := OB.below DC
            have XT2 := XT.map (fun h => h.below DC)
            have G12 := G1.below DC
            have G22 := G2.below DC
            have G32 := G3.below DC
            have X02 := X0.below DC
            have X12 := X1.below DC
            refine wpLate_ready (rs := [28]) (by kernel_rfl) (by simp) ?_
            refine wpLate_cons rfl (fun Kc hKc => ?_) wpLate_nil
            simp only [List.getElem_toArray, List.getElem_cons_succ, List.getElem_cons_zero]
            rw [if_pos (by rfl)]
            refine wp_append_blockR _ _ rfl w.heap.size S xs rfl (by exact OB2) wc7.heap.size ⟨⟨some ⟨yfg, 0, none⟩, yfn, yfz⟩, ⟨vqr, vqc, ⟨some ⟨yqg, 0, none⟩, yqn, yqz⟩⟩, ⟨vkr, vkc, ⟨some ⟨ykg, 0, none⟩, ykn, ykz⟩⟩, ⟨vvr, vvc, ⟨some ⟨yvg, 0, none⟩, yvn, yvz⟩⟩, ⟨vor, voc, ⟨some ⟨yog, 0, none⟩, yon, yoz⟩⟩, ⟨some ⟨ysg, 0, none⟩, ysn, ysz⟩, ⟨vur, vuc, ⟨some ⟨yug, 0, none⟩, yun, yuz⟩⟩, ⟨vdr, vdc, ⟨some ⟨ydg, 0, none⟩, ydn, ydz⟩⟩⟩ rfl (by exact CN) yok (by omega) (by omega) ?_
            intro S2 wh hS2 OB3 BH hk
            obtain ⟨s2a, s2n, s2c⟩ := S2
            simp only at hS2
            obtain rfl : s2n = k + 1 := by omega
            clear hS2
            have XT3 := XT2.map (fun h => h.typeR hk)
            have BN3 := BTN.typeR hk
            have G13 := G12.type hk
            have G23 := G22.type hk
            have G33 := G32.type hk
            have X03 := X02.of_block (hk _ _ _ X02 (by decide))
            have X13 := X12.of_block (hk _ _ _ X12 (by decide))
            have XB3 := XB.of_block (hk _ _ _ XB (by decide))
            have XG3 := XG.of_block (hk _ _ _ XG (by decide))
            have DH := DF.trans BH
            clear hk OB2 XT2 BTN G12 G22 G32 X02 X12 XB XG CN BH
            refine hKc.out _ _ (fun _ _ => ⟨XB3, XG3⟩) ?_
            clear hKc Kc
            rw [show Sl.v ⟨s2a, k + 1, s2c⟩ = .slice s2a (k + 1) s2c from rfl]
            refine wpLate_pure (i := 29) (v := (.pointer (some ⟨gA, 3, none⟩))) rfl (by decide) (by kernel_rfl) (by kernel_rfl) (by kernel_rfl) (fun _ _ _ h => h) (Or.inl ⟨by rfl, ?_⟩) (fun _ => ⟨XB3, XG3⟩) ?_
            · intro w' _
              go_simp
            simp only [List.getElem_toArray, List.getElem_cons_succ, List.getElem_cons_zero, Act.put, List.setIfInBounds_toArray, List.set_cons_zero, List.set_cons_succ]
            refine wpLate_ready (rs := [30]) (by kernel_rfl) (by simp) ?_
            refine wpLate_cons rfl (fun Kc hKc => ?_) wpLate_nil
            simp only [List.getElem_toArray, List.getElem_cons_succ, List.getElem_cons_zero]
            rw [if_pos (by rfl)]
            have fz := XG3.frozen 3
            have c3 : wh.cell? ⟨gA, 3, none⟩ = some S.v := XG3.cell 3 rfl
            go_wp2_with fail
            refine hKc.out _ _ (fun hne _ => absurd rfl hne) ?_
            clear hKc Kc fz c3
            have so : ∀ b, b ≠ gA → (wh.setCell ⟨gA, 3, none⟩ (.slice s2a (k + 1) s2c)).heap[b]? = wh.heap[b]? := set1_other
            have XG4 : Blk (wh.setCell ⟨gA, 3, none⟩ (.slice s2a (k + 1) s2c)) gA 38 #[.int .i64 er, .int .i64 ec, .slice (some ⟨g1, 0, none⟩) n1 k1, .slice s2a (k + 1) s2c, .slice (some ⟨g2, 0, none⟩) n2 k2, .int .i64 gr, .int .i64 gc, .slice (some ⟨g3, 0, none⟩) n3 k3] := XG3.set 3 (.slice s2a (k + 1) s2c)
            have OB4 := OB3.keep XG3 (by decide) so
            have XT4 := XT3.map (fun h => h.keep XG3 (by decide) so)
            have BN4 := BN3.keep XG3 (by decide) so
            have G14 := G13.keep XG3 (by decide) so
            have G24 := G23.keep XG3 (by decide) so
            have G34 := G33.keep XG3 (by decide) so
            have X04 := X03.of_block (so _ (by omega))
            have X14 := X13.of_block (so _ (by omega))
            have D4 : Below w.heap.size w (wh.setCell ⟨gA, 3, none⟩ (.slice s2a (k + 1) s2c)) := DH.setCell (p := ⟨gA, 3, none⟩) (by show w.heap.size ≤ gA; omega) _
            generalize wh.setCell ⟨gA, 3, none⟩ (.slice s2a (k + 1) s2c) = w4 at *
            clear so XG3 OB3 XT3 BN3 G13 G23 G33 X03 X13 XB3 DH
            refine wpLate_done (by kernel_rfl) ?_ _
            have XT5 := XT4.snoc HBX.out HYY.out BN4
            go_wp2_with fail
            go_roundg (bn - (k + 1))
            case measure => omega
            case rel =>
              exact ⟨k + 1, ⟨s2a, k + 1, s2c⟩, _, by omega, by omega, rfl, by go_num, rfl, X04, X14, XG4, OB4, XT5, G14, G24, G34, D4⟩
          · have e5 : k = min 5 bn := by omega
            have a3 : wr.cell? ⟨w.heap.size, 3, none⟩ = some (.slice ba bn bz) := X0.cell 3 rfl
            by_cases hb : k < bn
            · have h5 : ¬ (k : Int) < 5 := by omega
              have oneS : Array.all (#[.int .i64 er, .int .i64 ec, .slice (some ⟨g1, 0, none⟩) n1 k1, S.v, .slice (some ⟨g2, 0, none⟩) n2 k2, .int .i64 gr, .int .i64 gc, .slice (some ⟨g3, 0, none⟩) n3 k3] : Array Value) (fun v => v.oneCell') = true := by simp [Value.oneCell', Sl.v]
              go_wp2_with (first | (refine wpList_load_row rfl 38 _ rfl gA rfl 38 _ (0, 0) _ XG Tryz.underlying38 rfl Tryz.infoRW ?_) | (refine wpList_store_row rfl 38 _ _ rfl (w.heap.size + 1) _ rfl rfl 38 _ X1 Tryz.infoRW rfl oneS ?_))
              refine bodyPost_ret (results_cell_row rfl _ _ (w.heap.size + 1) 38 _ _ _ rfl (X1.row _) Tryz.underlying38 rfl Tryz.infoRW) rfl ?_
              have sr : ∀ b, b ≠ w.heap.size + 1 → (wr.setRow (w.heap.size + 1) #[.int .i64 er, .int .i64 ec, .slice (some ⟨g1, 0, none⟩) n1 k1, S.v, .slice (some ⟨g2, 0, none⟩) n2 k2, .int .i64 gr, .int .i64 gc, .slice (some ⟨g3, 0, none⟩) n3 k3]).heap[b]? = wr.heap[b]? := fun b hb => setRow_other _ _ _ _ hb
              refine ⟨⟨⟨er, ec, ⟨some ⟨g1, 0, none⟩, n1, k1⟩⟩, S, ⟨some ⟨g2, 0, none⟩, n2, k2⟩, ⟨gr, gc, ⟨some ⟨g3, 0, none⟩, n3, k3⟩⟩⟩, rfl, ⟨xs, ⟨G1.keep X1 (by decide) sr, ⟨rfl, rfl⟩, G2.keep X1 (by decide) sr, G3.keep X1 (by decide) sr, ⟨rfl, rfl⟩, (OB.keep X1 (by decide) sr).blocks, ?_⟩, OB.keep X1 (by decide) sr⟩, below_setRow DR (by omega) _⟩
              rw [← e5]
              exact XT.map (fun h => h.keep X1 (by decide) sr)
            · have hb2 : ¬ (k : Int) < (bn : Int) := by omega
              have oneS : Array.all (#[.int .i64 er, .int .i64 ec, .slice (some ⟨g1, 0, none⟩) n1 k1, S.v, .slice (some ⟨g2, 0, none⟩) n2 k2, .int .i64 gr, .int .i64 gc, .slice (some ⟨g3, 0, none⟩) n3 k3] : Array Value) (fun v => v.oneCell') = true := by simp [Value.oneCell', Sl.v]
              go_wp2_with (first | (refine wpList_load_row rfl 38 _ rfl gA rfl 38 _ (0, 0) _ XG Tryz.underlying38 rfl Tryz.infoRW ?_) | (refine wpList_store_row rfl 38 _ _ rfl (w.heap.size + 1) _ rfl rfl 38 _ X1 Tryz.infoRW rfl oneS ?_))
              refine bodyPost_ret (results_cell_row rfl _ _ (w.heap.size + 1) 38 _ _ _ rfl (X1.row _) Tryz.underlying38 rfl Tryz.infoRW) rfl ?_
              have sr : ∀ b, b ≠ w.heap.size + 1 → (wr.setRow (w.heap.size + 1) #[.int .i64 er, .int .i64 ec, .slice (some ⟨g1, 0, none⟩) n1 k1, S.v, .slice (some ⟨g2, 0, none⟩) n2 k2, .int .i64 gr, .int .i64 gc, .slice (some ⟨g3, 0, none⟩) n3 k3]).heap[b]? = wr.heap[b]? := fun b hb => setRow_other _ _ _ _ hb
              refine ⟨⟨⟨er, ec, ⟨some ⟨g1, 0, none⟩, n1, k1⟩⟩, S, ⟨some ⟨g2, 0, none⟩, n2, k2⟩, ⟨gr, gc, ⟨some ⟨g3, 0, none⟩, n3, k3⟩⟩⟩, rfl, ⟨xs, ⟨G1.keep X1 (by decide) sr, ⟨rfl, rfl⟩, G2.keep X1 (by decide) sr, G3.keep X1 (by decide) sr, ⟨rfl, rfl⟩, (OB.keep X1 (by decide) sr).blocks, ?_⟩, OB.keep X1 (by decide) sr⟩, below_setRow DR (by omega) _⟩
              rw [← e5]
              exact XT.map (fun h => h.keep X1 (by decide) sr)
    · simp only [List.getElem_toArray, List.getElem_cons_succ, List.getElem_cons_zero]
      rw [if_pos (by rfl)]
      go_wp2_with fail
      have XA0 := blk_new wN1 38 #[.int .i64 0, .int .i64 0, .slice none 0 0, .slice none 0 0, .slice none 0 0, .int .i64 0, .int .i64 0, .slice none 0 0]
      have zA : w.heap.size + 1 < wN1.heap.size := zX
      have EM : Below wN1.heap.size wN1 (wN1.alloc (.cells #[.int .i64 0, .int .i64 0, .slice none 0 0, .slice none 0 0, .slice none 0 0, .int .i64 0, .int .i64 0, .slice none 0 0] 38)) := (Below.refl _ _).alloc (Nat.le_refl _) _
      generalize hn : wN1.alloc (.cells #[.int .i64 0, .int .i64 0, .slice none 0 0, .slice none 0 0, .slice none 0 0, .int .i64 0, .int .i64 0, .slice none 0 0] 38) = wN7 at *
      replace X0 := X0.below EM
      replace X1 := X1.below EM
      replace G1 := G1.below EM
      replace DB := below_then DB EM
      replace zX := Nat.lt_of_lt_of_le zX EM.size
      have XA := XA0
      clear XA0 hn
      refine hKc.out _ _ X0 (fun hHeld => ?_)
      clear hKc Kc EM
      refine wpAnyH_ready (rs := [5]) (by kernel_rfl) (by simp) ?_
      refine AllReadyH.cons rfl (fun Kc hKc => ?_) AllReadyH.nil
      simp only [List.getElem_toArray, List.getElem_cons_succ, List.getElem_cons_zero]
      rw [if_pos (by rfl)]
      go_wp2_with fail
      refine (fewR_any la ln lz M.G 100 100 wN7 rfl (HW.out wN7 DB).l (by omega)).mono ?_
      rintro e wN8 ⟨g2, n2, k2, rfl, hn2, FF, EM⟩
      have G2 : FR wN8 w.heap.size ⟨some ⟨g2, 0, none⟩, n2, k2⟩ n2 (M.G.take 100) := ⟨g2, rfl, rfl, FF.mono DB.size⟩
      clear FF
      replace X0 := X0.below EM
      replace X1 := X1.below EM
      replace XA := XA.below EM
      replace G1 := G1.below EM
      replace DB := below_then DB EM
      replace zX := Nat.lt_of_lt_of_le zX EM.size
      go_wp2_with fail
      refine hKc.out _ _ X0 (fun hHeld => ?_)
      clear hKc Kc EM
      refine wpAnyH_ready (rs := [8]) (by kernel_rfl) (by simp) ?_
      refine AllReadyH.cons rfl (fun Kc hKc => ?_) AllReadyH.nil
      simp only [List.getElem_toArray, List.getElem_cons_succ, List.getElem_cons_zero]
      rw [if_pos (by rfl)]
      go_wp2_with fail
      refine (mfewR_any gr gc ga gn gz M.O wN8 (HW.out wN8 DB).o).mono ?_
      rintro e wN9 ⟨g3, n3, k3, rfl, hn3, FF, EM⟩
      rw [show matV _ _ (some ⟨g3, 0, none⟩) n3 k3 = .agg #[.int .i64 gr, .int .i64 gc, .slice (some ⟨g3, 0, none⟩) n3 k3] from rfl]
      have G3 : FR wN9 w.heap.size ⟨some ⟨g3, 0, none⟩, n3, k3⟩ n3 (M.O.take 2000) := ⟨g3, rfl, rfl, FF.mono DB.size⟩
      clear FF
      replace X0 := X0.below EM
      replace X1 := X1.below EM
      replace XA := XA.below EM
      replace G1 := G1.below EM
      replace G2 := G2.below EM
      replace DB := below_then DB EM
      replace zX := Nat.lt_of_lt_of_le zX EM.size
      go_wp2_with fail
      refine hKc.out _ _ X0 (fun hHeld => ?_)
      clear hKc Kc EM
      refine wpAnyH_take (i := 9) (v := (.agg #[.int .i64 er, .int .i64 ec, .slice (some ⟨g1, 0, none⟩) n1 k1, .slice none 0 0, .slice (some ⟨g2, 0, none⟩) n2 k2, .int .i64 gr, .int .i64 gc, .slice (some ⟨g3, 0, none⟩) n3 k3])) rfl (by kernel_rfl) (by kernel_rfl) (by kernel_rfl) (fun _ _ _ h => h) (Or.inl ⟨by rfl, ?_⟩) (by assumption) ?_
      · intro w' hSw
        go_simp
      simp only [List.getElem_toArray, List.getElem_cons_succ, List.getElem_cons_zero, Act.put, List.setIfInBounds_toArray, List.set_cons_zero, List.set_cons_succ]
      refine wpAnyH_ready (rs := [11]) (by kernel_rfl) (by simp) ?_
      refine AllReadyH.cons rfl (fun Kc hKc => ?_) AllReadyH.nil
      simp only [List.getElem_toArray, List.getElem_cons_succ, List.getElem_cons_zero]
      rw [if_pos (by rfl)]
      have one : Array.all (#[.int .i64 er, .int .i64 ec, .slice (some ⟨g1, 0, none⟩) n1 k1, .slice none 0 0, .slice (some ⟨g2, 0, none⟩) n2 k2, .int .i64 gr, .int .i64 gc, .slice (some ⟨g3, 0, none⟩) n3 k3] : Array Value) (fun v => v.oneCell') = true := by simp [Value.oneCell']
      refine wp_store_row 38 _ _ rfl wN1.heap.size #[.int .i64 er, .int .i64 ec, .slice (some ⟨g1, 0, none⟩) n1 k1, .slice none 0 0, .slice (some ⟨g2, 0, none⟩) n2 k2, .int .i64 gr, .int .i64 gc, .slice (some ⟨g3, 0, none⟩) n3 k3] rfl rfl 38 _ XA Tryz.infoRW rfl one ?_
      have so : ∀ b, b ≠ wN1.heap.size → (wN9.setRow wN1.heap.size #[.int .i64 er, .int .i64 ec, .slice (some ⟨g1, 0, none⟩) n1 k1, .slice none 0 0, .slice (some ⟨g2, 0, none⟩) n2 k2, .int .i64 gr, .int .i64 gc, .slice (some ⟨g3, 0, none⟩) n3 k3]).heap[b]? = wN9.heap[b]? := fun b hb => setRow_other _ _ _ _ hb
      replace X0 := Blk.of_block X0 (so _ (by omega))
      replace X1 := Blk.of_block X1 (so _ (by omega))
      replace G1 := G1.keep XA (by decide) so
      replace G2 := G2.keep XA (by decide) so
      replace G3 := G3.keep XA (by decide) so
      have XR := XA.row #[.int .i64 er, .int .i64 ec, .slice (some ⟨g1, 0, none⟩) n1 k1, .slice none 0 0, .slice (some ⟨g2, 0, none⟩) n2 k2, .int .i64 gr, .int .i64 gc, .slice (some ⟨g3, 0, none⟩) n3 k3]
      replace DB := below_setRow DB (show w.heap.size ≤ wN1.heap.size by omega) #[.int .i64 er, .int .i64 ec, .slice (some ⟨g1, 0, none⟩) n1 k1, .slice none 0 0, .slice (some ⟨g2, 0, none⟩) n2 k2, .int .i64 gr, .int .i64 gc, .slice (some ⟨g3, 0, none⟩) n3 k3]
      have hgA : w.heap.size + 1 < wN1.heap.size := by omega
      generalize hn : wN9.setRow wN1.heap.size #[.int .i64 er, .int .i64 ec, .slice (some ⟨g1, 0, none⟩) n1 k1, .slice none 0 0, .slice (some ⟨g2, 0, none⟩) n2 k2, .int .i64 gr, .int .i64 gc, .slice (some ⟨g3, 0, none⟩) n3 k3] = wS at *
      generalize wN1.heap.size = gA at *
      refine hKc.out _ _ X0 (fun hHeld => ?_)
      clear hKc Kc hn so XA
      refine wpAnyH_done (by kernel_rfl) ?_ _
      clear hHeld zX zA
      have a3 : wS.cell? ⟨w.heap.size, 3, none⟩ = some (.slice ba bn bz) := X0.cell 3 rfl
      go_wp2_with fail
      clear a3
      go_loopg [4] bn (fun r i wr => ∃ (k : Nat) (S : Sl) (xs : List Bk), k ≤ bn ∧ k ≤ 5 ∧ r = bn - k ∧ i = .int .i64 (k : Int) ∧ S.n = k ∧ Blk wr w.heap.size 29 #[.int .i64 er, .int .i64 ec, .slice ea en ez, .slice ba bn bz, .slice la ln lz, .int .i64 gr, .int .i64 gc, .slice ga gn gz] ∧ Blk wr (w.heap.size + 1) 38 #[.int .i64 0, .int .i64 0, .slice none 0 0, .slice none 0 0, .slice none 0 0, .int .i64 0, .int .i64 0, .slice none 0 0] ∧ Blk wr gA 38 #[.int .i64 er, .int .i64 ec, .slice (some ⟨g1, 0, none⟩) n1 k1, S.v, .slice (some ⟨g2, 0, none⟩) n2 k2, .int .i64 gr, .int .i64 gc, .slice (some ⟨g3, 0, none⟩) n3 k3] ∧ OwnB wr w.heap.size S xs ∧ BTs wr w.heap.size 100 k bs xs M.Ls ∧ FR wr w.heap.size ⟨some ⟨g1, 0, none⟩, n1, k1⟩ n1 (M.E.take 2000) ∧ FR wr w.heap.size ⟨some ⟨g2, 0, none⟩, n2, k2⟩ n2 (M.G.take 100) ∧ FR wr w.heap.size ⟨some ⟨g3, 0, none⟩, n3, k3⟩ n3 (M.O.take 2000) ∧ Below w.heap.size w wr)
      case atStart => exact ⟨0, ⟨none, 0, 0⟩, [], by omega, by omega, by omega, rfl, rfl, X0, X1, XR, ownB_nil _ _, bts_nil _ _ _ _ _, G1, G2, G3, DB⟩
      case round =>
        clear X0 X1 XR G1 G2 G3 DB
        obtain ⟨k, S, xs, hk, hk5, rfl, rfl, hSn, X0, X1, XG, OB, XT, G1, G2, G3, DR⟩ := hrel
        by_cases hlt0 : k < bn ∧ k < 5
        · have hlt : k < bn := by omega
          have h5 : (k : Int) < 5 := by omega
          obtain ⟨xx, hxx⟩ : ∃ x, bs[k]? = some x := ⟨_, List.getElem?_eq_getElem (show k < bs.length by have := HBL.out; omega)⟩
          obtain ⟨yy, hyy, hL0⟩ := (HW.out w (Below.refl _ _)).ls k xx hxx
          obtain ⟨gb, ob, eba, hcb⟩ := (HW.out wr DR).b.cells (by show 0 < bn; omega)
          have eba' : ba = some ⟨gb, ob, none⟩ := eba
          subst eba'
          have r0 := hcb k xx hxx
          have hok := (HW.out w (Below.refl _ _)).b.ok xx (List.mem_of_getElem? hxx)
          have HYY : Hid (M.Ls[k]? = some yy) := hyy
          obtain ⟨⟨vfa, vfn, vfz⟩, ⟨vqr, vqc, ⟨vqa, vqn, vqz⟩⟩, ⟨vkr, vkc, ⟨vka, vkn, vkz⟩⟩, ⟨vvr, vvc, ⟨vva, vvn, vvz⟩⟩, ⟨vor, voc, ⟨voa, von, voz⟩⟩, ⟨vsa, vsn, vsz⟩, ⟨vur, vuc, ⟨vua, vun, vuz⟩⟩, ⟨vdr, vdc, ⟨vda, vdn, vdz⟩⟩⟩ := xx
          have HBX : Hid (bs[k]? = some ⟨⟨vfa, vfn, vfz⟩, ⟨vqr, vqc, ⟨vqa, vqn, vqz⟩⟩, ⟨vkr, vkc, ⟨vka, vkn, vkz⟩⟩, ⟨vvr, vvc, ⟨vva, vvn, vvz⟩⟩, ⟨vor, voc, ⟨voa, von, voz⟩⟩, ⟨vsa, vsn, vsz⟩, ⟨vur, vuc, ⟨vua, vun, vuz⟩⟩, ⟨vdr, vdc, ⟨vda, vdn, vdz⟩⟩⟩) := hxx
          have HL : Hid (∀ wv, Below w.heap.size w wv → LyR wv ⟨⟨vfa, vfn, vfz⟩, ⟨vqr, vqc, ⟨vqa, vqn, vqz⟩⟩, ⟨vkr, vkc, ⟨vka, vkn, vkz⟩⟩, ⟨vvr, vvc, ⟨vva, vvn, vvz⟩⟩, ⟨vor, voc, ⟨voa, von, voz⟩⟩, ⟨vsa, vsn, vsz⟩, ⟨vur, vuc, ⟨vua, vun, vuz⟩⟩, ⟨vdr, vdc, ⟨vda, vdn, vdz⟩⟩⟩ yy) := fun wv hb => hL0.below hb
          have HOK : Hid (Bk.Ok ⟨⟨vfa, vfn, vfz⟩, ⟨vqr, vqc, ⟨vqa, vqn, vqz⟩⟩, ⟨vkr, vkc, ⟨vka, vkn, vkz⟩⟩, ⟨vvr, vvc, ⟨vva, vvn, vvz⟩⟩, ⟨vor, voc, ⟨voa, von, voz⟩⟩, ⟨vsa, vsn, vsz⟩, ⟨vur, vuc, ⟨vua, vun, vuz⟩⟩, ⟨vdr, vdc, ⟨vda, vdn, vdz⟩⟩⟩) := hok
          rw [show Bk.cells ⟨⟨vfa, vfn, vfz⟩, ⟨vqr, vqc, ⟨vqa, vqn, vqz⟩⟩, ⟨vkr, vkc, ⟨vka, vkn, vkz⟩⟩, ⟨vvr, vvc, ⟨vva, vvn, vvz⟩⟩, ⟨vor, voc, ⟨voa, von, voz⟩⟩, ⟨vsa, vsn, vsz⟩, ⟨vur, vuc, ⟨vua, vun, vuz⟩⟩, ⟨vdr, vdc, ⟨vda, vdn, vdz⟩⟩⟩ = #[.slice vfa vfn vfz, .int .i64 vqr, .int .i64 vqc, .slice vqa vqn vqz, .int .i64 vkr, .int .i64 vkc, .slice vka vkn vkz, .int .i64 vvr, .int .i64 vvc, .slice vva vvn vvz, .int .i64 vor, .int .i64 voc, .slice voa von voz, .slice vsa vsn vsz, .int .i64 vur, .int .i64 vuc, .slice vua vun vuz, .int .i64 vdr, .int .i64 vdc, .slice vda vdn vdz] from rfl] at r0
          clear hL0 hxx hyy hcb hok eba
          have szr := DR.size
          obtain ⟨XE, XB, BF⟩ := var3e wr 60 #[.slice none 0 0, .int .i64 0, .int .i64 0, .slice none 0 0, .int .i64 0, .int .i64 0, .slice none 0 0, .int .i64 0, .int .i64 0, .slice none 0 0, .int .i64 0, .int .i64 0, .slice none 0 0, .slice none 0 0, .int .i64 0, .int .i64 0, .slice none 0 0, .int .i64 0, .int .i64 0, .slice none 0 0] #[.slice vfa vfn vfz, .int .i64 vqr, .int .i64 vqc, .slice vqa vqn vqz, .int .i64 vkr, .int .i64 vkc, .slice vka vkn vkz, .int .i64 vvr, .int .i64 vvc, .slice vva vvn vvz, .int .i64 vor, .int .i64 voc, .slice voa von voz, .slice vsa vsn vsz, .int .i64 vur, .int .i64 vuc, .slice vua vun vuz, .int .i64 vdr, .int .i64 vdc, .slice vda vdn vdz]
          have hone : Array.all (#[.slice vfa vfn vfz, .int .i64 vqr, .int .i64 vqc, .slice vqa vqn vqz, .int .i64 vkr, .int .i64 vkc, .slice vka vkn vkz, .int .i64 vvr, .int .i64 vvc, .slice vva vvn vvz, .int .i64 vor, .int .i64 voc, .slice voa von voz, .slice vsa vsn vsz, .int .i64 vur, .int .i64 vuc, .slice vua vun vuz, .int .i64 vdr, .int .i64 vdc, .slice vda vdn vdz] : Array Value) (fun v => v.oneCell') = true := by simp [Value.oneCell']
          have a3 : wr.cell? ⟨w.heap.size, 3, none⟩ = some (.slice (some ⟨gb, ob, none⟩) bn bz) := X0.cell 3 rfl
          generalize hwe : wr.alloc (.cells #[.slice none 0 0, .int .i64 0, .int .i64 0, .slice none 0 0, .int .i64 0, .int .i64 0, .slice none 0 0, .int .i64 0, .int .i64 0, .slice none 0 0, .int .i64 0, .int .i64 0, .slice none 0 0, .slice none 0 0, .int .i64 0, .int .i64 0, .slice none 0 0, .int .i64 0, .int .i64 0, .slice none 0 0] 60) = we at *
          generalize hwf : we.setRow wr.heap.size #[.slice vfa vfn vfz, .int .i64 vqr, .int .i64 vqc, .slice vqa vqn vqz, .int .i64 vkr, .int .i64 vkc, .slice vka vkn vkz, .int .i64 vvr, .int .i64 vvc, .slice vva vvn vvz, .int .i64 vor, .int .i64 voc, .slice voa von voz, .slice vsa vsn vsz, .int .i64 vur, .int .i64 vuc, .slice vua vun vuz, .int .i64 vdr, .int .i64 vdc, .slice vda vdn vdz] = wf at *
          have DF := below_then DR BF
          replace X0 := X0.below BF
          replace X1 := X1.below BF
          replace XG := XG.below BF
          replace OB := OB.below BF
          replace XT := XT.map (fun h => h.below BF)
          replace G1 := G1.below BF
          replace G2 := G2.below BF
          replace G3 := G3.below BF
          clear BF
          go_upto_region 6 with (first | (refine wpList_load_mid rfl 60 _ rfl gb (ob + k * 20) rfl (#[.slice vfa vfn vfz, .int .i64 vqr, .int .i64 vqc, .slice vqa vqn vqz, .int .i64 vkr, .int .i64 vkc, .slice vka vkn vkz, .int .i64 vvr, .int .i64 vvc, .slice vva vvn vvz, .int .i64 vor, .int .i64 voc, .slice voa von voz, .slice vsa vsn vsz, .int .i64 vur, .int .i64 vuc, .slice vua vun vuz, .int .i64 vdr, .int .i64 vdc, .slice vda vdn vdz] : Array Value).toList _ r0 Tryz.underlying60 rfl (by exact Tryz.infoB) ?_) | (refine wpList_store_row rfl 60 _ _ rfl wr.heap.size #[.slice vfa vfn vfz, .int .i64 vqr, .int .i64 vqc, .slice vqa vqn vqz, .int .i64 vkr, .int .i64 vkc, .slice vka vkn vkz, .int .i64 vvr, .int .i64 vvc, .slice vva vvn vvz, .int .i64 vor, .int .i64 voc, .slice voa von voz, .slice vsa vsn vsz, .int .i64 vur, .int .i64 vuc, .slice vua vun vuz, .int .i64 vdr, .int .i64 vdc, .slice vda vdn vdz] rfl rfl 60 _ XE (by exact Tryz.infoB) rfl hone ?_; rw [hwf]))
          clear hwe hwf XE r0 a3 hone
          have BD : Below wf.heap.size wf wf.drew := (Below.refl _ wf).drew
          replace XB := XB.below BD
          replace XG := XG.below BD
          replace DF := below_then DF BD
          have DC : Below wf.heap.size wf wf.drew := BD
          have zF := DF.size
          have zB := XB.lt
          refine wp_region_late (S := fun w' => Blk w' wr.heap.size 60 #[.slice vfa vfn vfz, .int .i64 vqr, .int .i64 vqc, .slice vqa vqn vqz, .int .i64 vkr, .int .i64 vkc, .slice vka vkn vkz, .int .i64 vvr, .int .i64 vvc, .slice vva vvn vvz, .int .i64 vor, .int .i64 voc, .slice voa von voz, .slice vsa vsn vsz, .int .i64 vur, .int .i64 vuc, .slice vua vun vuz, .int .i64 vdr, .int .i64 vdc, .slice vda vdn vdz] ∧ Blk w' gA 38 #[.int .i64 er, .int .i64 ec, .slice (some ⟨g1, 0, none⟩) n1 k1, S.v, .slice (some ⟨g2, 0, none⟩) n2 k2, .int .i64 gr, .int .i64 gc, .slice (some ⟨g3, 0, none⟩) n3 k3]) 30 (by kernel_rfl) (⟨XB, XG⟩) (fun hHeld => ?_)
          generalize hA : wf.drew = wd at *
          clear hA BD
          refine wpLate_pure (i := 0) (v := (.pointer (some ⟨gA, 3, none⟩))) rfl (by decide) (by kernel_rfl) (by kernel_rfl) (by kernel_rfl) (fun _ _ _ h => h) (Or.inl ⟨by rfl, ?_⟩) (fun _ => by assumption) ?_
          · intro w' _
            go_simp
          simp only [List.getElem_toArray, List.getElem_cons_zero, Act.put, List.setIfInBounds_toArray, List.set_cons_zero, List.set_cons_succ]
          refine wpLate_take (i := 1) (v := S.v) rfl (by kernel_rfl) (by kernel_rfl) (by kernel_rfl) (by kernel_rfl) (by kernel_rfl) (fun _ _ _ h => h) (Or.inl ⟨by rfl, ?_⟩) (by assumption) ?_
          · intro w' hSw
            have c0 : w'.cell? ⟨gA, 3, none⟩ = some S.v := hSw.2.cell 3 rfl
            go_simp
          simp only [List.getElem_toArray, List.getElem_cons_succ, List.getElem_cons_zero, Act.put, List.setIfInBounds_toArray, List.set_cons_zero, List.set_cons_succ]
          refine wpLate_pure (i := 2) (v := (.pointer (some ⟨wr.heap.size, 0, none⟩))) rfl (by decide) (by kernel_rfl) (by kernel_rfl) (by kernel_rfl) (fun _ _ _ h => h) (Or.inl ⟨by rfl, ?_⟩) (fun _ => by assumption) ?_
          · intro w' _
            go_simp
          simp only [List.getElem_toArray, List.getElem_cons_succ, List.getElem_cons_zero, Act.put, List.setIfInBounds_toArray, List.set_cons_zero, List.set_cons_succ]
          refine wpLate_take (i := 3) (v := (.slice vfa vfn vfz)) rfl (by kernel_rfl) (by kernel_rfl) (by kernel_rfl) (by kernel_rfl) (by kernel_rfl) (fun _ _ _ h => h) (Or.inl ⟨by rfl, ?_⟩) (by assumption) ?_
          · intro w' hSw
            have c0 : w'.cell? ⟨wr.heap.size, 0, none⟩ = some (.slice vfa vfn vfz) := hSw.1.cell 0 rfl
            go_simp
          simp only [List.getElem_toArray, List.getElem_cons_succ, List.getElem_cons_zero, Act.put, List.setIfInBounds_toArray, List.set_cons_zero, List.set_cons_succ]
          refine wpLate_pure (i := 5) (v := (.pointer (some ⟨wr.heap.size, 1, none⟩))) rfl (by decide) (by kernel_rfl) (by kernel_rfl) (by kernel_rfl) (fun _ _ _ h => h) (Or.inl ⟨by rfl, ?_⟩) (fun _ => by assumption) ?_
          · intro w' _
            go_simp
          simp only [List.getElem_toArray, List.getElem_cons_succ, List.getElem_cons_zero, Act.put, List.setIfInBounds_toArray, List.set_cons_zero, List.set_cons_succ]
          refine wpLate_take (i := 6) (v := (.agg #[.int .i64 vqr, .int .i64 vqc, .slice vqa vqn vqz])) rfl (by kernel_rfl) (by kernel_rfl) (by kernel_rfl) (by kernel_rfl) (by kernel_rfl) (fun _ _ _ h => h) (Or.inl ⟨by rfl, ?_⟩) (by assumption) ?_
          · intro w' hSw
            have c0 : w'.cell? ⟨wr.heap.size, 1, none⟩ = some (.int .i64 vqr) := hSw.1.cell 1 rfl
            have c1 : w'.cell? ⟨wr.heap.size, 2, none⟩ = some (.int .i64 vqc) := hSw.1.cell 2 rfl
            have c2 : w'.cell? ⟨wr.heap.size, 3, none⟩ = some (.slice vqa vqn vqz) := hSw.1.cell 3 rfl
            go_simp
          simp only [List.getElem_toArray, List.getElem_cons_succ, List.getElem_cons_zero, Act.put, List.setIfInBounds_toArray, List.set_cons_zero, List.set_cons_succ]
          refine wpLate_pure (i := 8) (v := (.pointer (some ⟨wr.heap.size, 4, none⟩))) rfl (by decide) (by kernel_rfl) (by kernel_rfl) (by kernel_rfl) (fun _ _ _ h => h) (Or.inl ⟨by rfl, ?_⟩) (fun _ => by assumption) ?_
          · intro w' _
            go_simp
          simp only [List.getElem_toArray, List.getElem_cons_succ, List.getElem_cons_zero, Act.put, List.setIfInBounds_toArray, List.set_cons_zero, List.set_cons_succ]
          refine wpLate_take (i := 9) (v := (.agg #[.int .i64 vkr, .int .i64 vkc, .slice vka vkn vkz])) rfl (by kernel_rfl) (by kernel_rfl) (by kernel_rfl) (by kernel_rfl) (by kernel_rfl) (fun _ _ _ h => h) (Or.inl ⟨by rfl, ?_⟩) (by assumption) ?_
          · intro w' hSw
            have c0 : w'.cell? ⟨wr.heap.size, 4, none⟩ = some (.int .i64 vkr) := hSw.1.cell 4 rfl
            have c1 : w'.cell? ⟨wr.heap.size, 5, none⟩ = some (.int .i64 vkc) := hSw.1.cell 5 rfl
            have c2 : w'.cell? ⟨wr.heap.size, 6, none⟩ = some (.slice vka vkn vkz) := hSw.1.cell 6 rfl
            go_simp
          simp only [List.getElem_toArray, List.getElem_cons_succ, List.getElem_cons_zero, Act.put, List.setIfInBounds_toArray, List.set_cons_zero, List.set_cons_succ]
          refine wpLate_pure (i := 11) (v := (.pointer (some ⟨wr.heap.size, 7, none⟩))) rfl (by decide) (by kernel_rfl) (by kernel_rfl) (by kernel_rfl) (fun _ _ _ h => h) (Or.inl ⟨by rfl, ?_⟩) (fun _ => by assumption) ?_
          · intro w' _
            go_simp
          simp only [List.getElem_toArray, List.getElem_cons_succ, List.getElem_cons_zero, Act.put, List.setIfInBounds_toArray, List.set_cons_zero, List.set_cons_succ]
          refine wpLate_take (i := 12) (v := (.agg #[.int .i64 vvr, .int .i64 vvc, .slice vva vvn vvz])) rfl (by kernel_rfl) (by kernel_rfl) (by kernel_rfl) (by kernel_rfl) (by kernel_rfl) (fun _ _ _ h => h) (Or.inl ⟨by rfl, ?_⟩) (by assumption) ?_
          · intro w' hSw
            have c0 : w'.cell? ⟨wr.heap.size, 7, none⟩ = some (.int .i64 vvr) := hSw.1.cell 7 rfl
            have c1 : w'.cell? ⟨wr.heap.size, 8, none⟩ = some (.int .i64 vvc) := hSw.1.cell 8 rfl
            have c2 : w'.cell? ⟨wr.heap.size, 9, none⟩ = some (.slice vva vvn vvz) := hSw.1.cell 9 rfl
            go_simp
          simp only [List.getElem_toArray, List.getElem_cons_succ, List.getElem_cons_zero, Act.put, List.setIfInBounds_toArray, List.set_cons_zero, List.set_cons_succ]
          refine wpLate_pure (i := 14) (v := (.pointer (some ⟨wr.heap.size, 10, none⟩))) rfl (by decide) (by kernel_rfl) (by kernel_rfl) (by kernel_rfl) (fun _ _ _ h => h) (Or.inl ⟨by rfl, ?_⟩) (fun _ => by assumption) ?_
          · intro w' _
            go_simp
          simp only [List.getElem_toArray, List.getElem_cons_succ, List.getElem_cons_zero, Act.put, List.setIfInBounds_toArray, List.set_cons_zero, List.set_cons_succ]
          refine wpLate_take (i := 15) (v := (.agg #[.int .i64 vor, .int .i64 voc, .slice voa von voz])) rfl (by kernel_rfl) (by kernel_rfl) (by kernel_rfl) (by kernel_rfl) (by kernel_rfl) (fun _ _ _ h => h) (Or.inl ⟨by rfl, ?_⟩) (by assumption) ?_
          · intro w' hSw
            have c0 : w'.cell? ⟨wr.heap.size, 10, none⟩ = some (.int .i64 vor) := hSw.1.cell 10 rfl
            have c1 : w'.cell? ⟨wr.heap.size, 11, none⟩ = some (.int .i64 voc) := hSw.1.cell 11 rfl
            have c2 : w'.cell? ⟨wr.heap.size, 12, none⟩ = some (.slice voa von voz) := hSw.1.cell 12 rfl
            go_simp
          simp only [List.getElem_toArray, List.getElem_cons_succ, List.getElem_cons_zero, Act.put, List.setIfInBounds_toArray, List.set_cons_zero, List.set_cons_succ]
          refine wpLate_pure (i := 17) (v := (.pointer (some ⟨wr.heap.size, 13, none⟩))) rfl (by decide) (by kernel_rfl) (by kernel_rfl) (by kernel_rfl) (fun _ _ _ h => h) (Or.inl ⟨by rfl, ?_⟩) (fun _ => by assumption) ?_
          · intro w' _
            go_simp
          simp only [List.getElem_toArray, List.getElem_cons_succ, List.getElem_cons_zero, Act.put, List.setIfInBounds_toArray, List.set_cons_zero, List.set_cons_succ]
          refine wpLate_take (i := 18) (v := (.slice vsa vsn vsz)) rfl (by kernel_rfl) (by kernel_rfl) (by kernel_rfl) (by kernel_rfl) (by kernel_rfl) (fun _ _ _ h => h) (Or.inl ⟨by rfl, ?_⟩) (by assumption) ?_
          · intro w' hSw
            have c0 : w'.cell? ⟨wr.heap.size, 13, none⟩ = some (.slice vsa vsn vsz) := hSw.1.cell 13 rfl
            go_simp
          simp only [List.getElem_toArray, List.getElem_cons_succ, List.getElem_cons_zero, Act.put, List.setIfInBounds_toArray, List.set_cons_zero, List.set_cons_succ]
          refine wpLate_pure (i := 20) (v := (.pointer (some ⟨wr.heap.size, 14, none⟩))) rfl (by decide) (by kernel_rfl) (by kernel_rfl) (by kernel_rfl) (fun _ _ _ h => h) (Or.inl ⟨by rfl, ?_⟩) (fun _ => by assumption) ?_
          · intro w' _
            go_simp
          simp only [List.getElem_toArray, List.getElem_cons_succ, List.getElem_cons_zero, Act.put, List.setIfInBounds_toArray, List.set_cons_zero, List.set_cons_succ]
          refine wpLate_take (i := 21) (v := (.agg #[.int .i64 vur, .int .i64 vuc, .slice vua vun vuz])) rfl (by kernel_rfl) (by kernel_rfl) (by kernel_rfl) (by kernel_rfl) (by kernel_rfl) (fun _ _ _ h => h) (Or.inl ⟨by rfl, ?_⟩) (by assumption) ?_
          · intro w' hSw
            have c0 : w'.cell? ⟨wr.heap.size, 14, none⟩ = some (.int .i64 vur) := hSw.1.cell 14 rfl
            have c1 : w'.cell? ⟨wr.heap.size, 15, none⟩ = some (.int .i64 vuc) := hSw.1.cell 15 rfl
            have c2 : w'.cell? ⟨wr.heap.size, 16, none⟩ = some (.slice vua vun vuz) := hSw.1.cell 16 rfl
            go_simp
          simp only [List.getElem_toArray, List.getElem_cons_succ, List.getElem_cons_zero, Act.put, List.setIfInBounds_toArray, List.set_cons_zero, List.set_cons_succ]
          refine wpLate_pure (i := 23) (v := (.pointer (some ⟨wr.heap.size, 17, none⟩))) rfl (by decide) (by kernel_rfl) (by kernel_rfl) (by kernel_rfl) (fun _ _ _ h => h) (Or.inl ⟨by rfl, ?_⟩) (fun _ => by assumption) ?_
          · intro w' _
            go_simp
          simp only [List.getElem_toArray, List.getElem_cons_succ, List.getElem_cons_zero, Act.put, List.setIfInBounds_toArray, List.set_cons_zero, List.set_cons_succ]
          refine wpLate_take (i := 24) (v := (.agg #[.int .i64 vdr, .int .i64 vdc, .slice vda vdn vdz])) rfl (by kernel_rfl) (by kernel_rfl) (by kernel_rfl) (by kernel_rfl) (by kernel_rfl) (fun _ _ _ h => h) (Or.inl ⟨by rfl, ?_⟩) (by assumption) ?_
          · intro w' hSw
            have c0 : w'.cell? ⟨wr.heap.size, 17, none⟩ = some (.int .i64 vdr) := hSw.1.cell 17 rfl
            have c1 : w'.cell? ⟨wr.heap.size, 18, none⟩ = some (.int .i64 vdc) := hSw.1.cell 18 rfl
            have c2 : w'.cell? ⟨wr.heap.size, 19, none⟩ = some (.slice vda vdn vdz) := hSw.1.cell 19 rfl
            go_simp
          simp only [List.getElem_toArray, List.getElem_cons_succ, List.getElem_cons_zero, Act.put, List.setIfInBounds_toArray, List.set_cons_zero, List.set_cons_succ]
          refine wpLate_ready (rs := [4]) (by kernel_rfl) (by simp) ?_
          refine wpLate_cons rfl (fun Kc hKc => ?_) wpLate_nil
          simp only [List.getElem_toArray, List.getElem_cons_succ, List.getElem_cons_zero]
          rw [if_pos (by rfl)]
          go_wp2_with fail
          refine (fewR_any vfa vfn vfz yy.F 100 100 wd rfl (HL.out wd DF).f (by omega)).mono ?_
          rintro e wc0 ⟨yfg, yfn, yfz, rfl, hnf, FF, EM⟩
          have Ef : FR wc0 w.heap.size ⟨some ⟨yfg, 0, none⟩, yfn, yfz⟩ yfn (yy.F.take 100) := ⟨yfg, rfl, rfl, FF.mono DF.size⟩
          clear FF
          replace XB := XB.below EM
          replace XG := XG.below EM
          replace DF := below_then DF EM
          replace DC := below_then DC EM
          clear EM
          go_wp2_with fail
          refine hKc.out _ _ (fun _ _ => ⟨XB, XG⟩) ?_
          clear hKc Kc
          refine wpLate_ready (rs := [7]) (by kernel_rfl) (by simp) ?_
          refine wpLate_cons rfl (fun Kc hKc => ?_) wpLate_nil
          simp only [List.getElem_toArray, List.getElem_cons_succ, List.getElem_cons_zero]
          rw [if_pos (by rfl)]
          go_wp2_with fail
          refine (mfewR_any vqr vqc vqa vqn vqz yy.Q wc0 (HL.out wc0 DF).q).mono ?_
          rintro e wc1 ⟨yqg, yqn, yqz, rfl, hnq, FF, EM⟩
          rw [show matV vqr vqc (some ⟨yqg, 0, none⟩) yqn yqz = .agg #[.int .i64 vqr, .int .i64 vqc, .slice (some ⟨yqg, 0, none⟩) yqn yqz] from rfl]
          have Eq : FR wc1 w.heap.size ⟨some ⟨yqg, 0, none⟩, yqn, yqz⟩ yqn (yy.Q.take 2000) := ⟨yqg, rfl, rfl, FF.mono DF.size⟩
          clear FF
          replace Ef := Ef.below EM
          replace XB := XB.below EM
          replace XG := XG.below EM
          replace DF := below_then DF EM
          replace DC := below_then DC EM
          clear EM
          go_wp2_with fail
          refine hKc.out _ _ (fun _ _ => ⟨XB, XG⟩) ?_
          clear hKc Kc
          refine wpLate_ready (rs := [10]) (by kernel_rfl) (by simp) ?_
          refine wpLate_cons rfl (fun Kc hKc => ?_) wpLate_nil
          simp only [List.getElem_toArray, List.getElem_cons_succ, List.getElem_cons_zero]
          rw [if_pos (by rfl)]
          go_wp2_with fail
          refine (mfewR_any vkr vkc vka vkn vkz yy.K wc1 (HL.out wc1 DF).k).mono ?_
          rintro e wc2 ⟨ykg, ykn, ykz, rfl, hnk, FF, EM⟩
          rw [show matV vkr vkc (some ⟨ykg, 0, none⟩) ykn ykz = .agg #[.int .i64 vkr, .int .i64 vkc, .slice (some ⟨ykg, 0, none⟩) ykn ykz] from rfl]
          have Ek : FR wc2 w.heap.size ⟨some ⟨ykg, 0, none⟩, ykn, ykz⟩ ykn (yy.K.take 2000) := ⟨ykg, rfl, rfl, FF.mono DF.size⟩
          clear FF
          replace Ef := Ef.below EM
          replace Eq := Eq.below EM
          replace XB := XB.below EM
          replace XG := XG.below EM
          replace DF := below_then DF EM
          replace DC := below_then DC EM
          clear EM
          go_wp2_with fail
          refine hKc.out _ _ (fun _ _ => ⟨XB, XG⟩) ?_
          clear hKc Kc
          refine wpLate_ready (rs := [13]) (by kernel_rfl) (by simp) ?_
          refine wpLate_cons rfl (fun Kc hKc => ?_) wpLate_nil
          simp only [List.getElem_toArray, List.getElem_cons_succ, List.getElem_cons_zero]
          rw [if_pos (by rfl)]
          go_wp2_with fail
          refine (mfewR_any vvr vvc vva vvn vvz yy.V wc2 (HL.out wc2 DF).v).mono ?_
          rintro e wc3 ⟨yvg, yvn, yvz, rfl, hnv, FF, EM⟩
          rw [show matV vvr vvc (some ⟨yvg, 0, none⟩) yvn yvz = .agg #[.int .i64 vvr, .int .i64 vvc, .slice (some ⟨yvg, 0, none⟩) yvn yvz] from rfl]
          have Ev : FR wc3 w.heap.size ⟨some ⟨yvg, 0, none⟩, yvn, yvz⟩ yvn (yy.V.take 2000) := ⟨yvg, rfl, rfl, FF.mono DF.size⟩
          clear FF
          replace Ef := Ef.below EM
          replace Eq := Eq.below EM
          replace Ek := Ek.below EM
          replace XB := XB.below EM
          replace XG := XG.below EM
          replace DF := below_then DF EM
          replace DC := below_then DC EM
          clear EM
          go_wp2_with fail
          refine hKc.out _ _ (fun _ _ => ⟨XB, XG⟩) ?_
          clear hKc Kc
          refine wpLate_ready (rs := [16]) (by kernel_rfl) (by simp) ?_
          refine wpLate_cons rfl (fun Kc hKc => ?_) wpLate_nil
          simp only [List.getElem_toArray, List.getElem_cons_succ, List.getElem_cons_zero]
          rw [if_pos (by rfl)]
          go_wp2_with fail
          refine (mfewR_any vor voc voa von voz yy.O wc3 (HL.out wc3 DF).o).mono ?_
          rintro e wc4 ⟨yog, yon, yoz, rfl, hno, FF, EM⟩
          rw [show matV vor voc (some ⟨yog, 0, none⟩) yon yoz = .agg #[.int .i64 vor, .int .i64 voc, .slice (some ⟨yog, 0, none⟩) yon yoz] from rfl]
          have Eo : FR wc4 w.heap.size ⟨some ⟨yog, 0, none⟩, yon, yoz⟩ yon (yy.O.take 2000) := ⟨yog, rfl, rfl, FF.mono DF.size⟩
          clear FF
          replace Ef := Ef.below EM
          replace Eq := Eq.below EM
          replace Ek := Ek.below EM
          replace Ev := Ev.below EM
          replace XB := XB.below EM
          replace XG := XG.below EM
          replace DF := below_then DF EM
          replace DC := below_then DC EM
          clear EM
          go_wp2_with fail
          refine hKc.out _ _ (fun _ _ => ⟨XB, XG⟩) ?_
          clear hKc Kc
          refine wpLate_ready (rs := [19]) (by kernel_rfl) (by simp) ?_
          refine wpLate_cons rfl (fun Kc hKc => ?_) wpLate_nil
          simp only [List.getElem_toArray, List.getElem_cons_succ, List.getElem_cons_zero]
          rw [if_pos (by rfl)]
          go_wp2_with fail
          refine (fewR_any vsa vsn vsz yy.S 100 100 wc4 rfl (HL.out wc4 DF).s (by omega)).mono ?_
          rintro e wc5 ⟨ysg, ysn, ysz, rfl, hns, FF, EM⟩
          have Es : FR wc5 w.heap.size ⟨some ⟨ysg, 0, none⟩, ysn, ysz⟩ ysn (yy.S.take 100) := ⟨ysg, rfl, rfl, FF.mono DF.size⟩
          clear FF
          replace Ef := Ef.below EM
          replace Eq := Eq.below EM
          replace Ek := Ek.below EM
          replace Ev := Ev.below EM
          replace Eo := Eo.below EM
          replace XB := XB.below EM
          replace XG := XG.below EM
          replace DF := below_then DF EM
          replace DC := below_then DC EM
          clear EM
          go_wp2_with fail
          refine hKc.out _ _ (fun _ _ => ⟨XB, XG⟩) ?_
          clear hKc Kc
          refine wpLate_ready (rs := [22]) (by kernel_rfl) (by simp) ?_
          refine wpLate_cons rfl (fun Kc hKc => ?_) wpLate_nil
          simp only [List.getElem_toArray, List.getElem_cons_succ, List.getElem_cons_zero]
          rw [if_pos (by rfl)]
          go_wp2_with fail
          refine (mfewR_any vur vuc vua vun vuz yy.U wc5 (HL.out wc5 DF).u).mono ?_
          rintro e wc6 ⟨yug, yun, yuz, rfl, hnu, FF, EM⟩
          rw [show matV vur vuc (some ⟨yug, 0, none⟩) yun yuz = .agg #[.int .i64 vur, .int .i64 vuc, .slice (some ⟨yug, 0, none⟩) yun yuz] from rfl]
          have Eu : FR wc6 w.heap.size ⟨some ⟨yug, 0, none⟩, yun, yuz⟩ yun (yy.U.take 2000) := ⟨yug, rfl, rfl, FF.mono DF.size⟩
          clear FF
          replace Ef := Ef.below EM
          replace Eq := Eq.below EM
          replace Ek := Ek.below EM
          replace Ev := Ev.below EM
          replace Eo := Eo.below EM
          replace Es := Es.below EM
          replace XB := XB.below EM
          replace XG := XG.below EM
          replace DF := below_then DF EM
          replace DC := below_then DC EM
          clear EM
          go_wp2_with fail
          refine hKc.out _ _ (fun _ _ => ⟨XB, XG⟩) ?_
          clear hKc Kc
          refine wpLate_ready (rs := [25]) (by kernel_rfl) (by simp) ?_
          refine wpLate_cons rfl (fun Kc hKc => ?_) wpLate_nil
          simp only [List.getElem_toArray, List.getElem_cons_succ, List.getElem_cons_zero]
          rw [if_pos (by rfl)]
          go_wp2_with fail
          refine (mfewR_any vdr vdc vda vdn vdz yy.N wc6 (HL.out wc6 DF).d).mono ?_
          rintro e wc7 ⟨ydg, ydn, ydz, rfl, hnd, FF, EM⟩
          rw [show matV vdr vdc (some ⟨ydg, 0, none⟩) ydn ydz = .agg #[.int .i64 vdr, .int .i64 vdc, .slice (some ⟨ydg, 0, none⟩) ydn ydz] from rfl]
          have Ed : FR wc7 w.heap.size ⟨some ⟨ydg, 0, none⟩, ydn, ydz⟩ ydn (yy.N.take 2000) := ⟨ydg, rfl, rfl, FF.mono DF.size⟩
          clear FF
          replace Ef := Ef.below EM
          replace Eq := Eq.below EM
          replace Ek := Ek.below EM
          replace Ev := Ev.below EM
          replace Eo := Eo.below EM
          replace Es := Es.below EM
          replace Eu := Eu.below EM
          replace XB := XB.below EM
          replace XG := XG.below EM
          replace DF := below_then DF EM
          replace DC := below_then DC EM
          clear EM
          go_wp2_with fail
          refine hKc.out _ _ (fun _ _ => ⟨XB, XG⟩) ?_
          clear hKc Kc
          refine wpLate_pure (i := 26) (v := (.agg #[.slice (some ⟨yfg, 0, none⟩) yfn yfz, .int .i64 vqr, .int .i64 vqc, .slice (some ⟨yqg, 0, none⟩) yqn yqz, .int .i64 vkr, .int .i64 vkc, .slice (some ⟨ykg, 0, none⟩) ykn ykz, .int .i64 vvr, .int .i64 vvc, .slice (some ⟨yvg, 0, none⟩) yvn yvz, .int .i64 vor, .int .i64 voc, .slice (some ⟨yog, 0, none⟩) yon yoz, .slice (some ⟨ysg, 0, none⟩) ysn ysz, .int .i64 vur, .int .i64 vuc, .slice (some ⟨yug, 0, none⟩) yun yuz, .int .i64 vdr, .int .i64 vdc, .slice (some ⟨ydg, 0, none⟩) ydn ydz])) rfl (by decide) (by kernel_rfl) (by kernel_rfl) (by kernel_rfl) (fun _ _ _ h => h) (Or.inl ⟨by rfl, ?_⟩) (fun _ => ⟨XB, XG⟩) ?_
          · intro w' _
            go_simp
          simp only [List.getElem_toArray, List.getElem_cons_succ, List.getElem_cons_zero, Act.put, List.setIfInBounds_toArray, List.set_cons_zero, List.set_cons_succ]
          refine wpLate_ready (rs := [27]) (by kernel_rfl) (by simp) ?_
          refine wpLate_cons rfl (fun Kc hKc => ?_) wpLate_nil
          simp only [List.getElem_toArray, List.getElem_cons_succ, List.getElem_cons_zero]
          rw [if_pos (by rfl)]
          have CN := blk_new wc7 61 #[.slice (some ⟨yfg, 0, none⟩) yfn yfz, .int .i64 vqr, .int .i64 vqc, .slice (some ⟨yqg, 0, none⟩) yqn yqz, .int .i64 vkr, .int .i64 vkc, .slice (some ⟨ykg, 0, none⟩) ykn ykz, .int .i64 vvr, .int .i64 vvc, .slice (some ⟨yvg, 0, none⟩) yvn yvz, .int .i64 vor, .int .i64 voc, .slice (some ⟨yog, 0, none⟩) yon yoz, .slice (some ⟨ysg, 0, none⟩) ysn ysz, .int .i64 vur, .int .i64 vuc, .slice (some ⟨yug, 0, none⟩) yun yuz, .int .i64 vdr, .int .i64 vdc, .slice (some ⟨ydg, 0, none⟩) ydn ydz]
          have EM : Below wc7.heap.size wc7 (wc7.alloc (.cells #[.slice (some ⟨yfg, 0, none⟩) yfn yfz, .int .i64 vqr, .int .i64 vqc, .slice (some ⟨yqg, 0, none⟩) yqn yqz, .int .i64 vkr, .int .i64 vkc, .slice (some ⟨ykg, 0, none⟩) ykn ykz, .int .i64 vvr, .int .i64 vvc, .slice (some ⟨yvg, 0, none⟩) yvn yvz, .int .i64 vor, .int .i64 voc, .slice (some ⟨yog, 0, none⟩) yon yoz, .slice (some ⟨ysg, 0, none⟩) ysn ysz, .int .i64 vur, .int .i64 vuc, .slice (some ⟨yug, 0, none⟩) yun yuz, .int .i64 vdr, .int .i64 vdc, .slice (some ⟨ydg, 0, none⟩) ydn ydz] 61)) := (Below.refl _ _).alloc (Nat.le_refl _) _
          generalize hwn : wc7.alloc (.cells #[.slice (some ⟨yfg, 0, none⟩) yfn yfz, .int .i64 vqr, .int .i64 vqc, .slice (some ⟨yqg, 0, none⟩) yqn yqz, .int .i64 vkr, .int .i64 vkc, .slice (some ⟨ykg, 0, none⟩) ykn ykz, .int .i64 vvr, .int .i64 vvc, .slice (some ⟨yvg, 0, none⟩) yvn yvz, .int .i64 vor, .int .i64 voc, .slice (some ⟨yog, 0, none⟩) yon yoz, .slice (some ⟨ysg, 0, none⟩) ysn ysz, .int .i64 vur, .int .i64 vuc, .slice (some ⟨yug, 0, none⟩) yun yuz, .int .i64 vdr, .int .i64 vdc, .slice (some ⟨ydg, 0, none⟩) ydn ydz] 61) = wg at *
          go_wp2_with fail
          replace Ef := Ef.below EM
          replace Eq := Eq.below EM
          replace Ek := Ek.below EM
          replace Ev := Ev.below EM
          replace Eo := Eo.below EM
          replace Es := Es.below EM
          replace Eu := Eu.below EM
          replace Ed := Ed.below EM
          replace XB := XB.below EM
          replace XG := XG.below EM
          replace DF := below_then DF EM
          replace DC := below_then DC EM
          clear EM hwn
          refine hKc.out _ _ (fun _ _ => ⟨XB, XG⟩) ?_
          clear hKc Kc
          have zS := DF.size
          have BTN : BT wg w.heap.size ⟨⟨vfa, vfn, vfz⟩, ⟨vqr, vqc, ⟨vqa, vqn, vqz⟩⟩, ⟨vkr, vkc, ⟨vka, vkn, vkz⟩⟩, ⟨vvr, vvc, ⟨vva, vvn, vvz⟩⟩, ⟨vor, voc, ⟨voa, von, voz⟩⟩, ⟨vsa, vsn, vsz⟩, ⟨vur, vuc, ⟨vua, vun, vuz⟩⟩, ⟨vdr, vdc, ⟨vda, vdn, vdz⟩⟩⟩ ⟨⟨some ⟨yfg, 0, none⟩, yfn, yfz⟩, ⟨vqr, vqc, ⟨some ⟨yqg, 0, none⟩, yqn, yqz⟩⟩, ⟨vkr, vkc, ⟨some ⟨ykg, 0, none⟩, ykn, ykz⟩⟩, ⟨vvr, vvc, ⟨some ⟨yvg, 0, none⟩, yvn, yvz⟩⟩, ⟨vor, voc, ⟨some ⟨yog, 0, none⟩, yon, yoz⟩⟩, ⟨some ⟨ysg, 0, none⟩, ysn, ysz⟩, ⟨vur, vuc, ⟨some ⟨yug, 0, none⟩, yun, yuz⟩⟩, ⟨vdr, vdc, ⟨some ⟨ydg, 0, none⟩, ydn, ydz⟩⟩⟩ (cutL 100 yy) := ⟨Ef, Eq, Ek, Ev, Eo, Es, Eu, Ed, ⟨rfl, rfl⟩, ⟨rfl, rfl⟩, ⟨rfl, rfl⟩, ⟨rfl, rfl⟩, ⟨rfl, rfl⟩, ⟨rfl, rfl⟩⟩
          have yok : Bk.Ok ⟨⟨some ⟨yfg, 0, none⟩, yfn, yfz⟩, ⟨vqr, vqc, ⟨some ⟨yqg, 0, none⟩, yqn, yqz⟩⟩, ⟨vkr, vkc, ⟨some ⟨ykg, 0, none⟩, ykn, ykz⟩⟩, ⟨vvr, vvc, ⟨some ⟨yvg, 0, none⟩, yvn, yvz⟩⟩, ⟨vor, voc, ⟨some ⟨yog, 0, none⟩, yon, yoz⟩⟩, ⟨some ⟨ysg, 0, none⟩, ysn, ysz⟩, ⟨vur, vuc, ⟨some ⟨yug, 0, none⟩, yun, yuz⟩⟩, ⟨vdr, vdc, ⟨some ⟨ydg, 0, none⟩, ydn, ydz⟩⟩⟩ := ⟨by show yfn ≤ _; omega, ⟨HOK.out.q.r, HOK.out.q.c⟩, ⟨HOK.out.k.r, HOK.out.k.c⟩, ⟨HOK.out.v.r, HOK.out.v.c⟩, ⟨HOK.out.o.r, HOK.out.o.c⟩, by show ysn ≤ _; omega, ⟨HOK.out.u.r, HOK.out.u.c⟩, ⟨HOK.out.d.r, HOK.out.d.c⟩⟩
          clear Ef Eq Ek Ev Eo Es Eu Ed
          have OB2 := OB.below DC
          have XT2 := XT.map (fun h => h.below DC)
          have G12 := G1.below DC
          have G22 := G2.below DC
          have G32 := G3.below DC
          have X02 := X0.below DC
          have X12 := X1.below DC
          refine wpLate_ready (rs := [28]) (by kernel_rfl) (by simp) ?_
          refine wpLate_cons rfl (fun Kc hKc => ?_) wpLate_nil
          simp only [List.getElem_toArray, List.getElem_cons_succ, List.getElem_cons_zero]
          rw [if_pos (by rfl)]
          refine wp_append_blockR _ _ rfl w.heap.size S xs rfl (by exact OB2) wc7.heap.size ⟨⟨some ⟨yfg, 0, none⟩, yfn, yfz⟩, ⟨vqr, vqc, ⟨some ⟨yqg, 0, none⟩, yqn, yqz⟩⟩, ⟨vkr, vkc, ⟨some ⟨ykg, 0, none⟩, ykn, ykz⟩⟩, ⟨vvr, vvc, ⟨some ⟨yvg, 0, none⟩, yvn, yvz⟩⟩, ⟨vor, voc, ⟨some ⟨yog, 0, none⟩, yon, yoz⟩⟩, ⟨some ⟨ysg, 0, none⟩, ysn, ysz⟩, ⟨vur, vuc, ⟨some ⟨yug, 0, none⟩, yun, yuz⟩⟩, ⟨vdr, vdc, ⟨some ⟨ydg, 0, none⟩, ydn, ydz⟩⟩⟩ rfl (by exact CN) yok (by omega) (by omega) ?_
          intro S2 wh hS2 OB3 BH hk
          obtain ⟨s2a, s2n, s2c⟩ := S2
          simp only at hS2
          obtain rfl : s2n = k + 1 := by omega
          clear hS2
          have XT3 := XT2.map (fun h => h.typeR hk)
          have BN3 := BTN.typeR hk
          have G13 := G12.type hk
          have G23 := G22.type hk
          have G33 := G32.type hk
          have X03 := X02.of_block (hk _ _ _ X02 (by decide))
          have X13 := X12.of_block (hk _ _ _ X12 (by decide))
          have XB3 := XB.of_block (hk _ _ _ XB (by decide))
          have XG3 := XG.of_block (hk _ _ _ XG (by decide))
          have DH := DF.trans BH
          clear hk OB2 XT2 BTN G12 G22 G32 X02 X12 XB XG CN BH
          refine hKc.out _ _ (fun _ _ => ⟨XB3, XG3⟩) ?_
          clear hKc Kc
          rw [show Sl.v ⟨s2a, k + 1, s2c⟩ = .slice s2a (k + 1) s2c from rfl]
          refine wpLate_pure (i := 29) (v := (.pointer (some ⟨gA, 3, none⟩))) rfl (by decide) (by kernel_rfl) (by kernel_rfl) (by kernel_rfl) (fun _ _ _ h => h) (Or.inl ⟨by rfl, ?_⟩) (fun _ => ⟨XB3, XG3⟩) ?_
          · intro w' _
            go_simp
          simp only [List.getElem_toArray, List.getElem_cons_succ, List.getElem_cons_zero, Act.put, List.setIfInBounds_toArray, List.set_cons_zero, List.set_cons_succ]
          refine wpLate_ready (rs := [30]) (by kernel_rfl) (by simp) ?_
          refine wpLate_cons rfl (fun Kc hKc => ?_) wpLate_nil
          simp only [List.getElem_toArray, List.getElem_cons_succ, List.getElem_cons_zero]
          rw [if_pos (by rfl)]
          have fz := XG3.frozen 3
          have c3 : wh.cell? ⟨gA, 3, none⟩ = some S.v := XG3.cell 3 rfl
          go_wp2_with fail
          refine hKc.out _ _ (fun hne _ => absurd rfl hne) ?_
          clear hKc Kc fz c3
          have so : ∀ b, b ≠ gA → (wh.setCell ⟨gA, 3, none⟩ (.slice s2a (k + 1) s2c)).heap[b]? = wh.heap[b]? := set1_other
          have XG4 : Blk (wh.setCell ⟨gA, 3, none⟩ (.slice s2a (k + 1) s2c)) gA 38 #[.int .i64 er, .int .i64 ec, .slice (some ⟨g1, 0, none⟩) n1 k1, .slice s2a (k + 1) s2c, .slice (some ⟨g2, 0, none⟩) n2 k2, .int .i64 gr, .int .i64 gc, .slice (some ⟨g3, 0, none⟩) n3 k3] := XG3.set 3 (.slice s2a (k + 1) s2c)
          have OB4 := OB3.keep XG3 (by decide) so
          have XT4 := XT3.map (fun h => h.keep XG3 (by decide) so)
          have BN4 := BN3.keep XG3 (by decide) so
          have G14 := G13.keep XG3 (by decide) so
          have G24 := G23.keep XG3 (by decide) so
          have G34 := G33.keep XG3 (by decide) so
          have X04 := X03.of_block (so _ (by omega))
          have X14 := X13.of_block (so _ (by omega))
          have D4 : Below w.heap.size w (wh.setCell ⟨gA, 3, none⟩ (.slice s2a (k + 1) s2c)) := DH.setCell (p := ⟨gA, 3, none⟩) (by show w.heap.size ≤ gA; omega) _
          generalize wh.setCell ⟨gA, 3, none⟩ (.slice s2a (k + 1) s2c) = w4 at *
          clear so XG3 OB3 XT3 BN3 G13 G23 G33 X03 X13 XB3 DH
          refine wpLate_done (by kernel_rfl) ?_ _
          have XT5 := XT4.snoc HBX.out HYY.out BN4
          go_wp2_with fail
          go_roundg (bn - (k + 1))
          case measure => omega
          case rel =>
            exact ⟨k + 1, ⟨s2a, k + 1, s2c⟩, _, by omega, by omega, rfl, by go_num, rfl, X04, X14, XG4, OB4, XT5, G14, G24, G34, D4⟩
        · have e5 : k = min 5 bn := by omega
          have a3 : wr.cell? ⟨w.heap.size, 3, none⟩ = some (.slice ba bn bz) := X0.cell 3 rfl
          by_cases hb : k < bn
          · have h5 : ¬ (k : Int) < 5 := by omega
            have oneS : Array.all (#[.int .i64 er, .int .i64 ec, .slice (some ⟨g1, 0, none⟩) n1 k1, S.v, .slice (some ⟨g2, 0, none⟩) n2 k2, .int .i64 gr, .int .i64 gc, .slice (some ⟨g3, 0, none⟩) n3 k3] : Array Value) (fun v => v.oneCell') = true := by simp [Value.oneCell', Sl.v]
            go_wp2_with (first | (refine wpList_load_row rfl 38 _ rfl gA rfl 38 _ (0, 0) _ XG Tryz.underlying38 rfl Tryz.infoRW ?_) | (refine wpList_store_row rfl 38 _ _ rfl (w.heap.size + 1) _ rfl rfl 38 _ X1 Tryz.infoRW rfl oneS ?_))
            refine bodyPost_ret (results_cell_row rfl _ _ (w.heap.size + 1) 38 _ _ _ rfl (X1.row _) Tryz.underlying38 rfl Tryz.infoRW) rfl ?_
            have sr : ∀ b, b ≠ w.heap.size + 1 → (wr.setRow (w.heap.size + 1) #[.int .i64 er, .int .i64 ec, .slice (some ⟨g1, 0, none⟩) n1 k1, S.v, .slice (some ⟨g2, 0, none⟩) n2 k2, .int .i64 gr, .int .i64 gc, .slice (some ⟨g3, 0, none⟩) n3 k3]).heap[b]? = wr.heap[b]? := fun b hb => setRow_other _ _ _ _ hb
            refine ⟨⟨⟨er, ec, ⟨some ⟨g1, 0, none⟩, n1, k1⟩⟩, S, ⟨some ⟨g2, 0, none⟩, n2, k2⟩, ⟨gr, gc, ⟨some ⟨g3, 0, none⟩, n3, k3⟩⟩⟩, rfl, ⟨xs, ⟨G1.keep X1 (by decide) sr, ⟨rfl, rfl⟩, G2.keep X1 (by decide) sr, G3.keep X1 (by decide) sr, ⟨rfl, rfl⟩, (OB.keep X1 (by decide) sr).blocks, ?_⟩, OB.keep X1 (by decide) sr⟩, below_setRow DR (by omega) _⟩
            rw [← e5]
            exact XT.map (fun h => h.keep X1 (by decide) sr)
          · have hb2 : ¬ (k : Int) < (bn : Int) := by omega
            have oneS : Array.all (#[.int .i64 er, .int .i64 ec, .slice (some ⟨g1, 0, none⟩) n1 k1, S.v, .slice (some ⟨g2, 0, none⟩) n2 k2, .int .i64 gr, .int .i64 gc, .slice (some ⟨g3, 0, none⟩) n3 k3] : Array Value) (fun v => v.oneCell') = true := by simp [Value.oneCell', Sl.v]
            go_wp2_with (first | (refine wpList_load_row rfl 38 _ rfl gA rfl 38 _ (0, 0) _ XG Tryz.underlying38 rfl Tryz.infoRW ?_) | (refine wpList_store_row rfl 38 _ _ rfl (w.heap.size + 1) _ rfl rfl 38 _ X1 Tryz.infoRW rfl oneS ?_))
            refine bodyPost_ret (results_cell_row rfl _ _ (w.heap.size + 1) 38 _ _ _ rfl (X1.row _) Tryz.underlying38 rfl Tryz.infoRW) rfl ?_
            have sr : ∀ b, b ≠ w.heap.size + 1 → (wr.setRow (w.heap.size + 1) #[.int .i64 er, .int .i64 ec, .slice (some ⟨g1, 0, none⟩) n1 k1, S.v, .slice (some ⟨g2, 0, none⟩) n2 k2, .int .i64 gr, .int .i64 gc, .slice (some ⟨g3, 0, none⟩) n3 k3]).heap[b]? = wr.heap[b]? := fun b hb => setRow_other _ _ _ _ hb
            refine ⟨⟨⟨er, ec, ⟨some ⟨g1, 0, none⟩, n1, k1⟩⟩, S, ⟨some ⟨g2, 0, none⟩, n2, k2⟩, ⟨gr, gc, ⟨some ⟨g3, 0, none⟩, n3, k3⟩⟩⟩, rfl, ⟨xs, ⟨G1.keep X1 (by decide) sr, ⟨rfl, rfl⟩, G2.keep X1 (by decide) sr, G3.keep X1 (by decide) sr, ⟨rfl, rfl⟩, (OB.keep X1 (by decide) sr).blocks, ?_⟩, OB.keep X1 (by decide) sr⟩, below_setRow DR (by omega) _⟩
            rw [← e5]
            exact XT.map (fun h => h.keep X1 (by decide) sr)
  · simp only [List.getElem_toArray, List.getElem_cons_succ, List.getElem_cons_zero]
    rw [if_pos (by rfl)]
    go_wp2_with fail
    have XA0 := blk_new wA 38 #[.int .i64 0, .int .i64 0, .slice none 0 0, .slice none 0 0, .slice none 0 0, .int .i64 0, .int .i64 0, .slice none 0 0]
    have zA : w.heap.size + 1 < wA.heap.size := zX
    have EM : Below wA.heap.size wA (wA.alloc (.cells #[.int .i64 0, .int .i64 0, .slice none 0 0, .slice none 0 0, .slice none 0 0, .int .i64 0, .int .i64 0, .slice none 0 0] 38)) := (Below.refl _ _).alloc (Nat.le_refl _) _
    generalize hn : wA.alloc (.cells #[.int .i64 0, .int .i64 0, .slice none 0 0, .slice none 0 0, .slice none 0 0, .int .i64 0, .int .i64 0, .slice none 0 0] 38) = wN10 at *
    replace X0 := X0.below EM
    replace X1 := X1.below EM
    replace DB := below_then DB EM
    replace zX := Nat.lt_of_lt_of_le zX EM.size
    have XA := XA0
    clear XA0 hn
    refine hKc.out _ _ X0 (fun hHeld => ?_)
    clear hKc Kc EM
    refine wpAnyH_ready (rs := [2]) (by kernel_rfl) (by simp) ?_
    refine AllReadyH.cons rfl (fun Kc hKc => ?_) AllReadyH.nil
    simp only [List.getElem_toArray, List.getElem_cons_succ, List.getElem_cons_zero]
    rw [if_pos (by rfl)]
    go_wp2_with fail
    refine (mfewR_any er ec ea en ez M.E wN10 (HW.out wN10 DB).e).mono ?_
    rintro e wN11 ⟨g1, n1, k1, rfl, hn1, FF, EM⟩
    rw [show matV _ _ (some ⟨g1, 0, none⟩) n1 k1 = .agg #[.int .i64 er, .int .i64 ec, .slice (some ⟨g1, 0, none⟩) n1 k1] from rfl]
    have G1 : FR wN11 w.heap.size ⟨some ⟨g1, 0, none⟩, n1, k1⟩ n1 (M.E.take 2000) := ⟨g1, rfl, rfl, FF.mono DB.size⟩
    clear FF
    replace X0 := X0.below EM
    replace X1 := X1.below EM
    replace XA := XA.below EM
    replace DB := below_then DB EM
    replace zX := Nat.lt_of_lt_of_le zX EM.size
    go_wp2_with fail
    refine hKc.out _ _ X0 (fun hHeld => ?_)
    clear hKc Kc EM
    refine wpAnyH_ready (rs := [5]) (by kernel_rfl) (by simp) ?_
    refine AllReadyH.cons rfl (fun Kc hKc => ?_) AllReadyH.nil
    simp only [List.getElem_toArray, List.getElem_cons_succ, List.getElem_cons_zero]
    rw [if_pos (by rfl)]
    go_wp2_with fail
    refine (fewR_any la ln lz M.G 100 100 wN11 rfl (HW.out wN11 DB).l (by omega)).mono ?_
    rintro e wN12 ⟨g2, n2, k2, rfl, hn2, FF, EM⟩
    have G2 : FR wN12 w.heap.size ⟨some ⟨g2, 0, none⟩, n2, k2⟩ n2 (M.G.take 100) := ⟨g2, rfl, rfl, FF.mono DB.size⟩
    clear FF
    replace X0 := X0.below EM
    replace X1 := X1.below EM
    replace XA := XA.below EM
    replace G1 := G1.below EM
    replace DB := below_then DB EM
    replace zX := Nat.lt_of_lt_of_le zX EM.size
    go_wp2_with fail
    refine hKc.out _ _ X0 (fun hHeld => ?_)
    clear hKc Kc EM
    refine wpAnyH_ready (rs := [8]) (by kernel_rfl) (by simp) ?_
    refine AllReadyH.cons rfl (fun Kc hKc => ?_) AllReadyH.nil
    simp only [List.getElem_toArray, List.getElem_cons_succ, List.getElem_cons_zero]
    rw [if_pos (by rfl)]
    go_wp2_with fail
    refine (mfewR_any gr gc ga gn gz M.O wN12 (HW.out wN12 DB).o).mono ?_
    rintro e wN13 ⟨g3, n3, k3, rfl, hn3, FF, EM⟩
    rw [show matV _ _ (some ⟨g3, 0, none⟩) n3 k3 = .agg #[.int .i64 gr, .int .i64 gc, .slice (some ⟨g3, 0, none⟩) n3 k3] from rfl]
    have G3 : FR wN13 w.heap.size ⟨some ⟨g3, 0, none⟩, n3, k3⟩ n3 (M.O.take 2000) := ⟨g3, rfl, rfl, FF.mono DB.size⟩
    clear FF
    replace X0 := X0.below EM
    replace X1 := X1.below EM
    replace XA := XA.below EM
    replace G1 := G1.below EM
    replace G2 := G2.below EM
    replace DB := below_then DB EM
    replace zX := Nat.lt_of_lt_of_le zX EM.size
    go_wp2_with fail
    refine hKc.out _ _ X0 (fun hHeld => ?_)
    clear hKc Kc EM
    refine wpAnyH_take (i := 9) (v := (.agg #[.int .i64 er, .int .i64 ec, .slice (some ⟨g1, 0, none⟩) n1 k1, .slice none 0 0, .slice (some ⟨g2, 0, none⟩) n2 k2, .int .i64 gr, .int .i64 gc, .slice (some ⟨g3, 0, none⟩) n3 k3])) rfl (by kernel_rfl) (by kernel_rfl) (by kernel_rfl) (fun _ _ _ h => h) (Or.inl ⟨by rfl, ?_⟩) (by assumption) ?_
    · intro w' hSw
      go_simp
    simp only [List.getElem_toArray, List.getElem_cons_succ, List.getElem_cons_zero, Act.put, List.setIfInBounds_toArray, List.set_cons_zero, List.set_cons_succ]
    refine wpAnyH_ready (rs := [11]) (by kernel_rfl) (by simp) ?_
    refine AllReadyH.cons rfl (fun Kc hKc => ?_) AllReadyH.nil
    simp only [List.getElem_toArray, List.getElem_cons_succ, List.getElem_cons_zero]
    rw [if_pos (by rfl)]
    have one : Array.all (#[.int .i64 er, .int .i64 ec, .slice (some ⟨g1, 0, none⟩) n1 k1, .slice none 0 0, .slice (some ⟨g2, 0, none⟩) n2 k2, .int .i64 gr, .int .i64 gc, .slice (some ⟨g3, 0, none⟩) n3 k3] : Array Value) (fun v => v.oneCell') = true := by simp [Value.oneCell']
    refine wp_store_row 38 _ _ rfl wA.heap.size #[.int .i64 er, .int .i64 ec, .slice (some ⟨g1, 0, none⟩) n1 k1, .slice none 0 0, .slice (some ⟨g2, 0, none⟩) n2 k2, .int .i64 gr, .int .i64 gc, .slice (some ⟨g3, 0, none⟩) n3 k3] rfl rfl 38 _ XA Tryz.infoRW rfl one ?_
    have so : ∀ b, b ≠ wA.heap.size → (wN13.setRow wA.heap.size #[.int .i64 er, .int .i64 ec, .slice (some ⟨g1, 0, none⟩) n1 k1, .slice none 0 0, .slice (some ⟨g2, 0, none⟩) n2 k2, .int .i64 gr, .int .i64 gc, .slice (some ⟨g3, 0, none⟩) n3 k3]).heap[b]? = wN13.heap[b]? := fun b hb => setRow_other _ _ _ _ hb
    replace X0 := Blk.of_block X0 (so _ (by omega))
    replace X1 := Blk.of_block X1 (so _ (by omega))
    replace G1 := G1.keep XA (by decide) so
    replace G2 := G2.keep XA (by decide) so
    replace G3 := G3.keep XA (by decide) so
    have XR := XA.row #[.int .i64 er, .int .i64 ec, .slice (some ⟨g1, 0, none⟩) n1 k1, .slice none 0 0, .slice (some ⟨g2, 0, none⟩) n2 k2, .int .i64 gr, .int .i64 gc, .slice (some ⟨g3, 0, none⟩) n3 k3]
    replace DB := below_setRow DB (show w.heap.size ≤ wA.heap.size by omega) #[.int .i64 er, .int .i64 ec, .slice (some ⟨g1, 0, none⟩) n1 k1, .slice none 0 0, .slice (some ⟨g2, 0, none⟩) n2 k2, .int .i64 gr, .int .i64 gc, .slice (some ⟨g3, 0, none⟩) n3 k3]
    have hgA : w.heap.size + 1 < wA.heap.size := by omega
    generalize hn : wN13.setRow wA.heap.size #[.int .i64 er, .int .i64 ec, .slice (some ⟨g1, 0, none⟩) n1 k1, .slice none 0 0, .slice (some ⟨g2, 0, none⟩) n2 k2, .int .i64 gr, .int .i64 gc, .slice (some ⟨g3, 0, none⟩) n3 k3] = wS at *
    generalize wA.heap.size = gA at *
    refine hKc.out _ _ X0 (fun hHeld => ?_)
    clear hKc Kc hn so XA
    refine wpAnyH_done (by kernel_rfl) ?_ _
    clear hHeld zX zA
    have a3 : wS.cell? ⟨w.heap.size, 3, none⟩ = some (.slice ba bn bz) := X0.cell 3 rfl
    go_wp2_with fail
    clear a3
    go_loopg [4] bn (fun r i wr => ∃ (k : Nat) (S : Sl) (xs : List Bk), k ≤ bn ∧ k ≤ 5 ∧ r = bn - k ∧ i = .int .i64 (k : Int) ∧ S.n = k ∧ Blk wr w.heap.size 29 #[.int .i64 er, .int .i64 ec, .slice ea en ez, .slice ba bn bz, .slice la ln lz, .int .i64 gr, .int .i64 gc, .slice ga gn gz] ∧ Blk wr (w.heap.size + 1) 38 #[.int .i64 0, .int .i64 0, .slice none 0 0, .slice none 0 0, .slice none 0 0, .int .i64 0, .int .i64 0, .slice none 0 0] ∧ Blk wr gA 38 #[.int .i64 er, .int .i64 ec, .slice (some ⟨g1, 0, none⟩) n1 k1, S.v, .slice (some ⟨g2, 0, none⟩) n2 k2, .int .i64 gr, .int .i64 gc, .slice (some ⟨g3, 0, none⟩) n3 k3] ∧ OwnB wr w.heap.size S xs ∧ BTs wr w.heap.size 100 k bs xs M.Ls ∧ FR wr w.heap.size ⟨some ⟨g1, 0, none⟩, n1, k1⟩ n1 (M.E.take 2000) ∧ FR wr w.heap.size ⟨some ⟨g2, 0, none⟩, n2, k2⟩ n2 (M.G.take 100) ∧ FR wr w.heap.size ⟨some ⟨g3, 0, none⟩, n3, k3⟩ n3 (M.O.take 2000) ∧ Below w.heap.size w wr)
    case atStart => exact ⟨0, ⟨none, 0, 0⟩, [], by omega, by omega, by omega, rfl, rfl, X0, X1, XR, ownB_nil _ _, bts_nil _ _ _ _ _, G1, G2, G3, DB⟩
    case round =>
      clear X0 X1 XR G1 G2 G3 DB
      obtain ⟨k, S, xs, hk, hk5, rfl, rfl, hSn, X0, X1, XG, OB, XT, G1, G2, G3, DR⟩ := hrel
      by_cases hlt0 : k < bn ∧ k < 5
      · have hlt : k < bn := by omega
        have h5 : (k : Int) < 5 := by omega
        obtain ⟨xx, hxx⟩ : ∃ x, bs[k]? = some x := ⟨_, List.getElem?_eq_getElem (show k < bs.length by have := HBL.out; omega)⟩
        obtain ⟨yy, hyy, hL0⟩ := (HW.out w (Below.refl _ _)).ls k xx hxx
        obtain ⟨gb, ob, eba, hcb⟩ := (HW.out wr DR).b.cells (by show 0 < bn; omega)
        have eba' : ba = some ⟨gb, ob, none⟩ := eba
        subst eba'
        have r0 := hcb k xx hxx
        have hok := (HW.out w (Below.refl _ _)).b.ok xx (List.mem_of_getElem? hxx)
        have HYY : Hid (M.Ls[k]? = some yy) := hyy
        obtain ⟨⟨vfa, vfn, vfz⟩, ⟨vqr, vqc, ⟨vqa, vqn, vqz⟩⟩, ⟨vkr, vkc, ⟨vka, vkn, vkz⟩⟩, ⟨vvr, vvc, ⟨vva, vvn, vvz⟩⟩, ⟨vor, voc, ⟨voa, von, voz⟩⟩, ⟨vsa, vsn, vsz⟩, ⟨vur, vuc, ⟨vua, vun, vuz⟩⟩, ⟨vdr, vdc, ⟨vda, vdn, vdz⟩⟩⟩ := xx
        have HBX : Hid (bs[k]? = some ⟨⟨vfa, vfn, vfz⟩, ⟨vqr, vqc, ⟨vqa, vqn, vqz⟩⟩, ⟨vkr, vkc, ⟨vka, vkn, vkz⟩⟩, ⟨vvr, vvc, ⟨vva, vvn, vvz⟩⟩, ⟨vor, voc, ⟨voa, von, voz⟩⟩, ⟨vsa, vsn, vsz⟩, ⟨vur, vuc, ⟨vua, vun, vuz⟩⟩, ⟨vdr, vdc, ⟨vda, vdn, vdz⟩⟩⟩) := hxx
        have HL : Hid (∀ wv, Below w.heap.size w wv → LyR wv ⟨⟨vfa, vfn, vfz⟩, ⟨vqr, vqc, ⟨vqa, vqn, vqz⟩⟩, ⟨vkr, vkc, ⟨vka, vkn, vkz⟩⟩, ⟨vvr, vvc, ⟨vva, vvn, vvz⟩⟩, ⟨vor, voc, ⟨voa, von, voz⟩⟩, ⟨vsa, vsn, vsz⟩, ⟨vur, vuc, ⟨vua, vun, vuz⟩⟩, ⟨vdr, vdc, ⟨vda, vdn, vdz⟩⟩⟩ yy) := fun wv hb => hL0.below hb
        have HOK : Hid (Bk.Ok ⟨⟨vfa, vfn, vfz⟩, ⟨vqr, vqc, ⟨vqa, vqn, vqz⟩⟩, ⟨vkr, vkc, ⟨vka, vkn, vkz⟩⟩, ⟨vvr, vvc, ⟨vva, vvn, vvz⟩⟩, ⟨vor, voc, ⟨voa, von, voz⟩⟩, ⟨vsa, vsn, vsz⟩, ⟨vur, vuc, ⟨vua, vun, vuz⟩⟩, ⟨vdr, vdc, ⟨vda, vdn, vdz⟩⟩⟩) := hok
        rw [show Bk.cells ⟨⟨vfa, vfn, vfz⟩, ⟨vqr, vqc, ⟨vqa, vqn, vqz⟩⟩, ⟨vkr, vkc, ⟨vka, vkn, vkz⟩⟩, ⟨vvr, vvc, ⟨vva, vvn, vvz⟩⟩, ⟨vor, voc, ⟨voa, von, voz⟩⟩, ⟨vsa, vsn, vsz⟩, ⟨vur, vuc, ⟨vua, vun, vuz⟩⟩, ⟨vdr, vdc, ⟨vda, vdn, vdz⟩⟩⟩ = #[.slice vfa vfn vfz, .int .i64 vqr, .int .i64 vqc, .slice vqa vqn vqz, .int .i64 vkr, .int .i64 vkc, .slice vka vkn vkz, .int .i64 vvr, .int .i64 vvc, .slice vva vvn vvz, .int .i64 vor, .int .i64 voc, .slice voa von voz, .slice vsa vsn vsz, .int .i64 vur, .int .i64 vuc, .slice vua vun vuz, .int .i64 vdr, .int .i64 vdc, .slice vda vdn vdz] from rfl] at r0
        clear hL0 hxx hyy hcb hok eba
        have szr := DR.size
        obtain ⟨XE, XB, BF⟩ := var3e wr 60 #[.slice none 0 0, .int .i64 0, .int .i64 0, .slice none 0 0, .int .i64 0, .int .i64 0, .slice none 0 0, .int .i64 0, .int .i64 0, .slice none 0 0, .int .i64 0, .int .i64 0, .slice none 0 0, .slice none 0 0, .int .i64 0, .int .i64 0, .slice none 0 0, .int .i64 0, .int .i64 0, .slice none 0 0] #[.slice vfa vfn vfz, .int .i64 vqr, .int .i64 vqc, .slice vqa vqn vqz, .int .i64 vkr, .int .i64 vkc, .slice vka vkn vkz, .int .i64 vvr, .int .i64 vvc, .slice vva vvn vvz, .int .i64 vor, .int .i64 voc, .slice voa von voz, .slice vsa vsn vsz, .int .i64 vur, .int .i64 vuc, .slice vua vun vuz, .int .i64 vdr, .int .i64 vdc, .slice vda vdn vdz]
        have hone : Array.all (#[.slice vfa vfn vfz, .int .i64 vqr, .int .i64 vqc, .slice vqa vqn vqz, .int .i64 vkr, .int .i64 vkc, .slice vka vkn vkz, .int .i64 vvr, .int .i64 vvc, .slice vva vvn vvz, .int .i64 vor, .int .i64 voc, .slice voa von voz, .slice vsa vsn vsz, .int .i64 vur, .int .i64 vuc, .slice vua vun vuz, .int .i64 vdr, .int .i64 vdc, .slice vda vdn vdz] : Array Value) (fun v => v.oneCell') = true := by simp [Value.oneCell']
        have a3 : wr.cell? ⟨w.heap.size, 3, none⟩ = some (.slice (some ⟨gb, ob, none⟩) bn bz) := X0.cell 3 rfl
        generalize hwe : wr.alloc (.cells #[.slice none 0 0, .int .i64 0, .int .i64 0, .slice none 0 0, .int .i64 0, .int .i64 0, .slice none 0 0, .int .i64 0, .int .i64 0, .slice none 0 0, .int .i64 0, .int .i64 0, .slice none 0 0, .slice none 0 0, .int .i64 0, .int .i64 0, .slice none 0 0, .int .i64 0, .int .i64 0, .slice none 0 0] 60) = we at *
        generalize hwf : we.setRow wr.heap.size #[.slice vfa vfn vfz, .int .i64 vqr, .int .i64 vqc, .slice vqa vqn vqz, .int .i64 vkr, .int .i64 vkc, .slice vka vkn vkz, .int .i64 vvr, .int .i64 vvc, .slice vva vvn vvz, .int .i64 vor, .int .i64 voc, .slice voa von voz, .slice vsa vsn vsz, .int .i64 vur, .int .i64 vuc, .slice vua vun vuz, .int .i64 vdr, .int .i64 vdc, .slice vda vdn vdz] = wf at *
        have DF := below_then DR BF
        replace X0 := X0.below BF
        replace X1 := X1.below BF
        replace XG := XG.below BF
        replace OB := OB.below BF
        replace XT := XT.map (fun h => h.below BF)
        replace G1 := G1.below BF
        replace G2 := G2.below BF
        replace G3 := G3.below BF
        clear BF
        go_upto_region 6 with (first | (refine wpList_load_mid rfl 60 _ rfl gb (ob + k * 20) rfl (#[.slice vfa vfn vfz, .int .i64 vqr, .int .i64 vqc, .slice vqa vqn vqz, .int .i64 vkr, .int .i64 vkc, .slice vka vkn vkz, .int .i64 vvr, .int .i64 vvc, .slice vva vvn vvz, .int .i64 vor, .int .i64 voc, .slice voa von voz, .slice vsa vsn vsz, .int .i64 vur, .int .i64 vuc, .slice vua vun vuz, .int .i64 vdr, .int .i64 vdc, .slice vda vdn vdz] : Array Value).toList _ r0 Tryz.underlying60 rfl (by exact Tryz.infoB) ?_) | (refine wpList_store_row rfl 60 _ _ rfl wr.heap.size #[.slice vfa vfn vfz, .int .i64 vqr, .int .i64 vqc, .slice vqa vqn vqz, .int .i64 vkr, .int .i64 vkc, .slice vka vkn vkz, .int .i64 vvr, .int .i64 vvc, .slice vva vvn vvz, .int .i64 vor, .int .i64 voc, .slice voa von voz, .slice vsa vsn vsz, .int .i64 vur, .int .i64 vuc, .slice vua vun vuz, .int .i64 vdr, .int .i64 vdc, .slice vda vdn vdz] rfl rfl 60 _ XE (by exact Tryz.infoB) rfl hone ?_; rw [hwf]))
        clear hwe hwf XE r0 a3 hone
        have BD : Below wf.heap.size wf wf.drew := (Below.refl _ wf).drew
        replace XB := XB.below BD
        replace XG := XG.below BD
        replace DF := below_then DF BD
        have DC : Below wf.heap.size wf wf.drew := BD
        have zF := DF.size
        have zB := XB.lt
        refine wp_region_late (S := fun w' => Blk w' wr.heap.size 60 #[.slice vfa vfn vfz, .int .i64 vqr, .int .i64 vqc, .slice vqa vqn vqz, .int .i64 vkr, .int .i64 vkc, .slice vka vkn vkz, .int .i64 vvr, .int .i64 vvc, .slice vva vvn vvz, .int .i64 vor, .int .i64 voc, .slice voa von voz, .slice vsa vsn vsz, .int .i64 vur, .int .i64 vuc, .slice vua vun vuz, .int .i64 vdr, .int .i64 vdc, .slice vda vdn vdz] ∧ Blk w' gA 38 #[.int .i64 er, .int .i64 ec, .slice (some ⟨g1, 0, none⟩) n1 k1, S.v, .slice (some ⟨g2, 0, none⟩) n2 k2, .int .i64 gr, .int .i64 gc, .slice (some ⟨g3, 0, none⟩) n3 k3]) 30 (by kernel_rfl) (⟨XB, XG⟩) (fun hHeld => ?_)
        generalize hA : wf.drew = wd at *
        clear hA BD
        refine wpLate_pure (i := 0) (v := (.pointer (some ⟨gA, 3, none⟩))) rfl (by decide) (by kernel_rfl) (by kernel_rfl) (by kernel_rfl) (fun _ _ _ h => h) (Or.inl ⟨by rfl, ?_⟩) (fun _ => by assumption) ?_
        · intro w' _
          go_simp
        simp only [List.getElem_toArray, List.getElem_cons_zero, Act.put, List.setIfInBounds_toArray, List.set_cons_zero, List.set_cons_succ]
        refine wpLate_take (i := 1) (v := S.v) rfl (by kernel_rfl) (by kernel_rfl) (by kernel_rfl) (by kernel_rfl) (by kernel_rfl) (fun _ _ _ h => h) (Or.inl ⟨by rfl, ?_⟩) (by assumption) ?_
        · intro w' hSw
          have c0 : w'.cell? ⟨gA, 3, none⟩ = some S.v := hSw.2.cell 3 rfl
          go_simp
        simp only [List.getElem_toArray, List.getElem_cons_succ, List.getElem_cons_zero, Act.put, List.setIfInBounds_toArray, List.set_cons_zero, List.set_cons_succ]
        refine wpLate_pure (i := 2) (v := (.pointer (some ⟨wr.heap.size, 0, none⟩))) rfl (by decide) (by kernel_rfl) (by kernel_rfl) (by kernel_rfl) (fun _ _ _ h => h) (Or.inl ⟨by rfl, ?_⟩) (fun _ => by assumption) ?_
        · intro w' _
          go_simp
        simp only [List.getElem_toArray, List.getElem_cons_succ, List.getElem_cons_zero, Act.put, List.setIfInBounds_toArray, List.set_cons_zero, List.set_cons_succ]
        refine wpLate_take (i := 3) (v := (.slice vfa vfn vfz)) rfl (by kernel_rfl) (by kernel_rfl) (by kernel_rfl) (by kernel_rfl) (by kernel_rfl) (fun _ _ _ h => h) (Or.inl ⟨by rfl, ?_⟩) (by assumption) ?_
        · intro w' hSw
          have c0 : w'.cell? ⟨wr.heap.size, 0, none⟩ = some (.slice vfa vfn vfz) := hSw.1.cell 0 rfl
          go_simp
        simp only [List.getElem_toArray, List.getElem_cons_succ, List.getElem_cons_zero, Act.put, List.setIfInBounds_toArray, List.set_cons_zero, List.set_cons_succ]
        refine wpLate_pure (i := 5) (v := (.pointer (some ⟨wr.heap.size, 1, none⟩))) rfl (by decide) (by kernel_rfl) (by kernel_rfl) (by kernel_rfl) (fun _ _ _ h => h) (Or.inl ⟨by rfl, ?_⟩) (fun _ => by assumption) ?_
        · intro w' _
          go_simp
        simp only [List.getElem_toArray, List.getElem_cons_succ, List.getElem_cons_zero, Act.put, List.setIfInBounds_toArray, List.set_cons_zero, List.set_cons_succ]
        refine wpLate_take (i := 6) (v := (.agg #[.int .i64 vqr, .int .i64 vqc, .slice vqa vqn vqz])) rfl (by kernel_rfl) (by kernel_rfl) (by kernel_rfl) (by kernel_rfl) (by kernel_rfl) (fun _ _ _ h => h) (Or.inl ⟨by rfl, ?_⟩) (by assumption) ?_
        · intro w' hSw
          have c0 : w'.cell? ⟨wr.heap.size, 1, none⟩ = some (.int .i64 vqr) := hSw.1.cell 1 rfl
          have c1 : w'.cell? ⟨wr.heap.size, 2, none⟩ = some (.int .i64 vqc) := hSw.1.cell 2 rfl
          have c2 : w'.cell? ⟨wr.heap.size, 3, none⟩ = some (.slice vqa vqn vqz) := hSw.1.cell 3 rfl
          go_simp
        simp only [List.getElem_toArray, List.getElem_cons_succ, List.getElem_cons_zero, Act.put, List.setIfInBounds_toArray, List.set_cons_zero, List.set_cons_succ]
        refine wpLate_pure (i := 8) (v := (.pointer (some ⟨wr.heap.size, 4, none⟩))) rfl (by decide) (by kernel_rfl) (by kernel_rfl) (by kernel_rfl) (fun _ _ _ h => h) (Or.inl ⟨by rfl, ?_⟩) (fun _ => by assumption) ?_
        · intro w' _
          go_simp
        simp only [List.getElem_toArray, List.getElem_cons_succ, List.getElem_cons_zero, Act.put, List.setIfInBounds_toArray, List.set_cons_zero, List.set_cons_succ]
        refine wpLate_take (i := 9) (v := (.agg #[.int .i64 vkr, .int .i64 vkc, .slice vka vkn vkz])) rfl (by kernel_rfl) (by kernel_rfl) (by kernel_rfl) (by kernel_rfl) (by kernel_rfl) (fun _ _ _ h => h) (Or.inl ⟨by rfl, ?_⟩) (by assumption) ?_
        · intro w' hSw
          have c0 : w'.cell? ⟨wr.heap.size, 4, none⟩ = some (.int .i64 vkr) := hSw.1.cell 4 rfl
          have c1 : w'.cell? ⟨wr.heap.size, 5, none⟩ = some (.int .i64 vkc) := hSw.1.cell 5 rfl
          have c2 : w'.cell? ⟨wr.heap.size, 6, none⟩ = some (.slice vka vkn vkz) := hSw.1.cell 6 rfl
          go_simp
        simp only [List.getElem_toArray, List.getElem_cons_succ, List.getElem_cons_zero, Act.put, List.setIfInBounds_toArray, List.set_cons_zero, List.set_cons_succ]
        refine wpLate_pure (i := 11) (v := (.pointer (some ⟨wr.heap.size, 7, none⟩))) rfl (by decide) (by kernel_rfl) (by kernel_rfl) (by kernel_rfl) (fun _ _ _ h => h) (Or.inl ⟨by rfl, ?_⟩) (fun _ => by assumption) ?_
        · intro w' _
          go_simp
        simp only [List.getElem_toArray, List.getElem_cons_succ, List.getElem_cons_zero, Act.put, List.setIfInBounds_toArray, List.set_cons_zero, List.set_cons_succ]
        refine wpLate_take (i := 12) (v := (.agg #[.int .i64 vvr, .int .i64 vvc, .slice vva vvn vvz])) rfl (by kernel_rfl) (by kernel_rfl) (by kernel_rfl) (by kernel_rfl) (by kernel_rfl) (fun _ _ _ h => h) (Or.inl ⟨by rfl, ?_⟩) (by assumption) ?_
        · intro w' hSw
          have c0 : w'.cell? ⟨wr.heap.size, 7, none⟩ = some (.int .i64 vvr) := hSw.1.cell 7 rfl
          have c1 : w'.cell? ⟨wr.heap.size, 8, none⟩ = some (.int .i64 vvc) := hSw.1.cell 8 rfl
          have c2 : w'.cell? ⟨wr.heap.size, 9, none⟩ = some (.slice vva vvn vvz) := hSw.1.cell 9 rfl
          go_simp
        simp only [List.getElem_toArray, List.getElem_cons_succ, List.getElem_cons_zero, Act.put, List.setIfInBounds_toArray, List.set_cons_zero, List.set_cons_succ]
        refine wpLate_pure (i := 14) (v := (.pointer (some ⟨wr.heap.size, 10, none⟩))) rfl (by decide) (by kernel_rfl) (by kernel_rfl) (by kernel_rfl) (fun _ _ _ h => h) (Or.inl ⟨by rfl, ?_⟩) (fun _ => by assumption) ?_
        · intro w' _
          go_simp
        simp only [List.getElem_toArray, List.getElem_cons_succ, List.getElem_cons_zero, Act.put, List.setIfInBounds_toArray, List.set_cons_zero, List.set_cons_succ]
        refine wpLate_take (i := 15) (v := (.agg #[.int .i64 vor, .int .i64 voc, .slice voa von voz])) rfl (by kernel_rfl) (by kernel_rfl) (by kernel_rfl) (by kernel_rfl) (by kernel_rfl) (fun _ _ _ h => h) (Or.inl ⟨by rfl, ?_⟩) (by assumption) ?_
        · intro w' hSw
          have c0 : w'.cell? ⟨wr.heap.size, 10, none⟩ = some (.int .i64 vor) := hSw.1.cell 10 rfl
          have c1 : w'.cell? ⟨wr.heap.size, 11, none⟩ = some (.int .i64 voc) := hSw.1.cell 11 rfl
          have c2 : w'.cell? ⟨wr.heap.size, 12, none⟩ = some (.slice voa von voz) := hSw.1.cell 12 rfl
          go_simp
        simp only [List.getElem_toArray, List.getElem_cons_succ, List.getElem_cons_zero, Act.put, List.setIfInBounds_toArray, List.set_cons_zero, List.set_cons_succ]
        refine wpLate_pure (i := 17) (v := (.pointer (some ⟨wr.heap.size, 13, none⟩))) rfl (by decide) (by kernel_rfl) (by kernel_rfl) (by kernel_rfl) (fun _ _ _ h => h) (Or.inl ⟨by rfl, ?_⟩) (fun _ => by assumption) ?_
        · intro w' _
          go_simp
        simp only [List.getElem_toArray, List.getElem_cons_succ, List.getElem_cons_zero, Act.put, List.setIfInBounds_toArray, List.set_cons_zero, List.set_cons_succ]
        refine wpLate_take (i := 18) (v := (.slice vsa vsn vsz)) rfl (by kernel_rfl) (by kernel_rfl) (by kernel_rfl) (by kernel_rfl) (by kernel_rfl) (fun _ _ _ h => h) (Or.inl ⟨by rfl, ?_⟩) (by assumption) ?_
        · intro w' hSw
          have c0 : w'.cell? ⟨wr.heap.size, 13, none⟩ = some (.slice vsa vsn vsz) := hSw.1.cell 13 rfl
          go_simp
        simp only [List.getElem_toArray, List.getElem_cons_succ, List.getElem_cons_zero, Act.put, List.setIfInBounds_toArray, List.set_cons_zero, List.set_cons_succ]
        refine wpLate_pure (i := 20) (v := (.pointer (some ⟨wr.heap.size, 14, none⟩))) rfl (by decide) (by kernel_rfl) (by kernel_rfl) (by kernel_rfl) (fun _ _ _ h => h) (Or.inl ⟨by rfl, ?_⟩) (fun _ => by assumption) ?_
        · intro w' _
          go_simp
        simp only [List.getElem_toArray, List.getElem_cons_succ, List.getElem_cons_zero, Act.put, List.setIfInBounds_toArray, List.set_cons_zero, List.set_cons_succ]
        refine wpLate_take (i := 21) (v := (.agg #[.int .i64 vur, .int .i64 vuc, .slice vua vun vuz])) rfl (by kernel_rfl) (by kernel_rfl) (by kernel_rfl) (by kernel_rfl) (by kernel_rfl) (fun _ _ _ h => h) (Or.inl ⟨by rfl, ?_⟩) (by assumption) ?_
        · intro w' hSw
          have c0 : w'.cell? ⟨wr.heap.size, 14, none⟩ = some (.int .i64 vur) := hSw.1.cell 14 rfl
          have c1 : w'.cell? ⟨wr.heap.size, 15, none⟩ = some (.int .i64 vuc) := hSw.1.cell 15 rfl
          have c2 : w'.cell? ⟨wr.heap.size, 16, none⟩ = some (.slice vua vun vuz) := hSw.1.cell 16 rfl
          go_simp
        simp only [List.getElem_toArray, List.getElem_cons_succ, List.getElem_cons_zero, Act.put, List.setIfInBounds_toArray, List.set_cons_zero, List.set_cons_succ]
        refine wpLate_pure (i := 23) (v := (.pointer (some ⟨wr.heap.size, 17, none⟩))) rfl (by decide) (by kernel_rfl) (by kernel_rfl) (by kernel_rfl) (fun _ _ _ h => h) (Or.inl ⟨by rfl, ?_⟩) (fun _ => by assumption) ?_
        · intro w' _
          go_simp
        simp only [List.getElem_toArray, List.getElem_cons_succ, List.getElem_cons_zero, Act.put, List.setIfInBounds_toArray, List.set_cons_zero, List.set_cons_succ]
        refine wpLate_take (i := 24) (v := (.agg #[.int .i64 vdr, .int .i64 vdc, .slice vda vdn vdz])) rfl (by kernel_rfl) (by kernel_rfl) (by kernel_rfl) (by kernel_rfl) (by kernel_rfl) (fun _ _ _ h => h) (Or.inl ⟨by rfl, ?_⟩) (by assumption) ?_
        · intro w' hSw
          have c0 : w'.cell? ⟨wr.heap.size, 17, none⟩ = some (.int .i64 vdr) := hSw.1.cell 17 rfl
          have c1 : w'.cell? ⟨wr.heap.size, 18, none⟩ = some (.int .i64 vdc) := hSw.1.cell 18 rfl
          have c2 : w'.cell? ⟨wr.heap.size, 19, none⟩ = some (.slice vda vdn vdz) := hSw.1.cell 19 rfl
          go_simp
        simp only [List.getElem_toArray, List.getElem_cons_succ, List.getElem_cons_zero, Act.put, List.setIfInBounds_toArray, List.set_cons_zero, List.set_cons_succ]
        refine wpLate_ready (rs := [4]) (by kernel_rfl) (by simp) ?_
        refine wpLate_cons rfl (fun Kc hKc => ?_) wpLate_nil
        simp only [List.getElem_toArray, List.getElem_cons_succ, List.getElem_cons_zero]
        rw [if_pos (by rfl)]
        go_wp2_with fail
        refine (fewR_any vfa vfn vfz yy.F 100 100 wd rfl (HL.out wd DF).f (by omega)).mono ?_
        rintro e wc0 ⟨yfg, yfn, yfz, rfl, hnf, FF, EM⟩
        have Ef : FR wc0 w.heap.size ⟨some ⟨yfg, 0, none⟩, yfn, yfz⟩ yfn (yy.F.take 100) := ⟨yfg, rfl, rfl, FF.mono DF.size⟩
        clear FF
        replace XB := XB.below EM
        replace XG := XG.below EM
        replace DF := below_then DF EM
        replace DC := below_then DC EM
        clear EM
        go_wp2_with fail
        refine hKc.out _ _ (fun _ _ => ⟨XB, XG⟩) ?_
        clear hKc Kc
        refine wpLate_ready (rs := [7]) (by kernel_rfl) (by simp) ?_
        refine wpLate_cons rfl (fun Kc hKc => ?_) wpLate_nil
        simp only [List.getElem_toArray, List.getElem_cons_succ, List.getElem_cons_zero]
        rw [if_pos (by rfl)]
        go_wp2_with fail
        refine (mfewR_any vqr vqc vqa vqn vqz yy.Q wc0 (HL.out wc0 DF).q).mono ?_
        rintro e wc1 ⟨yqg, yqn, yqz, rfl, hnq, FF, EM⟩
        rw [show matV vqr vqc (some ⟨yqg, 0, none⟩) yqn yqz = .agg #[.int .i64 vqr, .int .i64 vqc, .slice (some ⟨yqg, 0, none⟩) yqn yqz] from rfl]
        have Eq : FR wc1 w.heap.size ⟨some ⟨yqg, 0, none⟩, yqn, yqz⟩ yqn (yy.Q.take 2000) := ⟨yqg, rfl, rfl, FF.mono DF.size⟩
        clear FF
        replace Ef := Ef.below EM
        replace XB := XB.below EM
        replace XG := XG.below EM
        replace DF := below_then DF EM
        replace DC := below_then DC EM
        clear EM
        go_wp2_with fail
        refine hKc.out _ _ (fun _ _ => ⟨XB, XG⟩) ?_
        clear hKc Kc
        refine wpLate_ready (rs := [10]) (by kernel_rfl) (by simp) ?_
        refine wpLate_cons rfl (fun Kc hKc => ?_) wpLate_nil
        simp only [List.getElem_toArray, List.getElem_cons_succ, List.getElem_cons_zero]
        rw [if_pos (by rfl)]
        go_wp2_with fail
        refine (mfewR_any vkr vkc vka vkn vkz yy.K wc1 (HL.out wc1 DF).k).mono ?_
        rintro e wc2 ⟨ykg, ykn, ykz, rfl, hnk, FF, EM⟩
        rw [show matV vkr vkc (some ⟨ykg, 0, none⟩) ykn ykz = .agg #[.int .i64 vkr, .int .i64 vkc, .slice (some ⟨ykg, 0, none⟩) ykn ykz] from rfl]
        have Ek : FR wc2 w.heap.size ⟨some ⟨ykg, 0, none⟩, ykn, ykz⟩ ykn (yy.K.take 2000) := ⟨ykg, rfl, rfl, FF.mono DF.size⟩
        clear FF
        replace Ef := Ef.below EM
        replace Eq := Eq.below EM
        replace XB := XB.below EM
        replace XG := XG.below EM
        replace DF := below_then DF EM
        replace DC := below_then DC EM
        clear EM
        go_wp2_with fail
        refine hKc.out _ _ (fun _ _ => ⟨XB, XG⟩) ?_
        clear hKc Kc
        refine wpLate_ready (rs := [13]) (by kernel_rfl) (by simp) ?_
        refine wpLate_cons rfl (fun Kc hKc => ?_) wpLate_nil
        simp only [List.getElem_toArray, List.getElem_cons_succ, List.getElem_cons_zero]
        rw [if_pos (by rfl)]
        go_wp2_with fail
        refine (mfewR_any vvr vvc vva vvn vvz yy.V wc2 (HL.out wc2 DF).v).mono ?_
        rintro e wc3 ⟨yvg, yvn, yvz, rfl, hnv, FF, EM⟩
        rw [show matV vvr vvc (some ⟨yvg, 0, none⟩) yvn yvz = .agg #[.int .i64 vvr, .int .i64 vvc, .slice (some ⟨yvg, 0, none⟩) yvn yvz] from rfl]
        have Ev : FR wc3 w.heap.size ⟨some ⟨yvg, 0, none⟩, yvn, yvz⟩ yvn (yy.V.take 2000) := ⟨yvg, rfl, rfl, FF.mono DF.size⟩
        clear FF
        replace Ef := Ef.below EM
        replace Eq := Eq.below EM
        replace Ek := Ek.below EM
        replace XB := XB.below EM
        replace XG := XG.below EM
        replace DF := below_then DF EM
        replace DC := below_then DC EM
        clear EM
        go_wp2_with fail
        refine hKc.out _ _ (fun _ _ => ⟨XB, XG⟩) ?_
        clear hKc Kc
        refine wpLate_ready (rs := [16]) (by kernel_rfl) (by simp) ?_
        refine wpLate_cons rfl (fun Kc hKc => ?_) wpLate_nil
        simp only [List.getElem_toArray, List.getElem_cons_succ, List.getElem_cons_zero]
        rw [if_pos (by rfl)]
        go_wp2_with fail
        refine (mfewR_any vor voc voa von voz yy.O wc3 (HL.out wc3 DF).o).mono ?_
        rintro e wc4 ⟨yog, yon, yoz, rfl, hno, FF, EM⟩
        rw [show matV vor voc (some ⟨yog, 0, none⟩) yon yoz = .agg #[.int .i64 vor, .int .i64 voc, .slice (some ⟨yog, 0, none⟩) yon yoz] from rfl]
        have Eo : FR wc4 w.heap.size ⟨some ⟨yog, 0, none⟩, yon, yoz⟩ yon (yy.O.take 2000) := ⟨yog, rfl, rfl, FF.mono DF.size⟩
        clear FF
        replace Ef := Ef.below EM
        replace Eq := Eq.below EM
        replace Ek := Ek.below EM
        replace Ev := Ev.below EM
        replace XB := XB.below EM
        replace XG := XG.below EM
        replace DF := below_then DF EM
        replace DC := below_then DC EM
        clear EM
        go_wp2_with fail
        refine hKc.out _ _ (fun _ _ => ⟨XB, XG⟩) ?_
        clear hKc Kc
        refine wpLate_ready (rs := [19]) (by kernel_rfl) (by simp) ?_
        refine wpLate_cons rfl (fun Kc hKc => ?_) wpLate_nil
        simp only [List.getElem_toArray, List.getElem_cons_succ, List.getElem_cons_zero]
        rw [if_pos (by rfl)]
        go_wp2_with fail
        refine (fewR_any vsa vsn vsz yy.S 100 100 wc4 rfl (HL.out wc4 DF).s (by omega)).mono ?_
        rintro e wc5 ⟨ysg, ysn, ysz, rfl, hns, FF, EM⟩
        have Es : FR wc5 w.heap.size ⟨some ⟨ysg, 0, none⟩, ysn, ysz⟩ ysn (yy.S.take 100) := ⟨ysg, rfl, rfl, FF.mono DF.size⟩
        clear FF
        replace Ef := Ef.below EM
        replace Eq := Eq.below EM
        replace Ek := Ek.below EM
        replace Ev := Ev.below EM
        replace Eo := Eo.below EM
        replace XB := XB.below EM
        replace XG := XG.below EM
        replace DF := below_then DF EM
        replace DC := below_then DC EM
        clear EM
        go_wp2_with fail
        refine hKc.out _ _ (fun _ _ => ⟨XB, XG⟩) ?_
        clear hKc Kc
        refine wpLate_ready (rs := [22]) (by kernel_rfl) (by simp) ?_
        refine wpLate_cons rfl (fun Kc hKc => ?_) wpLate_nil
        simp only [List.getElem_toArray, List.getElem_cons_succ, List.getElem_cons_zero]
        rw [if_pos (by rfl)]
        go_wp2_with fail
        refine (mfewR_any vur vuc vua vun vuz yy.U wc5 (HL.out wc5 DF).u).mono ?_
        rintro e wc6 ⟨yug, yun, yuz, rfl, hnu, FF, EM⟩
        rw [show matV vur vuc (some ⟨yug, 0, none⟩) yun yuz = .agg #[.int .i64 vur, .int .i64 vuc, .slice (some ⟨yug, 0, none⟩) yun yuz] from rfl]
        have Eu : FR wc6 w.heap.size ⟨some ⟨yug, 0, none⟩, yun, yuz⟩ yun (yy.U.take 2000) := ⟨yug, rfl, rfl, FF.mono DF.size⟩
        clear FF
        replace Ef := Ef.below EM
        replace Eq := Eq.below EM
        replace Ek := Ek.below EM
        replace Ev := Ev.below EM
        replace Eo := Eo.below EM
        replace Es := Es.below EM
        replace XB := XB.below EM
        replace XG := XG.below EM
        replace DF := below_then DF EM
        replace DC := below_then DC EM
        clear EM
        go_wp2_with fail
        refine hKc.out _ _ (fun _ _ => ⟨XB, XG⟩) ?_
        clear hKc Kc
        refine wpLate_ready (rs := [25]) (by kernel_rfl) (by simp) ?_
        refine wpLate_cons rfl (fun Kc hKc => ?_) wpLate_nil
        simp only [List.getElem_toArray, List.getElem_cons_succ, List.getElem_cons_zero]
        rw [if_pos (by rfl)]
        go_wp2_with fail
        refine (mfewR_any vdr vdc vda vdn vdz yy.N wc6 (HL.out wc6 DF).d).mono ?_
        rintro e wc7 ⟨ydg, ydn, ydz, rfl, hnd, FF, EM⟩
        rw [show matV vdr vdc (some ⟨ydg, 0, none⟩) ydn ydz = .agg #[.int .i64 vdr, .int .i64 vdc, .slice (some ⟨ydg, 0, none⟩) ydn ydz] from rfl]
        have Ed : FR wc7 w.heap.size ⟨some ⟨ydg, 0, none⟩, ydn, ydz⟩ ydn (yy.N.take 2000) := ⟨ydg, rfl, rfl, FF.mono DF.size⟩
        clear FF
        replace Ef := Ef.below EM
        replace Eq := Eq.below EM
        replace Ek := Ek.below EM
        replace Ev := Ev.below EM
        replace Eo := Eo.below EM
        replace Es := Es.below EM
        replace Eu := Eu.below EM
        replace XB := XB.below EM
        replace XG := XG.below EM
        replace DF := below_then DF EM
        replace DC := below_then DC EM
        clear EM
        go_wp2_with fail
        refine hKc.out _ _ (fun _ _ => ⟨XB, XG⟩) ?_
        clear hKc Kc
        refine wpLate_pure (i := 26) (v := (.agg #[.slice (some ⟨yfg, 0, none⟩) yfn yfz, .int .i64 vqr, .int .i64 vqc, .slice (some ⟨yqg, 0, none⟩) yqn yqz, .int .i64 vkr, .int .i64 vkc, .slice (some ⟨ykg, 0, none⟩) ykn ykz, .int .i64 vvr, .int .i64 vvc, .slice (some ⟨yvg, 0, none⟩) yvn yvz, .int .i64 vor, .int .i64 voc, .slice (some ⟨yog, 0, none⟩) yon yoz, .slice (some ⟨ysg, 0, none⟩) ysn ysz, .int .i64 vur, .int .i64 vuc, .slice (some ⟨yug, 0, none⟩) yun yuz, .int .i64 vdr, .int .i64 vdc, .slice (some ⟨ydg, 0, none⟩) ydn ydz])) rfl (by decide) (by kernel_rfl) (by kernel_rfl) (by kernel_rfl) (fun _ _ _ h => h) (Or.inl ⟨by rfl, ?_⟩) (fun _ => ⟨XB, XG⟩) ?_
        · intro w' _
          go_simp
        simp only [List.getElem_toArray, List.getElem_cons_succ, List.getElem_cons_zero, Act.put, List.setIfInBounds_toArray, List.set_cons_zero, List.set_cons_succ]
        refine wpLate_ready (rs := [27]) (by kernel_rfl) (by simp) ?_
        refine wpLate_cons rfl (fun Kc hKc => ?_) wpLate_nil
        simp only [List.getElem_toArray, List.getElem_cons_succ, List.getElem_cons_zero]
        rw [if_pos (by rfl)]
        have CN := blk_new wc7 61 #[.slice (some ⟨yfg, 0, none⟩) yfn yfz, .int .i64 vqr, .int .i64 vqc, .slice (some ⟨yqg, 0, none⟩) yqn yqz, .int .i64 vkr, .int .i64 vkc, .slice (some ⟨ykg, 0, none⟩) ykn ykz, .int .i64 vvr, .int .i64 vvc, .slice (some ⟨yvg, 0, none⟩) yvn yvz, .int .i64 vor, .int .i64 voc, .slice (some ⟨yog, 0, none⟩) yon yoz, .slice (some ⟨ysg, 0, none⟩) ysn ysz, .int .i64 vur, .int .i64 vuc, .slice (some ⟨yug, 0, none⟩) yun yuz, .int .i64 vdr, .int .i64 vdc, .slice (some ⟨ydg, 0, none⟩) ydn ydz]
        have EM : Below wc7.heap.size wc7 (wc7.alloc (.cells #[.slice (some ⟨yfg, 0, none⟩) yfn yfz, .int .i64 vqr, .int .i64 vqc, .slice (some ⟨yqg, 0, none⟩) yqn yqz, .int .i64 vkr, .int .i64 vkc, .slice (some ⟨ykg, 0, none⟩) ykn ykz, .int .i64 vvr, .int .i64 vvc, .slice (some ⟨yvg, 0, none⟩) yvn yvz, .int .i64 vor, .int .i64 voc, .slice (some ⟨yog, 0, none⟩) yon yoz, .slice (some ⟨ysg, 0, none⟩) ysn ysz, .int .i64 vur, .int .i64 vuc, .slice (some ⟨yug, 0, none⟩) yun yuz, .int .i64 vdr, .int .i64 vdc, .slice (some ⟨ydg, 0, none⟩) ydn ydz] 61)) := (Below.refl _ _).alloc (Nat.le_refl _) _
        generalize hwn : wc7.alloc (.cells #[.slice (some ⟨yfg, 0, none⟩) yfn yfz, .int .i64 vqr, .int .i64 vqc, .slice (some ⟨yqg, 0, none⟩) yqn yqz, .int .i64 vkr, .int .i64 vkc, .slice (some ⟨ykg, 0, none⟩) ykn ykz, .int .i64 vvr, .int .i64 vvc, .slice (some ⟨yvg, 0, none⟩) yvn yvz, .int .i64 vor, .int .i64 voc, .slice (some ⟨yog, 0, none⟩) yon yoz, .slice (some ⟨ysg, 0, none⟩) ysn ysz, .int .i64 vur, .int .i64 vuc, .slice (some ⟨yug, 0, none⟩) yun yuz, .int .i64 vdr, .int .i64 vdc, .slice (some ⟨ydg, 0, none⟩) ydn ydz] 61) = wg at *
        go_wp2_with fail
        replace Ef := Ef.below EM
        replace Eq := Eq.below EM
        replace Ek := Ek.below EM
        replace Ev := Ev.below EM
        replace Eo := Eo.below EM
        replace Es := Es.below EM
        replace Eu := Eu.below EM
        replace Ed := Ed.below EM
        replace XB := XB.below EM
        replace XG := XG.below EM
        replace DF := below_then DF EM
        replace DC := below_then DC EM
        clear EM hwn
        refine hKc.out _ _ (fun _ _ => ⟨XB, XG⟩) ?_
        clear hKc Kc
        have zS := DF.size
        have BTN : BT wg w.heap.size ⟨⟨vfa, vfn, vfz⟩, ⟨vqr, vqc, ⟨vqa, vqn, vqz⟩⟩, ⟨vkr, vkc, ⟨vka, vkn, vkz⟩⟩, ⟨vvr, vvc, ⟨vva, vvn, vvz⟩⟩, ⟨vor, voc, ⟨voa, von, voz⟩⟩, ⟨vsa, vsn, vsz⟩, ⟨vur, vuc, ⟨vua, vun, vuz⟩⟩, ⟨vdr, vdc, ⟨vda, vdn, vdz⟩⟩⟩ ⟨⟨some ⟨yfg, 0, none⟩, yfn, yfz⟩, ⟨vqr, vqc, ⟨some ⟨yqg, 0, none⟩, yqn, yqz⟩⟩, ⟨vkr, vkc, ⟨some ⟨ykg, 0, none⟩, ykn, ykz⟩⟩, ⟨vvr, vvc, ⟨some ⟨yvg, 0, none⟩, yvn, yvz⟩⟩, ⟨vor, voc, ⟨some ⟨yog, 0, none⟩, yon, yoz⟩⟩, ⟨some ⟨ysg, 0, none⟩, ysn, ysz⟩, ⟨vur, vuc, ⟨some ⟨yug, 0, none⟩, yun, yuz⟩⟩, ⟨vdr, vdc, ⟨some ⟨ydg, 0, none⟩, ydn, ydz⟩⟩⟩ (cutL 100 yy) := ⟨Ef, Eq, Ek, Ev, Eo, Es, Eu, Ed, ⟨rfl, rfl⟩, ⟨rfl, rfl⟩, ⟨rfl, rfl⟩, ⟨rfl, rfl⟩, ⟨rfl, rfl⟩, ⟨rfl, rfl⟩⟩
        have yok : Bk.Ok ⟨⟨some ⟨yfg, 0, none⟩, yfn, yfz⟩, ⟨vqr, vqc, ⟨some ⟨yqg, 0, none⟩, yqn, yqz⟩⟩, ⟨vkr, vkc, ⟨some ⟨ykg, 0, none⟩, ykn, ykz⟩⟩, ⟨vvr, vvc, ⟨some ⟨yvg, 0, none⟩, yvn, yvz⟩⟩, ⟨vor, voc, ⟨some ⟨yog, 0, none⟩, yon, yoz⟩⟩, ⟨some ⟨ysg, 0, none⟩, ysn, ysz⟩, ⟨vur, vuc, ⟨some ⟨yug, 0, none⟩, yun, yuz⟩⟩, ⟨vdr, vdc, ⟨some ⟨ydg, 0, none⟩, ydn, ydz⟩⟩⟩ := ⟨by show yfn ≤ _; omega, ⟨HOK.out.q.r, HOK.out.q.c⟩, ⟨HOK.out.k.r, HOK.out.k.c⟩, ⟨HOK.out.v.r, HOK.out.v.c⟩, ⟨HOK.out.o.r, HOK.out.o.c⟩, by show ysn ≤ _; omega, ⟨HOK.out.u.r, HOK.out.u.c⟩, ⟨HOK.out.d.r, HOK.out.d.c⟩⟩
        clear Ef Eq Ek Ev Eo Es Eu Ed
        have OB2 := OB.below DC
        have XT2 := XT.map (fun h => h.below DC)
        have G12 := G1.below DC
        have G22 := G2.below DC
        have G32 := G3.below DC
        have X02 := X0.below DC
        have X12 := X1.below DC
        refine wpLate_ready (rs := [28]) (by kernel_rfl) (by simp) ?_
        refine wpLate_cons rfl (fun Kc hKc => ?_) wpLate_nil
        simp only [List.getElem_toArray, List.getElem_cons_succ, List.getElem_cons_zero]
        rw [if_pos (by rfl)]
        refine wp_append_blockR _ _ rfl w.heap.size S xs rfl (by exact OB2) wc7.heap.size ⟨⟨some ⟨yfg, 0, none⟩, yfn, yfz⟩, ⟨vqr, vqc, ⟨some ⟨yqg, 0, none⟩, yqn, yqz⟩⟩, ⟨vkr, vkc, ⟨some ⟨ykg, 0, none⟩, ykn, ykz⟩⟩, ⟨vvr, vvc, ⟨some ⟨yvg, 0, none⟩, yvn, yvz⟩⟩, ⟨vor, voc, ⟨some ⟨yog, 0, none⟩, yon, yoz⟩⟩, ⟨some ⟨ysg, 0, none⟩, ysn, ysz⟩, ⟨vur, vuc, ⟨some ⟨yug, 0, none⟩, yun, yuz⟩⟩, ⟨vdr, vdc, ⟨some ⟨ydg, 0, none⟩, ydn, ydz⟩⟩⟩ rfl (by exact CN) yok (by omega) (by omega) ?_
        intro S2 wh hS2 OB3 BH hk
        obtain ⟨s2a, s2n, s2c⟩ := S2
        simp only at hS2
        obtain rfl : s2n = k + 1 := by omega
        clear hS2
        have XT3 := XT2.map (fun h => h.typeR hk)
        have BN3 := BTN.typeR hk
        have G13 := G12.type hk
        have G23 := G22.type hk
        have G33 := G32.type hk
        have X03 := X02.of_block (hk _ _ _ X02 (by decide))
        have X13 := X12.of_block (hk _ _ _ X12 (by decide))
        have XB3 := XB.of_block (hk _ _ _ XB (by decide))
        have XG3 := XG.of_block (hk _ _ _ XG (by decide))
        have DH := DF.trans BH
        clear hk OB2 XT2 BTN G12 G22 G32 X02 X12 XB XG CN BH
        refine hKc.out _ _ (fun _ _ => ⟨XB3, XG3⟩) ?_
        clear hKc Kc
        rw [show Sl.v ⟨s2a, k + 1, s2c⟩ = .slice s2a (k + 1) s2c from rfl]
        refine wpLate_pure (i := 29) (v := (.pointer (some ⟨gA, 3, none⟩))) rfl (by decide) (by kernel_rfl) (by kernel_rfl) (by kernel_rfl) (fun _ _ _ h => h) (Or.inl ⟨by rfl, ?_⟩) (fun _ => ⟨XB3, XG3⟩) ?_
        · intro w' _
          go_simp
        simp only [List.getElem_toArray, List.getElem_cons_succ, List.getElem_cons_zero, Act.put, List.setIfInBounds_toArray, List.set_cons_zero, List.set_cons_succ]
        refine wpLate_ready (rs := [30]) (by kernel_rfl) (by simp) ?_
        refine wpLate_cons rfl (fun Kc hKc => ?_) wpLate_nil
        simp only [List.getElem_toArray, List.getElem_cons_succ, List.getElem_cons_zero]
        rw [if_pos (by rfl)]
        have fz := XG3.frozen 3
        have c3 : wh.cell? ⟨gA, 3, none⟩ = some S.v := XG3.cell 3 rfl
        go_wp2_with fail
        refine hKc.out _ _ (fun hne _ => absurd rfl hne) ?_
        clear hKc Kc fz c3
        have so : ∀ b, b ≠ gA → (wh.setCell ⟨gA, 3, none⟩ (.slice s2a (k + 1) s2c)).heap[b]? = wh.heap[b]? := set1_other
        have XG4 : Blk (wh.setCell ⟨gA, 3, none⟩ (.slice s2a (k + 1) s2c)) gA 38 #[.int .i64 er, .int .i64 ec, .slice (some ⟨g1, 0, none⟩) n1 k1, .slice s2a (k + 1) s2c, .slice (some ⟨g2, 0, none⟩) n2 k2, .int .i64 gr, .int .i64 gc, .slice (some ⟨g3, 0, none⟩) n3 k3] := XG3.set 3 (.slice s2a (k + 1) s2c)
        have OB4 := OB3.keep XG3 (by decide) so
        have XT4 := XT3.map (fun h => h.keep XG3 (by decide) so)
        have BN4 := BN3.keep XG3 (by decide) so
        have G14 := G13.keep XG3 (by decide) so
        have G24 := G23.keep XG3 (by decide) so
        have G34 := G33.keep XG3 (by decide) so
        have X04 := X03.of_block (so _ (by omega))
        have X14 := X13.of_block (so _ (by omega))
        have D4 : Below w.heap.size w (wh.setCell ⟨gA, 3, none⟩ (.slice s2a (k + 1) s2c)) := DH.setCell (p := ⟨gA, 3, none⟩) (by show w.heap.size ≤ gA; omega) _
        generalize wh.setCell ⟨gA, 3, none⟩ (.slice s2a (k + 1) s2c) = w4 at *
        clear so XG3 OB3 XT3 BN3 G13 G23 G33 X03 X13 XB3 DH
        refine wpLate_done (by kernel_rfl) ?_ _
        have XT5 := XT4.snoc HBX.out HYY.out BN4
        go_wp2_with fail
        go_roundg (bn - (k + 1))
        case measure => omega
        case rel =>
          exact ⟨k + 1, ⟨s2a, k + 1, s2c⟩, _, by omega, by omega, rfl, by go_num, rfl, X04, X14, XG4, OB4, XT5, G14, G24, G34, D4⟩
      · have e5 : k = min 5 bn := by omega
        have a3 : wr.cell? ⟨w.heap.size, 3, none⟩ = some (.slice ba bn bz) := X0.cell 3 rfl
        by_cases hb : k < bn
        · have h5 : ¬ (k : Int) < 5 := by omega
          have oneS : Array.all (#[.int .i64 er, .int .i64 ec, .slice (some ⟨g1, 0, none⟩) n1 k1, S.v, .slice (some ⟨g2, 0, none⟩) n2 k2, .int .i64 gr, .int .i64 gc, .slice (some ⟨g3, 0, none⟩) n3 k3] : Array Value) (fun v => v.oneCell') = true := by simp [Value.oneCell', Sl.v]
          go_wp2_with (first | (refine wpList_load_row rfl 38 _ rfl gA rfl 38 _ (0, 0) _ XG Tryz.underlying38 rfl Tryz.infoRW ?_) | (refine wpList_store_row rfl 38 _ _ rfl (w.heap.size + 1) _ rfl rfl 38 _ X1 Tryz.infoRW rfl oneS ?_))
          refine bodyPost_ret (results_cell_row rfl _ _ (w.heap.size + 1) 38 _ _ _ rfl (X1.row _) Tryz.underlying38 rfl Tryz.infoRW) rfl ?_
          have sr : ∀ b, b ≠ w.heap.size + 1 → (wr.setRow (w.heap.size + 1) #[.int .i64 er, .int .i64 ec, .slice (some ⟨g1, 0, none⟩) n1 k1, S.v, .slice (some ⟨g2, 0, none⟩) n2 k2, .int .i64 gr, .int .i64 gc, .slice (some ⟨g3, 0, none⟩) n3 k3]).heap[b]? = wr.heap[b]? := fun b hb => setRow_other _ _ _ _ hb
          refine ⟨⟨⟨er, ec, ⟨some ⟨g1, 0, none⟩, n1, k1⟩⟩, S, ⟨some ⟨g2, 0, none⟩, n2, k2⟩, ⟨gr, gc, ⟨some ⟨g3, 0, none⟩, n3, k3⟩⟩⟩, rfl, ⟨xs, ⟨G1.keep X1 (by decide) sr, ⟨rfl, rfl⟩, G2.keep X1 (by decide) sr, G3.keep X1 (by decide) sr, ⟨rfl, rfl⟩, (OB.keep X1 (by decide) sr).blocks, ?_⟩, OB.keep X1 (by decide) sr⟩, below_setRow DR (by omega) _⟩
          rw [← e5]
          exact XT.map (fun h => h.keep X1 (by decide) sr)
        · have hb2 : ¬ (k : Int) < (bn : Int) := by omega
          have oneS : Array.all (#[.int .i64 er, .int .i64 ec, .slice (some ⟨g1, 0, none⟩) n1 k1, S.v, .slice (some ⟨g2, 0, none⟩) n2 k2, .int .i64 gr, .int .i64 gc, .slice (some ⟨g3, 0, none⟩) n3 k3] : Array Value) (fun v => v.oneCell') = true := by simp [Value.oneCell', Sl.v]
          go_wp2_with (first | (refine wpList_load_row rfl 38 _ rfl gA rfl 38 _ (0, 0) _ XG Tryz.underlying38 rfl Tryz.infoRW ?_) | (refine wpList_store_row rfl 38 _ _ rfl (w.heap.size + 1) _ rfl rfl 38 _ X1 Tryz.infoRW rfl oneS ?_))
          refine bodyPost_ret (results_cell_row rfl _ _ (w.heap.size + 1) 38 _ _ _ rfl (X1.row _) Tryz.underlying38 rfl Tryz.infoRW) rfl ?_
          have sr : ∀ b, b ≠ w.heap.size + 1 → (wr.setRow (w.heap.size + 1) #[.int .i64 er, .int .i64 ec, .slice (some ⟨g1, 0, none⟩) n1 k1, S.v, .slice (some ⟨g2, 0, none⟩) n2 k2, .int .i64 gr, .int .i64 gc, .slice (some ⟨g3, 0, none⟩) n3 k3]).heap[b]? = wr.heap[b]? := fun b hb => setRow_other _ _ _ _ hb
          refine ⟨⟨⟨er, ec, ⟨some ⟨g1, 0, none⟩, n1, k1⟩⟩, S, ⟨some ⟨g2, 0, none⟩, n2, k2⟩, ⟨gr, gc, ⟨some ⟨g3, 0, none⟩, n3, k3⟩⟩⟩, rfl, ⟨xs, ⟨G1.keep X1 (by decide) sr, ⟨rfl, rfl⟩, G2.keep X1 (by decide) sr, G3.keep X1 (by decide) sr, ⟨rfl, rfl⟩, (OB.keep X1 (by decide) sr).blocks, ?_⟩, OB.keep X1 (by decide) sr⟩, below_setRow DR (by omega) _⟩
          rw [← e5]
          exact XT.map (fun h => h.keep X1 (by decide) sr)
/-- Told, without a word on whose row the layers are. -/
theorem told6_any (W : Wt) (bs : List Bk) (M : Mdl) (w : World) (hW : WtR w W bs M) :
   Calls Tryz.prog 4 #[.agg W.cells] w fun e w' => ∃ W' : Wt, e = .returned (.agg W'.cells) ∧ (∃ xs : List Bk, WTold w' w.heap.size 100 (min 5 W.b.n) W W' bs xs M) ∧ Below w.heap.size w w' := by
  refine (told6O_any W bs M w hW).mono ?_
  rintro e w' ⟨W', rfl, ⟨xs, h, _⟩, B⟩
  exact ⟨W', rfl, ⟨xs, h⟩, B⟩
theorem WTold.below {w w' : World} {B n k : Nat} {W W' : Wt} {bs xs : List Bk} {M : Mdl} (h : WTold w B n k W W' bs xs M) (hb : Below w.heap.size w w') : WTold w' B n k W W' bs xs M :=
  ⟨h.e.below hb, h.es, h.l.below hb, h.o.below hb, h.os, h.b.below hb, h.ls.map (fun h => h.below hb)⟩
theorem WTold.keep {w w' : World} {B B' b n k : Nat} {T : TypeId} {cs : Array Value} {W W' : Wt} {bs xs : List Bk} {M : Mdl} (h : WTold w B n k W W' bs xs M) (ho : OwnB w B' W'.b xs) (hb : Blk w b T cs) (h1 : T ≠ 83) (h2 : T ≠ 61) (so : ∀ k, k ≠ b → w'.heap[k]? = w.heap[k]?) : WTold w' B n k W W' bs xs M ∧ OwnB w' B' W'.b xs :=
  ⟨⟨h.e.keep hb h1 so, h.es, h.l.keep hb h1 so, h.o.keep hb h1 so, h.os, (ho.keep hb h2 so).blocks, h.ls.map (fun h => h.keep hb h1 so)⟩, ho.keep hb h2 so⟩
end Go.Proofs.YtmdjlaileakbeaaGreatDoor
