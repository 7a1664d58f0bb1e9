/- Contracts of the program's functions, part 10 of 10: what each call returns and leaves of memory. -/
import Derived.Test.YtlmdjhdlfdandaaDoorPk9
import Derived.Test.YtlmdjhdlfdandaaDoorPk5
import Derived.Test.YtlmdjhdlfdandaaDoorPk3
import Derived.Test.YtlmdjhdlfdandaaDoorPk1
import Derived.LaidMore
import Derived.Lib.LaidTab
import Derived.Stop.Joined
/- The document's model, made from a seed, and the awake check of the laws of layer 8. Written by tools/genraw8.py. -/
namespace Go.Proofs.YtlmdjhdlfdandaaDoor
open Go.ChangeShapes Go.WideShapes Go.ChangeAt Go.RowKit
theorem FR.slAt {w : World} {B : Nat} {s : Sl} {n : Nat} {A : List Int} (h : FR w B s n A) : SlAt w s n A := by
  obtain ⟨g, e, e2, F⟩ := h
  exact ⟨e2, by rw [e]; exact F.arg⟩
theorem FM.mtAt {w : World} {B : Nat} {m : Mt} {r c : Nat} {A : List Int} (h : FM w B m r c (r * c) A) (h1 : 1 ≤ r) (h2 : r ≤ 128) (h3 : 1 ≤ c) (h4 : c ≤ 128) : MtAt w m r c A := by
  obtain ⟨mr, mc, ⟨ao, n, ca⟩⟩ := m
  obtain ⟨e1, e2, ⟨g, e3, e4, F⟩⟩ := h
  simp only at e1 e2 e3 e4 F
  subst e1 e2 e3 e4
  exact ⟨g, 0, _, ca, rfl, h1, h2, h3, h4, rfl, F.fit, F.max, F.rowAt⟩
theorem MadeR.bkAt {w : World} {B seed i D H : Nat} {x : Bk} (h : MadeR w B seed i D H x) (h1 : 1 ≤ D) (h2 : D ≤ 128) (h3 : 1 ≤ H) (h4 : H ≤ 128) : BkAt w D H x (layS seed i D H) :=
  ⟨h.f.slAt, h.q.mtAt h1 h2 h1 h2, h.k.mtAt h1 h2 h1 h2, h.v.mtAt h1 h2 h1 h2, h.o.mtAt h1 h2 h1 h2, h.s.slAt, h.u.mtAt h3 h4 h1 h2, h.d.mtAt h1 h2 h3 h4⟩
theorem rmade_any (V D Hd H L : Nat) (seed : Nat) (w : World) (hf : shapeN V D Hd H L = 0) :
   Calls Tryd.prog 22 #[.agg (cfgC V D Hd H L), .int .u64 (seed : Int)] w fun e w' => ∃ (W : Wt) (bs : List Bk), e = .returned (.agg W.cells) ∧ WtAt w' V D H W bs (mdlS seed V D H L) ∧ bs.length = L ∧ Below w.heap.size w w' := by
  have hk := shape_ok hf
  refine (rmake_any V D Hd H L seed w hf).mono ?_
  rintro e w' ⟨E, S, Ls, O, bs, rfl, hS, OB, MB, hE, hL, hO, B⟩
  have hl : bs.length = L := by rw [OB.len, hS]
  refine ⟨_, bs, rfl, ⟨?_, OB.blocks, by unfold mdlS; simp [hl], fun t x hx => ?_, hL.slAt, ?_⟩, hl, B⟩
  · exact FM.mtAt ⟨rfl, rfl, hE⟩ (by omega) (by omega) (by omega) (by omega)
  · have ht : t < L := by rw [← hl]; exact (List.getElem?_eq_some_iff.1 hx).1
    refine ⟨layS seed (V * D + t * lenB D H) D H, ?_, (MB t x hx).bkAt (by omega) (by omega) (by omega) (by omega)⟩
    unfold mdlS
    simp only [List.getElem?_map, List.getElem?_range ht]
    rfl
  · exact FM.mtAt ⟨rfl, rfl, hO⟩ (by omega) (by omega) (by omega) (by omega)
/-- What is liked behind all tokens. -/
theorem rlikes_full (V D Hd H L n : Nat) (W : Wt) (bs : List Bk) (M : Mdl) (sr sk sv : Sl) (A : List Int) (w : World) (hW : WtAt w V D H W bs M) (hC : DCube w sr (fR M D H Hd L A)) (hn : A.length = n + 1) (h1 : 1 ≤ D) (h2 : D ≤ 5000) :
   Calls Tryd.prog 21 #[.agg W.cells, .agg #[sr.v, sk.v, sv.v]] w fun e w' => ∃ g cap, e = .returned (.slice (some ⟨g, 0, none⟩) V cap) ∧ Fresh w' w.heap.size g V cap (fullX M V D H Hd L A) ∧ Below w.heap.size w w' := by
  have e : fullX M V D H Hd L A = likR M V D (rowOf (rowsL M D H Hd A L) n) := by unfold fullX; rw [hn]; rfl
  have hne : ¬ A.length = 0 := by omega
  rw [e]
  refine rlikes_any V D H n L W bs M sr sk sv (fR M D H Hd L A) (rowsL M D H Hd A L) w hW hC ?_ ?_ ?_ ?_ h1 h2
  · unfold fR; rw [if_neg hne]; simp
  · unfold fR; rw [if_neg hne]; simp
  · rw [rowsL_len, hn]
  · exact rowsL_row M D H Hd A L n (by omega)
theorem make_small8 (w : World) : Calls Tryd.prog 7 #[.agg #[.int .i64 2, .int .i64 1, .int .i64 1, .int .i64 1, .int .i64 1], .int .u64 1] w fun e w' => ∃ W bs, e = .returned (.tuple #[.agg (Wt.cells W), .int .i64 0]) ∧ Good w' 2 1 1 1 1 W bs (mdlS 1 2 1 1 1) ∧ Below w.heap.size w w' := by
  refine (make_any 2 1 1 1 1 1 w (by omega) (by decide)).mono ?_
  rintro e w' ⟨ge, gB, gl, go, rfl, M, B⟩
  obtain ⟨bs, G⟩ := made_good (Hd := 1) M (by decide)
  exact ⟨_, bs, rfl, G, B⟩
theorem iarg_two {w : World} {g : Nat} {x y : Int} (h : Blk w g 3 #[.int .i64 x, .int .i64 y]) (hx : -9223372036854775808 ≤ x ∧ x ≤ 9223372036854775807) (hy : -9223372036854775808 ≤ y ∧ y ≤ 9223372036854775807) : IArg w (some ⟨g, 0, none⟩) 2 2 [x, y] := by
  refine ⟨⟨rfl, by omega, fun k => ?_, fun _ => ⟨g, 0, rfl, fun t ht => ?_⟩⟩, by omega, by omega, fun h => by cases h⟩
  · rcases k with _ | _ | k
    · exact hx
    · exact hy
    · simp [el]
  · rw [Nat.zero_add]
    rcases t with _ | _ | t
    · exact h.cell 0 rfl
    · exact h.cell 1 rfl
    · omega
set_option maxRecDepth 100000 in
set_option maxHeartbeats 4000000 in
theorem raw8_any (w : World) (hT : Tab w) : Calls Tryd.prog 10 #[] w fun e w' => e = .returned (.bool true) ∧ Below w.heap.size w w' := by
  have X0 := blk_new w 23 #[.int .i64 2, .int .i64 1, .int .i64 1, .int .i64 1, .int .i64 1]
  have B0 := below_alloc8 w (.cells #[.int .i64 2, .int .i64 1, .int .i64 1, .int .i64 1, .int .i64 1] 23)
  generalize hw0 : w.alloc (.cells #[.int .i64 2, .int .i64 1, .int .i64 1, .int .i64 1, .int .i64 1] 23) = w0 at *
  have a0 : w0.cell? ⟨w.heap.size, 0, none⟩ = some (.int .i64 2) := X0.cell 0 rfl
  have a1 : w0.cell? ⟨w.heap.size, 1, none⟩ = some (.int .i64 1) := X0.cell 1 rfl
  have a2 : w0.cell? ⟨w.heap.size, 2, none⟩ = some (.int .i64 1) := X0.cell 2 rfl
  have a3 : w0.cell? ⟨w.heap.size, 3, none⟩ = some (.int .i64 1) := X0.cell 3 rfl
  have a4 : w0.cell? ⟨w.heap.size, 4, none⟩ = some (.int .i64 1) := X0.cell 4 rfl
  have HT : Hid (∀ wv, Below w.heap.size w wv → Tab wv) := fun wv hb => hT.next hb
  clear hT
  go_enter Tryd.func10, Tryd.ntmps10
  go_wp2_with fail
  refine (make_small8 _).mono ?_
  rintro e w1 ⟨W, bs, rfl, G1, B1⟩
  replace X0 := X0.below B1
  have D1 := below_then B0 B1
  clear hw0 a0 a1 a2 a3 a4 B0 B1
  obtain ⟨M, hM⟩ : ∃ M, M = mdlS 1 2 1 1 1 := ⟨_, rfl⟩
  have HM : Hid (M = mdlS 1 2 1 1 1) := hM
  rw [← hM] at G1
  clear hM
  have siz : W.cells.size = 8 := rfl
  have one := wt_one W
  have CF := fun (wv : World) (hg : Good wv 2 1 1 1 1 W bs M) (hT : Tab wv) (ao : Option Addr) (ha : IArg wv ao 2 2 [1, 0]) => full_ok 2 1 1 1 1 W bs M ao 2 2 [1, 0] wv hg ha hT (by decide)
  have CN := fun (wv : World) (hg : Good wv 2 1 1 1 1 W bs M) => full_bad 2 1 1 1 1 W bs M none 0 0 [] wv hg (iarg_nil wv) (by decide)
  rw [show promptN ((2 : Nat) : Int) [] = 8 by decide] at CN
  unfold cfgC at CF CN
  generalize hws : W.cells = ws at *
  obtain ⟨XZ, XR, BR, sz⟩ := var3 w1 32 #[.int .i64 0, .int .i64 0, .slice none 0 0, .slice none 0 0, .slice none 0 0, .int .i64 0, .int .i64 0, .slice none 0 0] ws
  generalize hwz : w1.alloc (.cells #[.int .i64 0, .int .i64 0, .slice none 0 0, .slice none 0 0, .slice none 0 0, .int .i64 0, .int .i64 0, .slice none 0 0] 32) = wz at *
  generalize hwy : wz.setRow w1.heap.size ws = wy at *
  clear sz
  replace X0 := X0.below BR
  have D2 := below_then D1 BR
  have G2 := G1.below BR
  have XT := blk_new wy 3 #[.int .i64 1, .int .i64 0]
  have BT := below_alloc8 wy (.cells #[.int .i64 1, .int .i64 0] 3)
  generalize hwt : wy.alloc (.cells #[.int .i64 1, .int .i64 0] 3) = wt at *
  have a0 : wy.cell? ⟨w.heap.size, 0, none⟩ = some (.int .i64 2) := X0.cell 0 rfl
  have a1 : wy.cell? ⟨w.heap.size, 1, none⟩ = some (.int .i64 1) := X0.cell 1 rfl
  have a2 : wy.cell? ⟨w.heap.size, 2, none⟩ = some (.int .i64 1) := X0.cell 2 rfl
  have a3 : wy.cell? ⟨w.heap.size, 3, none⟩ = some (.int .i64 1) := X0.cell 3 rfl
  have a4 : wy.cell? ⟨w.heap.size, 4, none⟩ = some (.int .i64 1) := X0.cell 4 rfl
  have D3 := below_then D2 BT
  go_wp2_with (first
    | (refine wpList_store_row rfl 32 _ _ rfl w1.heap.size ws rfl rfl 32 _ XZ (by rw [siz]; exact Tryd.infoW) (by rw [siz]; rfl) one ?_; rw [hwy])
    | (refine wpList_load_row rfl 32 _ rfl w1.heap.size rfl 32 ws (0, 0) _ XR Tryd.underlying32 rfl (by rw [siz]; exact Tryd.infoW) ?_))
  refine (CF _ (G2.below BT) (HT.out _ D3) _ (iarg_two XT (by omega) (by omega))).mono ?_
  rintro e w4 ⟨gx, gK, gV, rfl, FX, _, _, B4⟩
  obtain ⟨XA, XB, VB, _⟩ := var3 w4 41 #[.slice none 0 0, .slice none 0 0] #[.slice (some ⟨gK, 0, none⟩) 1 1, .slice (some ⟨gV, 0, none⟩) 1 1]
  generalize hwA : w4.alloc (.cells #[.slice none 0 0, .slice none 0 0] 41) = wA at *
  generalize hwB : wA.setRow w4.heap.size #[.slice (some ⟨gK, 0, none⟩) 1 1, .slice (some ⟨gV, 0, none⟩) 1 1] = wB at *
  clear CF
  go_upto_region 4 with (refine wpList_store_row rfl 41 _ _ rfl w4.heap.size _ rfl rfl 41 _ XA Tryd.infoCa rfl (by simp [Value.oneCell']) ?_; rw [hwB])
  replace FX := FX.below VB
  replace X0 := ((X0.below BT).below B4).below VB
  replace XR := ((XR.below BT).below B4).below VB
  have G3 := ((G2.below BT).below B4).below VB
  have D4 := below_then (below_then D3 B4) VB
  have hfx : w.heap.size ≤ wB.heap.size := D4.size
  clear a0 a1 a2 a3 a4 XZ hwz hwy hwt BT BR G1 G2 XT D1 D2 D3 XA XB hwA hwB B4 VB
  have a0 : wB.cell? ⟨w.heap.size, 0, none⟩ = some (.int .i64 2) := X0.cell 0 rfl
  have a1 : wB.cell? ⟨w.heap.size, 1, none⟩ = some (.int .i64 1) := X0.cell 1 rfl
  have a2 : wB.cell? ⟨w.heap.size, 2, none⟩ = some (.int .i64 1) := X0.cell 2 rfl
  have a3 : wB.cell? ⟨w.heap.size, 3, none⟩ = some (.int .i64 1) := X0.cell 3 rfl
  have a4 : wB.cell? ⟨w.heap.size, 4, none⟩ = some (.int .i64 1) := X0.cell 4 rfl
  go_wp2_with (refine wpList_load_row rfl 32 _ rfl w1.heap.size rfl 32 ws (0, 0) _ XR Tryd.underlying32 rfl (by rw [siz]; exact Tryd.infoW) ?_)
  refine (CN _ G3).mono ?_
  rintro e w5 ⟨rfl, B5⟩
  obtain ⟨XA, XB, VB, _⟩ := var3 w5 41 #[.slice none 0 0, .slice none 0 0] #[.slice none 0 0, .slice none 0 0]
  generalize hwA : w5.alloc (.cells #[.slice none 0 0, .slice none 0 0] 41) = wA at *
  generalize hwB : wA.setRow w5.heap.size #[.slice none 0 0, .slice none 0 0] = wC at *
  go_upto_region 5 with (refine wpList_store_row rfl 41 _ _ rfl w5.heap.size _ rfl rfl 41 _ XA Tryd.infoCa rfl (by simp [Value.oneCell']) ?_; rw [hwB])
  have DC := below_then B5 VB
  replace FX := FX.below DC
  replace X0 := X0.below DC
  have D5 := below_then D4 DC
  clear a0 a1 a2 a3 a4 XA XB hwA hwB B5 VB DC CN XR G3 D4 hfx
  have E0 : Below w.heap.size w wC.drew := D5.drew
  have XE := X0.below ((Below.refl _ wC).drew)
  have FE := FX.drew
  have RM := fun (wv : World) => rmade_any 2 1 1 1 1 1 wv (by decide)
  have RF := fun (wv : World) (W : Wt) (bs : List Bk) (ao : Option Addr) (hW : WtAt wv 2 1 1 W bs M) (hb : bs.length = 1) (ha : IArg wv ao 2 2 [1, 0]) => rfull_any 2 1 1 1 1 2 2 ao W bs M [1, 0] wv hW hb ha (by intro k hk; rcases k with _ | _ | k; exact ⟨by decide, by decide⟩; exact ⟨by decide, by decide⟩; omega) (by omega) (by omega) (by omega) (by omega) (by omega) (by decide) (by omega) (by omega) (by omega)
  have RL := fun (wv : World) (W : Wt) (bs : List Bk) (sr sk sv : Sl) (hW : WtAt wv 2 1 1 W bs M) (hC : DCube wv sr (fR M 1 1 1 1 [1, 0])) => rlikes_full 2 1 1 1 1 1 W bs M sr sk sv [1, 0] wv hW hC rfl (by omega) (by omega)
  rw [← HM.out] at RM
  unfold cfgC at RM RF
  clear X0 FX D5
  refine wp_region_held_drew (S := fun w' => Blk w' w.heap.size 23 #[.int .i64 2, .int .i64 1, .int .i64 1, .int .i64 1, .int .i64 1]) (by kernel_rfl) (XE) (fun hHeld => ?_)
  generalize wC.drew = wd at *
  refine wpAnyH_take (i := 0) (v := (.int .i64 0)) rfl (by kernel_rfl) (by kernel_rfl) (by kernel_rfl) (fun _ _ _ h => h) (Or.inl ⟨by rfl, ?_⟩) (by assumption) ?_
  · intro w' hSw
    go_simp
  simp only [List.getElem_toArray, List.getElem_cons_zero, Act.put, List.setIfInBounds_toArray, List.set_cons_zero, List.set_cons_succ]
  refine wpAnyH_take (i := 1) (v := (.bool true)) rfl (by kernel_rfl) (by kernel_rfl) (by kernel_rfl) (fun _ _ _ h => h) (Or.inl ⟨by rfl, ?_⟩) (by assumption) ?_
  · intro w' hSw
    go_simp
  simp only [List.getElem_toArray, List.getElem_cons_succ, List.getElem_cons_zero, Act.put, List.setIfInBounds_toArray, List.set_cons_zero, List.set_cons_succ]
  refine wpAnyH_take (i := 2) (v := (.bool true)) rfl (by kernel_rfl) (by kernel_rfl) (by kernel_rfl) (fun _ _ _ h => h) (Or.inl ⟨by rfl, ?_⟩) (by assumption) ?_
  · intro w' hSw
    go_simp
  simp only [List.getElem_toArray, List.getElem_cons_succ, List.getElem_cons_zero, Act.put, List.setIfInBounds_toArray, List.set_cons_zero, List.set_cons_succ]
  refine wpAnyH_take (i := 3) (v := (.int .i64 0)) rfl (by kernel_rfl) (by kernel_rfl) (by kernel_rfl) (fun _ _ _ h => h) (Or.inl ⟨by rfl, ?_⟩) (by assumption) ?_
  · intro w' hSw
    go_simp
  simp only [List.getElem_toArray, List.getElem_cons_succ, List.getElem_cons_zero, Act.put, List.setIfInBounds_toArray, List.set_cons_zero, List.set_cons_succ]
  refine wpAnyH_take (i := 4) (v := (.bool true)) rfl (by kernel_rfl) (by kernel_rfl) (by kernel_rfl) (fun _ _ _ h => h) (Or.inl ⟨by rfl, ?_⟩) (by assumption) ?_
  · intro w' hSw
    go_simp
  simp only [List.getElem_toArray, List.getElem_cons_succ, List.getElem_cons_zero, Act.put, List.setIfInBounds_toArray, List.set_cons_zero, List.set_cons_succ]
  refine wpAnyH_take (i := 5) (v := (.bool true)) rfl (by kernel_rfl) (by kernel_rfl) (by kernel_rfl) (fun _ _ _ h => h) (Or.inl ⟨by rfl, ?_⟩) (by assumption) ?_
  · intro w' hSw
    go_simp
  simp only [List.getElem_toArray, List.getElem_cons_succ, List.getElem_cons_zero, Act.put, List.setIfInBounds_toArray, List.set_cons_zero, List.set_cons_succ]
  refine wpAnyH_take (i := 6) (v := (.bool true)) rfl (by kernel_rfl) (by kernel_rfl) (by kernel_rfl) (fun _ _ _ h => h) (Or.inl ⟨by rfl, ?_⟩) (by assumption) ?_
  · intro w' hSw
    go_simp
  simp only [List.getElem_toArray, List.getElem_cons_succ, List.getElem_cons_zero, Act.put, List.setIfInBounds_toArray, List.set_cons_zero, List.set_cons_succ]
  refine wpAnyH_take (i := 7) (v := (.int .i64 8)) rfl (by kernel_rfl) (by kernel_rfl) (by kernel_rfl) (fun _ _ _ h => h) (Or.inl ⟨by rfl, ?_⟩) (by assumption) ?_
  · intro w' hSw
    go_simp
  simp only [List.getElem_toArray, List.getElem_cons_succ, List.getElem_cons_zero, Act.put, List.setIfInBounds_toArray, List.set_cons_zero, List.set_cons_succ]
  refine wpAnyH_take (i := 8) (v := (.bool true)) rfl (by kernel_rfl) (by kernel_rfl) (by kernel_rfl) (fun _ _ _ h => h) (Or.inl ⟨by rfl, ?_⟩) (by assumption) ?_
  · intro w' hSw
    go_simp
  simp only [List.getElem_toArray, List.getElem_cons_succ, List.getElem_cons_zero, Act.put, List.setIfInBounds_toArray, List.set_cons_zero, List.set_cons_succ]
  refine wpAnyH_take (i := 9) (v := (.bool true)) rfl (by kernel_rfl) (by kernel_rfl) (by kernel_rfl) (fun _ _ _ h => h) (Or.inl ⟨by rfl, ?_⟩) (by assumption) ?_
  · intro w' hSw
    go_simp
  simp only [List.getElem_toArray, List.getElem_cons_succ, List.getElem_cons_zero, Act.put, List.setIfInBounds_toArray, List.set_cons_zero, List.set_cons_succ]
  refine wpAnyH_take (i := 10) (v := (.bool true)) rfl (by kernel_rfl) (by kernel_rfl) (by kernel_rfl) (fun _ _ _ h => h) (Or.inl ⟨by rfl, ?_⟩) (by assumption) ?_
  · intro w' hSw
    go_simp
  simp only [List.getElem_toArray, List.getElem_cons_succ, List.getElem_cons_zero, Act.put, List.setIfInBounds_toArray, List.set_cons_zero, List.set_cons_succ]
  refine wpAnyH_take (i := 11) (v := (.slice (some ⟨gx, 0, none⟩) 2 2)) rfl (by kernel_rfl) (by kernel_rfl) (by kernel_rfl) (fun _ _ _ h => h) (Or.inl ⟨by rfl, ?_⟩) (by assumption) ?_
  · intro w' hSw
    go_simp
  simp only [List.getElem_toArray, List.getElem_cons_succ, List.getElem_cons_zero, Act.put, List.setIfInBounds_toArray, List.set_cons_zero, List.set_cons_succ]
  refine wpAnyH_take (i := 12) (v := (.agg #[.int .i64 2, .int .i64 1, .int .i64 1, .int .i64 1, .int .i64 1])) rfl (by kernel_rfl) (by kernel_rfl) (by kernel_rfl) (fun _ _ _ h => h) (Or.inl ⟨by rfl, ?_⟩) (by assumption) ?_
  · intro w' hSw
    have c0 : w'.cell? ⟨w.heap.size, 0, none⟩ = some (.int .i64 2) := hSw.cell 0 rfl
    have c1 : w'.cell? ⟨w.heap.size, 1, none⟩ = some (.int .i64 1) := hSw.cell 1 rfl
    have c2 : w'.cell? ⟨w.heap.size, 2, none⟩ = some (.int .i64 1) := hSw.cell 2 rfl
    have c3 : w'.cell? ⟨w.heap.size, 3, none⟩ = some (.int .i64 1) := hSw.cell 3 rfl
    have c4 : w'.cell? ⟨w.heap.size, 4, none⟩ = some (.int .i64 1) := hSw.cell 4 rfl
    go_simp
  simp only [List.getElem_toArray, List.getElem_cons_succ, List.getElem_cons_zero, Act.put, List.setIfInBounds_toArray, List.set_cons_zero, List.set_cons_succ]
  refine wpAnyH_take (i := 14) (v := (.agg #[.int .i64 2, .int .i64 1, .int .i64 1, .int .i64 1, .int .i64 1])) rfl (by kernel_rfl) (by kernel_rfl) (by kernel_rfl) (fun _ _ _ h => h) (Or.inl ⟨by rfl, ?_⟩) (by assumption) ?_
  · intro w' hSw
    have c0 : w'.cell? ⟨w.heap.size, 0, none⟩ = some (.int .i64 2) := hSw.cell 0 rfl
    have c1 : w'.cell? ⟨w.heap.size, 1, none⟩ = some (.int .i64 1) := hSw.cell 1 rfl
    have c2 : w'.cell? ⟨w.heap.size, 2, none⟩ = some (.int .i64 1) := hSw.cell 2 rfl
    have c3 : w'.cell? ⟨w.heap.size, 3, none⟩ = some (.int .i64 1) := hSw.cell 3 rfl
    have c4 : w'.cell? ⟨w.heap.size, 4, none⟩ = some (.int .i64 1) := hSw.cell 4 rfl
    go_simp
  simp only [List.getElem_toArray, List.getElem_cons_succ, List.getElem_cons_zero, Act.put, List.setIfInBounds_toArray, List.set_cons_zero, List.set_cons_succ]
  refine wpAnyH_take (i := 15) (v := (.agg #[.int .i64 2, .int .i64 1, .int .i64 1, .int .i64 1, .int .i64 1])) rfl (by kernel_rfl) (by kernel_rfl) (by kernel_rfl) (fun _ _ _ h => h) (Or.inl ⟨by rfl, ?_⟩) (by assumption) ?_
  · intro w' hSw
    have c0 : w'.cell? ⟨w.heap.size, 0, none⟩ = some (.int .i64 2) := hSw.cell 0 rfl
    have c1 : w'.cell? ⟨w.heap.size, 1, none⟩ = some (.int .i64 1) := hSw.cell 1 rfl
    have c2 : w'.cell? ⟨w.heap.size, 2, none⟩ = some (.int .i64 1) := hSw.cell 2 rfl
    have c3 : w'.cell? ⟨w.heap.size, 3, none⟩ = some (.int .i64 1) := hSw.cell 3 rfl
    have c4 : w'.cell? ⟨w.heap.size, 4, none⟩ = some (.int .i64 1) := hSw.cell 4 rfl
    go_simp
  simp only [List.getElem_toArray, List.getElem_cons_succ, List.getElem_cons_zero, Act.put, List.setIfInBounds_toArray, List.set_cons_zero, List.set_cons_succ]
  refine wpAnyH_ready (rs := [13, 17]) (by kernel_rfl) (by simp) ?_
  refine AllReadyH.cons rfl (fun Kc hKc => ?_) (AllReadyH.cons rfl (fun Kc hKc => ?_) AllReadyH.nil)
  · simp only [List.getElem_toArray, List.getElem_cons_succ, List.getElem_cons_zero]
    rw [if_pos (by rfl)]
    go_wp2_with fail
    refine (RM _).mono ?_
    rintro e wn1 ⟨W1, bs1, rfl, WA1, hb1, Bn1⟩
    go_wp2_with fail
    have En1 := below_then E0 Bn1
    have Xn1 := XE.below Bn1
    have Fn1 := FE.below Bn1
    refine hKc.out _ _ (Xn1) (fun hHeld => ?_)
    clear hKc Kc
    refine wpAnyH_ready (rs := [16, 17]) (by kernel_rfl) (by simp) ?_
    refine AllReadyH.cons rfl (fun Kc hKc => ?_) (AllReadyH.cons rfl (fun Kc hKc => ?_) AllReadyH.nil)
    · simp only [List.getElem_toArray, List.getElem_cons_succ, List.getElem_cons_zero]
      rw [if_pos (by rfl)]
      go_wp2_with fail
      refine (RM _).mono ?_
      rintro e wn2 ⟨W2, bs2, rfl, WA2, hb2, Bn2⟩
      go_wp2_with fail
      have En2 := below_then En1 Bn2
      have Xn2 := Xn1.below Bn2
      have Fn2 := Fn1.below Bn2
      replace WA1 := WA1.below Bn2
      refine hKc.out _ _ (Xn2) (fun hHeld => ?_)
      clear hKc Kc
      refine wpAnyH_ready (rs := [17]) (by kernel_rfl) (by simp) ?_
      refine AllReadyH.cons rfl (fun Kc hKc => ?_) AllReadyH.nil
      simp only [List.getElem_toArray, List.getElem_cons_succ, List.getElem_cons_zero]
      rw [if_pos (by rfl)]
      go_wp2_with fail
      have XT3 := blk_new wn2 3 #[.int .i64 1, .int .i64 0]
      have Bn3 := below_alloc8 wn2 (.cells #[.int .i64 1, .int .i64 0] 3)
      generalize hwn3 : wn2.alloc (.cells #[.int .i64 1, .int .i64 0] 3) = wn3 at *
      clear hwn3
      have En3 := below_then En2 Bn3
      have Xn3 := Xn2.below Bn3
      have Fn3 := Fn2.below Bn3
      replace WA1 := WA1.below Bn3
      replace WA2 := WA2.below Bn3
      refine hKc.out _ _ (Xn3) (fun hHeld => ?_)
      clear hKc Kc
      refine wpAnyH_ready (rs := [18]) (by kernel_rfl) (by simp) ?_
      refine AllReadyH.cons rfl (fun Kc hKc => ?_) AllReadyH.nil
      simp only [List.getElem_toArray, List.getElem_cons_succ, List.getElem_cons_zero]
      rw [if_pos (by rfl)]
      go_wp2_with fail
      refine (RF _ W2 bs2 _ WA2 hb2 (iarg_two XT3 (by omega) (by omega))).mono ?_
      rintro e wf1 ⟨sr, sk, sv, rfl, C1, _, _, Bf1⟩
      go_wp2_with fail
      refine hKc.out _ _ (Xn3.below Bf1) (fun hHeld => ?_)
      clear hKc Kc
      refine wpAnyH_ready (rs := [19]) (by kernel_rfl) (by simp) ?_
      refine AllReadyH.cons rfl (fun Kc hKc => ?_) AllReadyH.nil
      simp only [List.getElem_toArray, List.getElem_cons_succ, List.getElem_cons_zero]
      rw [if_pos (by rfl)]
      go_wp2_with fail
      refine (RL _ W1 bs1 sr sk sv (WA1.below Bf1) C1).mono ?_
      rintro e wf2 ⟨gl2, cl2, rfl, FL, Bf2⟩
      go_wp2_with fail
      refine hKc.out _ _ ((Xn3.below Bf1).below Bf2) (fun hHeld => ?_)
      clear hKc Kc
      refine wpAnyH_ready (rs := [20]) (by kernel_rfl) (by simp) ?_
      refine AllReadyH.cons rfl (fun Kc hKc => ?_) AllReadyH.nil
      simp only [List.getElem_toArray, List.getElem_cons_succ, List.getElem_cons_zero]
      rw [if_pos (by rfl)]
      go_wp2_with fail
      refine (same_any _ _ 2 _ _ (fullX M 2 1 1 1 1 [1, 0]) _ ((Fn3.below Bf1).below Bf2).rowAt FL.rowAt).mono ?_
      rintro e wf3 ⟨rfl, m3, hm3⟩
      have Bf3 : Below wf2.heap.size wf2 wf3 := (by rw [hm3]; exact below_drewN (Below.refl _ _) m3)
      clear hm3
      go_wp2_with fail
      refine hKc.out _ _ (((Xn3.below Bf1).below Bf2).below Bf3) (fun hHeld => ?_)
      clear hKc Kc
      refine wpAnyH_take (i := 21) (v := (.bool true)) rfl (by kernel_rfl) (by kernel_rfl) (by kernel_rfl) (fun _ _ _ h => h) (Or.inl ⟨by rfl, ?_⟩) (by assumption) ?_
      · intro w' hSw
        go_simp
      simp only [List.getElem_toArray, List.getElem_cons_succ, List.getElem_cons_zero, Act.put, List.setIfInBounds_toArray, List.set_cons_zero, List.set_cons_succ]
      refine wpAnyH_ready (rs := [22]) (by kernel_rfl) (by simp) ?_
      refine AllReadyH.cons rfl (fun Kc hKc => ?_) AllReadyH.nil
      simp only [List.getElem_toArray, List.getElem_cons_succ, List.getElem_cons_zero]
      rw [if_pos (by rfl)]
      go_wp2_with fail
      refine hKc.out _ _ (((Xn3.below Bf1).below Bf2).below Bf3) (fun hHeld => ?_)
      clear hKc Kc
      refine wpAnyH_done (by kernel_rfl) ?_ _
      go_wp2
      go_ret
      exact ⟨rfl, below_then (below_then (below_then En3 Bf1) Bf2) Bf3⟩
    · simp only [List.getElem_toArray, List.getElem_cons_succ, List.getElem_cons_zero]
      rw [if_pos (by rfl)]
      go_wp2_with fail
      have XT4 := blk_new wn1 3 #[.int .i64 1, .int .i64 0]
      have Bn4 := below_alloc8 wn1 (.cells #[.int .i64 1, .int .i64 0] 3)
      generalize hwn4 : wn1.alloc (.cells #[.int .i64 1, .int .i64 0] 3) = wn4 at *
      clear hwn4
      have En4 := below_then En1 Bn4
      have Xn4 := Xn1.below Bn4
      have Fn4 := Fn1.below Bn4
      replace WA1 := WA1.below Bn4
      refine hKc.out _ _ (Xn4) (fun hHeld => ?_)
      clear hKc Kc
      refine wpAnyH_ready (rs := [16]) (by kernel_rfl) (by simp) ?_
      refine AllReadyH.cons rfl (fun Kc hKc => ?_) AllReadyH.nil
      simp only [List.getElem_toArray, List.getElem_cons_succ, List.getElem_cons_zero]
      rw [if_pos (by rfl)]
      go_wp2_with fail
      refine (RM _).mono ?_
      rintro e wn5 ⟨W5, bs5, rfl, WA5, hb5, Bn5⟩
      go_wp2_with fail
      have En5 := below_then En4 Bn5
      have Xn5 := Xn4.below Bn5
      have Fn5 := Fn4.below Bn5
      replace WA1 := WA1.below Bn5
      replace XT4 := XT4.below Bn5
      refine hKc.out _ _ (Xn5) (fun hHeld => ?_)
      clear hKc Kc
      refine wpAnyH_ready (rs := [18]) (by kernel_rfl) (by simp) ?_
      refine AllReadyH.cons rfl (fun Kc hKc => ?_) AllReadyH.nil
      simp only [List.getElem_toArray, List.getElem_cons_succ, List.getElem_cons_zero]
      rw [if_pos (by rfl)]
      go_wp2_with fail
      refine (RF _ W5 bs5 _ WA5 hb5 (iarg_two XT4 (by omega) (by omega))).mono ?_
      rintro e wf1 ⟨sr, sk, sv, rfl, C1, _, _, Bf1⟩
      go_wp2_with fail
      refine hKc.out _ _ (Xn5.below Bf1) (fun hHeld => ?_)
      clear hKc Kc
      refine wpAnyH_ready (rs := [19]) (by kernel_rfl) (by simp) ?_
      refine AllReadyH.cons rfl (fun Kc hKc => ?_) AllReadyH.nil
      simp only [List.getElem_toArray, List.getElem_cons_succ, List.getElem_cons_zero]
      rw [if_pos (by rfl)]
      go_wp2_with fail
      refine (RL _ W1 bs1 sr sk sv (WA1.below Bf1) C1).mono ?_
      rintro e wf2 ⟨gl2, cl2, rfl, FL, Bf2⟩
      go_wp2_with fail
      refine hKc.out _ _ ((Xn5.below Bf1).below Bf2) (fun hHeld => ?_)
      clear hKc Kc
      refine wpAnyH_ready (rs := [20]) (by kernel_rfl) (by simp) ?_
      refine AllReadyH.cons rfl (fun Kc hKc => ?_) AllReadyH.nil
      simp only [List.getElem_toArray, List.getElem_cons_succ, List.getElem_cons_zero]
      rw [if_pos (by rfl)]
      go_wp2_with fail
      refine (same_any _ _ 2 _ _ (fullX M 2 1 1 1 1 [1, 0]) _ ((Fn5.below Bf1).below Bf2).rowAt FL.rowAt).mono ?_
      rintro e wf3 ⟨rfl, m3, hm3⟩
      have Bf3 : Below wf2.heap.size wf2 wf3 := (by rw [hm3]; exact below_drewN (Below.refl _ _) m3)
      clear hm3
      go_wp2_with fail
      refine hKc.out _ _ (((Xn5.below Bf1).below Bf2).below Bf3) (fun hHeld => ?_)
      clear hKc Kc
      refine wpAnyH_take (i := 21) (v := (.bool true)) rfl (by kernel_rfl) (by kernel_rfl) (by kernel_rfl) (fun _ _ _ h => h) (Or.inl ⟨by rfl, ?_⟩) (by assumption) ?_
      · intro w' hSw
        go_simp
      simp only [List.getElem_toArray, List.getElem_cons_succ, List.getElem_cons_zero, Act.put, List.setIfInBounds_toArray, List.set_cons_zero, List.set_cons_succ]
      refine wpAnyH_ready (rs := [22]) (by kernel_rfl) (by simp) ?_
      refine AllReadyH.cons rfl (fun Kc hKc => ?_) AllReadyH.nil
      simp only [List.getElem_toArray, List.getElem_cons_succ, List.getElem_cons_zero]
      rw [if_pos (by rfl)]
      go_wp2_with fail
      refine hKc.out _ _ (((Xn5.below Bf1).below Bf2).below Bf3) (fun hHeld => ?_)
      clear hKc Kc
      refine wpAnyH_done (by kernel_rfl) ?_ _
      go_wp2
      go_ret
      exact ⟨rfl, below_then (below_then (below_then En5 Bf1) Bf2) Bf3⟩
  · simp only [List.getElem_toArray, List.getElem_cons_succ, List.getElem_cons_zero]
    rw [if_pos (by rfl)]
    go_wp2_with fail
    have XT6 := blk_new wd 3 #[.int .i64 1, .int .i64 0]
    have Bn6 := below_alloc8 wd (.cells #[.int .i64 1, .int .i64 0] 3)
    generalize hwn6 : wd.alloc (.cells #[.int .i64 1, .int .i64 0] 3) = wn6 at *
    clear hwn6
    have En6 := below_then E0 Bn6
    have Xn6 := XE.below Bn6
    have Fn6 := FE.below Bn6
    refine hKc.out _ _ (Xn6) (fun hHeld => ?_)
    clear hKc Kc
    refine wpAnyH_ready (rs := [13]) (by kernel_rfl) (by simp) ?_
    refine AllReadyH.cons rfl (fun Kc hKc => ?_) AllReadyH.nil
    simp only [List.getElem_toArray, List.getElem_cons_succ, List.getElem_cons_zero]
    rw [if_pos (by rfl)]
    go_wp2_with fail
    refine (RM _).mono ?_
    rintro e wn7 ⟨W7, bs7, rfl, WA7, hb7, Bn7⟩
    go_wp2_with fail
    have En7 := below_then En6 Bn7
    have Xn7 := Xn6.below Bn7
    have Fn7 := Fn6.below Bn7
    replace XT6 := XT6.below Bn7
    refine hKc.out _ _ (Xn7) (fun hHeld => ?_)
    clear hKc Kc
    refine wpAnyH_ready (rs := [16]) (by kernel_rfl) (by simp) ?_
    refine AllReadyH.cons rfl (fun Kc hKc => ?_) AllReadyH.nil
    simp only [List.getElem_toArray, List.getElem_cons_succ, List.getElem_cons_zero]
    rw [if_pos (by rfl)]
    go_wp2_with fail
    refine (RM _).mono ?_
    rintro e wn8 ⟨W8, bs8, rfl, WA8, hb8, Bn8⟩
    go_wp2_with fail
    have En8 := below_then En7 Bn8
    have Xn8 := Xn7.below Bn8
    have Fn8 := Fn7.below Bn8
    replace WA7 := WA7.below Bn8
    replace XT6 := XT6.below Bn8
    refine hKc.out _ _ (Xn8) (fun hHeld => ?_)
    clear hKc Kc
    refine wpAnyH_ready (rs := [18]) (by kernel_rfl) (by simp) ?_
    refine AllReadyH.cons rfl (fun Kc hKc => ?_) AllReadyH.nil
    simp only [List.getElem_toArray, List.getElem_cons_succ, List.getElem_cons_zero]
    rw [if_pos (by rfl)]
    go_wp2_with fail
    refine (RF _ W8 bs8 _ WA8 hb8 (iarg_two XT6 (by omega) (by omega))).mono ?_
    rintro e wf1 ⟨sr, sk, sv, rfl, C1, _, _, Bf1⟩
    go_wp2_with fail
    refine hKc.out _ _ (Xn8.below Bf1) (fun hHeld => ?_)
    clear hKc Kc
    refine wpAnyH_ready (rs := [19]) (by kernel_rfl) (by simp) ?_
    refine AllReadyH.cons rfl (fun Kc hKc => ?_) AllReadyH.nil
    simp only [List.getElem_toArray, List.getElem_cons_succ, List.getElem_cons_zero]
    rw [if_pos (by rfl)]
    go_wp2_with fail
    refine (RL _ W7 bs7 sr sk sv (WA7.below Bf1) C1).mono ?_
    rintro e wf2 ⟨gl2, cl2, rfl, FL, Bf2⟩
    go_wp2_with fail
    refine hKc.out _ _ ((Xn8.below Bf1).below Bf2) (fun hHeld => ?_)
    clear hKc Kc
    refine wpAnyH_ready (rs := [20]) (by kernel_rfl) (by simp) ?_
    refine AllReadyH.cons rfl (fun Kc hKc => ?_) AllReadyH.nil
    simp only [List.getElem_toArray, List.getElem_cons_succ, List.getElem_cons_zero]
    rw [if_pos (by rfl)]
    go_wp2_with fail
    refine (same_any _ _ 2 _ _ (fullX M 2 1 1 1 1 [1, 0]) _ ((Fn8.below Bf1).below Bf2).rowAt FL.rowAt).mono ?_
    rintro e wf3 ⟨rfl, m3, hm3⟩
    have Bf3 : Below wf2.heap.size wf2 wf3 := (by rw [hm3]; exact below_drewN (Below.refl _ _) m3)
    clear hm3
    go_wp2_with fail
    refine hKc.out _ _ (((Xn8.below Bf1).below Bf2).below Bf3) (fun hHeld => ?_)
    clear hKc Kc
    refine wpAnyH_take (i := 21) (v := (.bool true)) rfl (by kernel_rfl) (by kernel_rfl) (by kernel_rfl) (fun _ _ _ h => h) (Or.inl ⟨by rfl, ?_⟩) (by assumption) ?_
    · intro w' hSw
      go_simp
    simp only [List.getElem_toArray, List.getElem_cons_succ, List.getElem_cons_zero, Act.put, List.setIfInBounds_toArray, List.set_cons_zero, List.set_cons_succ]
    refine wpAnyH_ready (rs := [22]) (by kernel_rfl) (by simp) ?_
    refine AllReadyH.cons rfl (fun Kc hKc => ?_) AllReadyH.nil
    simp only [List.getElem_toArray, List.getElem_cons_succ, List.getElem_cons_zero]
    rw [if_pos (by rfl)]
    go_wp2_with fail
    refine hKc.out _ _ (((Xn8.below Bf1).below Bf2).below Bf3) (fun hHeld => ?_)
    clear hKc Kc
    refine wpAnyH_done (by kernel_rfl) ?_ _
    go_wp2
    go_ret
    exact ⟨rfl, below_then (below_then (below_then En8 Bf1) Bf2) Bf3⟩
end Go.Proofs.YtlmdjhdlfdandaaDoor

/- Small shapes, and rows of tokens that are the same. -/
namespace Go.Proofs.YtlmdjhdlfdandaaDoor
open Go.ChangeShapes Go.WideShapes Go.ChangeAt Go.RowKit
/-- Is a shape a small one? -/
def smallN (D H L : Int) : Int := if 8 < D ∨ 8 < H ∨ 2 < L then 0 else 1
theorem small8_any (V D Hd H L : Int) (w : World) : Calls Tryd.prog 8 #[.agg (cfgC V D Hd H L)] w fun e w' => e = .returned (.int .i64 (smallN D H L)) ∧ Below w.heap.size w w' := by
  have X0 := blk_new w 23 (cfgC V D Hd H L)
  have B0 : Below w.heap.size w (w.alloc (.cells (cfgC V D Hd H L) 23)) := (Below.refl _ _).alloc (Nat.le_refl _) _
  unfold cfgC at *
  generalize hw0 : w.alloc (.cells #[.int .i64 V, .int .i64 D, .int .i64 Hd, .int .i64 H, .int .i64 L] 23) = w0 at *
  have a1 : w0.cell? ⟨w.heap.size, 1, none⟩ = some (.int .i64 D) := X0.cell 1 rfl
  have a3 : w0.cell? ⟨w.heap.size, 3, none⟩ = some (.int .i64 H) := X0.cell 3 rfl
  have a4 : w0.cell? ⟨w.heap.size, 4, none⟩ = some (.int .i64 L) := X0.cell 4 rfl
  have HN : Hid (smallN D H L = if 8 < D ∨ 8 < H ∨ 2 < L then 0 else 1) := rfl
  generalize smallN D H L = res at *
  by_cases h1 : 8 < D
  · have HF : Hid (res = 0) := by show _ = _; rw [HN.out, if_pos (Or.inl h1)]
    clear HN
    go_enter Tryd.func8, Tryd.ntmps8
    go_wp2
    go_ret
    exact ⟨ret_int HF.out.symm, B0⟩
  · by_cases h2 : 8 < H
    · have HF : Hid (res = 0) := by show _ = _; rw [HN.out, if_pos (Or.inr (Or.inl h2))]
      clear HN
      go_enter Tryd.func8, Tryd.ntmps8
      go_wp2
      go_ret
      exact ⟨ret_int HF.out.symm, B0⟩
    · by_cases h3 : 2 < L
      · have HF : Hid (res = 0) := by show _ = _; rw [HN.out, if_pos (Or.inr (Or.inr h3))]
        clear HN
        go_enter Tryd.func8, Tryd.ntmps8
        go_wp2
        go_ret
        exact ⟨ret_int HF.out.symm, B0⟩
      · have HF : Hid (res = 1) := by show _ = _; rw [HN.out, if_neg (by omega)]
        clear HN
        go_enter Tryd.func8, Tryd.ntmps8
        go_wp2
        go_ret
        exact ⟨ret_int HF.out.symm, B0⟩
theorem IArg.drop {w : World} {b o n ca : Nat} {A : List Int} (h : IArg w (some ⟨b, o, none⟩) n ca A) {m : Nat} (hm : m ≤ n) : IRowAt w (some ⟨b, o + m, none⟩) (n - m) (A.drop m) := by
  have hl := h.row.len
  refine ⟨by rw [List.length_drop]; omega, by have := h.row.max; omega, fun k => ?_, fun hn => ?_⟩
  · rw [el_drop]; exact h.row.small _
  · obtain ⟨b', o', e, hc⟩ := h.row.cells (by omega)
    simp only [Option.some.injEq, Addr.mk.injEq, and_true] at e
    obtain ⟨rfl, rfl⟩ := e
    refine ⟨b, o + m, rfl, fun t ht => ?_⟩
    rw [el_drop, Nat.add_assoc]
    exact hc _ (by omega)
end Go.Proofs.YtlmdjhdlfdandaaDoor

/- The table of steps lies in its block, wherever the row's listed variable reads as listed. -/
namespace Go.Proofs.YtlmdjhdlfdandaaDoor
open Go.ChangeShapes Go.WideShapes Go.ChangeAt Go.RowKit
theorem gSteps : Tryd.prog.globalNamed "tiller/curve.steps" = some 0 := by kernel_rfl
theorem tSteps : (Tryd.prog.globals[0]?).map (·.type) = some 127 := by kernel_rfl
theorem cSteps : Tryd.prog.cellsOf 127 = 65 := by kernel_rfl
theorem cNum : Tryd.prog.cellsOf 55 = 1 := by kernel_rfl
theorem tab_of_laid {W : World} (h : laidMetH Tryd.prog [("tiller/curve.steps", Rows.laid_tiller_curve_steps)] W) : Tab W := by
  rw [MakeChecks.laidMetH_plain _ _ _ (by kernel_rfl)] at h
  have h' : laidMet Tryd.prog [("tiller/curve.steps", Lib.tabData .i32 (stp.map fun (n : Nat) => (n : Int)))] W := h
  have ht := Lib.tabIs_of_head gSteps tSteps Tryd.underlying127 Tryd.underlying55 cNum cSteps h'
  unfold Lib.TabIs World.var? at ht
  rw [gSteps] at ht
  simp only [Option.bind_some] at ht
  split at ht
  · rename_i cs t fr hc
    refine ⟨t, fr, ?_⟩
    rw [hc]
    simp only [Option.some.injEq] at ht
    rw [ht]
    simp [tabCells]
  · cases ht
end Go.Proofs.YtlmdjhdlfdandaaDoor

/- An argument that is a row of whole numbers, opened once: nil, empty or not. -/
namespace Go.Proofs.YtlmdjhdlfdandaaDoor
open Go.ChangeShapes Go.WideShapes Go.ChangeAt Go.RowKit
theorem Tryd.cellsInt : Tryd.prog.cellsOf 3 = 1 := by kernel_rfl
theorem viewI_cells {H : Type} {enc : TypeId × Value → H} {W : World} {fuel : Nat} {cs : List Value} {x : DataW H × List MemPlace}
    (hf : DataW.trod enc Tryd.prog W 0 (fun _ => true) true fuel 25 cs = some x) :
    ∃ (a0 : Option Addr) (len cap : Nat) (Z : List Int), cs = [.slice a0 len cap] ∧ IArg W a0 len cap Z := by
  rcases open_ints Tryd.underlying25 Tryd.underlying3 Tryd.cellsInt hf with ⟨hcs, hx⟩ | ⟨a, len', cap', zs, hcs, _, hl, hm, hz, hx, hcell, hwz⟩
  · exact ⟨none, 0, 0, [], hcs, iarg_nil _⟩
  · simp only [if_true] at hz
    unfold maxLen at hm
    refine ⟨some a, len', cap', zs.take len', hcs, ⟨by simp; omega, by omega, fun k => ?_, fun hn => ?_⟩, hl, by omega, fun h => by cases h⟩
    · rcases Nat.lt_or_ge k (zs.take len').length with hk | hk
      · exact bounds_i64 (hwz _ (List.mem_of_mem_take (el_mem hk)))
      · rw [el_over hk]; omega
    · obtain ⟨b, o, s⟩ := a
      have h0 := hcell 0 (by omega)
      have hs : s = none := by simpa [Addr.add] using World.cell?_spot h0
      subst hs
      refine ⟨b, o, rfl, fun t ht => ?_⟩
      have e : (Addr.mk b o none).add t = ⟨b, o + t, none⟩ := by simp [Addr.add]
      rw [← e, hcell t (by omega), el_take ht]
      rfl
set_option maxRecDepth 100000 in
theorem viewI {H : Type} {enc : TypeId × Value → H} {W : World} {b0 : Nat} {v : Value} {d : DataW H} {p : List MemPlace} (hv : Value.okWide Tryd.prog W .any b0 25 v)
    (h : DataW.Trod enc Tryd.prog W 0 (fun _ => true) true 25 v d p) : ∃ (a0 : Option Addr) (len cap : Nat) (Z : List Int), v = .slice a0 len cap ∧ IArg W a0 len cap Z := by
  obtain ⟨a0, la, ca, rfl⟩ := okWide_slice Tryd.underlying25 hv
  obtain ⟨f, hf⟩ := h
  obtain ⟨a1, l1, c1, Z, e, hA⟩ := viewI_cells hf
  simp [Value.cells] at e
  obtain ⟨rfl, rfl, rfl⟩ := e
  exact ⟨_, _, _, Z, rfl, hA⟩
end Go.Proofs.YtlmdjhdlfdandaaDoor
