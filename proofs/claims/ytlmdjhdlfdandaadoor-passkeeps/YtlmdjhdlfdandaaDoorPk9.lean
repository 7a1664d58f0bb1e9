/- Contracts of the program's functions, part 9 of 10: what each call returns and leaves of memory. -/
import Derived.Test.YtlmdjhdlfdandaaDoorPk8
import Derived.Test.YtlmdjhdlfdandaaDoorPk7
import Derived.Test.YtlmdjhdlfdandaaDoorPk6
import Derived.Test.YtlmdjhdlfdandaaDoorPk3
import Derived.Test.YtlmdjhdlfdandaaDoorPk4
/- The document's layer 8: what is liked, and all tokens one behind the other. Written by tools/genr8d.py. -/
namespace Go.Proofs.YtlmdjhdlfdandaaDoor
open Go.ChangeShapes Go.WideShapes Go.ChangeAt Go.RowKit
set_option maxRecDepth 100000 in
set_option maxHeartbeats 4000000 in
theorem rlikes_any (V D H n k : Nat) (W : Wt) (bs : List Bk) (M : Mdl) (sr sk sv : Sl) (C : List (List (List Int))) (R : List (List Int)) (w : World) (hW : WtAt w V D H W bs M) (hC : DCube w sr C) (hk : C.length = k + 1) (hR : C[k]? = some R) (hn : R.length = n + 1) (hx : (rowOf R n).length = D) (h1 : 1 ≤ D) (h2 : D ≤ 5000) :
   Calls Tryd.prog 21 #[.agg W.cells, .agg #[sr.v, sk.v, sv.v]] w fun e w' => ∃ g cap, e = .returned (.slice (some ⟨g, 0, none⟩) V cap) ∧ Fresh w' w.heap.size g V cap (likR M V D (rowOf R n)) ∧ Below w.heap.size w w' := by
  have hl := hC.len
  have hks : k ≤ 1000 := by have := hC.small; omega
  obtain ⟨b, o, e0, hc⟩ := hC.cells (by omega)
  obtain ⟨b1, o1, n1, c1, k1, k2, k3, GR⟩ := hc k R hR
  have hg := GR.len
  obtain rfl : n1 = n + 1 := by omega
  obtain ⟨b2, o2, e1, hc2⟩ := GR.cells (by omega)
  simp only [Option.some.injEq, Addr.mk.injEq, and_true] at e1
  obtain ⟨rfl, rfl⟩ := e1
  obtain ⟨ro, m, c, y1, AR⟩ := hc2 n (by omega)
  obtain rfl : D = m := by have := AR.row.len; omega
  have hcap := GR.max
  obtain ⟨⟨er, ec, ⟨ea, en, ez⟩⟩, ⟨ba, bn, bz⟩, ⟨la, ln, lz⟩, ⟨or, oc, od⟩⟩ := W
  obtain ⟨ob, oo, on, oz, e1, MO⟩ := hW.o
  simp only [Mt.mk.injEq] at e1
  obtain ⟨rfl, rfl, rfl⟩ := e1
  obtain ⟨e2, AL⟩ := hW.l
  simp only at e2 AL
  replace e2 := e2.symm
  subst e2
  obtain ⟨ra, rn, rz⟩ := sr
  simp only at e0 hl
  subst e0
  obtain rfl : rn = k + 1 := by omega
  obtain ⟨ka, kn, kz⟩ := sk
  obtain ⟨va, vn, vz⟩ := sv
  have HMO : Hid (∀ W, Below w.heap.size w W → MatAt W V D ob oo on oz M.O) := fun W hb => MO.below hb
  have HAL : Hid (∀ W, Below w.heap.size w W → Arg W la D lz M.G) := fun W hb => AL.below hb
  have HAR : Hid (∀ W, Below w.heap.size w W → Arg W ro D c (rowOf R n)) := fun W hb => AR.below hb
  have HY : Hid (∀ W, Below w.heap.size w W → W.cell? ⟨b1, o1 + n, none⟩ = some (.slice ro D c)) := fun W hb => cell_keep y1 hb
  clear hW hC hc hc2 GR MO AL AR hx hR hg hn
  show Calls Tryd.prog 21 #[.agg #[.int .i64 er, .int .i64 ec, .slice ea en ez, .slice ba bn bz, .slice la D lz, .int .i64 (V : Int), .int .i64 (D : Int), .slice (some ⟨ob, oo, none⟩) on oz], .agg #[.slice (some ⟨b, o, none⟩) (k + 1) rz, .slice ka kn kz, .slice va vn vz]] w _
  have X0 := blk_new w 65 #[.int .i64 er, .int .i64 ec, .slice ea en ez, .slice ba bn bz, .slice la D lz, .int .i64 (V : Int), .int .i64 (D : Int), .slice (some ⟨ob, oo, none⟩) on oz]
  have B0 := below_alloc8 w (.cells #[.int .i64 er, .int .i64 ec, .slice ea en ez, .slice ba bn bz, .slice la D lz, .int .i64 (V : Int), .int .i64 (D : Int), .slice (some ⟨ob, oo, none⟩) on oz] 65)
  have s0 : (w.alloc (.cells #[.int .i64 er, .int .i64 ec, .slice ea en ez, .slice ba bn bz, .slice la D lz, .int .i64 (V : Int), .int .i64 (D : Int), .slice (some ⟨ob, oo, none⟩) on oz] 65)).heap.size = w.heap.size + 1 := by simp
  generalize hw0 : w.alloc (.cells #[.int .i64 er, .int .i64 ec, .slice ea en ez, .slice ba bn bz, .slice la D lz, .int .i64 (V : Int), .int .i64 (D : Int), .slice (some ⟨ob, oo, none⟩) on oz] 65) = wx0 at *
  have X1 := blk_new wx0 68 #[.slice (some ⟨b, o, none⟩) (k + 1) rz, .slice ka kn kz, .slice va vn vz]
  have B1 := below_alloc8 wx0 (.cells #[.slice (some ⟨b, o, none⟩) (k + 1) rz, .slice ka kn kz, .slice va vn vz] 68)
  have s1 : (wx0.alloc (.cells #[.slice (some ⟨b, o, none⟩) (k + 1) rz, .slice ka kn kz, .slice va vn vz] 68)).heap.size = wx0.heap.size + 1 := by simp
  generalize hw1 : wx0.alloc (.cells #[.slice (some ⟨b, o, none⟩) (k + 1) rz, .slice ka kn kz, .slice va vn vz] 68) = wx1 at *
  have X01 := X0.below B1
  have D1 := below_then B0 B1
  have z0 : wx1.cell? ⟨wx0.heap.size, 0, none⟩ = some (.slice (some ⟨b, o, none⟩) (k + 1) rz) := X1.cell 0 rfl
  have k1' := cell_keep k1 D1
  have HX : Hid (Blk wx1 w.heap.size 65 #[.int .i64 er, .int .i64 ec, .slice ea en ez, .slice ba bn bz, .slice la D lz, .int .i64 (V : Int), .int .i64 (D : Int), .slice (some ⟨ob, oo, none⟩) on oz]) := X01
  clear X0 X1 B0 B1 s0 s1 X01 k1
  go_enter Tryd.func21, Tryd.ntmps21
  go_upto_region 2 with fail
  clear hw0 hw1 z0 k1'
  have E0 : Below wx1.heap.size wx1 wx1.drew := (Below.refl _ wx1).drew
  have XE := HX.out.below E0
  have D2 := below_then D1 E0
  have SJ := And.intro XE (HY.out _ D2)
  have wn : IntKind.i64.wrap (n : Int) = (n : Int) := w64_in (by omega)
  refine wp_region_held_drew (S := fun w' => Blk w' w.heap.size 65 #[.int .i64 er, .int .i64 ec, .slice ea en ez, .slice ba bn bz, .slice la D lz, .int .i64 (V : Int), .int .i64 (D : Int), .slice (some ⟨ob, oo, none⟩) on oz] ∧ w'.cell? ⟨b1, o1 + n, none⟩ = some (.slice ro D c)) (by kernel_rfl) (SJ) (fun hHeld => ?_)
  generalize wx1.drew = wj at *
  refine wpAnyH_take (i := 0) (v := (.pointer (some ⟨w.heap.size, 5, none⟩))) rfl (by kernel_rfl) (by kernel_rfl) (by kernel_rfl) (fun _ _ _ h => h) (Or.inl ⟨by rfl, ?_⟩) (by assumption) ?_
  · intro w' hSw
    go_simp
  simp only [List.getElem_toArray, List.getElem_cons_zero, Act.put, List.setIfInBounds_toArray, List.set_cons_zero, List.set_cons_succ]
  refine wpAnyH_take (i := 1) (v := (.agg #[.int .i64 (V : Int), .int .i64 (D : Int), .slice (some ⟨ob, oo, none⟩) on oz])) rfl (by kernel_rfl) (by kernel_rfl) (by kernel_rfl) (fun _ _ _ h => h) (Or.inl ⟨by rfl, ?_⟩) (by assumption) ?_
  · intro w' hSw
    have y5 : w'.cell? ⟨w.heap.size, 5, none⟩ = some (.int .i64 (V : Int)) := hSw.1.cell 5 rfl
    have y6 : w'.cell? ⟨w.heap.size, 6, none⟩ = some (.int .i64 (D : Int)) := hSw.1.cell 6 rfl
    have y7 : w'.cell? ⟨w.heap.size, 7, none⟩ = some (.slice (some ⟨ob, oo, none⟩) on oz) := hSw.1.cell 7 rfl
    go_simp
  simp only [List.getElem_toArray, List.getElem_cons_succ, List.getElem_cons_zero, Act.put, List.setIfInBounds_toArray, List.set_cons_zero, List.set_cons_succ]
  refine wpAnyH_take (i := 2) (v := (.slice (some ⟨b1, o1, none⟩) (n + 1) c1)) rfl (by kernel_rfl) (by kernel_rfl) (by kernel_rfl) (fun _ _ _ h => h) (Or.inl ⟨by rfl, ?_⟩) (by assumption) ?_
  · intro w' hSw
    go_simp
  simp only [List.getElem_toArray, List.getElem_cons_succ, List.getElem_cons_zero, Act.put, List.setIfInBounds_toArray, List.set_cons_zero, List.set_cons_succ]
  refine wpAnyH_take (i := 3) (v := (.slice (some ⟨b1, o1, none⟩) (n + 1) c1)) rfl (by kernel_rfl) (by kernel_rfl) (by kernel_rfl) (fun _ _ _ h => h) (Or.inl ⟨by rfl, ?_⟩) (by assumption) ?_
  · intro w' hSw
    go_simp
  simp only [List.getElem_toArray, List.getElem_cons_succ, List.getElem_cons_zero, Act.put, List.setIfInBounds_toArray, List.set_cons_zero, List.set_cons_succ]
  refine wpAnyH_take (i := 4) (v := (.int .i64 ((n + 1 : Nat) : Int))) rfl (by kernel_rfl) (by kernel_rfl) (by kernel_rfl) (fun _ _ _ h => h) (Or.inl ⟨by rfl, ?_⟩) (by assumption) ?_
  · intro w' hSw
    go_simp
  simp only [List.getElem_toArray, List.getElem_cons_succ, List.getElem_cons_zero, Act.put, List.setIfInBounds_toArray, List.set_cons_zero, List.set_cons_succ]
  refine wpAnyH_take (i := 5) (v := (.int .i64 (n : Int))) rfl (by kernel_rfl) (by kernel_rfl) (by kernel_rfl) (fun _ _ _ h => h) (Or.inl ⟨by rfl, ?_⟩) (by assumption) ?_
  · intro w' hSw
    go_simp
  simp only [List.getElem_toArray, List.getElem_cons_succ, List.getElem_cons_zero, Act.put, List.setIfInBounds_toArray, List.set_cons_zero, List.set_cons_succ]
  refine wpAnyH_take (i := 6) (v := (.pointer (some ⟨b1, o1 + n, none⟩))) rfl (by kernel_rfl) (by kernel_rfl) (by kernel_rfl) (fun _ _ _ h => h) (Or.inl ⟨by rfl, ?_⟩) (by assumption) ?_
  · intro w' hSw
    go_simp; intro h9; omega
  simp only [List.getElem_toArray, List.getElem_cons_succ, List.getElem_cons_zero, Act.put, List.setIfInBounds_toArray, List.set_cons_zero, List.set_cons_succ]
  refine wpAnyH_take (i := 7) (v := (.slice ro D c)) rfl (by kernel_rfl) (by kernel_rfl) (by kernel_rfl) (fun _ _ _ h => h) (Or.inl ⟨by rfl, ?_⟩) (by assumption) ?_
  · intro w' hSw
    have y9 := hSw.2
    go_simp
  simp only [List.getElem_toArray, List.getElem_cons_succ, List.getElem_cons_zero, Act.put, List.setIfInBounds_toArray, List.set_cons_zero, List.set_cons_succ]
  refine wpAnyH_take (i := 8) (v := (.pointer (some ⟨w.heap.size, 4, none⟩))) rfl (by kernel_rfl) (by kernel_rfl) (by kernel_rfl) (fun _ _ _ h => h) (Or.inl ⟨by rfl, ?_⟩) (by assumption) ?_
  · intro w' hSw
    go_simp
  simp only [List.getElem_toArray, List.getElem_cons_succ, List.getElem_cons_zero, Act.put, List.setIfInBounds_toArray, List.set_cons_zero, List.set_cons_succ]
  refine wpAnyH_take (i := 9) (v := (.slice la D lz)) rfl (by kernel_rfl) (by kernel_rfl) (by kernel_rfl) (fun _ _ _ h => h) (Or.inl ⟨by rfl, ?_⟩) (by assumption) ?_
  · intro w' hSw
    have y4 : w'.cell? ⟨w.heap.size, 4, none⟩ = some (.slice la D lz) := hSw.1.cell 4 rfl
    go_simp
  simp only [List.getElem_toArray, List.getElem_cons_succ, List.getElem_cons_zero, Act.put, List.setIfInBounds_toArray, List.set_cons_zero, List.set_cons_succ]
  refine wpAnyH_ready (rs := [10]) (by kernel_rfl) (by simp) ?_
  refine AllReadyH.cons rfl (fun Kc hKc => ?_) AllReadyH.nil
  simp only [List.getElem_toArray, List.getElem_cons_succ, List.getElem_cons_zero]
  rw [if_pos (by rfl)]
  go_wp2_with fail
  refine (refNorm_any _ _ D _ _ (rowOf R n) M.G _ (HAR.out _ D2).row (HAL.out _ D2).row h1 (by omega)).mono ?_
  rintro e w2 ⟨gm, cm, rfl, FM, U1⟩
  have D3 := below_then D2 U1
  go_wp2_with fail
  refine hKc.out _ _ (⟨XE.below U1, HY.out _ D3⟩) (fun hHeld => ?_)
  clear hKc Kc
  refine wpAnyH_ready (rs := [11]) (by kernel_rfl) (by simp) ?_
  refine AllReadyH.cons rfl (fun Kc hKc => ?_) AllReadyH.nil
  simp only [List.getElem_toArray, List.getElem_cons_succ, List.getElem_cons_zero]
  rw [if_pos (by rfl)]
  go_wp2_with fail
  refine (refApply_any V D ob oo on oz M.O _ _ _ _ (HMO.out _ D3) FM.rowAt).mono ?_
  rintro e w3 ⟨gz, cz, rfl, FZ, U2⟩
  have D4 := below_then D3 U2
  go_wp2_with fail
  refine hKc.out _ _ (⟨(XE.below U1).below U2, HY.out _ D4⟩) (fun hHeld => ?_)
  clear hKc Kc
  refine wpAnyH_take (i := 12) (v := (.slice (some ⟨gz, 0, none⟩) V cz)) rfl (by kernel_rfl) (by kernel_rfl) (by kernel_rfl) (fun _ _ _ h => h) (Or.inl ⟨by rfl, ?_⟩) (by assumption) ?_
  · intro w' hSw
    go_simp
  simp only [List.getElem_toArray, List.getElem_cons_succ, List.getElem_cons_zero, Act.put, List.setIfInBounds_toArray, List.set_cons_zero, List.set_cons_succ]
  refine wpAnyH_done (by kernel_rfl) ?_ _
  go_wp2
  go_ret
  exact ⟨gz, cz, rfl, FZ.mono D3.size, D4⟩
/-- What the document keeps of tokens: nothing of none. -/
def fR (M : Mdl) (D H Hd L : Nat) (A : List Int) : List (List (List Int)) := if A.length = 0 then [] else (List.range (L + 1)).map (rowsL M D H Hd A)
def fK (M : Mdl) (D H Hd L : Nat) (A : List Int) : List (List (List Int)) := if A.length = 0 then [] else fullK M D H Hd L A
def fV (M : Mdl) (D H Hd L : Nat) (A : List Int) : List (List (List Int)) := if A.length = 0 then [] else fullV M D H Hd L A
theorem rowsL_nil (M : Mdl) (D H Hd l : Nat) : rowsL M D H Hd [] l = [] := List.length_eq_zero_iff.1 (rowsL_len M D H Hd [] l)
theorem fR_at (M : Mdl) (D H Hd L : Nat) (A : List Int) {l : Nat} (h : l ≤ L) : (fR M D H Hd L A).getD l [] = rowsL M D H Hd A l := by
  unfold fR
  split
  · rename_i h0
    obtain rfl : A = [] := List.length_eq_zero_iff.1 h0
    rw [rowsL_nil]; rfl
  · rw [List.getD_eq_getElem?_getD, List.getElem?_map, List.getElem?_range (by omega)]; rfl
theorem fK_at (M : Mdl) (D H Hd L : Nat) (A : List Int) {l : Nat} (h : l < L) : (fK M D H Hd L A).getD l [] = keysR (layAt M l) D (rowsL M D H Hd A l) := by
  unfold fK
  split
  · rename_i h0
    obtain rfl : A = [] := List.length_eq_zero_iff.1 h0
    rw [rowsL_nil]; rfl
  · exact fullK_at _ _ _ _ _ _ h
theorem fV_at (M : Mdl) (D H Hd L : Nat) (A : List Int) {l : Nat} (h : l < L) : (fV M D H Hd L A).getD l [] = valsR (layAt M l) D (rowsL M D H Hd A l) := by
  unfold fV
  split
  · rename_i h0
    obtain rfl : A = [] := List.length_eq_zero_iff.1 h0
    rw [rowsL_nil]; rfl
  · exact fullV_at _ _ _ _ _ _ h
theorem f_cached (M : Mdl) (D H Hd L : Nat) (A : List Int) : Cached M D H Hd L ⟨A, fK M D H Hd L A, fV M D H Hd L A⟩ A := ⟨rfl, fun _ h => fK_at M D H Hd L A h, fun _ h => fV_at M D H Hd L A h⟩
theorem f_step (M : Mdl) (D H Hd L : Nat) (A : List Int) (t : Int) {l : Nat} (h : l ≤ L) : xRow M D H Hd A.length (fK M D H Hd L A) (fV M D H Hd L A) (begR M.E D t.toNat A.length) l = rowOf (rowsL M D H Hd (A ++ [t]) l) A.length ∧ rowsL M D H Hd (A ++ [t]) l = rowsL M D H Hd A l ++ [xRow M D H Hd A.length (fK M D H Hd L A) (fV M D H Hd L A) (begR M.E D t.toNat A.length) l] := by
  have e := rowsL_snoc (f_cached M D H Hd L A) t l h
  refine ⟨?_, e⟩
  rw [e]
  have := rowOf_last (rowsL M D H Hd A l) (xRow M D H Hd A.length (fK M D H Hd L A) (fV M D H Hd L A) (begR M.E D t.toNat A.length) l)
  rw [rowsL_len] at this
  exact this.symm
theorem goR_f (M : Mdl) (D H Hd L : Nat) (A : List Int) (t : Int) : (List.range (L + 1)).map (goR M D H Hd A.length (fR M D H Hd L A) (fK M D H Hd L A) (fV M D H Hd L A) (begR M.E D t.toNat A.length)) = fR M D H Hd L (A ++ [t]) := by
  have h0 : ¬ (A ++ [t]).length = 0 := by simp
  unfold fR
  rw [if_neg h0]
  refine List.map_congr_left fun l hl => ?_
  have hl' : l ≤ L := by have := List.mem_range.1 hl; omega
  show (fR M D H Hd L A).getD l [] ++ _ = _
  rw [fR_at M D H Hd L A hl', (f_step M D H Hd L A t hl').2]
theorem goK_f (M : Mdl) (D H Hd L : Nat) (A : List Int) (t : Int) : (List.range L).map (goK M D H Hd A.length (fK M D H Hd L A) (fV M D H Hd L A) (begR M.E D t.toNat A.length)) = fK M D H Hd L (A ++ [t]) := by
  have h0 : ¬ (A ++ [t]).length = 0 := by simp
  have e : fK M D H Hd L (A ++ [t]) = fullK M D H Hd L (A ++ [t]) := by unfold fK; rw [if_neg h0]
  rw [e]
  unfold fullK
  refine List.map_congr_left fun l hl => ?_
  have hl' : l < L := List.mem_range.1 hl
  show (fK M D H Hd L A).getD l [] ++ _ = _
  rw [fK_at M D H Hd L A hl', (f_step M D H Hd L A t (by omega)).2]
  unfold keysR
  rw [List.map_append]
  rfl
theorem goV_f (M : Mdl) (D H Hd L : Nat) (A : List Int) (t : Int) : (List.range L).map (goV M D H Hd A.length (fK M D H Hd L A) (fV M D H Hd L A) (begR M.E D t.toNat A.length)) = fV M D H Hd L (A ++ [t]) := by
  have h0 : ¬ (A ++ [t]).length = 0 := by simp
  have e : fV M D H Hd L (A ++ [t]) = fullV M D H Hd L (A ++ [t]) := by unfold fV; rw [if_neg h0]
  rw [e]
  unfold fullV
  refine List.map_congr_left fun l hl => ?_
  have hl' : l < L := List.mem_range.1 hl
  show (fV M D H Hd L A).getD l [] ++ _ = _
  rw [fV_at M D H Hd L A hl', (f_step M D H Hd L A t (by omega)).2]
  unfold valsR
  rw [List.map_append]
  rfl
theorem f_m (M : Mdl) (D H Hd L : Nat) (A : List Int) : (if (fR M D H Hd L A).length = 0 then 0 else ((fR M D H Hd L A).getD 0 []).length) = A.length := by
  rw [fR_at M D H Hd L A (Nat.zero_le _), rowsL_len]
  unfold fR
  by_cases h : A.length = 0
  · rw [if_pos h, h]; rfl
  · rw [if_neg h, if_neg (by simp)]
theorem fK_rows (M : Mdl) (D H Hd L : Nat) (A : List Int) (l : Nat) (h : l < L) : ((fK M D H Hd L A).getD l []).length = A.length ∧ ∀ t, t < A.length → (rowOf ((fK M D H Hd L A).getD l []) t).length = D := by
  rw [fK_at M D H Hd L A h]
  refine ⟨by unfold keysR; rw [List.length_map, rowsL_len], fun t ht => ?_⟩
  rw [keysR_at _ _ (by rw [rowsL_len]; exact ht)]
  exact apl_len _ _ _ _
theorem fV_rows (M : Mdl) (D H Hd L : Nat) (A : List Int) (l : Nat) (h : l < L) : ((fV M D H Hd L A).getD l []).length = A.length ∧ ∀ t, t < A.length → (rowOf ((fV M D H Hd L A).getD l []) t).length = D := by
  rw [fV_at M D H Hd L A h]
  refine ⟨by unfold valsR; rw [List.length_map, rowsL_len], fun t ht => ?_⟩
  rw [valsR_at _ _ (by rw [rowsL_len]; exact ht)]
  exact apl_len _ _ _ _
theorem fKV_len (M : Mdl) (D H Hd L : Nat) (A : List Int) : (fK M D H Hd L A).length = (fV M D H Hd L A).length := by
  unfold fK fV
  split
  · rfl
  · simp [fullK, fullV]
theorem fR_small (M : Mdl) (D H Hd L : Nat) (A : List Int) (hA : A.length ≤ 1000) (l : Nat) : ((fR M D H Hd L A).getD l []).length ≤ 1000 := by
  by_cases h : l ≤ L
  · rw [fR_at M D H Hd L A h, rowsL_len]; exact hA
  · have : (fR M D H Hd L A).length ≤ l := by unfold fR; split <;> simp; omega
    rw [List.getD_eq_getElem?_getD, List.getElem?_eq_none this]
    simp
theorem take_step {A : List Int} {i : Nat} (h : i < A.length) : A.take (i + 1) = A.take i ++ [el A i] := by
  unfold el
  rw [List.take_add_one, List.getD_eq_getElem?_getD, List.getElem?_eq_getElem h]
  rfl

set_option maxRecDepth 100000 in
set_option maxHeartbeats 4000000 in
theorem rfull_any (V D Hd H L n ca : Nat) (ao : Option Addr) (W : Wt) (bs : List Bk) (M : Mdl) (A : List Int) (w : World) (hW : WtAt w V D H W bs M) (hbl : bs.length = L) (hA : IArg w ao n ca A) (ht : ∀ k, k < n → 0 ≤ el A k ∧ el A k < (V : Int)) (m2 : n ≤ 128) (h1 : 1 ≤ D) (h2 : D ≤ 32) (g1 : 1 ≤ Hd) (g2 : Hd ≤ 4) (hd : D % Hd = 0) (q1 : 1 ≤ H) (q2 : H ≤ 128) (hL : L ≤ 900) :
   Calls Tryd.prog 23 #[.agg (cfgC V D Hd H L), .agg W.cells, .slice ao n ca] w fun e w' => ∃ tr tk tv : Sl, e = .returned (.agg #[tr.v, tk.v, tv.v]) ∧ DCube w' tr (fR M D H Hd L A) ∧ DCube w' tk (fK M D H Hd L A) ∧ DCube w' tv (fV M D H Hd L A) ∧ Below w.heap.size w w' := by
  have HW : Hid (∀ wv, Below w.heap.size w wv → WtAt wv V D H W bs M) := fun wv hb => hW.below hb
  have HAA : Hid (∀ wv, Below w.heap.size w wv → IArg wv ao n ca A) := fun wv hb => hA.below hb
  have HGO := fun (p : Nat → Prop) (wv : World) (tok m : Nat) (sr sk sv : Sl) (B : List Int) (hb : Below w.heap.size w wv) => rgo_any p V D Hd H L B.length tok W bs M sr sk sv (fR M D H Hd L B) (fK M D H Hd L B) (fV M D H Hd L B) wv (HW.out wv hb) hbl
  have hlA : Hid (A.length = n) := hA.row.len
  have hn63 := hA.row.max
  have HT : Hid (∀ k, k < n → 0 ≤ el A k ∧ el A k < (V : Int)) := ht
  have siz : W.cells.size = 8 := rfl
  have HWC : Hid (W.cells = W.cells) := rfl
  show Calls Tryd.prog 23 #[.agg #[.int .i64 (V : Int), .int .i64 (D : Int), .int .i64 (Hd : Int), .int .i64 (H : Int), .int .i64 (L : Int)], .agg W.cells, .slice ao n ca] w _
  unfold cfgC at HGO
  generalize W.cells = ws at *
  clear hW hA ht HWC
  have X0 := blk_new w 23 #[.int .i64 (V : Int), .int .i64 (D : Int), .int .i64 (Hd : Int), .int .i64 (H : Int), .int .i64 (L : Int)]
  have B0 := below_alloc8 w (.cells #[.int .i64 (V : Int), .int .i64 (D : Int), .int .i64 (Hd : Int), .int .i64 (H : Int), .int .i64 (L : Int)] 23)
  have s0 : (w.alloc (.cells #[.int .i64 (V : Int), .int .i64 (D : Int), .int .i64 (Hd : Int), .int .i64 (H : Int), .int .i64 (L : Int)] 23)).heap.size = w.heap.size + 1 := by simp
  generalize hw0 : w.alloc (.cells #[.int .i64 (V : Int), .int .i64 (D : Int), .int .i64 (Hd : Int), .int .i64 (H : Int), .int .i64 (L : Int)] 23) = wx0 at *
  have X1 := blk_new wx0 65 ws
  have B1 := below_alloc8 wx0 (.cells ws 65)
  have s1 : (wx0.alloc (.cells ws 65)).heap.size = wx0.heap.size + 1 := by simp
  generalize hw1 : wx0.alloc (.cells ws 65) = wx1 at *
  have X2 := blk_new wx1 68 #[.slice none 0 0, .slice none 0 0, .slice none 0 0]
  have B2 := below_alloc8 wx1 (.cells #[.slice none 0 0, .slice none 0 0, .slice none 0 0] 68)
  have s2 : (wx1.alloc (.cells #[.slice none 0 0, .slice none 0 0, .slice none 0 0] 68)).heap.size = wx1.heap.size + 1 := by simp
  generalize hw2 : wx1.alloc (.cells #[.slice none 0 0, .slice none 0 0, .slice none 0 0] 68) = wx2 at *
  obtain ⟨XA, XB, VB, zB⟩ := var3 wx2 68 #[.slice none 0 0, .slice none 0 0, .slice none 0 0] #[.slice none 0 0, .slice none 0 0, .slice none 0 0]
  generalize hwA : wx2.alloc (.cells #[.slice none 0 0, .slice none 0 0, .slice none 0 0] 68) = wA at *
  generalize hwB : wA.setRow wx2.heap.size #[.slice none 0 0, .slice none 0 0, .slice none 0 0] = w3 at *
  have X03 := ((X0.below B1).below B2).below VB
  have X13 := (X1.below B2).below VB
  have X23 := X2.below VB
  have D3 := below_then (below_then (below_then B0 B1) B2) VB
  have HSZ : Hid (wx0.heap.size = w.heap.size + 1 ∧ wx1.heap.size = wx0.heap.size + 1 ∧ wx2.heap.size = wx1.heap.size + 1) := ⟨s0, s1, s2⟩
  clear X0 X1 X2 B0 B1 B2 VB s0 s1 s2 zB
  go_enter Tryd.func23, Tryd.ntmps23
  go_wp2_with (refine wpList_store_row rfl 68 _ _ rfl wx2.heap.size _ rfl rfl 68 _ XA Tryd.infoRP8 rfl (by simp [Value.oneCell']) ?_; rw [hwB])
  clear hw0 hw1 hw2 hwA hwB XA
  obtain ⟨P, hP⟩ : ∃ P : Nat → Prop, P = fun b => b ≠ wx2.heap.size ∧ b ≠ wx1.heap.size := ⟨_, rfl⟩
  have HP : Hid (∀ b, P b ↔ (b ≠ wx2.heap.size ∧ b ≠ wx1.heap.size)) := fun b => by rw [hP]
  clear hP
  go_loopg [13] n (fun r s13 wr => ∃ (i : Nat) (tr tk tv : Sl), i ≤ n ∧ r = n - i ∧ s13 = .int .i64 (i : Int) ∧ Blk wr wx2.heap.size 68 #[tr.v, tk.v, tv.v] ∧ PCube P wr tr (fR M D H Hd L (A.take i)) ∧ PCube P wr tk (fK M D H Hd L (A.take i)) ∧ PCube P wr tv (fV M D H Hd L (A.take i)) ∧ Blk wr w.heap.size 23 #[.int .i64 (V : Int), .int .i64 (D : Int), .int .i64 (Hd : Int), .int .i64 (H : Int), .int .i64 (L : Int)] ∧ Blk wr wx0.heap.size 65 ws ∧ Blk wr wx1.heap.size 68 #[.slice none 0 0, .slice none 0 0, .slice none 0 0] ∧ Below w.heap.size w wr)
  case atStart => exact ⟨0, ⟨none, 0, 0⟩, ⟨none, 0, 0⟩, ⟨none, 0, 0⟩, by omega, by omega, rfl, XB, pcube_nil _ _, pcube_nil _ _, pcube_nil _ _, X03, X13, X23, D3⟩
  case round =>
  clear XB X03 X13 X23 D3
  obtain ⟨i, tr, tk, tv, hi, rfl, rfl, XP, C1, C2, C3, X0, X1, X2, DW⟩ := hrel
  by_cases hlt : i < n
  · obtain ⟨b, o, rfl, hc⟩ := (HAA.out wr DW).row.cells (by omega)
    have c1 := hc i hlt
    obtain ⟨t1, t2⟩ := HT.out i hlt
    obtain ⟨tok, htok⟩ : ∃ t : Nat, el A i = (t : Int) := ⟨(el A i).toNat, by omega⟩
    have hti : (A.take i).length = i := by rw [List.length_take, hlA.out]; omega
    have e2 : A.take (i + 1) = A.take i ++ [(tok : Int)] := by rw [← htok]; exact take_step (by rw [hlA.out]; exact hlt)
    have GO := HGO P wr tok i tr tk tv (A.take i) DW C1 C2 C3 (f_m _ _ _ _ _ _) (fKV_len _ _ _ _ _ _) (fR_small _ _ _ _ _ _ (by omega)) (fK_rows _ _ _ _ _ _) (fV_rows _ _ _ _ _ _) (by omega) (by omega) h1 h2 g1 g2 hd q1 q2 hL
    have g7 := goR_f M D H Hd L (A.take i) (tok : Int)
    have g8 := goK_f M D H Hd L (A.take i) (tok : Int)
    have g9 := goV_f M D H Hd L (A.take i) (tok : Int)
    rw [Int.toNat_natCast] at g7 g8 g9
    rw [g7, g8, g9, ← e2] at GO
    have HCW : Hid (wx2.heap.size < wr.heap.size ∧ wx1.heap.size < wr.heap.size) := ⟨XP.lt, X2.lt⟩
    have a0 : wr.cell? ⟨w.heap.size, 0, none⟩ = some (.int .i64 (V : Int)) := X0.cell 0 rfl
    have a1 : wr.cell? ⟨w.heap.size, 1, none⟩ = some (.int .i64 (D : Int)) := X0.cell 1 rfl
    have a2 : wr.cell? ⟨w.heap.size, 2, none⟩ = some (.int .i64 (Hd : Int)) := X0.cell 2 rfl
    have a3 : wr.cell? ⟨w.heap.size, 3, none⟩ = some (.int .i64 (H : Int)) := X0.cell 3 rfl
    have a4 : wr.cell? ⟨w.heap.size, 4, none⟩ = some (.int .i64 (L : Int)) := X0.cell 4 rfl
    have c1' : wr.cell? ⟨b, o + i, none⟩ = some (.int .i64 (tok : Int)) := by rw [← htok]; exact c1
    clear hc c1 C1 C2 C3 g7 g8 g9 htok t1 t2 hti e2
    go_wp2_with (first
      | (refine wpList_load_row rfl 65 _ rfl wx0.heap.size rfl 65 _ (0, 0) _ X1 Tryd.underlying65 rfl (by rw [siz]; exact Tryd.infoRW8) ?_)
      | (refine wpList_load_row rfl 68 _ rfl wx2.heap.size rfl 68 _ (0, 0) _ XP Tryd.underlying68 rfl Tryd.infoRP8 ?_)
      | (go_at_call 40; refine GO.mono ?_; clear GO; rintro e w2 ⟨ur, uk, uv, rfl, E1, E2, E3, B2⟩; have XP2 := XP.below B2)
      | (refine wpList_store_row rfl 68 _ _ rfl wx2.heap.size _ rfl rfl 68 _ XP2 Tryd.infoRP8 rfl (all3c rfl rfl rfl) ?_))
    have XN := XP2.row #[ur.v, uk.v, uv.v]
    have hsz := HSZ.out
    have hcw := HCW.out
    have T : Tn (fun b => P b ∨ wr.heap.size ≤ b) P w2 (w2.setRow wx2.heap.size #[ur.v, uk.v, uv.v]) := ⟨by simp, fun b _ hb => by
      have hb2 : P b := by
        rcases hb with h | h
        · exact h
        · exact (HP.out b).2 ⟨by omega, by omega⟩
      exact ⟨hb2, setRow_other _ _ _ _ ((HP.out b).1 hb2).1⟩⟩
    have pp : ∀ b, (P b ∨ wr.heap.size ≤ b) → P b := fun b hb => by
      rcases hb with h | h
      · exact h
      · exact (HP.out b).2 ⟨by omega, by omega⟩
    have F1 := E1.turn T pp
    have F2 := E2.turn T pp
    have F3 := E3.turn T pp
    have o1 : w.heap.size ≠ wx2.heap.size := by omega
    have o2 : wx0.heap.size ≠ wx2.heap.size := by omega
    have o3 : wx1.heap.size ≠ wx2.heap.size := by omega
    have Y0 := (X0.below B2).of_block (w' := w2.setRow wx2.heap.size #[ur.v, uk.v, uv.v]) (setRow_other _ _ _ _ o1)
    have Y1 := (X1.below B2).of_block (w' := w2.setRow wx2.heap.size #[ur.v, uk.v, uv.v]) (setRow_other _ _ _ _ o2)
    have Y2 := (X2.below B2).of_block (w' := w2.setRow wx2.heap.size #[ur.v, uk.v, uv.v]) (setRow_other _ _ _ _ o3)
    have D2 := below_setRow (below_then DW B2) (g := wx2.heap.size) (by omega) #[ur.v, uk.v, uv.v]
    clear hsz hcw o1 o2 o3 T pp E1 E2 E3 X0 X1 X2 XP XP2 B2
    go_roundg (n - (i + 1))
    case measure => omega
    case rel => exact ⟨i + 1, ur, uk, uv, by omega, rfl, by go_num, XN, F1, F2, F3, Y0, Y1, Y2, D2⟩
  · obtain rfl : i = n := by omega
    rw [List.take_of_length_le (by rw [hlA.out]; omega)] at C1 C2 C3
    have XF := X2.row #[tr.v, tk.v, tv.v]
    have hsz := HSZ.out
    have T : Tn P P wr (wr.setRow wx1.heap.size #[tr.v, tk.v, tv.v]) := ⟨by simp, fun b _ hb => ⟨hb, setRow_other _ _ _ _ ((HP.out b).1 hb).2⟩⟩
    have F1 := (C1.turn T (fun _ h => h)).dcube
    have F2 := (C2.turn T (fun _ h => h)).dcube
    have F3 := (C3.turn T (fun _ h => h)).dcube
    have D2 := below_setRow DW (g := wx1.heap.size) (by omega) #[tr.v, tk.v, tv.v]
    clear hsz T C1 C2 C3
    go_wp2_with (first
      | (refine wpList_load_row rfl 68 _ rfl wx2.heap.size rfl 68 _ (0, 0) _ XP Tryd.underlying68 rfl Tryd.infoRP8 ?_)
      | (refine wpList_store_row rfl 68 _ _ rfl wx1.heap.size _ rfl rfl 68 _ X2 Tryd.infoRP8 rfl (all3c rfl rfl rfl) ?_))
    refine bodyPost_ret (results_c1 rfl _ _ wx1.heap.size _ rfl (load_rp XF)) rfl ?_
    exact ⟨tr, tk, tv, rfl, F1, F2, F3, D2⟩
end Go.Proofs.YtlmdjhdlfdandaaDoor

/- A model that was made fits, and reads as its seed's numbers. -/
namespace Go.Proofs.YtlmdjhdlfdandaaDoor
open Go.ChangeShapes Go.WideShapes Go.ChangeAt Go.RowKit
def layS (seed i D H : Nat) : Lay := ⟨gainR seed i D, numR seed (i + D) (D * D) 65536, numR seed (i + D + D * D) (D * D) 65536, numR seed (i + D + D * D + D * D) (D * D) 65536, numR seed (i + D + D * D + D * D + D * D) (D * D) 65536, gainR seed (i + D + D * D + D * D + D * D + D * D) D, numR seed (i + D + D * D + D * D + D * D + D * D + D) (H * D) 65536, numR seed (i + D + D * D + D * D + D * D + D * D + D + H * D) (D * H) 65536⟩
/-- The numbers of a seed. -/
def mdlS (seed V D H L : Nat) : Mdl := ⟨numR seed 0 (V * D) 131072, (List.range L).map fun t => layS seed (V * D + t * lenB D H) D H, gainR seed (V * D + L * lenB D H) D, numR seed (V * D + L * lenB D H + D) (V * D) 65536⟩
theorem Fresh.slAt {w : World} {B g n : Nat} {A : List Int} (h : Fresh w B g n n A) : SlAt w (rs g n) n A := ⟨rfl, h.arg⟩
theorem Fresh.mtAt {w : World} {B g r c : Nat} {A : List Int} (h : Fresh w B g (r * c) (r * c) A) (h1 : 1 ≤ r) (h2 : r ≤ 128) (h3 : 1 ≤ c) (h4 : c ≤ 128) : MtAt w ⟨r, c, rs g (r * c)⟩ r c A :=
  ⟨g, 0, r * c, r * c, rfl, h1, h2, h3, h4, rfl, Nat.le_refl _, h.max, h.rowAt⟩
theorem MadeB.bkAt {w : World} {B seed i D H f q k v o s u d : Nat} (h : MadeB w B seed i D H f q k v o s u d) (h1 : 1 ≤ D) (h2 : D ≤ 128) (h3 : 1 ≤ H) (h4 : H ≤ 128) : BkAt w D H (mkB D H f q k v o s u d) (layS seed i D H) :=
  ⟨h.f.slAt, h.q.mtAt h1 h2 h1 h2, h.k.mtAt h1 h2 h1 h2, h.v.mtAt h1 h2 h1 h2, h.o.mtAt h1 h2 h1 h2, h.s.slAt, h.u.mtAt h3 h4 h1 h2, h.d.mtAt h1 h2 h3 h4⟩
theorem made_good {w : World} {B seed V D Hd H L ge gB gl go : Nat} (h : MadeW w B seed V D H L ge gB gl go) (hs : shapeN V D Hd H L = 0) : ∃ bs, Good w V D Hd H L (mkW V D L ge gB gl go) bs (mdlS seed V D H L) := by
  have hk := shape_ok hs
  obtain ⟨bs, ML⟩ := madeL_of L h.bs
  have BL := ML.blocks (by omega) (by omega) (by omega)
  have hl : bs.length = L := ML.len
  refine ⟨bs, ⟨⟨?_, BL, by unfold mdlS; simp [hl], fun t x hx => ?_, ?_, ?_⟩, mkW_ok (by omega) (by omega), hl, hs, ?_⟩⟩
  · exact h.e.mtAt (by omega) (by omega) (by omega) (by omega)
  · obtain ⟨_, f, q, k, v, o, s, u, d, rfl, m⟩ := ML.at_ t x hx
    have ht : t < L := by rw [← hl]; exact (List.getElem?_eq_some_iff.1 hx).1
    refine ⟨layS seed (V * D + t * lenB D H) D H, ?_, m.bkAt (by omega) (by omega) (by omega) (by omega)⟩
    unfold mdlS
    simp only [List.getElem?_map, List.getElem?_range ht]
    rfl
  · exact h.l.slAt
  · exact h.o.mtAt (by omega) (by omega) (by omega) (by omega)
  · exact made_fits (C := ⟨V, D, Hd, H, L⟩) ML rfl rfl rfl rfl hs
end Go.Proofs.YtlmdjhdlfdandaaDoor

/- The document's rows and matrices of made numbers. -/
namespace Go.Proofs.YtlmdjhdlfdandaaDoor
open Go.ChangeShapes Go.WideShapes Go.ChangeAt Go.RowKit
theorem tab_snoc4 (n : Nat) (f : Nat → Int) : tab (n + 1) f = tab n f ++ [f n] := by unfold tab; rw [List.range_succ, List.map_append]; rfl
set_option maxHeartbeats 800000 in
theorem rrow_any (seed i n m mo : Nat) (w : World) (hi : i ≤ 500000) (hn : n ≤ 16384) (hm : m ≤ 131072) (h0 : 1 ≤ m) (hmo : mo ≤ 65536) :
   Calls Tryd.prog 39 #[.int .u64 (seed : Int), .int .i64 (i : Int), .int .i64 (n : Int), .int .i64 (m : Int), .int .i64 (mo : Int)] w fun e w' => ∃ g cap, e = .returned (.tuple #[.slice (some ⟨g, 0, none⟩) n cap, .int .i64 ((i + n : Nat) : Int)]) ∧ Fresh w' w.heap.size g n cap (tab n fun j => numN seed (i + j) m + mo) ∧ Below w.heap.size w w' := by
  have F0 := fresh_empty w
  have B0 : Below w.heap.size w (w.alloc (.cells #[] 55)) := (Below.refl _ _).alloc (Nat.le_refl _) _
  go_enter Tryd.func39, Tryd.ntmps39
  go_wp2_with fail
  generalize w.alloc (.cells #[] 55) = w0 at *
  go_loopg [12, 13] n (fun r s q wr => ∃ k g cap : Nat, k ≤ n ∧ r = n - k ∧ q = .int .i64 k ∧ s = .slice (some ⟨g, 0, none⟩) k cap ∧ Fresh wr w.heap.size g k cap (tab k fun j => numN seed (i + j) m + mo) ∧ Below w.heap.size w wr)
  case atStart => exact ⟨0, _, _, by omega, by omega, rfl, rfl, F0, B0⟩
  case round =>
    obtain ⟨k, g, cap, hk, rfl, rfl, rfl, F1, B1⟩ := hrel
    clear F0 B0
    by_cases hlt : k < n
    · have HX : Hid (tab (k + 1) (fun j => numN seed (i + j) m + mo) = tab k (fun j => numN seed (i + j) m + mo) ++ [numN seed (i + k) m + mo]) := tab_snoc4 k _
      have RA : ∀ wv : World, Calls Tryd.prog 58 #[.int .u64 (seed : Int), .int .i64 ((i : Int) + (k : Int)), .int .i64 (m : Int)] wv fun e w' => e = .returned (.int .i32 (numN seed (i + k) m)) ∧ w' = wv := fun wv => by
        have := random_any seed (i + k) m wv (by omega) hm h0
        rwa [Int.natCast_add] at this
      have nb := numN_bd seed (i + k) m hm h0
      generalize numN seed (i + k) m = z at *
      have R := rowAt_one wr (z + mo) (by omega)
      have BA : Below wr.heap.size wr (wr.alloc (.cells #[.int .i32 (z + mo)] 55)) := (Below.refl _ _).alloc (Nat.le_refl _) _
      have F2 := F1.below BA
      have s1 := B1.size
      have s2 := BA.size
      have B2 := below_then B1 BA
      generalize hw2 : wr.alloc (.cells #[.int .i32 (z + mo)] 55) = w2 at *
      go_wp2_with (first | (go_at_call 58; refine (RA _).mono ?_; rintro e wr ⟨rfl, rfl⟩) | (at_builtin; refine wpList_append_row rfl _ _ rfl w.heap.size g k cap _ rfl (by exact F2) (some ⟨wr.heap.size, 0, none⟩) 1 1 _ rfl (by exact R) (fun h => by cases h) (by omega) (by omega) ?_; intro g' cap' w' F3 B3))
      go_roundg (n - (k + 1))
      case measure => omega
      case rel => exact ⟨k + 1, _, _, by omega, rfl, by go_num, rfl, by rw [HX.out]; exact F3, B2.trans B3⟩
    · obtain rfl : k = n := by omega
      go_wp2
      go_ret2
      exact ⟨_, _, rfl, F1, B1⟩
set_option maxHeartbeats 800000 in
theorem rsquare_any (seed i r c m : Nat) (w : World) (hi : i ≤ 500000) (h1 : r ≤ 128) (h2 : c ≤ 128) (hm : m ≤ 131072) (h0 : 1 ≤ m) :
   Calls Tryd.prog 38 #[.int .u64 (seed : Int), .int .i64 (i : Int), .int .i64 (r : Int), .int .i64 (c : Int), .int .i64 (m : Int)] w fun e w' => ∃ g cap, e = .returned (.tuple #[matV r c (some ⟨g, 0, none⟩) (r * c) cap, .int .i64 ((i + r * c : Nat) : Int)]) ∧ Fresh w' w.heap.size g (r * c) cap (numR seed i (r * c) m) ∧ Below w.heap.size w w' := by
  have h6 := size_le h1 h2
  have e1 : (r : Int) * (c : Int) = ((r * c : Nat) : Int) := by rw [Int.natCast_mul]
  have C := fun wv => rrow_any seed i (r * c) m 0 wv hi h6 hm h0 (by omega)
  generalize hrc : r * c = n at *
  have X0 := box_new w 0 0 none 0 0
  have B0 : Below w.heap.size w (w.alloc (.cells #[.int .i64 0, .int .i64 0, .slice none 0 0] 29)) := (Below.refl _ _).alloc (Nat.le_refl _) _
  have s0 : (w.alloc (.cells #[.int .i64 0, .int .i64 0, .slice none 0 0] 29)).heap.size = w.heap.size + 1 := by simp
  generalize hw0 : w.alloc (.cells #[.int .i64 0, .int .i64 0, .slice none 0 0] 29) = w0 at *
  go_enter Tryd.func38, Tryd.ntmps38
  go_wp2_with fail
  refine (C w0).mono ?_
  rintro e w1 ⟨g, cap, rfl, F1, B1⟩
  replace X0 := X0.below B1
  replace B1 := below_then B0 B1
  have hg : g ≠ w.heap.size := by have := F1.base; omega
  have u0 := X0.c0
  have u1 := X0.c1
  have u2 := X0.c2
  have f0 := X0.frozen 0
  have f1 := X0.frozen 1
  have f2 := X0.frozen 2
  clear hw0 C B0
  go_wp2_with fail
  refine bodyPost_ret (results_mat rfl _ _ w.heap.size _ _ _ _ _ rfl (X0.put _ _ _ _ _)) rfl ?_
  refine ⟨g, cap, rfl, ?_, Below.put B1 (Nat.le_refl _) _ _ _⟩
  have e : (tab n fun j => numN seed (i + j) m + ((0 : Nat) : Int)) = numR seed i n m := tab_congr fun j _ => by simp
  rw [e] at F1
  exact (F1.put hg _ _ _).mono (by omega)
end Go.Proofs.YtlmdjhdlfdandaaDoor

/- A model's numbers as the document's, all of them: the same rows, the layers in a row of their own. -/
namespace Go.Proofs.YtlmdjhdlfdandaaDoor
open Go.ChangeShapes Go.WideShapes Go.ChangeAt Go.RowKit
theorem Tryd.infoRB : (Tryd.prog.info? 86).map (fun i => (i.zero, i.size, i.bytes)) = some (some (.agg #[.slice none 0 0, .int .i64 0, .int .i64 0, .slice none 0 0, .int .i64 0, .int .i64 0, .slice none 0 0, .int .i64 0, .int .i64 0, .slice none 0 0, .int .i64 0, .int .i64 0, .slice none 0 0, .slice none 0 0, .int .i64 0, .int .i64 0, .slice none 0 0, .int .i64 0, .int .i64 0, .slice none 0 0]), 20, 288) := by kernel_rfl
theorem Tryd.infoRB1 : (Tryd.prog.info? 86).map (·.size) = some 20 := by kernel_rfl
theorem Tryd.infoRW : (Tryd.prog.info? 65).map (·.size) = some 8 := by kernel_rfl
/-- Layers, cell behind cell. -/
def flat (bs : List Bk) : List Value := bs.flatMap fun b => b.cells.toList
theorem flat_len : ∀ bs : List Bk, (flat bs).length = bs.length * 20
  | [] => rfl
  | b :: bs => by
    have := flat_len bs
    unfold flat at *
    rw [List.flatMap_cons, List.length_append, this, List.length_cons]
    show 20 + bs.length * 20 = _
    omega
theorem flat_cons (b : Bk) (bs : List Bk) : flat (b :: bs) = b.cells.toList ++ flat bs := by unfold flat; rw [List.flatMap_cons]
theorem bk_len (b : Bk) : b.cells.toList.length = 20 := rfl
theorem flat_at : ∀ (bs : List Bk) (t : Nat) (x : Bk), bs[t]? = some x → ∀ (j : Nat) (v : Value), x.cells.toList[j]? = some v → (flat bs)[t * 20 + j]? = some v
  | [], t, x, h, _, _, _ => by simp at h
  | b :: bs, t, x, h, j, v, hv => by
    have hl := bk_len b
    have hx := bk_len x
    have hj : j < 20 := by have := (List.getElem?_eq_some_iff.1 hv).1; omega
    cases t with
    | zero =>
      simp at h
      subst h
      rw [flat_cons, Nat.zero_mul, Nat.zero_add, List.getElem?_append_left (by omega)]
      exact hv
    | succ t =>
      have ih := flat_at bs t x (by simpa using h) j v hv
      rw [flat_cons, List.getElem?_append_right (by omega), hl, show (t + 1) * 20 + j - 20 = t * 20 + j by omega]
      exact ih
/-- A row of layers of the call's own. -/
structure OwnB (w : World) (B : Nat) (s : Sl) (bs : List Bk) : Prop where
  own : w.ownsRow B 86 20 s.v s.n (flat bs)
  ok : ∀ x ∈ bs, x.Ok
  few : s.n ≤ 1000000
theorem OwnB.len {w : World} {B : Nat} {s : Sl} {bs : List Bk} (h : OwnB w B s bs) : bs.length = s.n := by
  have := h.own.1
  rw [flat_len] at this
  omega
theorem OwnB.blocks {w : World} {B : Nat} {s : Sl} {bs : List Bk} (h : OwnB w B s bs) : BlocksAt w s bs := by
  refine ⟨h.len, by have := h.few; omega, h.ok, fun hn => ?_⟩
  rcases h.own.2 with ⟨h0, h1⟩ | ⟨g, cap, cur, hv, _⟩
  · omega
  · unfold Sl.v at hv
    simp only [Value.slice.injEq, true_and] at hv
    refine ⟨g, 0, hv.1, fun t x hx j v hv2 => ?_⟩
    have hc := h.own.cells (g := g) (by unfold Sl.v; rw [hv.1]; rfl) (t * 20 + j) v (flat_at bs t x hx j v hv2)
    rw [Addr.add_mid] at hc
    rw [Nat.zero_add] at hc ⊢
    exact hc
theorem OwnB.below {w w' : World} {B : Nat} {s : Sl} {bs : List Bk} (h : OwnB w B s bs) (hb : Below w.heap.size w w') : OwnB w' B s bs := by
  obtain ⟨h1, h2⟩ := h.own
  refine ⟨⟨h1, ?_⟩, h.ok, h.few⟩
  rcases h2 with h2 | ⟨g, cap, cur, hv, hg, hh, r⟩
  · exact Or.inl h2
  · exact Or.inr ⟨g, cap, cur, hv, hg, by rw [hb.block g (Array.getElem?_eq_some_iff.1 hh).1]; exact hh, r⟩
theorem ownB_nil (w : World) (B : Nat) : OwnB w B ⟨none, 0, 0⟩ [] := ⟨World.ownsRow_nil _ _ _ _, (fun x hx => by cases hx), (by show 0 ≤ 1000000; omega)⟩
/-- append(out, block). -/
theorem wpList_append_block {w : World} {ops : Array Oper} {rest : List Oper} {o : Oper} {a : Act} {Q : Exit → Act → World → Prop} (hgd : o.guard = none) (s x : Operand)
    (ho : o.op = .call { callee := .builtin .append, args := #[s, x], argTypes := #[63, 63] })
    (B : Nat) (S : Sl) (bs : List Bk) (hs : a.eval s = S.v) (hF : OwnB w B S bs) (bo : Nat) (y : Bk) (hx : a.eval x = .slice (some ⟨bo, 0, none⟩) 1 1) (hX : Blk w bo 86 y.cells) (hy : y.Ok)
    (hlen : S.n + 1 ≤ 1000000) (hB : B ≤ w.heap.size)
    (h : ∀ S' w', S'.n = S.n + 1 → OwnB w' B S' (bs ++ [y]) → Below B w w' → wpList Tryd.prog ops Q rest (a.put o.dst S'.v) w') : wpList Tryd.prog ops Q (o :: rest) a w := by
  obtain ⟨i0, hi, hz0, hz1, hz2⟩ := info_parts Tryd.infoRB
  refine wpList_append_own w hgd s x 63 ho B 86 i0 (.agg #[.slice none 0 0, .int .i64 0, .int .i64 0, .slice none 0 0, .int .i64 0, .int .i64 0, .slice none 0 0, .int .i64 0, .int .i64 0, .slice none 0 0, .int .i64 0, .int .i64 0, .slice none 0 0, .slice none 0 0, .int .i64 0, .int .i64 0, .slice none 0 0, .int .i64 0, .int .i64 0, .slice none 0 0]) 20 288 Tryd.underlying63 hi hz0 hz1 hz2 rfl (by decide) _ S.n _ hs hF.own ⟨bo, 0, none⟩ 1 1 y.cells.toList hx rfl ?_ ?_ (by unfold maxLen; omega) (by omega) hB ?_
  · intro j u hj
    rw [Addr.add_mid, Nat.zero_add]
    exact hX.cell j (by simpa using hj)
  · intro u hu
    exact (Array.all_eq_true_iff_forall_mem.1 (bk_one y)) u (by simpa using hu)
  · intro v' w' hown hg hnil
    have hb : Below B w w' := (Below.refl _ _).grown hg hB (fun k hk => (hF.own.lt k hk).1)
    have e : flat bs ++ y.cells.toList = flat (bs ++ [y]) := by unfold flat; rw [List.flatMap_append]; simp
    rw [e] at hown
    obtain ⟨h1, h2⟩ := hown
    rcases h2 with ⟨h3, h4⟩ | ⟨g', c', cur, hv, hr⟩
    · omega
    · subst hv
      exact h ⟨some ⟨g', 0, none⟩, S.n + 1, c'⟩ w' rfl ⟨⟨h1, Or.inr ⟨g', c', cur, rfl, hr⟩⟩, fun z hz => (List.mem_append.1 hz).elim (hF.ok z) (fun h => by simp at h; subst h; exact hy), hlen⟩ hb
end Go.Proofs.YtlmdjhdlfdandaaDoor

/- The document's model, made from a seed. Laid by tools/genrmake.py. -/
namespace Go.Proofs.YtlmdjhdlfdandaaDoor
open Go.ChangeShapes Go.WideShapes Go.ChangeAt Go.RowKit
/-- A slice that is a row of the call's own. -/
def FR (w : World) (B : Nat) (s : Sl) (n : Nat) (A : List Int) : Prop := ∃ g, s.ao = some ⟨g, 0, none⟩ ∧ s.n = n ∧ Fresh w B g n s.c A
theorem FR.below {w w' : World} {B : Nat} {s : Sl} {n : Nat} {A : List Int} (h : FR w B s n A) (hb : Below w.heap.size w w') : FR w' B s n A := by
  obtain ⟨g, h1, h2, F⟩ := h
  exact ⟨g, h1, h2, F.below hb⟩
theorem FR.keep {w w' : World} {B b : Nat} {T : TypeId} {cs : Array Value} {s : Sl} {n : Nat} {A : List Int} (h : FR w B s n A) (hb : Blk w b T cs) (hT : T ≠ 55) (so : ∀ k, k ≠ b → w'.heap[k]? = w.heap[k]?) : FR w' B s n A := by
  obtain ⟨g, h1, h2, F⟩ := h
  exact ⟨g, h1, h2, F.of_block (so g (F.ne hb hT))⟩
theorem FR.row {w : World} {B : Nat} {s : Sl} {n : Nat} {A : List Int} (h : FR w B s n A) : RowAt w s.ao n A := by
  obtain ⟨g, h1, _, F⟩ := h
  rw [h1]; exact F.rowAt
theorem FR.mono {w : World} {B B' : Nat} {s : Sl} {n : Nat} {A : List Int} (h : FR w B s n A) (hB : B' ≤ B) : FR w B' s n A := by
  obtain ⟨g, h1, h2, F⟩ := h
  exact ⟨g, h1, h2, F.mono hB⟩
structure FM (w : World) (B : Nat) (m : Mt) (r c n : Nat) (A : List Int) : Prop where
  r : m.r = r
  c : m.c = c
  d : FR w B m.d n A
/-- A layer of the document's model. -/
structure MadeR (w : World) (B seed i D H : Nat) (x : Bk) : Prop where
  f : FR w B x.f D (gainR seed i D)
  q : FM w B x.q D D (D * D) (numR seed (i + D) (D * D) 65536)
  k : FM w B x.k D D (D * D) (numR seed (i + D + D * D) (D * D) 65536)
  v : FM w B x.v D D (D * D) (numR seed (i + D + D * D + D * D) (D * D) 65536)
  o : FM w B x.o D D (D * D) (numR seed (i + D + D * D + D * D + D * D) (D * D) 65536)
  s : FR w B x.s D (gainR seed (i + D + D * D + D * D + D * D + D * D) D)
  u : FM w B x.u H D (H * D) (numR seed (i + D + D * D + D * D + D * D + D * D + D) (H * D) 65536)
  d : FM w B x.d D H (D * H) (numR seed (i + D + D * D + D * D + D * D + D * D + D + H * D) (D * H) 65536)
theorem MadeR.below {w w' : World} {B seed i D H : Nat} {x : Bk} (h : MadeR w B seed i D H x) (hb : Below w.heap.size w w') : MadeR w' B seed i D H x :=
  ⟨h.f.below hb, ⟨h.q.r, h.q.c, h.q.d.below hb⟩, ⟨h.k.r, h.k.c, h.k.d.below hb⟩, ⟨h.v.r, h.v.c, h.v.d.below hb⟩, ⟨h.o.r, h.o.c, h.o.d.below hb⟩, h.s.below hb, ⟨h.u.r, h.u.c, h.u.d.below hb⟩, ⟨h.d.r, h.d.c, h.d.d.below hb⟩⟩
theorem MadeR.keep {w w' : World} {B b seed i D H : Nat} {T : TypeId} {cs : Array Value} {x : Bk} (h : MadeR w B seed i D H x) (hb : Blk w b T cs) (hT : T ≠ 55) (so : ∀ k, k ≠ b → w'.heap[k]? = w.heap[k]?) : MadeR w' B seed i D H x :=
  ⟨h.f.keep hb hT so, ⟨h.q.r, h.q.c, h.q.d.keep hb hT so⟩, ⟨h.k.r, h.k.c, h.k.d.keep hb hT so⟩, ⟨h.v.r, h.v.c, h.v.d.keep hb hT so⟩, ⟨h.o.r, h.o.c, h.o.d.keep hb hT so⟩, h.s.keep hb hT so, ⟨h.u.r, h.u.c, h.u.d.keep hb hT so⟩, ⟨h.d.r, h.d.c, h.d.d.keep hb hT so⟩⟩
theorem gain_tab (seed i n : Nat) : (tab n fun j => numN seed (i + j) 16384 + ((65536 : Nat) : Int)) = gainR seed i n := tab_congr fun j _ => by rw [Int.add_comm]; rfl
/-- One layer of the document's model, laid into block g8: the eight calls. -/
theorem lenB_le {D H : Nat} (h1 : D ≤ 32) (h2 : H ≤ 64) : lenB D H ≤ 8256 ∧ D * D ≤ 1024 ∧ H * D ≤ 2048 ∧ D * H ≤ 2048 := by
  have a1 : D * D ≤ 32 * 32 := Nat.mul_le_mul h1 h1
  have a2 : H * D ≤ 64 * 32 := Nat.mul_le_mul h2 h1
  have a3 : D * H ≤ 32 * 64 := Nat.mul_le_mul h1 h2
  unfold lenB
  omega

theorem OwnB.ne {w : World} {B : Nat} {s : Sl} {bs : List Bk} (h : OwnB w B s bs) {b : Nat} {T : TypeId} {cs : Array Value} (hb : w.heap[b]? = some (.cells cs T (0, 0))) (hT : T ≠ 86) : some b ≠ s.v.ownBlock := by
  intro e
  rcases h.own.2 with ⟨h0, _⟩ | ⟨g, cap, cur, hv, _, hh, _⟩
  · rw [h0] at e; simp [Value.ownBlock] at e
  · rw [hv] at e
    simp [Value.ownBlock] at e
    subst e
    rw [hb] at hh
    simp at hh
    exact hT hh.2
theorem OwnB.keep {w w' : World} {B b : Nat} {T : TypeId} {cs : Array Value} {s : Sl} {bs : List Bk} (h : OwnB w B s bs) (hb : Blk w b T cs) (hT : T ≠ 86) (so : ∀ k, k ≠ b → w'.heap[k]? = w.heap[k]?) : OwnB w' B s bs := by
  have hne := h.ne hb hT
  obtain ⟨h1, h2⟩ := h.own
  refine ⟨⟨h1, h2.imp id ?_⟩, h.ok, h.few⟩
  rintro ⟨g, cap, cur, hv, hg, hh, r⟩
  exact ⟨g, cap, cur, hv, hg, by rw [so g (fun e => hne (by rw [hv, e]; rfl))]; exact hh, r⟩
theorem OwnB.mono {w : World} {B B' : Nat} {s : Sl} {bs : List Bk} (h : OwnB w B s bs) (hB : B' ≤ B) : OwnB w B' s bs := by
  obtain ⟨h1, h2⟩ := h.own
  refine ⟨⟨h1, h2.imp id ?_⟩, h.ok, h.few⟩
  rintro ⟨g, cap, cur, hv, hg, r⟩
  exact ⟨g, cap, cur, hv, by omega, r⟩
/-- append(out, block): nothing turns but the row of layers. -/
theorem wpList_append_block2 {w : World} {ops : Array Oper} {rest : List Oper} {o : Oper} {a : Act} {Q : Exit → Act → World → Prop} (hgd : o.guard = none) (s x : Operand)
    (ho : o.op = .call { callee := .builtin .append, args := #[s, x], argTypes := #[63, 63] })
    (B : Nat) (S : Sl) (bs : List Bk) (hs : a.eval s = S.v) (hF : OwnB w B S bs) (bo : Nat) (y : Bk) (hx : a.eval x = .slice (some ⟨bo, 0, none⟩) 1 1) (hX : Blk w bo 86 y.cells) (hy : y.Ok)
    (hlen : S.n + 1 ≤ 1000000) (hB : B ≤ w.heap.size)
    (h : ∀ S' w', S'.n = S.n + 1 → OwnB w' B S' (bs ++ [y]) → Below B w w' → (∀ (k : Nat) (T : TypeId) (cs : Array Value), w.heap[k]? = some (.cells cs T (0, 0)) → T ≠ 86 → w'.heap[k]? = w.heap[k]?) → wpList Tryd.prog ops Q rest (a.put o.dst S'.v) w') : wpList Tryd.prog ops Q (o :: rest) a w := by
  obtain ⟨i0, hi, hz0, hz1, hz2⟩ := info_parts Tryd.infoRB
  refine wpList_append_own w hgd s x 63 ho B 86 i0 (.agg #[.slice none 0 0, .int .i64 0, .int .i64 0, .slice none 0 0, .int .i64 0, .int .i64 0, .slice none 0 0, .int .i64 0, .int .i64 0, .slice none 0 0, .int .i64 0, .int .i64 0, .slice none 0 0, .slice none 0 0, .int .i64 0, .int .i64 0, .slice none 0 0, .int .i64 0, .int .i64 0, .slice none 0 0]) 20 288 Tryd.underlying63 hi hz0 hz1 hz2 rfl (by decide) _ S.n _ hs hF.own ⟨bo, 0, none⟩ 1 1 y.cells.toList hx rfl ?_ ?_ (by unfold maxLen; omega) (by omega) hB ?_
  · intro j u hj
    rw [Addr.add_mid, Nat.zero_add]
    exact hX.cell j (by simpa using hj)
  · intro u hu
    exact (Array.all_eq_true_iff_forall_mem.1 (bk_one y)) u (by simpa using hu)
  · intro v' w' hown hg hnil
    have hb : Below B w w' := (Below.refl _ _).grown hg hB (fun k hk => (hF.own.lt k hk).1)
    have hk : ∀ (k : Nat) (T : TypeId) (cs : Array Value), w.heap[k]? = some (.cells cs T (0, 0)) → T ≠ 86 → w'.heap[k]? = w.heap[k]? := fun k T cs h1 h2 => hg.block k (Array.getElem?_eq_some_iff.1 h1).1 (hF.ne h1 h2)
    have e : flat bs ++ y.cells.toList = flat (bs ++ [y]) := by unfold flat; rw [List.flatMap_append]; simp
    rw [e] at hown
    obtain ⟨h1, h2⟩ := hown
    rcases h2 with ⟨h3, h4⟩ | ⟨g', c', cur, hv, hr⟩
    · omega
    · subst hv
      exact h ⟨some ⟨g', 0, none⟩, S.n + 1, c'⟩ w' rfl ⟨⟨h1, Or.inr ⟨g', c', cur, rfl, hr⟩⟩, fun z hz => (List.mem_append.1 hz).elim (hF.ok z) (fun h => by simp at h; subst h; exact hy), hlen⟩ hb hk
theorem FR.type {w w' : World} {B : Nat} {s : Sl} {n : Nat} {A : List Int} (h : FR w B s n A) (hk : ∀ (k : Nat) (T : TypeId) (cs : Array Value), w.heap[k]? = some (.cells cs T (0, 0)) → T ≠ 86 → w'.heap[k]? = w.heap[k]?) : FR w' B s n A := by
  obtain ⟨g, h1, h2, F⟩ := h
  obtain ⟨c9, h9, _⟩ := F.row
  exact ⟨g, h1, h2, F.of_block (hk g _ _ h9 (by decide))⟩
theorem MadeR.type {w w' : World} {B seed i D H : Nat} {x : Bk} (h : MadeR w B seed i D H x) (hk : ∀ (k : Nat) (T : TypeId) (cs : Array Value), w.heap[k]? = some (.cells cs T (0, 0)) → T ≠ 86 → w'.heap[k]? = w.heap[k]?) : MadeR w' B seed i D H x :=
  ⟨h.f.type hk, ⟨h.q.r, h.q.c, h.q.d.type hk⟩, ⟨h.k.r, h.k.c, h.k.d.type hk⟩, ⟨h.v.r, h.v.c, h.v.d.type hk⟩, ⟨h.o.r, h.o.c, h.o.d.type hk⟩, h.s.type hk, ⟨h.u.r, h.u.c, h.u.d.type hk⟩, ⟨h.d.r, h.d.c, h.d.d.type hk⟩⟩
theorem set3_other {w : World} {b o1 o2 o3 : Nat} {v1 v2 v3 : Value} : ∀ k, k ≠ b → (((w.setCell ⟨b, o1, none⟩ v1).setCell ⟨b, o2, none⟩ v2).setCell ⟨b, o3, none⟩ v3).heap[k]? = w.heap[k]? := fun k hk => by
  rw [Below.heap_setCell _ _ _ _ (by exact hk), Below.heap_setCell _ _ _ _ (by exact hk), Below.heap_setCell _ _ _ _ (by exact hk)]
theorem set1_other {w : World} {b o1 : Nat} {v1 : Value} : ∀ k, k ≠ b → (w.setCell ⟨b, o1, none⟩ v1).heap[k]? = w.heap[k]? := fun k hk => by
  rw [Below.heap_setCell _ _ _ _ (by exact hk)]
/-- One layer that is being made: its block, and that all elder ones stand. -/
theorem Below.set3 {B : Nat} {w w' : World} (h : Below B w w') {b : Nat} (hb : B ≤ b) (o1 o2 o3 : Nat) (v1 v2 v3 : Value) : Below B w (((w'.setCell ⟨b, o1, none⟩ v1).setCell ⟨b, o2, none⟩ v2).setCell ⟨b, o3, none⟩ v3) :=
  ((h.setCell (p := ⟨b, o1, none⟩) (by exact hb) _).setCell (p := ⟨b, o2, none⟩) (by exact hb) _).setCell (p := ⟨b, o3, none⟩) (by exact hb) _

set_option maxRecDepth 100000 in
set_option maxHeartbeats 6400000 in
theorem rmake_any (V D Hd H L : Nat) (seed : Nat) (w : World) (hf : shapeN V D Hd H L = 0) :
   Calls Tryd.prog 22 #[.agg (cfgC V D Hd H L), .int .u64 (seed : Int)] w fun e w' => ∃ (E S Ls O : Sl) (bs : List Bk), e = .returned (.agg (Wt.cells ⟨⟨V, D, E⟩, S, Ls, ⟨V, D, O⟩⟩)) ∧ S.n = L ∧ OwnB w' w.heap.size S bs ∧ (∀ j x, bs[j]? = some x → MadeR w' w.heap.size seed (V * D + j * lenB D H) D H x) ∧ FR w' w.heap.size E (V * D) (numR seed 0 (V * D) 131072) ∧ FR w' w.heap.size Ls D (gainR seed (V * D + L * lenB D H) D) ∧ FR w' w.heap.size O (V * D) (numR seed (V * D + L * lenB D H + D) (V * D) 65536) ∧ Below w.heap.size w w' := by
  have hk := shape_ok hf
  obtain ⟨l1, l2, l3, l4⟩ := lenB_le (D := D) (H := H) (by omega) (by omega)
  have vd : V * D ≤ 64 * 32 := Nat.mul_le_mul (by omega) (by omega)
  have X0 := blk_new w 23 (cfgC V D Hd H L)
  have B0 : Below w.heap.size w (w.alloc (.cells (cfgC V D Hd H L) 23)) := (Below.refl _ _).alloc (Nat.le_refl _) _
  have s0 : (w.alloc (.cells (cfgC V D Hd H L) 23)).heap.size = w.heap.size + 1 := by simp
  unfold cfgC at *
  generalize hw0 : w.alloc (.cells #[.int .i64 V, .int .i64 D, .int .i64 Hd, .int .i64 H, .int .i64 L] 23) = w0 at *
  have X1 := blk_new w0 65 #[.int .i64 0, .int .i64 0, .slice none 0 0, .slice none 0 0, .slice none 0 0, .int .i64 0, .int .i64 0, .slice none 0 0]
  have B1 : Below w0.heap.size w0 (w0.alloc (.cells #[.int .i64 0, .int .i64 0, .slice none 0 0, .slice none 0 0, .slice none 0 0, .int .i64 0, .int .i64 0, .slice none 0 0] 65)) := (Below.refl _ _).alloc (Nat.le_refl _) _
  have s1 : (w0.alloc (.cells #[.int .i64 0, .int .i64 0, .slice none 0 0, .slice none 0 0, .slice none 0 0, .int .i64 0, .int .i64 0, .slice none 0 0] 65)).heap.size = w0.heap.size + 1 := by simp
  rw [s0] at X1 s1
  generalize hw1 : w0.alloc (.cells #[.int .i64 0, .int .i64 0, .slice none 0 0, .slice none 0 0, .slice none 0 0, .int .i64 0, .int .i64 0, .slice none 0 0] 65) = w1 at *
  have X5 := blk_new w1 65 #[.int .i64 0, .int .i64 0, .slice none 0 0, .slice none 0 0, .slice none 0 0, .int .i64 0, .int .i64 0, .slice none 0 0]
  have B2 : Below w1.heap.size w1 (w1.alloc (.cells #[.int .i64 0, .int .i64 0, .slice none 0 0, .slice none 0 0, .slice none 0 0, .int .i64 0, .int .i64 0, .slice none 0 0] 65)) := (Below.refl _ _).alloc (Nat.le_refl _) _
  have s2 : (w1.alloc (.cells #[.int .i64 0, .int .i64 0, .slice none 0 0, .slice none 0 0, .slice none 0 0, .int .i64 0, .int .i64 0, .slice none 0 0] 65)).heap.size = w1.heap.size + 1 := by simp
  rw [s1] at X5 s2
  generalize hw2 : w1.alloc (.cells #[.int .i64 0, .int .i64 0, .slice none 0 0, .slice none 0 0, .slice none 0 0, .int .i64 0, .int .i64 0, .slice none 0 0] 65) = w2 at *
  have Y5 := X5.row #[.int .i64 0, .int .i64 0, .slice none 0 0, .slice none 0 0, .slice none 0 0, .int .i64 0, .int .i64 0, .slice none 0 0]
  have B3 := below_setRow B2 (by omega : w1.heap.size ≤ w.heap.size + 1 + 1) #[.int .i64 0, .int .i64 0, .slice none 0 0, .slice none 0 0, .slice none 0 0, .int .i64 0, .int .i64 0, .slice none 0 0]
  have s3 : (w2.setRow (w.heap.size + 1 + 1) #[.int .i64 0, .int .i64 0, .slice none 0 0, .slice none 0 0, .slice none 0 0, .int .i64 0, .int .i64 0, .slice none 0 0]).heap.size = w.heap.size + 1 + 1 + 1 := by simp [World.setRow]; omega
  generalize hw3 : w2.setRow (w.heap.size + 1 + 1) #[.int .i64 0, .int .i64 0, .slice none 0 0, .slice none 0 0, .slice none 0 0, .int .i64 0, .int .i64 0, .slice none 0 0] = w3 at *
  have hall8 : Array.all (#[.int .i64 0, .int .i64 0, .slice none 0 0, .slice none 0 0, .slice none 0 0, .int .i64 0, .int .i64 0, .slice none 0 0] : Array Value) (fun v => v.oneCell') = true := by simp [Value.oneCell']
  replace X0 := (X0.below B1).below B3
  replace X1 := X1.below B3
  replace B3 := below_then (below_then B0 B1) B3
  have c0 : w3.cell? ⟨w.heap.size, 0, none⟩ = some (.int .i64 V) := X0.cell 0 rfl
  have c1 : w3.cell? ⟨w.heap.size, 1, none⟩ = some (.int .i64 D) := X0.cell 1 rfl
  go_enter Tryd.func22, Tryd.ntmps22
  go_wp2_with (refine wpList_store_row rfl 65 _ _ rfl (w.heap.size + 1 + 1) #[.int .i64 0, .int .i64 0, .slice none 0 0, .slice none 0 0, .slice none 0 0, .int .i64 0, .int .i64 0, .slice none 0 0] rfl rfl 65 _ X5 Tryd.infoRW rfl hall8 ?_; rw [hw3])
  clear hw0 hw1 hw2 hw3 c0 c1 X5 B0 B1 B2 s0 s1 s2
  refine (rsquare_any seed 0 V D 131072 _ (by omega) (by omega) (by omega) (by omega) (by omega)).mono ?_
  rintro e w4 ⟨ge, ce, rfl, FE, B4⟩
  unfold matV
  rw [Nat.zero_add]

  have sz4 := B4.size
  replace FE : FR w4 w.heap.size ⟨some ⟨ge, 0, none⟩, V * D, ce⟩ (V * D) (numR seed 0 (V * D) 131072) := ⟨ge, rfl, rfl, FE.mono (by omega)⟩
  replace X0 := X0.below B4
  replace X1 := X1.below B4
  replace Y5 := Y5.below B4
  replace B4 := below_then B3 B4
  have XM := blk_new w4 29 #[.int .i64 0, .int .i64 0, .slice none 0 0]
  have BM : Below w4.heap.size w4 (w4.alloc (.cells #[.int .i64 0, .int .i64 0, .slice none 0 0] 29)) := (Below.refl _ _).alloc (Nat.le_refl _) _
  have sm : (w4.alloc (.cells #[.int .i64 0, .int .i64 0, .slice none 0 0] 29)).heap.size = w4.heap.size + 1 := by simp
  generalize hw5 : w4.alloc (.cells #[.int .i64 0, .int .i64 0, .slice none 0 0] 29) = w5 at *
  replace FE := FE.below BM
  replace X0 := X0.below BM
  replace X1 := X1.below BM
  replace Y5 := Y5.below BM
  replace B4 := below_then B4 BM
  have f0 := XM.frozen 0
  have f1 := XM.frozen 1
  have f2 := XM.frozen 2
  have d0 : w5.cell? ⟨w4.heap.size, 0, none⟩ = some (.int .i64 0) := XM.cell 0 rfl
  have d1 : w5.cell? ⟨w4.heap.size, 1, none⟩ = some (.int .i64 0) := XM.cell 1 rfl
  have d2 : w5.cell? ⟨w4.heap.size, 2, none⟩ = some (.slice none 0 0) := XM.cell 2 rfl
  have so : ∀ k, k ≠ w4.heap.size → (((w5.setCell ⟨w4.heap.size, 0, none⟩ (.int .i64 V)).setCell ⟨w4.heap.size, 1, none⟩ (.int .i64 D)).setCell ⟨w4.heap.size, 2, none⟩ (.slice (some ⟨ge, 0, none⟩) (V * D) ce)).heap[k]? = w5.heap[k]? := set3_other
  have XM2 : Blk (((w5.setCell ⟨w4.heap.size, 0, none⟩ (.int .i64 V)).setCell ⟨w4.heap.size, 1, none⟩ (.int .i64 D)).setCell ⟨w4.heap.size, 2, none⟩ (.slice (some ⟨ge, 0, none⟩) (V * D) ce)) w4.heap.size 29 #[.int .i64 V, .int .i64 D, .slice (some ⟨ge, 0, none⟩) (V * D) ce] := ((XM.set 0 _).set 1 _).set 2 _
  have B5 := Below.set3 B4 (by omega : w.heap.size ≤ w4.heap.size) 0 1 2 (.int .i64 V) (.int .i64 D) (.slice (some ⟨ge, 0, none⟩) (V * D) ce)
  have sm2 : (((w5.setCell ⟨w4.heap.size, 0, none⟩ (.int .i64 V)).setCell ⟨w4.heap.size, 1, none⟩ (.int .i64 D)).setCell ⟨w4.heap.size, 2, none⟩ (.slice (some ⟨ge, 0, none⟩) (V * D) ce)).heap.size = w5.heap.size := by simp [World.setCell]
  generalize hx5 : ((w5.setCell ⟨w4.heap.size, 0, none⟩ (.int .i64 V)).setCell ⟨w4.heap.size, 1, none⟩ (.int .i64 D)).setCell ⟨w4.heap.size, 2, none⟩ (.slice (some ⟨ge, 0, none⟩) (V * D) ce) = x5 at *
  replace FE := FE.keep XM (by decide) so
  replace X0 := X0.of_block (so _ (by omega))
  replace X1 := X1.of_block (so _ (by omega))
  replace Y5 := Y5.of_block (so _ (by omega))
  clear so XM B4 BM B3
  have m0 : x5.cell? ⟨w4.heap.size, 0, none⟩ = some (.int .i64 V) := XM2.cell 0 rfl
  have m1 : x5.cell? ⟨w4.heap.size, 1, none⟩ = some (.int .i64 D) := XM2.cell 1 rfl
  have m2 : x5.cell? ⟨w4.heap.size, 2, none⟩ = some (.slice (some ⟨ge, 0, none⟩) (V * D) ce) := XM2.cell 2 rfl
  have f3 := Y5.frozen 0
  have f4 := Y5.frozen 1
  have f5 := Y5.frozen 2
  have d3 : x5.cell? ⟨w.heap.size + 1 + 1, 0, none⟩ = some (.int .i64 0) := Y5.cell 0 rfl
  have d4 : x5.cell? ⟨w.heap.size + 1 + 1, 1, none⟩ = some (.int .i64 0) := Y5.cell 1 rfl
  have d5 : x5.cell? ⟨w.heap.size + 1 + 1, 2, none⟩ = some (.slice none 0 0) := Y5.cell 2 rfl
  have so : ∀ k, k ≠ w.heap.size + 1 + 1 → (((x5.setCell ⟨w.heap.size + 1 + 1, 0, none⟩ (.int .i64 V)).setCell ⟨w.heap.size + 1 + 1, 1, none⟩ (.int .i64 D)).setCell ⟨w.heap.size + 1 + 1, 2, none⟩ (.slice (some ⟨ge, 0, none⟩) (V * D) ce)).heap[k]? = x5.heap[k]? := set3_other
  have Y6 : Blk (((x5.setCell ⟨w.heap.size + 1 + 1, 0, none⟩ (.int .i64 V)).setCell ⟨w.heap.size + 1 + 1, 1, none⟩ (.int .i64 D)).setCell ⟨w.heap.size + 1 + 1, 2, none⟩ (.slice (some ⟨ge, 0, none⟩) (V * D) ce)) (w.heap.size + 1 + 1) 65 (Wt.cells ⟨⟨V, D, ⟨some ⟨ge, 0, none⟩, V * D, ce⟩⟩, ⟨none, 0, 0⟩, ⟨none, 0, 0⟩, ⟨0, 0, ⟨none, 0, 0⟩⟩⟩) := ((Y5.set 0 _).set 1 _).set 2 _
  have B6 := Below.set3 B5 (by omega : w.heap.size ≤ w.heap.size + 1 + 1) 0 1 2 (.int .i64 V) (.int .i64 D) (.slice (some ⟨ge, 0, none⟩) (V * D) ce)
  have sm3 : (((x5.setCell ⟨w.heap.size + 1 + 1, 0, none⟩ (.int .i64 V)).setCell ⟨w.heap.size + 1 + 1, 1, none⟩ (.int .i64 D)).setCell ⟨w.heap.size + 1 + 1, 2, none⟩ (.slice (some ⟨ge, 0, none⟩) (V * D) ce)).heap.size = x5.heap.size := by simp [World.setCell]
  generalize hx6 : ((x5.setCell ⟨w.heap.size + 1 + 1, 0, none⟩ (.int .i64 V)).setCell ⟨w.heap.size + 1 + 1, 1, none⟩ (.int .i64 D)).setCell ⟨w.heap.size + 1 + 1, 2, none⟩ (.slice (some ⟨ge, 0, none⟩) (V * D) ce) = x6 at *
  replace FE := FE.keep Y5 (by decide) so
  replace X0 := X0.of_block (so _ (by omega))
  replace X1 := X1.of_block (so _ (by omega))
  have s6 : w.heap.size + 1 + 1 + 1 ≤ x6.heap.size := by omega
  clear so XM2 B5 Y5 s3 sz4 sm sm2 sm3
  go_wp2_with fail
  clear hw5 hx5 hx6 f0 f1 f2 f3 f4 f5 d0 d1 d2 d3 d4 d5 m0 m1 m2

  go_loopg [7] L (fun r q wr => ∃ (t i : Nat) (pa : Option Addr) (pc : Nat) (bs : List Bk), t ≤ L ∧ r = L - t ∧ q = .int .i64 (i : Int) ∧ Hid (i = V * D + t * lenB D H) ∧ i ≤ 2048 + t * 8256 ∧ OwnB wr (w.heap.size + 1 + 1 + 1) ⟨pa, t, pc⟩ bs ∧ Hid (∀ j x, bs[j]? = some x → MadeR wr w.heap.size seed (V * D + j * lenB D H) D H x) ∧ FR wr w.heap.size ⟨some ⟨ge, 0, none⟩, V * D, ce⟩ (V * D) (numR seed 0 (V * D) 131072) ∧ Blk wr (w.heap.size + 1 + 1) 65 #[.int .i64 V, .int .i64 D, .slice (some ⟨ge, 0, none⟩) (V * D) ce, .slice pa t pc, .slice none 0 0, .int .i64 0, .int .i64 0, .slice none 0 0] ∧ Blk wr (w.heap.size + 1) 65 #[.int .i64 0, .int .i64 0, .slice none 0 0, .slice none 0 0, .slice none 0 0, .int .i64 0, .int .i64 0, .slice none 0 0] ∧ Blk wr w.heap.size 23 #[.int .i64 V, .int .i64 D, .int .i64 Hd, .int .i64 H, .int .i64 L] ∧ Below w.heap.size w wr ∧ w.heap.size + 1 + 1 + 1 ≤ wr.heap.size)
  case atStart => exact ⟨0, V * D, none, 0, [], by omega, by omega, by simp, (by show _ = _; rw [Nat.zero_mul, Nat.add_zero]), by omega, ownB_nil _ _, (fun j x h => by simp at h), FE, Y6, X1, X0, B6, s6⟩
  case round =>
    clear FE Y6 X1 X0 B6 s6
    obtain ⟨t, i, pa, pc, bs, ht, rfl, rfl, HI, bi, O1, HM, FE, Y6, X1, X0, B6, s6⟩ := hrel
    have c3 : wr.cell? ⟨w.heap.size + 1 + 1, 3, none⟩ = some (.slice pa t pc) := Y6.cell 3 rfl
    have c4 : wr.cell? ⟨w.heap.size, 4, none⟩ = some (.int .i64 L) := X0.cell 4 rfl
    have few := O1.few
    by_cases hlt : t < L
    · have XZ := blk_new wr 86 #[.slice none 0 0, .int .i64 0, .int .i64 0, .slice none 0 0, .int .i64 0, .int .i64 0, .slice none 0 0, .int .i64 0, .int .i64 0, .slice none 0 0, .int .i64 0, .int .i64 0, .slice none 0 0, .slice none 0 0, .int .i64 0, .int .i64 0, .slice none 0 0, .int .i64 0, .int .i64 0, .slice none 0 0]
      have BZ : Below wr.heap.size wr (wr.alloc (.cells #[.slice none 0 0, .int .i64 0, .int .i64 0, .slice none 0 0, .int .i64 0, .int .i64 0, .slice none 0 0, .int .i64 0, .int .i64 0, .slice none 0 0, .int .i64 0, .int .i64 0, .slice none 0 0, .slice none 0 0, .int .i64 0, .int .i64 0, .slice none 0 0, .int .i64 0, .int .i64 0, .slice none 0 0] 86)) := (Below.refl _ _).alloc (Nat.le_refl _) _
      generalize hwz : wr.alloc (.cells #[.slice none 0 0, .int .i64 0, .int .i64 0, .slice none 0 0, .int .i64 0, .int .i64 0, .slice none 0 0, .int .i64 0, .int .i64 0, .slice none 0 0, .int .i64 0, .int .i64 0, .slice none 0 0, .slice none 0 0, .int .i64 0, .int .i64 0, .slice none 0 0, .int .i64 0, .int .i64 0, .slice none 0 0] 86) = wz at *
      have X8 := XZ.row #[.slice none 0 0, .int .i64 0, .int .i64 0, .slice none 0 0, .int .i64 0, .int .i64 0, .slice none 0 0, .int .i64 0, .int .i64 0, .slice none 0 0, .int .i64 0, .int .i64 0, .slice none 0 0, .slice none 0 0, .int .i64 0, .int .i64 0, .slice none 0 0, .int .i64 0, .int .i64 0, .slice none 0 0]
      have K := below_setRow BZ (Nat.le_refl _) #[.slice none 0 0, .int .i64 0, .int .i64 0, .slice none 0 0, .int .i64 0, .int .i64 0, .slice none 0 0, .int .i64 0, .int .i64 0, .slice none 0 0, .int .i64 0, .int .i64 0, .slice none 0 0, .slice none 0 0, .int .i64 0, .int .i64 0, .slice none 0 0, .int .i64 0, .int .i64 0, .slice none 0 0]
      generalize hwy : wz.setRow wr.heap.size #[.slice none 0 0, .int .i64 0, .int .i64 0, .slice none 0 0, .int .i64 0, .int .i64 0, .slice none 0 0, .int .i64 0, .int .i64 0, .slice none 0 0, .int .i64 0, .int .i64 0, .slice none 0 0, .slice none 0 0, .int .i64 0, .int .i64 0, .slice none 0 0, .int .i64 0, .int .i64 0, .slice none 0 0] = wy at *
      have hallB : Array.all (#[.slice none 0 0, .int .i64 0, .int .i64 0, .slice none 0 0, .int .i64 0, .int .i64 0, .slice none 0 0, .int .i64 0, .int .i64 0, .slice none 0 0, .int .i64 0, .int .i64 0, .slice none 0 0, .slice none 0 0, .int .i64 0, .int .i64 0, .slice none 0 0, .int .i64 0, .int .i64 0, .slice none 0 0] : Array Value) (fun v => v.oneCell') = true := by simp [Value.oneCell']
      have c1 : wy.cell? ⟨w.heap.size, 1, none⟩ = some (.int .i64 D) := (X0.below K).cell 1 rfl
      go_wp2_with (refine wpList_store_row rfl 86 _ _ rfl wr.heap.size #[.slice none 0 0, .int .i64 0, .int .i64 0, .slice none 0 0, .int .i64 0, .int .i64 0, .slice none 0 0, .int .i64 0, .int .i64 0, .slice none 0 0, .int .i64 0, .int .i64 0, .slice none 0 0, .slice none 0 0, .int .i64 0, .int .i64 0, .slice none 0 0, .int .i64 0, .int .i64 0, .slice none 0 0] rfl rfl 86 _ XZ Tryd.infoRB1 rfl hallB ?_; rw [hwy])
      clear hwz hwy XZ BZ hallB c3 c4
      have ks := K.size
      refine (rrow_any seed i D 16384 65536 _ (by omega) (by omega) (by omega) (by omega) (by omega)).mono ?_
      rintro e v0 ⟨gf, cf, rfl, Ff, KB⟩
      obtain ⟨i0, Hi0⟩ : ∃ z, Hid (z = i + D) := ⟨_, rfl⟩
      have bi0 : i0 ≤ i + D := Nat.le_of_eq Hi0.out
      rw [← Hi0.out]
      replace Ff : FR v0 w.heap.size ⟨some ⟨gf, 0, none⟩, D, cf⟩ D (gainR seed i D) := ⟨gf, rfl, rfl, by rw [← gain_tab]; exact Ff.mono (by omega)⟩
      replace X8 := X8.below KB
      replace K := below_then K KB
      clear KB ks c1
      have fr0 := X8.frozen 0
      have cc0 : v0.cell? ⟨wr.heap.size, 0, none⟩ = some (.slice none 0 0) := X8.cell 0 rfl
      have so : ∀ k, k ≠ wr.heap.size → (v0.setCell ⟨wr.heap.size, 0, none⟩ (.slice (some ⟨gf, 0, none⟩) (D) cf)).heap[k]? = v0.heap[k]? := set1_other
      have X9 : Blk (v0.setCell ⟨wr.heap.size, 0, none⟩ (.slice (some ⟨gf, 0, none⟩) (D) cf)) wr.heap.size 86 #[.slice (some ⟨gf, 0, none⟩) (D) cf, .int .i64 0, .int .i64 0, .slice none 0 0, .int .i64 0, .int .i64 0, .slice none 0 0, .int .i64 0, .int .i64 0, .slice none 0 0, .int .i64 0, .int .i64 0, .slice none 0 0, .slice none 0 0, .int .i64 0, .int .i64 0, .slice none 0 0, .int .i64 0, .int .i64 0, .slice none 0 0] := (X8.set 0 (.slice (some ⟨gf, 0, none⟩) (D) cf))
      have K9 := K.setCell (p := ⟨wr.heap.size, 0, none⟩) (Nat.le_refl _) (.slice (some ⟨gf, 0, none⟩) (D) cf)
      generalize hx0 : v0.setCell ⟨wr.heap.size, 0, none⟩ (.slice (some ⟨gf, 0, none⟩) (D) cf) = x0 at *
      replace Ff := Ff.keep X8 (by decide) so
      replace X8 := X9
      replace K := K9
      clear X9 K9 so
      have c1 : x0.cell? ⟨w.heap.size, 1, none⟩ = some (.int .i64 D) := (X0.below K).cell 1 rfl
      go_wp2_with fail
      clear hx0 fr0 cc0
      have ks := K.size
      refine (rsquare_any seed i0 D D 65536 _ (by omega) (by omega) (by omega) (by omega) (by omega)).mono ?_
      rintro e v1 ⟨gq, cq, rfl, Fq, KB⟩
      unfold matV
      obtain ⟨i1, Hi1⟩ : ∃ z, Hid (z = i0 + D * D) := ⟨_, rfl⟩
      have bi1 : i1 ≤ i0 + D * D := Nat.le_of_eq Hi1.out
      rw [← Hi1.out]
      replace Fq : FR v1 w.heap.size ⟨some ⟨gq, 0, none⟩, D * D, cq⟩ (D * D) (numR seed i0 (D * D) 65536) := ⟨gq, rfl, rfl, Fq.mono (by omega)⟩
      replace Ff := Ff.below KB
      replace X8 := X8.below KB
      replace K := below_then K KB
      clear KB ks c1
      have fr0 := X8.frozen 1
      have cc0 : v1.cell? ⟨wr.heap.size, 1, none⟩ = some (.int .i64 0) := X8.cell 1 rfl
      have fr1 := X8.frozen 2
      have cc1 : v1.cell? ⟨wr.heap.size, 2, none⟩ = some (.int .i64 0) := X8.cell 2 rfl
      have fr2 := X8.frozen 3
      have cc2 : v1.cell? ⟨wr.heap.size, 3, none⟩ = some (.slice none 0 0) := X8.cell 3 rfl
      have so : ∀ k, k ≠ wr.heap.size → (((v1.setCell ⟨wr.heap.size, 1, none⟩ (.int .i64 D)).setCell ⟨wr.heap.size, 2, none⟩ (.int .i64 D)).setCell ⟨wr.heap.size, 3, none⟩ (.slice (some ⟨gq, 0, none⟩) (D * D) cq)).heap[k]? = v1.heap[k]? := set3_other
      have X9 : Blk (((v1.setCell ⟨wr.heap.size, 1, none⟩ (.int .i64 D)).setCell ⟨wr.heap.size, 2, none⟩ (.int .i64 D)).setCell ⟨wr.heap.size, 3, none⟩ (.slice (some ⟨gq, 0, none⟩) (D * D) cq)) wr.heap.size 86 #[.slice (some ⟨gf, 0, none⟩) (D) cf, .int .i64 D, .int .i64 D, .slice (some ⟨gq, 0, none⟩) (D * D) cq, .int .i64 0, .int .i64 0, .slice none 0 0, .int .i64 0, .int .i64 0, .slice none 0 0, .int .i64 0, .int .i64 0, .slice none 0 0, .slice none 0 0, .int .i64 0, .int .i64 0, .slice none 0 0, .int .i64 0, .int .i64 0, .slice none 0 0] := (((X8.set 1 (.int .i64 D)).set 2 (.int .i64 D)).set 3 (.slice (some ⟨gq, 0, none⟩) (D * D) cq))
      have K9 := Below.set3 K (Nat.le_refl _) 1 2 3 (.int .i64 D) (.int .i64 D) (.slice (some ⟨gq, 0, none⟩) (D * D) cq)
      generalize hx1 : ((v1.setCell ⟨wr.heap.size, 1, none⟩ (.int .i64 D)).setCell ⟨wr.heap.size, 2, none⟩ (.int .i64 D)).setCell ⟨wr.heap.size, 3, none⟩ (.slice (some ⟨gq, 0, none⟩) (D * D) cq) = x1 at *
      replace Ff := Ff.keep X8 (by decide) so
      replace Fq := Fq.keep X8 (by decide) so
      replace X8 := X9
      replace K := K9
      clear X9 K9 so
      have c1 : x1.cell? ⟨w.heap.size, 1, none⟩ = some (.int .i64 D) := (X0.below K).cell 1 rfl
      go_wp2_with fail
      clear hx1 fr0 cc0 fr1 cc1 fr2 cc2
      have ks := K.size
      refine (rsquare_any seed i1 D D 65536 _ (by omega) (by omega) (by omega) (by omega) (by omega)).mono ?_
      rintro e v2 ⟨gk, ck, rfl, Fk, KB⟩
      unfold matV
      obtain ⟨i2, Hi2⟩ : ∃ z, Hid (z = i1 + D * D) := ⟨_, rfl⟩
      have bi2 : i2 ≤ i1 + D * D := Nat.le_of_eq Hi2.out
      rw [← Hi2.out]
      replace Fk : FR v2 w.heap.size ⟨some ⟨gk, 0, none⟩, D * D, ck⟩ (D * D) (numR seed i1 (D * D) 65536) := ⟨gk, rfl, rfl, Fk.mono (by omega)⟩
      replace Ff := Ff.below KB
      replace Fq := Fq.below KB
      replace X8 := X8.below KB
      replace K := below_then K KB
      clear KB ks c1
      have fr0 := X8.frozen 4
      have cc0 : v2.cell? ⟨wr.heap.size, 4, none⟩ = some (.int .i64 0) := X8.cell 4 rfl
      have fr1 := X8.frozen 5
      have cc1 : v2.cell? ⟨wr.heap.size, 5, none⟩ = some (.int .i64 0) := X8.cell 5 rfl
      have fr2 := X8.frozen 6
      have cc2 : v2.cell? ⟨wr.heap.size, 6, none⟩ = some (.slice none 0 0) := X8.cell 6 rfl
      have so : ∀ k, k ≠ wr.heap.size → (((v2.setCell ⟨wr.heap.size, 4, none⟩ (.int .i64 D)).setCell ⟨wr.heap.size, 5, none⟩ (.int .i64 D)).setCell ⟨wr.heap.size, 6, none⟩ (.slice (some ⟨gk, 0, none⟩) (D * D) ck)).heap[k]? = v2.heap[k]? := set3_other
      have X9 : Blk (((v2.setCell ⟨wr.heap.size, 4, none⟩ (.int .i64 D)).setCell ⟨wr.heap.size, 5, none⟩ (.int .i64 D)).setCell ⟨wr.heap.size, 6, none⟩ (.slice (some ⟨gk, 0, none⟩) (D * D) ck)) wr.heap.size 86 #[.slice (some ⟨gf, 0, none⟩) (D) cf, .int .i64 D, .int .i64 D, .slice (some ⟨gq, 0, none⟩) (D * D) cq, .int .i64 D, .int .i64 D, .slice (some ⟨gk, 0, none⟩) (D * D) ck, .int .i64 0, .int .i64 0, .slice none 0 0, .int .i64 0, .int .i64 0, .slice none 0 0, .slice none 0 0, .int .i64 0, .int .i64 0, .slice none 0 0, .int .i64 0, .int .i64 0, .slice none 0 0] := (((X8.set 4 (.int .i64 D)).set 5 (.int .i64 D)).set 6 (.slice (some ⟨gk, 0, none⟩) (D * D) ck))
      have K9 := Below.set3 K (Nat.le_refl _) 4 5 6 (.int .i64 D) (.int .i64 D) (.slice (some ⟨gk, 0, none⟩) (D * D) ck)
      generalize hx2 : ((v2.setCell ⟨wr.heap.size, 4, none⟩ (.int .i64 D)).setCell ⟨wr.heap.size, 5, none⟩ (.int .i64 D)).setCell ⟨wr.heap.size, 6, none⟩ (.slice (some ⟨gk, 0, none⟩) (D * D) ck) = x2 at *
      replace Ff := Ff.keep X8 (by decide) so
      replace Fq := Fq.keep X8 (by decide) so
      replace Fk := Fk.keep X8 (by decide) so
      replace X8 := X9
      replace K := K9
      clear X9 K9 so
      have c1 : x2.cell? ⟨w.heap.size, 1, none⟩ = some (.int .i64 D) := (X0.below K).cell 1 rfl
      go_wp2_with fail
      clear hx2 fr0 cc0 fr1 cc1 fr2 cc2
      have ks := K.size
      refine (rsquare_any seed i2 D D 65536 _ (by omega) (by omega) (by omega) (by omega) (by omega)).mono ?_
      rintro e v3 ⟨gv, cv, rfl, Fv, KB⟩
      unfold matV
      obtain ⟨i3, Hi3⟩ : ∃ z, Hid (z = i2 + D * D) := ⟨_, rfl⟩
      have bi3 : i3 ≤ i2 + D * D := Nat.le_of_eq Hi3.out
      rw [← Hi3.out]
      replace Fv : FR v3 w.heap.size ⟨some ⟨gv, 0, none⟩, D * D, cv⟩ (D * D) (numR seed i2 (D * D) 65536) := ⟨gv, rfl, rfl, Fv.mono (by omega)⟩
      replace Ff := Ff.below KB
      replace Fq := Fq.below KB
      replace Fk := Fk.below KB
      replace X8 := X8.below KB
      replace K := below_then K KB
      clear KB ks c1
      have fr0 := X8.frozen 7
      have cc0 : v3.cell? ⟨wr.heap.size, 7, none⟩ = some (.int .i64 0) := X8.cell 7 rfl
      have fr1 := X8.frozen 8
      have cc1 : v3.cell? ⟨wr.heap.size, 8, none⟩ = some (.int .i64 0) := X8.cell 8 rfl
      have fr2 := X8.frozen 9
      have cc2 : v3.cell? ⟨wr.heap.size, 9, none⟩ = some (.slice none 0 0) := X8.cell 9 rfl
      have so : ∀ k, k ≠ wr.heap.size → (((v3.setCell ⟨wr.heap.size, 7, none⟩ (.int .i64 D)).setCell ⟨wr.heap.size, 8, none⟩ (.int .i64 D)).setCell ⟨wr.heap.size, 9, none⟩ (.slice (some ⟨gv, 0, none⟩) (D * D) cv)).heap[k]? = v3.heap[k]? := set3_other
      have X9 : Blk (((v3.setCell ⟨wr.heap.size, 7, none⟩ (.int .i64 D)).setCell ⟨wr.heap.size, 8, none⟩ (.int .i64 D)).setCell ⟨wr.heap.size, 9, none⟩ (.slice (some ⟨gv, 0, none⟩) (D * D) cv)) wr.heap.size 86 #[.slice (some ⟨gf, 0, none⟩) (D) cf, .int .i64 D, .int .i64 D, .slice (some ⟨gq, 0, none⟩) (D * D) cq, .int .i64 D, .int .i64 D, .slice (some ⟨gk, 0, none⟩) (D * D) ck, .int .i64 D, .int .i64 D, .slice (some ⟨gv, 0, none⟩) (D * D) cv, .int .i64 0, .int .i64 0, .slice none 0 0, .slice none 0 0, .int .i64 0, .int .i64 0, .slice none 0 0, .int .i64 0, .int .i64 0, .slice none 0 0] := (((X8.set 7 (.int .i64 D)).set 8 (.int .i64 D)).set 9 (.slice (some ⟨gv, 0, none⟩) (D * D) cv))
      have K9 := Below.set3 K (Nat.le_refl _) 7 8 9 (.int .i64 D) (.int .i64 D) (.slice (some ⟨gv, 0, none⟩) (D * D) cv)
      generalize hx3 : ((v3.setCell ⟨wr.heap.size, 7, none⟩ (.int .i64 D)).setCell ⟨wr.heap.size, 8, none⟩ (.int .i64 D)).setCell ⟨wr.heap.size, 9, none⟩ (.slice (some ⟨gv, 0, none⟩) (D * D) cv) = x3 at *
      replace Ff := Ff.keep X8 (by decide) so
      replace Fq := Fq.keep X8 (by decide) so
      replace Fk := Fk.keep X8 (by decide) so
      replace Fv := Fv.keep X8 (by decide) so
      replace X8 := X9
      replace K := K9
      clear X9 K9 so
      have c1 : x3.cell? ⟨w.heap.size, 1, none⟩ = some (.int .i64 D) := (X0.below K).cell 1 rfl
      go_wp2_with fail
      clear hx3 fr0 cc0 fr1 cc1 fr2 cc2
      have ks := K.size
      refine (rsquare_any seed i3 D D 65536 _ (by omega) (by omega) (by omega) (by omega) (by omega)).mono ?_
      rintro e v4 ⟨go, co, rfl, Fo, KB⟩
      unfold matV
      obtain ⟨i4, Hi4⟩ : ∃ z, Hid (z = i3 + D * D) := ⟨_, rfl⟩
      have bi4 : i4 ≤ i3 + D * D := Nat.le_of_eq Hi4.out
      rw [← Hi4.out]
      replace Fo : FR v4 w.heap.size ⟨some ⟨go, 0, none⟩, D * D, co⟩ (D * D) (numR seed i3 (D * D) 65536) := ⟨go, rfl, rfl, Fo.mono (by omega)⟩
      replace Ff := Ff.below KB
      replace Fq := Fq.below KB
      replace Fk := Fk.below KB
      replace Fv := Fv.below KB
      replace X8 := X8.below KB
      replace K := below_then K KB
      clear KB ks c1
      have fr0 := X8.frozen 10
      have cc0 : v4.cell? ⟨wr.heap.size, 10, none⟩ = some (.int .i64 0) := X8.cell 10 rfl
      have fr1 := X8.frozen 11
      have cc1 : v4.cell? ⟨wr.heap.size, 11, none⟩ = some (.int .i64 0) := X8.cell 11 rfl
      have fr2 := X8.frozen 12
      have cc2 : v4.cell? ⟨wr.heap.size, 12, none⟩ = some (.slice none 0 0) := X8.cell 12 rfl
      have so : ∀ k, k ≠ wr.heap.size → (((v4.setCell ⟨wr.heap.size, 10, none⟩ (.int .i64 D)).setCell ⟨wr.heap.size, 11, none⟩ (.int .i64 D)).setCell ⟨wr.heap.size, 12, none⟩ (.slice (some ⟨go, 0, none⟩) (D * D) co)).heap[k]? = v4.heap[k]? := set3_other
      have X9 : Blk (((v4.setCell ⟨wr.heap.size, 10, none⟩ (.int .i64 D)).setCell ⟨wr.heap.size, 11, none⟩ (.int .i64 D)).setCell ⟨wr.heap.size, 12, none⟩ (.slice (some ⟨go, 0, none⟩) (D * D) co)) wr.heap.size 86 #[.slice (some ⟨gf, 0, none⟩) (D) cf, .int .i64 D, .int .i64 D, .slice (some ⟨gq, 0, none⟩) (D * D) cq, .int .i64 D, .int .i64 D, .slice (some ⟨gk, 0, none⟩) (D * D) ck, .int .i64 D, .int .i64 D, .slice (some ⟨gv, 0, none⟩) (D * D) cv, .int .i64 D, .int .i64 D, .slice (some ⟨go, 0, none⟩) (D * D) co, .slice none 0 0, .int .i64 0, .int .i64 0, .slice none 0 0, .int .i64 0, .int .i64 0, .slice none 0 0] := (((X8.set 10 (.int .i64 D)).set 11 (.int .i64 D)).set 12 (.slice (some ⟨go, 0, none⟩) (D * D) co))
      have K9 := Below.set3 K (Nat.le_refl _) 10 11 12 (.int .i64 D) (.int .i64 D) (.slice (some ⟨go, 0, none⟩) (D * D) co)
      generalize hx4 : ((v4.setCell ⟨wr.heap.size, 10, none⟩ (.int .i64 D)).setCell ⟨wr.heap.size, 11, none⟩ (.int .i64 D)).setCell ⟨wr.heap.size, 12, none⟩ (.slice (some ⟨go, 0, none⟩) (D * D) co) = x4 at *
      replace Ff := Ff.keep X8 (by decide) so
      replace Fq := Fq.keep X8 (by decide) so
      replace Fk := Fk.keep X8 (by decide) so
      replace Fv := Fv.keep X8 (by decide) so
      replace Fo := Fo.keep X8 (by decide) so
      replace X8 := X9
      replace K := K9
      clear X9 K9 so
      have c1 : x4.cell? ⟨w.heap.size, 1, none⟩ = some (.int .i64 D) := (X0.below K).cell 1 rfl
      go_wp2_with fail
      clear hx4 fr0 cc0 fr1 cc1 fr2 cc2
      have ks := K.size
      refine (rrow_any seed i4 D 16384 65536 _ (by omega) (by omega) (by omega) (by omega) (by omega)).mono ?_
      rintro e v5 ⟨gs, cs, rfl, Fs, KB⟩
      obtain ⟨i5, Hi5⟩ : ∃ z, Hid (z = i4 + D) := ⟨_, rfl⟩
      have bi5 : i5 ≤ i4 + D := Nat.le_of_eq Hi5.out
      rw [← Hi5.out]
      replace Fs : FR v5 w.heap.size ⟨some ⟨gs, 0, none⟩, D, cs⟩ D (gainR seed i4 D) := ⟨gs, rfl, rfl, by rw [← gain_tab]; exact Fs.mono (by omega)⟩
      replace Ff := Ff.below KB
      replace Fq := Fq.below KB
      replace Fk := Fk.below KB
      replace Fv := Fv.below KB
      replace Fo := Fo.below KB
      replace X8 := X8.below KB
      replace K := below_then K KB
      clear KB ks c1
      have fr0 := X8.frozen 13
      have cc0 : v5.cell? ⟨wr.heap.size, 13, none⟩ = some (.slice none 0 0) := X8.cell 13 rfl
      have so : ∀ k, k ≠ wr.heap.size → (v5.setCell ⟨wr.heap.size, 13, none⟩ (.slice (some ⟨gs, 0, none⟩) (D) cs)).heap[k]? = v5.heap[k]? := set1_other
      have X9 : Blk (v5.setCell ⟨wr.heap.size, 13, none⟩ (.slice (some ⟨gs, 0, none⟩) (D) cs)) wr.heap.size 86 #[.slice (some ⟨gf, 0, none⟩) (D) cf, .int .i64 D, .int .i64 D, .slice (some ⟨gq, 0, none⟩) (D * D) cq, .int .i64 D, .int .i64 D, .slice (some ⟨gk, 0, none⟩) (D * D) ck, .int .i64 D, .int .i64 D, .slice (some ⟨gv, 0, none⟩) (D * D) cv, .int .i64 D, .int .i64 D, .slice (some ⟨go, 0, none⟩) (D * D) co, .slice (some ⟨gs, 0, none⟩) (D) cs, .int .i64 0, .int .i64 0, .slice none 0 0, .int .i64 0, .int .i64 0, .slice none 0 0] := (X8.set 13 (.slice (some ⟨gs, 0, none⟩) (D) cs))
      have K9 := K.setCell (p := ⟨wr.heap.size, 13, none⟩) (Nat.le_refl _) (.slice (some ⟨gs, 0, none⟩) (D) cs)
      generalize hx5 : v5.setCell ⟨wr.heap.size, 13, none⟩ (.slice (some ⟨gs, 0, none⟩) (D) cs) = x5 at *
      replace Ff := Ff.keep X8 (by decide) so
      replace Fq := Fq.keep X8 (by decide) so
      replace Fk := Fk.keep X8 (by decide) so
      replace Fv := Fv.keep X8 (by decide) so
      replace Fo := Fo.keep X8 (by decide) so
      replace Fs := Fs.keep X8 (by decide) so
      replace X8 := X9
      replace K := K9
      clear X9 K9 so
      have c1 : x5.cell? ⟨w.heap.size, 1, none⟩ = some (.int .i64 D) := (X0.below K).cell 1 rfl
      have c3 : x5.cell? ⟨w.heap.size, 3, none⟩ = some (.int .i64 H) := (X0.below K).cell 3 rfl
      go_wp2_with fail
      clear hx5 fr0 cc0
      have ks := K.size
      refine (rsquare_any seed i5 H D 65536 _ (by omega) (by omega) (by omega) (by omega) (by omega)).mono ?_
      rintro e v6 ⟨gu, cu, rfl, Fu, KB⟩
      unfold matV
      obtain ⟨i6, Hi6⟩ : ∃ z, Hid (z = i5 + H * D) := ⟨_, rfl⟩
      have bi6 : i6 ≤ i5 + H * D := Nat.le_of_eq Hi6.out
      rw [← Hi6.out]
      replace Fu : FR v6 w.heap.size ⟨some ⟨gu, 0, none⟩, H * D, cu⟩ (H * D) (numR seed i5 (H * D) 65536) := ⟨gu, rfl, rfl, Fu.mono (by omega)⟩
      replace Ff := Ff.below KB
      replace Fq := Fq.below KB
      replace Fk := Fk.below KB
      replace Fv := Fv.below KB
      replace Fo := Fo.below KB
      replace Fs := Fs.below KB
      replace X8 := X8.below KB
      replace K := below_then K KB
      clear KB ks c1 c3
      have fr0 := X8.frozen 14
      have cc0 : v6.cell? ⟨wr.heap.size, 14, none⟩ = some (.int .i64 0) := X8.cell 14 rfl
      have fr1 := X8.frozen 15
      have cc1 : v6.cell? ⟨wr.heap.size, 15, none⟩ = some (.int .i64 0) := X8.cell 15 rfl
      have fr2 := X8.frozen 16
      have cc2 : v6.cell? ⟨wr.heap.size, 16, none⟩ = some (.slice none 0 0) := X8.cell 16 rfl
      have so : ∀ k, k ≠ wr.heap.size → (((v6.setCell ⟨wr.heap.size, 14, none⟩ (.int .i64 H)).setCell ⟨wr.heap.size, 15, none⟩ (.int .i64 D)).setCell ⟨wr.heap.size, 16, none⟩ (.slice (some ⟨gu, 0, none⟩) (H * D) cu)).heap[k]? = v6.heap[k]? := set3_other
      have X9 : Blk (((v6.setCell ⟨wr.heap.size, 14, none⟩ (.int .i64 H)).setCell ⟨wr.heap.size, 15, none⟩ (.int .i64 D)).setCell ⟨wr.heap.size, 16, none⟩ (.slice (some ⟨gu, 0, none⟩) (H * D) cu)) wr.heap.size 86 #[.slice (some ⟨gf, 0, none⟩) (D) cf, .int .i64 D, .int .i64 D, .slice (some ⟨gq, 0, none⟩) (D * D) cq, .int .i64 D, .int .i64 D, .slice (some ⟨gk, 0, none⟩) (D * D) ck, .int .i64 D, .int .i64 D, .slice (some ⟨gv, 0, none⟩) (D * D) cv, .int .i64 D, .int .i64 D, .slice (some ⟨go, 0, none⟩) (D * D) co, .slice (some ⟨gs, 0, none⟩) (D) cs, .int .i64 H, .int .i64 D, .slice (some ⟨gu, 0, none⟩) (H * D) cu, .int .i64 0, .int .i64 0, .slice none 0 0] := (((X8.set 14 (.int .i64 H)).set 15 (.int .i64 D)).set 16 (.slice (some ⟨gu, 0, none⟩) (H * D) cu))
      have K9 := Below.set3 K (Nat.le_refl _) 14 15 16 (.int .i64 H) (.int .i64 D) (.slice (some ⟨gu, 0, none⟩) (H * D) cu)
      generalize hx6 : ((v6.setCell ⟨wr.heap.size, 14, none⟩ (.int .i64 H)).setCell ⟨wr.heap.size, 15, none⟩ (.int .i64 D)).setCell ⟨wr.heap.size, 16, none⟩ (.slice (some ⟨gu, 0, none⟩) (H * D) cu) = x6 at *
      replace Ff := Ff.keep X8 (by decide) so
      replace Fq := Fq.keep X8 (by decide) so
      replace Fk := Fk.keep X8 (by decide) so
      replace Fv := Fv.keep X8 (by decide) so
      replace Fo := Fo.keep X8 (by decide) so
      replace Fs := Fs.keep X8 (by decide) so
      replace Fu := Fu.keep X8 (by decide) so
      replace X8 := X9
      replace K := K9
      clear X9 K9 so
      have c1 : x6.cell? ⟨w.heap.size, 1, none⟩ = some (.int .i64 D) := (X0.below K).cell 1 rfl
      have c3 : x6.cell? ⟨w.heap.size, 3, none⟩ = some (.int .i64 H) := (X0.below K).cell 3 rfl
      go_wp2_with fail
      clear hx6 fr0 cc0 fr1 cc1 fr2 cc2
      have ks := K.size
      refine (rsquare_any seed i6 D H 65536 _ (by omega) (by omega) (by omega) (by omega) (by omega)).mono ?_
      rintro e v7 ⟨gd, cd, rfl, Fd, KB⟩
      unfold matV
      obtain ⟨i7, Hi7⟩ : ∃ z, Hid (z = i6 + D * H) := ⟨_, rfl⟩
      have bi7 : i7 ≤ i6 + D * H := Nat.le_of_eq Hi7.out
      rw [← Hi7.out]
      replace Fd : FR v7 w.heap.size ⟨some ⟨gd, 0, none⟩, D * H, cd⟩ (D * H) (numR seed i6 (D * H) 65536) := ⟨gd, rfl, rfl, Fd.mono (by omega)⟩
      replace Ff := Ff.below KB
      replace Fq := Fq.below KB
      replace Fk := Fk.below KB
      replace Fv := Fv.below KB
      replace Fo := Fo.below KB
      replace Fs := Fs.below KB
      replace Fu := Fu.below KB
      replace X8 := X8.below KB
      replace K := below_then K KB
      clear KB ks c1 c3
      have fr0 := X8.frozen 17
      have cc0 : v7.cell? ⟨wr.heap.size, 17, none⟩ = some (.int .i64 0) := X8.cell 17 rfl
      have fr1 := X8.frozen 18
      have cc1 : v7.cell? ⟨wr.heap.size, 18, none⟩ = some (.int .i64 0) := X8.cell 18 rfl
      have fr2 := X8.frozen 19
      have cc2 : v7.cell? ⟨wr.heap.size, 19, none⟩ = some (.slice none 0 0) := X8.cell 19 rfl
      have so : ∀ k, k ≠ wr.heap.size → (((v7.setCell ⟨wr.heap.size, 17, none⟩ (.int .i64 D)).setCell ⟨wr.heap.size, 18, none⟩ (.int .i64 H)).setCell ⟨wr.heap.size, 19, none⟩ (.slice (some ⟨gd, 0, none⟩) (D * H) cd)).heap[k]? = v7.heap[k]? := set3_other
      have X9 : Blk (((v7.setCell ⟨wr.heap.size, 17, none⟩ (.int .i64 D)).setCell ⟨wr.heap.size, 18, none⟩ (.int .i64 H)).setCell ⟨wr.heap.size, 19, none⟩ (.slice (some ⟨gd, 0, none⟩) (D * H) cd)) wr.heap.size 86 #[.slice (some ⟨gf, 0, none⟩) (D) cf, .int .i64 D, .int .i64 D, .slice (some ⟨gq, 0, none⟩) (D * D) cq, .int .i64 D, .int .i64 D, .slice (some ⟨gk, 0, none⟩) (D * D) ck, .int .i64 D, .int .i64 D, .slice (some ⟨gv, 0, none⟩) (D * D) cv, .int .i64 D, .int .i64 D, .slice (some ⟨go, 0, none⟩) (D * D) co, .slice (some ⟨gs, 0, none⟩) (D) cs, .int .i64 H, .int .i64 D, .slice (some ⟨gu, 0, none⟩) (H * D) cu, .int .i64 D, .int .i64 H, .slice (some ⟨gd, 0, none⟩) (D * H) cd] := (((X8.set 17 (.int .i64 D)).set 18 (.int .i64 H)).set 19 (.slice (some ⟨gd, 0, none⟩) (D * H) cd))
      have K9 := Below.set3 K (Nat.le_refl _) 17 18 19 (.int .i64 D) (.int .i64 H) (.slice (some ⟨gd, 0, none⟩) (D * H) cd)
      generalize hx7 : ((v7.setCell ⟨wr.heap.size, 17, none⟩ (.int .i64 D)).setCell ⟨wr.heap.size, 18, none⟩ (.int .i64 H)).setCell ⟨wr.heap.size, 19, none⟩ (.slice (some ⟨gd, 0, none⟩) (D * H) cd) = x7 at *
      replace Ff := Ff.keep X8 (by decide) so
      replace Fq := Fq.keep X8 (by decide) so
      replace Fk := Fk.keep X8 (by decide) so
      replace Fv := Fv.keep X8 (by decide) so
      replace Fo := Fo.keep X8 (by decide) so
      replace Fs := Fs.keep X8 (by decide) so
      replace Fu := Fu.keep X8 (by decide) so
      replace Fd := Fd.keep X8 (by decide) so
      replace X8 := X9
      replace K := K9
      clear X9 K9 so
      rw [Hi0.out] at Fq
      rw [Hi1.out, Hi0.out] at Fk
      rw [Hi2.out, Hi1.out, Hi0.out] at Fv
      rw [Hi3.out, Hi2.out, Hi1.out, Hi0.out] at Fo
      rw [Hi4.out, Hi3.out, Hi2.out, Hi1.out, Hi0.out] at Fs
      rw [Hi5.out, Hi4.out, Hi3.out, Hi2.out, Hi1.out, Hi0.out] at Fu
      rw [Hi6.out, Hi5.out, Hi4.out, Hi3.out, Hi2.out, Hi1.out, Hi0.out] at Fd
      have HY : Hid (MadeR x7 w.heap.size seed i D H ⟨⟨some ⟨gf, 0, none⟩, D, cf⟩, ⟨D, D, ⟨some ⟨gq, 0, none⟩, D * D, cq⟩⟩, ⟨D, D, ⟨some ⟨gk, 0, none⟩, D * D, ck⟩⟩, ⟨D, D, ⟨some ⟨gv, 0, none⟩, D * D, cv⟩⟩, ⟨D, D, ⟨some ⟨go, 0, none⟩, D * D, co⟩⟩, ⟨some ⟨gs, 0, none⟩, D, cs⟩, ⟨H, D, ⟨some ⟨gu, 0, none⟩, H * D, cu⟩⟩, ⟨D, H, ⟨some ⟨gd, 0, none⟩, D * H, cd⟩⟩⟩) := ⟨Ff, ⟨rfl, rfl, Fq⟩, ⟨rfl, rfl, Fk⟩, ⟨rfl, rfl, Fv⟩, ⟨rfl, rfl, Fo⟩, Fs, ⟨rfl, rfl, Fu⟩, ⟨rfl, rfl, Fd⟩⟩
      have H7 : Hid (i7 = V * D + (t + 1) * lenB D H) := by
        show _ = _
        rw [Hi7.out, Hi6.out, Hi5.out, Hi4.out, Hi3.out, Hi2.out, Hi1.out, Hi0.out, HI.out, Nat.add_mul, Nat.one_mul]
        generalize t * lenB D H = z
        unfold lenB
        omega
      have hb7 : i7 ≤ 2048 + (t + 1) * 8256 := by
        have e7 := H7.out
        have e8 := HI.out
        rw [Nat.add_mul, Nat.one_mul] at e7
        omega
      clear Ff Fq Fk Fv Fo Fs Fu Fd bi0 bi1 bi2 bi3 bi4 bi5 bi6 bi7 Hi0 Hi1 Hi2 Hi3 Hi4 Hi5 Hi6 Hi7
      have i64n : ∀ {n : Nat}, n ≤ 4096 → I64 (n : Int) := fun h => by unfold I64; omega
      have hyo : Bk.Ok ⟨⟨some ⟨gf, 0, none⟩, D, cf⟩, ⟨D, D, ⟨some ⟨gq, 0, none⟩, D * D, cq⟩⟩, ⟨D, D, ⟨some ⟨gk, 0, none⟩, D * D, ck⟩⟩, ⟨D, D, ⟨some ⟨gv, 0, none⟩, D * D, cv⟩⟩, ⟨D, D, ⟨some ⟨go, 0, none⟩, D * D, co⟩⟩, ⟨some ⟨gs, 0, none⟩, D, cs⟩, ⟨H, D, ⟨some ⟨gu, 0, none⟩, H * D, cu⟩⟩, ⟨D, H, ⟨some ⟨gd, 0, none⟩, D * H, cd⟩⟩⟩ := ⟨(by show D ≤ 9223372036854775807; omega), ⟨i64n (by omega), i64n (by omega)⟩, ⟨i64n (by omega), i64n (by omega)⟩, ⟨i64n (by omega), i64n (by omega)⟩, ⟨i64n (by omega), i64n (by omega)⟩, (by show D ≤ 9223372036854775807; omega), ⟨i64n (by omega), i64n (by omega)⟩, ⟨i64n (by omega), i64n (by omega)⟩⟩
      clear i64n
      have XN := blk_new x7 86 #[.slice (some ⟨gf, 0, none⟩) (D) cf, .int .i64 D, .int .i64 D, .slice (some ⟨gq, 0, none⟩) (D * D) cq, .int .i64 D, .int .i64 D, .slice (some ⟨gk, 0, none⟩) (D * D) ck, .int .i64 D, .int .i64 D, .slice (some ⟨gv, 0, none⟩) (D * D) cv, .int .i64 D, .int .i64 D, .slice (some ⟨go, 0, none⟩) (D * D) co, .slice (some ⟨gs, 0, none⟩) (D) cs, .int .i64 H, .int .i64 D, .slice (some ⟨gu, 0, none⟩) (H * D) cu, .int .i64 D, .int .i64 H, .slice (some ⟨gd, 0, none⟩) (D * H) cd]
      have BN : Below x7.heap.size x7 (x7.alloc (.cells #[.slice (some ⟨gf, 0, none⟩) (D) cf, .int .i64 D, .int .i64 D, .slice (some ⟨gq, 0, none⟩) (D * D) cq, .int .i64 D, .int .i64 D, .slice (some ⟨gk, 0, none⟩) (D * D) ck, .int .i64 D, .int .i64 D, .slice (some ⟨gv, 0, none⟩) (D * D) cv, .int .i64 D, .int .i64 D, .slice (some ⟨go, 0, none⟩) (D * D) co, .slice (some ⟨gs, 0, none⟩) (D) cs, .int .i64 H, .int .i64 D, .slice (some ⟨gu, 0, none⟩) (H * D) cu, .int .i64 D, .int .i64 H, .slice (some ⟨gd, 0, none⟩) (D * H) cd] 86)) := (Below.refl _ _).alloc (Nat.le_refl _) _
      generalize hwn : x7.alloc (.cells #[.slice (some ⟨gf, 0, none⟩) (D) cf, .int .i64 D, .int .i64 D, .slice (some ⟨gq, 0, none⟩) (D * D) cq, .int .i64 D, .int .i64 D, .slice (some ⟨gk, 0, none⟩) (D * D) ck, .int .i64 D, .int .i64 D, .slice (some ⟨gv, 0, none⟩) (D * D) cv, .int .i64 D, .int .i64 D, .slice (some ⟨go, 0, none⟩) (D * D) co, .slice (some ⟨gs, 0, none⟩) (D) cs, .int .i64 H, .int .i64 D, .slice (some ⟨gu, 0, none⟩) (H * D) cu, .int .i64 D, .int .i64 H, .slice (some ⟨gd, 0, none⟩) (D * H) cd] 86) = wn at *
      have c9 : x7.cell? ⟨w.heap.size + 1 + 1, 3, none⟩ = some (.slice pa t pc) := (Y6.below K).cell 3 rfl
      have KN := below_then K BN
      have Y6n := Y6.below KN
      have kn := KN.size
      go_wp2_with (first
        | (refine wpList_load_row rfl 86 _ rfl wr.heap.size rfl 86 #[.slice (some ⟨gf, 0, none⟩) (D) cf, .int .i64 D, .int .i64 D, .slice (some ⟨gq, 0, none⟩) (D * D) cq, .int .i64 D, .int .i64 D, .slice (some ⟨gk, 0, none⟩) (D * D) ck, .int .i64 D, .int .i64 D, .slice (some ⟨gv, 0, none⟩) (D * D) cv, .int .i64 D, .int .i64 D, .slice (some ⟨go, 0, none⟩) (D * D) co, .slice (some ⟨gs, 0, none⟩) (D) cs, .int .i64 H, .int .i64 D, .slice (some ⟨gu, 0, none⟩) (H * D) cu, .int .i64 D, .int .i64 H, .slice (some ⟨gd, 0, none⟩) (D * H) cd] (0, 0) _ X8 Tryd.underlying86 rfl Tryd.infoRB1 ?_)
        | (at_builtin; refine wpList_append_block2 rfl (.tmp 113) (.tmp 115) rfl (w.heap.size + 1 + 1 + 1) ⟨pa, t, pc⟩ bs rfl (O1.below KN) x7.heap.size ⟨⟨some ⟨gf, 0, none⟩, D, cf⟩, ⟨D, D, ⟨some ⟨gq, 0, none⟩, D * D, cq⟩⟩, ⟨D, D, ⟨some ⟨gk, 0, none⟩, D * D, ck⟩⟩, ⟨D, D, ⟨some ⟨gv, 0, none⟩, D * D, cv⟩⟩, ⟨D, D, ⟨some ⟨go, 0, none⟩, D * D, co⟩⟩, ⟨some ⟨gs, 0, none⟩, D, cs⟩, ⟨H, D, ⟨some ⟨gu, 0, none⟩, H * D, cu⟩⟩, ⟨D, H, ⟨some ⟨gd, 0, none⟩, D * H, cd⟩⟩⟩ rfl XN hyo (by show t + 1 ≤ 1000000; omega) (by omega) ?_; intro S' wp hS' O9 B9 T9; obtain ⟨pa', pn', pc'⟩ := S'; simp only at hS'; subst hS'; unfold Sl.v; have Y9 := Y6n.of_block (B9.block (w.heap.size + 1 + 1) (by omega)); have f9 := Y9.frozen 3; have d9 : wp.cell? ⟨w.heap.size + 1 + 1, 3, none⟩ = some (.slice pa t pc) := Y9.cell 3 rfl; have s9 := B9.size))
      go_roundg (L - (t + 1))
      case measure => omega
      case rel =>
        have so : ∀ k, k ≠ w.heap.size + 1 + 1 → (wp.setCell ⟨w.heap.size + 1 + 1, 3, none⟩ (.slice pa' (t + 1) pc')).heap[k]? = wp.heap[k]? := set1_other
        have lb : bs.length = t := O1.len
        refine ⟨t + 1, i7, pa', pc', bs ++ [⟨⟨some ⟨gf, 0, none⟩, D, cf⟩, ⟨D, D, ⟨some ⟨gq, 0, none⟩, D * D, cq⟩⟩, ⟨D, D, ⟨some ⟨gk, 0, none⟩, D * D, ck⟩⟩, ⟨D, D, ⟨some ⟨gv, 0, none⟩, D * D, cv⟩⟩, ⟨D, D, ⟨some ⟨go, 0, none⟩, D * D, co⟩⟩, ⟨some ⟨gs, 0, none⟩, D, cs⟩, ⟨H, D, ⟨some ⟨gu, 0, none⟩, H * D, cu⟩⟩, ⟨D, H, ⟨some ⟨gd, 0, none⟩, D * H, cd⟩⟩⟩], by omega, rfl, rfl, H7, hb7, O9.keep Y9 (by decide) so, (fun j x hx => ?_), ((FE.below KN).type T9).keep Y9 (by decide) so, Y9.set 3 _, ((X1.below KN).of_block (B9.block _ (by omega))).of_block (so _ (by omega)), ((X0.below KN).of_block (B9.block _ (by omega))).of_block (so _ (by omega)), ((below_then B6 KN).trans (B9.mono (by omega))).setCell (p := ⟨w.heap.size + 1 + 1, 3, none⟩) (by show w.heap.size ≤ w.heap.size + 1 + 1; omega) _, by simp [World.setCell]; omega⟩
        rcases Nat.lt_or_ge j bs.length with hj | hj
        · rw [List.getElem?_append_left hj] at hx
          exact (((HM.out j x hx).below KN).type T9).keep Y9 (by decide) so
        · rw [List.getElem?_append_right hj] at hx
          have hj2 := (List.getElem?_eq_some_iff.1 hx).1
          simp only [List.length_cons, List.length_nil] at hj2
          obtain rfl : j = t := by omega
          rw [lb, Nat.sub_self] at hx
          simp only [List.getElem?_cons_zero, Option.some.injEq] at hx
          subst hx
          rw [← HI.out]
          exact ((HY.out.below BN).type T9).keep Y9 (by decide) so
    · obtain rfl : L = t := by omega
      have c1 : wr.cell? ⟨w.heap.size, 1, none⟩ = some (.int .i64 D) := X0.cell 1 rfl
      go_wp2_with fail
      clear c3 c4 c1 hlt ht
      refine (rrow_any seed i D 16384 65536 _ (by omega) (by omega) (by omega) (by omega) (by omega)).mono ?_
      rintro e y0 ⟨gl, cl, rfl, Fl, KB⟩
      obtain ⟨i9, H9⟩ : ∃ z, Hid (z = i + D) := ⟨_, rfl⟩
      have bi9 : i9 ≤ i + D := Nat.le_of_eq H9.out
      rw [← H9.out]
      replace Fl : FR y0 w.heap.size ⟨some ⟨gl, 0, none⟩, D, cl⟩ D (gainR seed i D) := ⟨gl, rfl, rfl, by rw [← gain_tab]; exact Fl.mono (by omega)⟩
      have sy := KB.size
      replace HM : Hid (∀ j x, bs[j]? = some x → MadeR y0 w.heap.size seed (V * D + j * lenB D H) D H x) := fun j x hx => (HM.out j x hx).below KB
      replace O1 := O1.below KB
      replace FE := FE.below KB
      replace X0 := X0.below KB
      replace X1 := X1.below KB
      replace Y6 := Y6.below KB
      replace B6 := below_then B6 KB
      have fr := Y6.frozen 4
      have cc : y0.cell? ⟨w.heap.size + 1 + 1, 4, none⟩ = some (.slice none 0 0) := Y6.cell 4 rfl
      have so : ∀ k, k ≠ w.heap.size + 1 + 1 → (y0.setCell ⟨w.heap.size + 1 + 1, 4, none⟩ (.slice (some ⟨gl, 0, none⟩) D cl)).heap[k]? = y0.heap[k]? := set1_other
      have Y7 : Blk (y0.setCell ⟨w.heap.size + 1 + 1, 4, none⟩ (.slice (some ⟨gl, 0, none⟩) D cl)) (w.heap.size + 1 + 1) 65 #[.int .i64 V, .int .i64 D, .slice (some ⟨ge, 0, none⟩) (V * D) ce, .slice pa L pc, .slice (some ⟨gl, 0, none⟩) D cl, .int .i64 0, .int .i64 0, .slice none 0 0] := Y6.set 4 _
      have B7 := B6.setCell (p := ⟨w.heap.size + 1 + 1, 4, none⟩) (by show w.heap.size ≤ w.heap.size + 1 + 1; omega) (.slice (some ⟨gl, 0, none⟩) D cl)
      have sz : (y0.setCell ⟨w.heap.size + 1 + 1, 4, none⟩ (.slice (some ⟨gl, 0, none⟩) D cl)).heap.size = y0.heap.size := by simp [World.setCell]
      generalize hz0 : y0.setCell ⟨w.heap.size + 1 + 1, 4, none⟩ (.slice (some ⟨gl, 0, none⟩) D cl) = z0 at *
      replace HM : Hid (∀ j x, bs[j]? = some x → MadeR z0 w.heap.size seed (V * D + j * lenB D H) D H x) := fun j x hx => (HM.out j x hx).keep Y6 (by decide) so
      replace O1 := O1.keep Y6 (by decide) so
      replace FE := FE.keep Y6 (by decide) so
      replace Fl := Fl.keep Y6 (by decide) so
      replace X0 := X0.of_block (so _ (by omega))
      replace X1 := X1.of_block (so _ (by omega))
      have c0 : z0.cell? ⟨w.heap.size, 0, none⟩ = some (.int .i64 V) := X0.cell 0 rfl
      have c1 : z0.cell? ⟨w.heap.size, 1, none⟩ = some (.int .i64 D) := X0.cell 1 rfl
      clear KB so
      go_wp2_with fail
      clear hz0 fr cc c0 c1 Y6 B6
      refine (rsquare_any seed i9 V D 65536 _ (by omega) (by omega) (by omega) (by omega) (by omega)).mono ?_
      rintro e y1 ⟨gu, cu, rfl, Fu, KB⟩
      unfold matV
      replace Fu : FR y1 w.heap.size ⟨some ⟨gu, 0, none⟩, V * D, cu⟩ (V * D) (numR seed i9 (V * D) 65536) := ⟨gu, rfl, rfl, Fu.mono (by omega)⟩
      have sy1 := KB.size
      replace HM : Hid (∀ j x, bs[j]? = some x → MadeR y1 w.heap.size seed (V * D + j * lenB D H) D H x) := fun j x hx => (HM.out j x hx).below KB
      replace O1 := O1.below KB
      replace FE := FE.below KB
      replace Fl := Fl.below KB
      replace X1 := X1.below KB
      replace Y7 := Y7.below KB
      replace B7 := below_then B7 KB
      have fr0 := Y7.frozen 5
      have fr1 := Y7.frozen 6
      have fr2 := Y7.frozen 7
      have cc0 : y1.cell? ⟨w.heap.size + 1 + 1, 5, none⟩ = some (.int .i64 0) := Y7.cell 5 rfl
      have cc1 : y1.cell? ⟨w.heap.size + 1 + 1, 6, none⟩ = some (.int .i64 0) := Y7.cell 6 rfl
      have cc2 : y1.cell? ⟨w.heap.size + 1 + 1, 7, none⟩ = some (.slice none 0 0) := Y7.cell 7 rfl
      have so : ∀ k, k ≠ w.heap.size + 1 + 1 → (((y1.setCell ⟨w.heap.size + 1 + 1, 5, none⟩ (.int .i64 V)).setCell ⟨w.heap.size + 1 + 1, 6, none⟩ (.int .i64 D)).setCell ⟨w.heap.size + 1 + 1, 7, none⟩ (.slice (some ⟨gu, 0, none⟩) (V * D) cu)).heap[k]? = y1.heap[k]? := set3_other
      have Y8 : Blk (((y1.setCell ⟨w.heap.size + 1 + 1, 5, none⟩ (.int .i64 V)).setCell ⟨w.heap.size + 1 + 1, 6, none⟩ (.int .i64 D)).setCell ⟨w.heap.size + 1 + 1, 7, none⟩ (.slice (some ⟨gu, 0, none⟩) (V * D) cu)) (w.heap.size + 1 + 1) 65 #[.int .i64 V, .int .i64 D, .slice (some ⟨ge, 0, none⟩) (V * D) ce, .slice pa L pc, .slice (some ⟨gl, 0, none⟩) D cl, .int .i64 V, .int .i64 D, .slice (some ⟨gu, 0, none⟩) (V * D) cu] := ((Y7.set 5 _).set 6 _).set 7 _
      have B8 := Below.set3 B7 (by omega : w.heap.size ≤ w.heap.size + 1 + 1) 5 6 7 (.int .i64 V) (.int .i64 D) (.slice (some ⟨gu, 0, none⟩) (V * D) cu)
      generalize hz1 : ((y1.setCell ⟨w.heap.size + 1 + 1, 5, none⟩ (.int .i64 V)).setCell ⟨w.heap.size + 1 + 1, 6, none⟩ (.int .i64 D)).setCell ⟨w.heap.size + 1 + 1, 7, none⟩ (.slice (some ⟨gu, 0, none⟩) (V * D) cu) = z1 at *
      replace HM : Hid (∀ j x, bs[j]? = some x → MadeR z1 w.heap.size seed (V * D + j * lenB D H) D H x) := fun j x hx => (HM.out j x hx).keep Y7 (by decide) so
      replace O1 := O1.keep Y7 (by decide) so
      replace FE := FE.keep Y7 (by decide) so
      replace Fl := Fl.keep Y7 (by decide) so
      replace Fu := Fu.keep Y7 (by decide) so
      replace X1 := X1.of_block (so _ (by omega))
      clear KB so Y7 B7 X0
      have hall : Array.all (#[.int .i64 V, .int .i64 D, .slice (some ⟨ge, 0, none⟩) (V * D) ce, .slice pa L pc, .slice (some ⟨gl, 0, none⟩) D cl, .int .i64 V, .int .i64 D, .slice (some ⟨gu, 0, none⟩) (V * D) cu] : Array Value) (fun v => v.oneCell') = true := by simp [Value.oneCell']
      go_wp2_with (first | (refine wpList_load_row rfl 65 _ rfl (w.heap.size + 1 + 1) rfl 65 #[.int .i64 V, .int .i64 D, .slice (some ⟨ge, 0, none⟩) (V * D) ce, .slice pa L pc, .slice (some ⟨gl, 0, none⟩) D cl, .int .i64 V, .int .i64 D, .slice (some ⟨gu, 0, none⟩) (V * D) cu] (0, 0) _ Y8 Tryd.underlying65 rfl Tryd.infoRW ?_) | (refine wpList_store_row rfl 65 _ _ rfl (w.heap.size + 1) #[.int .i64 V, .int .i64 D, .slice (some ⟨ge, 0, none⟩) (V * D) ce, .slice pa L pc, .slice (some ⟨gl, 0, none⟩) D cl, .int .i64 V, .int .i64 D, .slice (some ⟨gu, 0, none⟩) (V * D) cu] rfl rfl 65 _ X1 Tryd.infoRW rfl hall ?_))
      refine bodyPost_ret (results_cell_row rfl _ _ (w.heap.size + 1) 65 #[.int .i64 V, .int .i64 D, .slice (some ⟨ge, 0, none⟩) (V * D) ce, .slice pa L pc, .slice (some ⟨gl, 0, none⟩) D cl, .int .i64 V, .int .i64 D, .slice (some ⟨gu, 0, none⟩) (V * D) cu] _ _ rfl (X1.row #[.int .i64 V, .int .i64 D, .slice (some ⟨ge, 0, none⟩) (V * D) ce, .slice pa L pc, .slice (some ⟨gl, 0, none⟩) D cl, .int .i64 V, .int .i64 D, .slice (some ⟨gu, 0, none⟩) (V * D) cu]) Tryd.underlying65 rfl Tryd.infoRW) rfl ?_
      have so : ∀ k, k ≠ w.heap.size + 1 → (z1.setRow (w.heap.size + 1) #[.int .i64 V, .int .i64 D, .slice (some ⟨ge, 0, none⟩) (V * D) ce, .slice pa L pc, .slice (some ⟨gl, 0, none⟩) D cl, .int .i64 V, .int .i64 D, .slice (some ⟨gu, 0, none⟩) (V * D) cu]).heap[k]? = z1.heap[k]? := fun k hk => setRow_other _ _ _ _ hk
      have e9 := H9.out
      have eI := HI.out
      rw [e9, eI] at Fu
      rw [eI] at Fl
      exact ⟨⟨some ⟨ge, 0, none⟩, V * D, ce⟩, ⟨pa, L, pc⟩, ⟨some ⟨gl, 0, none⟩, D, cl⟩, ⟨some ⟨gu, 0, none⟩, V * D, cu⟩, bs, rfl, rfl, (O1.keep X1 (by decide) so).mono (by omega), (fun j x hx => (HM.out j x hx).keep X1 (by decide) so), FE.keep X1 (by decide) so, Fl.keep X1 (by decide) so, Fu.keep X1 (by decide) so, below_setRow B8 (by omega) _⟩
end Go.Proofs.YtlmdjhdlfdandaaDoor

/- The awake check of the laws of layer 10 is true. -/
namespace Go.Proofs.YtlmdjhdlfdandaaDoor
open Go.ChangeShapes Go.WideShapes Go.ChangeAt Go.RowKit
theorem wt_one (W : Wt) : W.cells.all (·.oneCell') = true := by simp [Wt.cells, Sl.v, Value.oneCell']
theorem make_small (w : World) : Calls Tryd.prog 7 #[.agg #[.int .i64 2, .int .i64 1, .int .i64 1, .int .i64 1, .int .i64 1], .int .u64 1] w fun e w' => ∃ W bs M, e = .returned (.tuple #[.agg (Wt.cells W), .int .i64 0]) ∧ Good w' 2 1 1 1 1 W bs M ∧ Below w.heap.size w w' := by
  refine (make_any 2 1 1 1 1 1 w (by omega) (by decide)).mono ?_
  rintro e w' ⟨ge, gB, gl, go, rfl, M, B⟩
  obtain ⟨bs, G⟩ := made_good (Hd := 1) M (by decide)
  exact ⟨_, bs, _, rfl, G, B⟩
/-- An answer of one token. -/
theorem run_one {M : Mdl} {V D H Hd L : Nat} {P : List Int} {j : Nat} (h1 : overB (runS M V D H Hd L P j).Y 1 = true) (h2 : ∀ i, i < j → overB (runS M V D H Hd L P i).Y 1 = false) : j = 1 := by
  rcases Nat.lt_trichotomy j 1 with h | h | h
  · obtain rfl : j = 0 := by omega
    have e : (runS M V D H Hd L P 0).Y = [] := rfl
    rw [e] at h1
    exact absurd h1 (by decide)
  · exact h
  · have := over_not (h2 1 h)
    rw [runS_len] at this
    omega
end Go.Proofs.YtlmdjhdlfdandaaDoor
