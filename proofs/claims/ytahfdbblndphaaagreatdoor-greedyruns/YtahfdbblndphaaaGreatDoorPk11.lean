/- Contracts of the program's functions, part 11 of 17: what each call returns and leaves of memory. -/
import Derived.Test.YtahfdbblndphaaaGreatDoorPk10
import Derived.Test.YtahfdbblndphaaaGreatDoorPk8
import Derived.Test.YtahfdbblndphaaaGreatDoorPk4
import Derived.Test.YtahfdbblndphaaaGreatDoorPk5
import Derived.Test.YtahfdbblndphaaaGreatDoorPk6
import Derived.Test.YtahfdbblndphaaaGreatDoorPk3
import Derived.Test.YtahfdbblndphaaaGreatDoorPk9
import Derived.Test.YtahfdbblndphaaaGreatDoorPk7
/- The document's layer 8: what is liked, and all tokens one behind the other. Written by tools/genr8d.py. -/
namespace Go.Proofs.YtahfdbblndphaaaGreatDoor
open Go.ChangeShapes Go.WideShapes Go.ChangeAt Go.RowKit
set_option maxRecDepth 100000 in
set_option maxHeartbeats 4000000 in
theorem rlikes_any (V D H n k : Nat) (W : Wt) (bs : List Bk) (M : Mdl) (sr sk sv : Sl) (C : List (List (List Int))) (R : List (List Int)) (w : World) (hW : WtAt w V D H W bs M) (hC : DCube w sr C) (hk : C.length = k + 1) (hR : C[k]? = some R) (hn : R.length = n + 1) (hx : (rowOf R n).length = D) (h1 : 1 ≤ D) (h2 : D ≤ 5000) :
   Calls Tryz.prog 38 #[.agg W.cells, .agg #[sr.v, sk.v, sv.v]] w fun e w' => ∃ g cap, e = .returned (.slice (some ⟨g, 0, none⟩) V cap) ∧ Fresh w' w.heap.size g V cap (likR M V D (rowOf R n)) ∧ Below w.heap.size w w' := by
  have hl := hC.len
  have hks : k ≤ 1000 := by have := hC.small; omega
  obtain ⟨b, o, e0, hc⟩ := hC.cells (by omega)
  obtain ⟨b1, o1, n1, c1, k1, k2, k3, GR⟩ := hc k R hR
  have hg := GR.len
  obtain rfl : n1 = n + 1 := by omega
  obtain ⟨b2, o2, e1, hc2⟩ := GR.cells (by omega)
  simp only [Option.some.injEq, Addr.mk.injEq, and_true] at e1
  obtain ⟨rfl, rfl⟩ := e1
  obtain ⟨ro, m, c, y1, AR⟩ := hc2 n (by omega)
  obtain rfl : D = m := by have := AR.row.len; omega
  have hcap := GR.max
  obtain ⟨⟨er, ec, ⟨ea, en, ez⟩⟩, ⟨ba, bn, bz⟩, ⟨la, ln, lz⟩, ⟨or, oc, od⟩⟩ := W
  obtain ⟨ob, oo, on, oz, e1, MO⟩ := hW.o
  simp only [Mt.mk.injEq] at e1
  obtain ⟨rfl, rfl, rfl⟩ := e1
  obtain ⟨e2, AL⟩ := hW.l
  simp only at e2 AL
  replace e2 := e2.symm
  subst e2
  obtain ⟨ra, rn, rz⟩ := sr
  simp only at e0 hl
  subst e0
  obtain rfl : rn = k + 1 := by omega
  obtain ⟨ka, kn, kz⟩ := sk
  obtain ⟨va, vn, vz⟩ := sv
  have HMO : Hid (∀ W, Below w.heap.size w W → MatAt W V D ob oo on oz M.O) := fun W hb => MO.below hb
  have HAL : Hid (∀ W, Below w.heap.size w W → Arg W la D lz M.G) := fun W hb => AL.below hb
  have HAR : Hid (∀ W, Below w.heap.size w W → Arg W ro D c (rowOf R n)) := fun W hb => AR.below hb
  have HY : Hid (∀ W, Below w.heap.size w W → W.cell? ⟨b1, o1 + n, none⟩ = some (.slice ro D c)) := fun W hb => cell_keep y1 hb
  clear hW hC hc hc2 GR MO AL AR hx hR hg hn
  show Calls Tryz.prog 38 #[.agg #[.int .i64 er, .int .i64 ec, .slice ea en ez, .slice ba bn bz, .slice la D lz, .int .i64 (V : Int), .int .i64 (D : Int), .slice (some ⟨ob, oo, none⟩) on oz], .agg #[.slice (some ⟨b, o, none⟩) (k + 1) rz, .slice ka kn kz, .slice va vn vz]] w _
  have X0 := blk_new w 33 #[.int .i64 er, .int .i64 ec, .slice ea en ez, .slice ba bn bz, .slice la D lz, .int .i64 (V : Int), .int .i64 (D : Int), .slice (some ⟨ob, oo, none⟩) on oz]
  have B0 := below_alloc8 w (.cells #[.int .i64 er, .int .i64 ec, .slice ea en ez, .slice ba bn bz, .slice la D lz, .int .i64 (V : Int), .int .i64 (D : Int), .slice (some ⟨ob, oo, none⟩) on oz] 33)
  have s0 : (w.alloc (.cells #[.int .i64 er, .int .i64 ec, .slice ea en ez, .slice ba bn bz, .slice la D lz, .int .i64 (V : Int), .int .i64 (D : Int), .slice (some ⟨ob, oo, none⟩) on oz] 33)).heap.size = w.heap.size + 1 := by simp
  generalize hw0 : w.alloc (.cells #[.int .i64 er, .int .i64 ec, .slice ea en ez, .slice ba bn bz, .slice la D lz, .int .i64 (V : Int), .int .i64 (D : Int), .slice (some ⟨ob, oo, none⟩) on oz] 33) = wx0 at *
  have X1 := blk_new wx0 84 #[.slice (some ⟨b, o, none⟩) (k + 1) rz, .slice ka kn kz, .slice va vn vz]
  have B1 := below_alloc8 wx0 (.cells #[.slice (some ⟨b, o, none⟩) (k + 1) rz, .slice ka kn kz, .slice va vn vz] 84)
  have s1 : (wx0.alloc (.cells #[.slice (some ⟨b, o, none⟩) (k + 1) rz, .slice ka kn kz, .slice va vn vz] 84)).heap.size = wx0.heap.size + 1 := by simp
  generalize hw1 : wx0.alloc (.cells #[.slice (some ⟨b, o, none⟩) (k + 1) rz, .slice ka kn kz, .slice va vn vz] 84) = wx1 at *
  have X01 := X0.below B1
  have D1 := below_then B0 B1
  have z0 : wx1.cell? ⟨wx0.heap.size, 0, none⟩ = some (.slice (some ⟨b, o, none⟩) (k + 1) rz) := X1.cell 0 rfl
  have k1' := cell_keep k1 D1
  have HX : Hid (Blk wx1 w.heap.size 33 #[.int .i64 er, .int .i64 ec, .slice ea en ez, .slice ba bn bz, .slice la D lz, .int .i64 (V : Int), .int .i64 (D : Int), .slice (some ⟨ob, oo, none⟩) on oz]) := X01
  clear X0 X1 B0 B1 s0 s1 X01 k1
  go_enter Tryz.func38, Tryz.ntmps38
  go_upto_region 2 with fail
  clear hw0 hw1 z0 k1'
  have E0 : Below wx1.heap.size wx1 wx1.drew := (Below.refl _ wx1).drew
  have XE := HX.out.below E0
  have D2 := below_then D1 E0
  have SJ := And.intro XE (HY.out _ D2)
  have wn : IntKind.i64.wrap (n : Int) = (n : Int) := w64_in (by omega)
  refine wp_region_held_drew (S := fun w' => Blk w' w.heap.size 33 #[.int .i64 er, .int .i64 ec, .slice ea en ez, .slice ba bn bz, .slice la D lz, .int .i64 (V : Int), .int .i64 (D : Int), .slice (some ⟨ob, oo, none⟩) on oz] ∧ w'.cell? ⟨b1, o1 + n, none⟩ = some (.slice ro D c)) (by kernel_rfl) (SJ) (fun hHeld => ?_)
  generalize wx1.drew = wj at *
  refine wpAnyH_take (i := 0) (v := (.pointer (some ⟨w.heap.size, 5, none⟩))) rfl (by kernel_rfl) (by kernel_rfl) (by kernel_rfl) (fun _ _ _ h => h) (Or.inl ⟨by rfl, ?_⟩) (by assumption) ?_
  · intro w' hSw
    go_simp
  simp only [List.getElem_toArray, List.getElem_cons_zero, Act.put, List.setIfInBounds_toArray, List.set_cons_zero, List.set_cons_succ]
  refine wpAnyH_take (i := 1) (v := (.agg #[.int .i64 (V : Int), .int .i64 (D : Int), .slice (some ⟨ob, oo, none⟩) on oz])) rfl (by kernel_rfl) (by kernel_rfl) (by kernel_rfl) (fun _ _ _ h => h) (Or.inl ⟨by rfl, ?_⟩) (by assumption) ?_
  · intro w' hSw
    have y5 : w'.cell? ⟨w.heap.size, 5, none⟩ = some (.int .i64 (V : Int)) := hSw.1.cell 5 rfl
    have y6 : w'.cell? ⟨w.heap.size, 6, none⟩ = some (.int .i64 (D : Int)) := hSw.1.cell 6 rfl
    have y7 : w'.cell? ⟨w.heap.size, 7, none⟩ = some (.slice (some ⟨ob, oo, none⟩) on oz) := hSw.1.cell 7 rfl
    go_simp
  simp only [List.getElem_toArray, List.getElem_cons_succ, List.getElem_cons_zero, Act.put, List.setIfInBounds_toArray, List.set_cons_zero, List.set_cons_succ]
  refine wpAnyH_take (i := 2) (v := (.slice (some ⟨b1, o1, none⟩) (n + 1) c1)) rfl (by kernel_rfl) (by kernel_rfl) (by kernel_rfl) (fun _ _ _ h => h) (Or.inl ⟨by rfl, ?_⟩) (by assumption) ?_
  · intro w' hSw
    go_simp
  simp only [List.getElem_toArray, List.getElem_cons_succ, List.getElem_cons_zero, Act.put, List.setIfInBounds_toArray, List.set_cons_zero, List.set_cons_succ]
  refine wpAnyH_take (i := 3) (v := (.slice (some ⟨b1, o1, none⟩) (n + 1) c1)) rfl (by kernel_rfl) (by kernel_rfl) (by kernel_rfl) (fun _ _ _ h => h) (Or.inl ⟨by rfl, ?_⟩) (by assumption) ?_
  · intro w' hSw
    go_simp
  simp only [List.getElem_toArray, List.getElem_cons_succ, List.getElem_cons_zero, Act.put, List.setIfInBounds_toArray, List.set_cons_zero, List.set_cons_succ]
  refine wpAnyH_take (i := 4) (v := (.int .i64 ((n + 1 : Nat) : Int))) rfl (by kernel_rfl) (by kernel_rfl) (by kernel_rfl) (fun _ _ _ h => h) (Or.inl ⟨by rfl, ?_⟩) (by assumption) ?_
  · intro w' hSw
    go_simp
  simp only [List.getElem_toArray, List.getElem_cons_succ, List.getElem_cons_zero, Act.put, List.setIfInBounds_toArray, List.set_cons_zero, List.set_cons_succ]
  refine wpAnyH_take (i := 5) (v := (.int .i64 (n : Int))) rfl (by kernel_rfl) (by kernel_rfl) (by kernel_rfl) (fun _ _ _ h => h) (Or.inl ⟨by rfl, ?_⟩) (by assumption) ?_
  · intro w' hSw
    go_simp
  simp only [List.getElem_toArray, List.getElem_cons_succ, List.getElem_cons_zero, Act.put, List.setIfInBounds_toArray, List.set_cons_zero, List.set_cons_succ]
  refine wpAnyH_take (i := 6) (v := (.pointer (some ⟨b1, o1 + n, none⟩))) rfl (by kernel_rfl) (by kernel_rfl) (by kernel_rfl) (fun _ _ _ h => h) (Or.inl ⟨by rfl, ?_⟩) (by assumption) ?_
  · intro w' hSw
    go_simp; intro h9; omega
  simp only [List.getElem_toArray, List.getElem_cons_succ, List.getElem_cons_zero, Act.put, List.setIfInBounds_toArray, List.set_cons_zero, List.set_cons_succ]
  refine wpAnyH_take (i := 7) (v := (.slice ro D c)) rfl (by kernel_rfl) (by kernel_rfl) (by kernel_rfl) (fun _ _ _ h => h) (Or.inl ⟨by rfl, ?_⟩) (by assumption) ?_
  · intro w' hSw
    have y9 := hSw.2
    go_simp
  simp only [List.getElem_toArray, List.getElem_cons_succ, List.getElem_cons_zero, Act.put, List.setIfInBounds_toArray, List.set_cons_zero, List.set_cons_succ]
  refine wpAnyH_take (i := 8) (v := (.pointer (some ⟨w.heap.size, 4, none⟩))) rfl (by kernel_rfl) (by kernel_rfl) (by kernel_rfl) (fun _ _ _ h => h) (Or.inl ⟨by rfl, ?_⟩) (by assumption) ?_
  · intro w' hSw
    go_simp
  simp only [List.getElem_toArray, List.getElem_cons_succ, List.getElem_cons_zero, Act.put, List.setIfInBounds_toArray, List.set_cons_zero, List.set_cons_succ]
  refine wpAnyH_take (i := 9) (v := (.slice la D lz)) rfl (by kernel_rfl) (by kernel_rfl) (by kernel_rfl) (fun _ _ _ h => h) (Or.inl ⟨by rfl, ?_⟩) (by assumption) ?_
  · intro w' hSw
    have y4 : w'.cell? ⟨w.heap.size, 4, none⟩ = some (.slice la D lz) := hSw.1.cell 4 rfl
    go_simp
  simp only [List.getElem_toArray, List.getElem_cons_succ, List.getElem_cons_zero, Act.put, List.setIfInBounds_toArray, List.set_cons_zero, List.set_cons_succ]
  refine wpAnyH_ready (rs := [10]) (by kernel_rfl) (by simp) ?_
  refine AllReadyH.cons rfl (fun Kc hKc => ?_) AllReadyH.nil
  simp only [List.getElem_toArray, List.getElem_cons_succ, List.getElem_cons_zero]
  rw [if_pos (by rfl)]
  go_wp2_with fail
  refine (refNorm_any _ _ D _ _ (rowOf R n) M.G _ (HAR.out _ D2).row (HAL.out _ D2).row h1 (by omega)).mono ?_
  rintro e w2 ⟨gm, cm, rfl, FM, U1⟩
  have D3 := below_then D2 U1
  go_wp2_with fail
  refine hKc.out _ _ (⟨XE.below U1, HY.out _ D3⟩) (fun hHeld => ?_)
  clear hKc Kc
  refine wpAnyH_ready (rs := [11]) (by kernel_rfl) (by simp) ?_
  refine AllReadyH.cons rfl (fun Kc hKc => ?_) AllReadyH.nil
  simp only [List.getElem_toArray, List.getElem_cons_succ, List.getElem_cons_zero]
  rw [if_pos (by rfl)]
  go_wp2_with fail
  refine (refApply_any V D ob oo on oz M.O _ _ _ _ (HMO.out _ D3) FM.rowAt).mono ?_
  rintro e w3 ⟨gz, cz, rfl, FZ, U2⟩
  have D4 := below_then D3 U2
  go_wp2_with fail
  refine hKc.out _ _ (⟨(XE.below U1).below U2, HY.out _ D4⟩) (fun hHeld => ?_)
  clear hKc Kc
  refine wpAnyH_take (i := 12) (v := (.slice (some ⟨gz, 0, none⟩) V cz)) rfl (by kernel_rfl) (by kernel_rfl) (by kernel_rfl) (fun _ _ _ h => h) (Or.inl ⟨by rfl, ?_⟩) (by assumption) ?_
  · intro w' hSw
    go_simp
  simp only [List.getElem_toArray, List.getElem_cons_succ, List.getElem_cons_zero, Act.put, List.setIfInBounds_toArray, List.set_cons_zero, List.set_cons_succ]
  refine wpAnyH_done (by kernel_rfl) ?_ _
  go_wp2
  go_ret
  exact ⟨gz, cz, rfl, FZ.mono D3.size, D4⟩
/-- What the document keeps of tokens: nothing of none. -/
def fR (M : Mdl) (D H Hd L : Nat) (A : List Int) : List (List (List Int)) := if A.length = 0 then [] else (List.range (L + 1)).map (rowsL M D H Hd A)
def fK (M : Mdl) (D H Hd L : Nat) (A : List Int) : List (List (List Int)) := if A.length = 0 then [] else fullK M D H Hd L A
def fV (M : Mdl) (D H Hd L : Nat) (A : List Int) : List (List (List Int)) := if A.length = 0 then [] else fullV M D H Hd L A
theorem rowsL_nil (M : Mdl) (D H Hd l : Nat) : rowsL M D H Hd [] l = [] := List.length_eq_zero_iff.1 (rowsL_len M D H Hd [] l)
theorem fR_at (M : Mdl) (D H Hd L : Nat) (A : List Int) {l : Nat} (h : l ≤ L) : (fR M D H Hd L A).getD l [] = rowsL M D H Hd A l := by
  unfold fR
  split
  · rename_i h0
    obtain rfl : A = [] := List.length_eq_zero_iff.1 h0
    rw [rowsL_nil]; rfl
  · rw [List.getD_eq_getElem?_getD, List.getElem?_map, List.getElem?_range (by omega)]; rfl
theorem fK_at (M : Mdl) (D H Hd L : Nat) (A : List Int) {l : Nat} (h : l < L) : (fK M D H Hd L A).getD l [] = keysR (layAt M l) D (rowsL M D H Hd A l) := by
  unfold fK
  split
  · rename_i h0
    obtain rfl : A = [] := List.length_eq_zero_iff.1 h0
    rw [rowsL_nil]; rfl
  · exact fullK_at _ _ _ _ _ _ h
theorem fV_at (M : Mdl) (D H Hd L : Nat) (A : List Int) {l : Nat} (h : l < L) : (fV M D H Hd L A).getD l [] = valsR (layAt M l) D (rowsL M D H Hd A l) := by
  unfold fV
  split
  · rename_i h0
    obtain rfl : A = [] := List.length_eq_zero_iff.1 h0
    rw [rowsL_nil]; rfl
  · exact fullV_at _ _ _ _ _ _ h
theorem f_cached (M : Mdl) (D H Hd L : Nat) (A : List Int) : Cached M D H Hd L ⟨A, fK M D H Hd L A, fV M D H Hd L A⟩ A := ⟨rfl, fun _ h => fK_at M D H Hd L A h, fun _ h => fV_at M D H Hd L A h⟩
theorem f_step (M : Mdl) (D H Hd L : Nat) (A : List Int) (t : Int) {l : Nat} (h : l ≤ L) : xRow M D H Hd A.length (fK M D H Hd L A) (fV M D H Hd L A) (begR M.E D t.toNat A.length) l = rowOf (rowsL M D H Hd (A ++ [t]) l) A.length ∧ rowsL M D H Hd (A ++ [t]) l = rowsL M D H Hd A l ++ [xRow M D H Hd A.length (fK M D H Hd L A) (fV M D H Hd L A) (begR M.E D t.toNat A.length) l] := by
  have e := rowsL_snoc (f_cached M D H Hd L A) t l h
  refine ⟨?_, e⟩
  rw [e]
  have := rowOf_last (rowsL M D H Hd A l) (xRow M D H Hd A.length (fK M D H Hd L A) (fV M D H Hd L A) (begR M.E D t.toNat A.length) l)
  rw [rowsL_len] at this
  exact this.symm
theorem goR_f (M : Mdl) (D H Hd L : Nat) (A : List Int) (t : Int) : (List.range (L + 1)).map (goR M D H Hd A.length (fR M D H Hd L A) (fK M D H Hd L A) (fV M D H Hd L A) (begR M.E D t.toNat A.length)) = fR M D H Hd L (A ++ [t]) := by
  have h0 : ¬ (A ++ [t]).length = 0 := by simp
  unfold fR
  rw [if_neg h0]
  refine List.map_congr_left fun l hl => ?_
  have hl' : l ≤ L := by have := List.mem_range.1 hl; omega
  show (fR M D H Hd L A).getD l [] ++ _ = _
  rw [fR_at M D H Hd L A hl', (f_step M D H Hd L A t hl').2]
theorem goK_f (M : Mdl) (D H Hd L : Nat) (A : List Int) (t : Int) : (List.range L).map (goK M D H Hd A.length (fK M D H Hd L A) (fV M D H Hd L A) (begR M.E D t.toNat A.length)) = fK M D H Hd L (A ++ [t]) := by
  have h0 : ¬ (A ++ [t]).length = 0 := by simp
  have e : fK M D H Hd L (A ++ [t]) = fullK M D H Hd L (A ++ [t]) := by unfold fK; rw [if_neg h0]
  rw [e]
  unfold fullK
  refine List.map_congr_left fun l hl => ?_
  have hl' : l < L := List.mem_range.1 hl
  show (fK M D H Hd L A).getD l [] ++ _ = _
  rw [fK_at M D H Hd L A hl', (f_step M D H Hd L A t (by omega)).2]
  unfold keysR
  rw [List.map_append]
  rfl
theorem goV_f (M : Mdl) (D H Hd L : Nat) (A : List Int) (t : Int) : (List.range L).map (goV M D H Hd A.length (fK M D H Hd L A) (fV M D H Hd L A) (begR M.E D t.toNat A.length)) = fV M D H Hd L (A ++ [t]) := by
  have h0 : ¬ (A ++ [t]).length = 0 := by simp
  have e : fV M D H Hd L (A ++ [t]) = fullV M D H Hd L (A ++ [t]) := by unfold fV; rw [if_neg h0]
  rw [e]
  unfold fullV
  refine List.map_congr_left fun l hl => ?_
  have hl' : l < L := List.mem_range.1 hl
  show (fV M D H Hd L A).getD l [] ++ _ = _
  rw [fV_at M D H Hd L A hl', (f_step M D H Hd L A t (by omega)).2]
  unfold valsR
  rw [List.map_append]
  rfl
theorem f_m (M : Mdl) (D H Hd L : Nat) (A : List Int) : (if (fR M D H Hd L A).length = 0 then 0 else ((fR M D H Hd L A).getD 0 []).length) = A.length := by
  rw [fR_at M D H Hd L A (Nat.zero_le _), rowsL_len]
  unfold fR
  by_cases h : A.length = 0
  · rw [if_pos h, h]; rfl
  · rw [if_neg h, if_neg (by simp)]
theorem fK_rows (M : Mdl) (D H Hd L : Nat) (A : List Int) (l : Nat) (h : l < L) : ((fK M D H Hd L A).getD l []).length = A.length ∧ ∀ t, t < A.length → (rowOf ((fK M D H Hd L A).getD l []) t).length = D := by
  rw [fK_at M D H Hd L A h]
  refine ⟨by unfold keysR; rw [List.length_map, rowsL_len], fun t ht => ?_⟩
  rw [keysR_at _ _ (by rw [rowsL_len]; exact ht)]
  exact apl_len _ _ _ _
theorem fV_rows (M : Mdl) (D H Hd L : Nat) (A : List Int) (l : Nat) (h : l < L) : ((fV M D H Hd L A).getD l []).length = A.length ∧ ∀ t, t < A.length → (rowOf ((fV M D H Hd L A).getD l []) t).length = D := by
  rw [fV_at M D H Hd L A h]
  refine ⟨by unfold valsR; rw [List.length_map, rowsL_len], fun t ht => ?_⟩
  rw [valsR_at _ _ (by rw [rowsL_len]; exact ht)]
  exact apl_len _ _ _ _
theorem fKV_len (M : Mdl) (D H Hd L : Nat) (A : List Int) : (fK M D H Hd L A).length = (fV M D H Hd L A).length := by
  unfold fK fV
  split
  · rfl
  · simp [fullK, fullV]
theorem fR_small (M : Mdl) (D H Hd L : Nat) (A : List Int) (hA : A.length ≤ 1000) (l : Nat) : ((fR M D H Hd L A).getD l []).length ≤ 1000 := by
  by_cases h : l ≤ L
  · rw [fR_at M D H Hd L A h, rowsL_len]; exact hA
  · have : (fR M D H Hd L A).length ≤ l := by unfold fR; split <;> simp; omega
    rw [List.getD_eq_getElem?_getD, List.getElem?_eq_none this]
    simp
theorem take_step {A : List Int} {i : Nat} (h : i < A.length) : A.take (i + 1) = A.take i ++ [el A i] := by
  unfold el
  rw [List.take_add_one, List.getD_eq_getElem?_getD, List.getElem?_eq_getElem h]
  rfl

set_option maxRecDepth 100000 in
set_option maxHeartbeats 4000000 in
theorem rfull_any (V D Hd H L n ca : Nat) (ao : Option Addr) (W : Wt) (bs : List Bk) (M : Mdl) (A : List Int) (w : World) (hW : WtAt w V D H W bs M) (hbl : bs.length = L) (hA : IArg w ao n ca A) (ht : ∀ k, k < n → 0 ≤ el A k ∧ el A k < (V : Int)) (m2 : n ≤ 128) (h1 : 1 ≤ D) (h2 : D ≤ 32) (g1 : 1 ≤ Hd) (g2 : Hd ≤ 4) (hd : D % Hd = 0) (q1 : 1 ≤ H) (q2 : H ≤ 128) (hL : L ≤ 900) :
   Calls Tryz.prog 39 #[.agg (cfgC V D Hd H L), .agg W.cells, .slice ao n ca] w fun e w' => ∃ tr tk tv : Sl, e = .returned (.agg #[tr.v, tk.v, tv.v]) ∧ DCube w' tr (fR M D H Hd L A) ∧ DCube w' tk (fK M D H Hd L A) ∧ DCube w' tv (fV M D H Hd L A) ∧ Below w.heap.size w w' := by
  have HW : Hid (∀ wv, Below w.heap.size w wv → WtAt wv V D H W bs M) := fun wv hb => hW.below hb
  have HAA : Hid (∀ wv, Below w.heap.size w wv → IArg wv ao n ca A) := fun wv hb => hA.below hb
  have HGO := fun (p : Nat → Prop) (wv : World) (tok m : Nat) (sr sk sv : Sl) (B : List Int) (hb : Below w.heap.size w wv) => rgo_any p V D Hd H L B.length tok W bs M sr sk sv (fR M D H Hd L B) (fK M D H Hd L B) (fV M D H Hd L B) wv (HW.out wv hb) hbl
  have hlA : Hid (A.length = n) := hA.row.len
  have hn63 := hA.row.max
  have HT : Hid (∀ k, k < n → 0 ≤ el A k ∧ el A k < (V : Int)) := ht
  have siz : W.cells.size = 8 := rfl
  have HWC : Hid (W.cells = W.cells) := rfl
  show Calls Tryz.prog 39 #[.agg #[.int .i64 (V : Int), .int .i64 (D : Int), .int .i64 (Hd : Int), .int .i64 (H : Int), .int .i64 (L : Int)], .agg W.cells, .slice ao n ca] w _
  unfold cfgC at HGO
  generalize W.cells = ws at *
  clear hW hA ht HWC
  have X0 := blk_new w 23 #[.int .i64 (V : Int), .int .i64 (D : Int), .int .i64 (Hd : Int), .int .i64 (H : Int), .int .i64 (L : Int)]
  have B0 := below_alloc8 w (.cells #[.int .i64 (V : Int), .int .i64 (D : Int), .int .i64 (Hd : Int), .int .i64 (H : Int), .int .i64 (L : Int)] 23)
  have s0 : (w.alloc (.cells #[.int .i64 (V : Int), .int .i64 (D : Int), .int .i64 (Hd : Int), .int .i64 (H : Int), .int .i64 (L : Int)] 23)).heap.size = w.heap.size + 1 := by simp
  generalize hw0 : w.alloc (.cells #[.int .i64 (V : Int), .int .i64 (D : Int), .int .i64 (Hd : Int), .int .i64 (H : Int), .int .i64 (L : Int)] 23) = wx0 at *
  have X1 := blk_new wx0 33 ws
  have B1 := below_alloc8 wx0 (.cells ws 33)
  have s1 : (wx0.alloc (.cells ws 33)).heap.size = wx0.heap.size + 1 := by simp
  generalize hw1 : wx0.alloc (.cells ws 33) = wx1 at *
  have X2 := blk_new wx1 84 #[.slice none 0 0, .slice none 0 0, .slice none 0 0]
  have B2 := below_alloc8 wx1 (.cells #[.slice none 0 0, .slice none 0 0, .slice none 0 0] 84)
  have s2 : (wx1.alloc (.cells #[.slice none 0 0, .slice none 0 0, .slice none 0 0] 84)).heap.size = wx1.heap.size + 1 := by simp
  generalize hw2 : wx1.alloc (.cells #[.slice none 0 0, .slice none 0 0, .slice none 0 0] 84) = wx2 at *
  obtain ⟨XA, XB, VB, zB⟩ := var3 wx2 84 #[.slice none 0 0, .slice none 0 0, .slice none 0 0] #[.slice none 0 0, .slice none 0 0, .slice none 0 0]
  generalize hwA : wx2.alloc (.cells #[.slice none 0 0, .slice none 0 0, .slice none 0 0] 84) = wA at *
  generalize hwB : wA.setRow wx2.heap.size #[.slice none 0 0, .slice none 0 0, .slice none 0 0] = w3 at *
  have X03 := ((X0.below B1).below B2).below VB
  have X13 := (X1.below B2).below VB
  have X23 := X2.below VB
  have D3 := below_then (below_then (below_then B0 B1) B2) VB
  have HSZ : Hid (wx0.heap.size = w.heap.size + 1 ∧ wx1.heap.size = wx0.heap.size + 1 ∧ wx2.heap.size = wx1.heap.size + 1) := ⟨s0, s1, s2⟩
  clear X0 X1 X2 B0 B1 B2 VB s0 s1 s2 zB
  go_enter Tryz.func39, Tryz.ntmps39
  go_wp2_with (refine wpList_store_row rfl 84 _ _ rfl wx2.heap.size _ rfl rfl 84 _ XA Tryz.infoRP8 rfl (by simp [Value.oneCell']) ?_; rw [hwB])
  clear hw0 hw1 hw2 hwA hwB XA
  obtain ⟨P, hP⟩ : ∃ P : Nat → Prop, P = fun b => b ≠ wx2.heap.size ∧ b ≠ wx1.heap.size := ⟨_, rfl⟩
  have HP : Hid (∀ b, P b ↔ (b ≠ wx2.heap.size ∧ b ≠ wx1.heap.size)) := fun b => by rw [hP]
  clear hP
  go_loopg [13] n (fun r s13 wr => ∃ (i : Nat) (tr tk tv : Sl), i ≤ n ∧ r = n - i ∧ s13 = .int .i64 (i : Int) ∧ Blk wr wx2.heap.size 84 #[tr.v, tk.v, tv.v] ∧ PCube P wr tr (fR M D H Hd L (A.take i)) ∧ PCube P wr tk (fK M D H Hd L (A.take i)) ∧ PCube P wr tv (fV M D H Hd L (A.take i)) ∧ Blk wr w.heap.size 23 #[.int .i64 (V : Int), .int .i64 (D : Int), .int .i64 (Hd : Int), .int .i64 (H : Int), .int .i64 (L : Int)] ∧ Blk wr wx0.heap.size 33 ws ∧ Blk wr wx1.heap.size 84 #[.slice none 0 0, .slice none 0 0, .slice none 0 0] ∧ Below w.heap.size w wr)
  case atStart => exact ⟨0, ⟨none, 0, 0⟩, ⟨none, 0, 0⟩, ⟨none, 0, 0⟩, by omega, by omega, rfl, XB, pcube_nil _ _, pcube_nil _ _, pcube_nil _ _, X03, X13, X23, D3⟩
  case round =>
  clear XB X03 X13 X23 D3
  obtain ⟨i, tr, tk, tv, hi, rfl, rfl, XP, C1, C2, C3, X0, X1, X2, DW⟩ := hrel
  by_cases hlt : i < n
  · obtain ⟨b, o, rfl, hc⟩ := (HAA.out wr DW).row.cells (by omega)
    have c1 := hc i hlt
    obtain ⟨t1, t2⟩ := HT.out i hlt
    obtain ⟨tok, htok⟩ : ∃ t : Nat, el A i = (t : Int) := ⟨(el A i).toNat, by omega⟩
    have hti : (A.take i).length = i := by rw [List.length_take, hlA.out]; omega
    have e2 : A.take (i + 1) = A.take i ++ [(tok : Int)] := by rw [← htok]; exact take_step (by rw [hlA.out]; exact hlt)
    have GO := HGO P wr tok i tr tk tv (A.take i) DW C1 C2 C3 (f_m _ _ _ _ _ _) (fKV_len _ _ _ _ _ _) (fR_small _ _ _ _ _ _ (by omega)) (fK_rows _ _ _ _ _ _) (fV_rows _ _ _ _ _ _) (by omega) (by omega) h1 h2 g1 g2 hd q1 q2 hL
    have g7 := goR_f M D H Hd L (A.take i) (tok : Int)
    have g8 := goK_f M D H Hd L (A.take i) (tok : Int)
    have g9 := goV_f M D H Hd L (A.take i) (tok : Int)
    rw [Int.toNat_natCast] at g7 g8 g9
    rw [g7, g8, g9, ← e2] at GO
    have HCW : Hid (wx2.heap.size < wr.heap.size ∧ wx1.heap.size < wr.heap.size) := ⟨XP.lt, X2.lt⟩
    have a0 : wr.cell? ⟨w.heap.size, 0, none⟩ = some (.int .i64 (V : Int)) := X0.cell 0 rfl
    have a1 : wr.cell? ⟨w.heap.size, 1, none⟩ = some (.int .i64 (D : Int)) := X0.cell 1 rfl
    have a2 : wr.cell? ⟨w.heap.size, 2, none⟩ = some (.int .i64 (Hd : Int)) := X0.cell 2 rfl
    have a3 : wr.cell? ⟨w.heap.size, 3, none⟩ = some (.int .i64 (H : Int)) := X0.cell 3 rfl
    have a4 : wr.cell? ⟨w.heap.size, 4, none⟩ = some (.int .i64 (L : Int)) := X0.cell 4 rfl
    have c1' : wr.cell? ⟨b, o + i, none⟩ = some (.int .i64 (tok : Int)) := by rw [← htok]; exact c1
    clear hc c1 C1 C2 C3 g7 g8 g9 htok t1 t2 hti e2
    go_wp2_with (first
      | (refine wpList_load_row rfl 33 _ rfl wx0.heap.size rfl 33 _ (0, 0) _ X1 Tryz.underlying33 rfl (by rw [siz]; exact Tryz.infoRW8) ?_)
      | (refine wpList_load_row rfl 84 _ rfl wx2.heap.size rfl 84 _ (0, 0) _ XP Tryz.underlying84 rfl Tryz.infoRP8 ?_)
      | (go_at_call 49; refine GO.mono ?_; clear GO; rintro e w2 ⟨ur, uk, uv, rfl, E1, E2, E3, B2⟩; have XP2 := XP.below B2)
      | (refine wpList_store_row rfl 84 _ _ rfl wx2.heap.size _ rfl rfl 84 _ XP2 Tryz.infoRP8 rfl (all3c rfl rfl rfl) ?_))
    have XN := XP2.row #[ur.v, uk.v, uv.v]
    have hsz := HSZ.out
    have hcw := HCW.out
    have T : Tn (fun b => P b ∨ wr.heap.size ≤ b) P w2 (w2.setRow wx2.heap.size #[ur.v, uk.v, uv.v]) := ⟨by simp, fun b _ hb => by
      have hb2 : P b := by
        rcases hb with h | h
        · exact h
        · exact (HP.out b).2 ⟨by omega, by omega⟩
      exact ⟨hb2, setRow_other _ _ _ _ ((HP.out b).1 hb2).1⟩⟩
    have pp : ∀ b, (P b ∨ wr.heap.size ≤ b) → P b := fun b hb => by
      rcases hb with h | h
      · exact h
      · exact (HP.out b).2 ⟨by omega, by omega⟩
    have F1 := E1.turn T pp
    have F2 := E2.turn T pp
    have F3 := E3.turn T pp
    have o1 : w.heap.size ≠ wx2.heap.size := by omega
    have o2 : wx0.heap.size ≠ wx2.heap.size := by omega
    have o3 : wx1.heap.size ≠ wx2.heap.size := by omega
    have Y0 := (X0.below B2).of_block (w' := w2.setRow wx2.heap.size #[ur.v, uk.v, uv.v]) (setRow_other _ _ _ _ o1)
    have Y1 := (X1.below B2).of_block (w' := w2.setRow wx2.heap.size #[ur.v, uk.v, uv.v]) (setRow_other _ _ _ _ o2)
    have Y2 := (X2.below B2).of_block (w' := w2.setRow wx2.heap.size #[ur.v, uk.v, uv.v]) (setRow_other _ _ _ _ o3)
    have D2 := below_setRow (below_then DW B2) (g := wx2.heap.size) (by omega) #[ur.v, uk.v, uv.v]
    clear hsz hcw o1 o2 o3 T pp E1 E2 E3 X0 X1 X2 XP XP2 B2
    go_roundg (n - (i + 1))
    case measure => omega
    case rel => exact ⟨i + 1, ur, uk, uv, by omega, rfl, by go_num, XN, F1, F2, F3, Y0, Y1, Y2, D2⟩
  · obtain rfl : i = n := by omega
    rw [List.take_of_length_le (by rw [hlA.out]; omega)] at C1 C2 C3
    have XF := X2.row #[tr.v, tk.v, tv.v]
    have hsz := HSZ.out
    have T : Tn P P wr (wr.setRow wx1.heap.size #[tr.v, tk.v, tv.v]) := ⟨by simp, fun b _ hb => ⟨hb, setRow_other _ _ _ _ ((HP.out b).1 hb).2⟩⟩
    have F1 := (C1.turn T (fun _ h => h)).dcube
    have F2 := (C2.turn T (fun _ h => h)).dcube
    have F3 := (C3.turn T (fun _ h => h)).dcube
    have D2 := below_setRow DW (g := wx1.heap.size) (by omega) #[tr.v, tk.v, tv.v]
    clear hsz T C1 C2 C3
    go_wp2_with (first
      | (refine wpList_load_row rfl 84 _ rfl wx2.heap.size rfl 84 _ (0, 0) _ XP Tryz.underlying84 rfl Tryz.infoRP8 ?_)
      | (refine wpList_store_row rfl 84 _ _ rfl wx1.heap.size _ rfl rfl 84 _ X2 Tryz.infoRP8 rfl (all3c rfl rfl rfl) ?_))
    refine bodyPost_ret (results_c1 rfl _ _ wx1.heap.size _ rfl (load_rp XF)) rfl ?_
    exact ⟨tr, tk, tv, rfl, F1, F2, F3, D2⟩
end Go.Proofs.YtahfdbblndphaaaGreatDoor

/- A model that was made fits, and reads as its seed's numbers. -/
namespace Go.Proofs.YtahfdbblndphaaaGreatDoor
open Go.ChangeShapes Go.WideShapes Go.ChangeAt Go.RowKit
def layS (seed i D H : Nat) : Lay := ⟨gainR seed i D, numR seed (i + D) (D * D) 65536, numR seed (i + D + D * D) (D * D) 65536, numR seed (i + D + D * D + D * D) (D * D) 65536, numR seed (i + D + D * D + D * D + D * D) (D * D) 65536, gainR seed (i + D + D * D + D * D + D * D + D * D) D, numR seed (i + D + D * D + D * D + D * D + D * D + D) (H * D) 65536, numR seed (i + D + D * D + D * D + D * D + D * D + D + H * D) (D * H) 65536⟩
/-- The numbers of a seed. -/
def mdlS (seed V D H L : Nat) : Mdl := ⟨numR seed 0 (V * D) 131072, (List.range L).map fun t => layS seed (V * D + t * lenB D H) D H, gainR seed (V * D + L * lenB D H) D, numR seed (V * D + L * lenB D H + D) (V * D) 65536⟩
theorem Fresh.slAt {w : World} {B g n : Nat} {A : List Int} (h : Fresh w B g n n A) : SlAt w (rs g n) n A := ⟨rfl, h.arg⟩
theorem Fresh.mtAt {w : World} {B g r c : Nat} {A : List Int} (h : Fresh w B g (r * c) (r * c) A) (h1 : 1 ≤ r) (h2 : r ≤ 128) (h3 : 1 ≤ c) (h4 : c ≤ 128) : MtAt w ⟨r, c, rs g (r * c)⟩ r c A :=
  ⟨g, 0, r * c, r * c, rfl, h1, h2, h3, h4, rfl, Nat.le_refl _, h.max, h.rowAt⟩
theorem MadeB.bkAt {w : World} {B seed i D H f q k v o s u d : Nat} (h : MadeB w B seed i D H f q k v o s u d) (h1 : 1 ≤ D) (h2 : D ≤ 128) (h3 : 1 ≤ H) (h4 : H ≤ 128) : BkAt w D H (mkB D H f q k v o s u d) (layS seed i D H) :=
  ⟨h.f.slAt, h.q.mtAt h1 h2 h1 h2, h.k.mtAt h1 h2 h1 h2, h.v.mtAt h1 h2 h1 h2, h.o.mtAt h1 h2 h1 h2, h.s.slAt, h.u.mtAt h3 h4 h1 h2, h.d.mtAt h1 h2 h3 h4⟩
theorem made_good {w : World} {B seed V D Hd H L ge gB gl go : Nat} (h : MadeW w B seed V D H L ge gB gl go) (hs : shapeN V D Hd H L = 0) : ∃ bs, Good w V D Hd H L (mkW V D L ge gB gl go) bs (mdlS seed V D H L) := by
  have hk := shape_ok hs
  obtain ⟨bs, ML⟩ := madeL_of L h.bs
  have BL := ML.blocks (by omega) (by omega) (by omega)
  have hl : bs.length = L := ML.len
  refine ⟨bs, ⟨⟨?_, BL, by unfold mdlS; simp [hl], fun t x hx => ?_, ?_, ?_⟩, mkW_ok (by omega) (by omega), hl, hs, ?_⟩⟩
  · exact h.e.mtAt (by omega) (by omega) (by omega) (by omega)
  · obtain ⟨_, f, q, k, v, o, s, u, d, rfl, m⟩ := ML.at_ t x hx
    have ht : t < L := by rw [← hl]; exact (List.getElem?_eq_some_iff.1 hx).1
    refine ⟨layS seed (V * D + t * lenB D H) D H, ?_, m.bkAt (by omega) (by omega) (by omega) (by omega)⟩
    unfold mdlS
    simp only [List.getElem?_map, List.getElem?_range ht]
    rfl
  · exact h.l.slAt
  · exact h.o.mtAt (by omega) (by omega) (by omega) (by omega)
  · exact made_fits (C := ⟨V, D, Hd, H, L⟩) ML rfl rfl rfl rfl hs
end Go.Proofs.YtahfdbblndphaaaGreatDoor

/- The document's rows and matrices of made numbers. -/
namespace Go.Proofs.YtahfdbblndphaaaGreatDoor
open Go.ChangeShapes Go.WideShapes Go.ChangeAt Go.RowKit
theorem tab_snoc4 (n : Nat) (f : Nat → Int) : tab (n + 1) f = tab n f ++ [f n] := by unfold tab; rw [List.range_succ, List.map_append]; rfl
end Go.Proofs.YtahfdbblndphaaaGreatDoor

/- A model's numbers as the document's, all of them: the same rows, the layers in a row of their own. -/
namespace Go.Proofs.YtahfdbblndphaaaGreatDoor
open Go.ChangeShapes Go.WideShapes Go.ChangeAt Go.RowKit
theorem Tryz.infoRB : (Tryz.prog.info? 51).map (fun i => (i.zero, i.size, i.bytes)) = some (some (.agg #[.slice none 0 0, .int .i64 0, .int .i64 0, .slice none 0 0, .int .i64 0, .int .i64 0, .slice none 0 0, .int .i64 0, .int .i64 0, .slice none 0 0, .int .i64 0, .int .i64 0, .slice none 0 0, .slice none 0 0, .int .i64 0, .int .i64 0, .slice none 0 0, .int .i64 0, .int .i64 0, .slice none 0 0]), 20, 288) := by kernel_rfl
theorem Tryz.infoRB1 : (Tryz.prog.info? 51).map (·.size) = some 20 := by kernel_rfl
theorem Tryz.infoRW : (Tryz.prog.info? 33).map (·.size) = some 8 := by kernel_rfl
/-- Layers, cell behind cell. -/
def flat (bs : List Bk) : List Value := bs.flatMap fun b => b.cells.toList
theorem flat_len : ∀ bs : List Bk, (flat bs).length = bs.length * 20
  | [] => rfl
  | b :: bs => by
    have := flat_len bs
    unfold flat at *
    rw [List.flatMap_cons, List.length_append, this, List.length_cons]
    show 20 + bs.length * 20 = _
    omega
theorem flat_cons (b : Bk) (bs : List Bk) : flat (b :: bs) = b.cells.toList ++ flat bs := by unfold flat; rw [List.flatMap_cons]
theorem bk_len (b : Bk) : b.cells.toList.length = 20 := rfl
theorem flat_at : ∀ (bs : List Bk) (t : Nat) (x : Bk), bs[t]? = some x → ∀ (j : Nat) (v : Value), x.cells.toList[j]? = some v → (flat bs)[t * 20 + j]? = some v
  | [], t, x, h, _, _, _ => by simp at h
  | b :: bs, t, x, h, j, v, hv => by
    have hl := bk_len b
    have hx := bk_len x
    have hj : j < 20 := by have := (List.getElem?_eq_some_iff.1 hv).1; omega
    cases t with
    | zero =>
      simp at h
      subst h
      rw [flat_cons, Nat.zero_mul, Nat.zero_add, List.getElem?_append_left (by omega)]
      exact hv
    | succ t =>
      have ih := flat_at bs t x (by simpa using h) j v hv
      rw [flat_cons, List.getElem?_append_right (by omega), hl, show (t + 1) * 20 + j - 20 = t * 20 + j by omega]
      exact ih
/-- A row of layers of the call's own. -/
structure OwnB (w : World) (B : Nat) (s : Sl) (bs : List Bk) : Prop where
  own : w.ownsRow B 51 20 s.v s.n (flat bs)
  ok : ∀ x ∈ bs, x.Ok
  few : s.n ≤ 1000000
theorem OwnB.len {w : World} {B : Nat} {s : Sl} {bs : List Bk} (h : OwnB w B s bs) : bs.length = s.n := by
  have := h.own.1
  rw [flat_len] at this
  omega
theorem OwnB.blocks {w : World} {B : Nat} {s : Sl} {bs : List Bk} (h : OwnB w B s bs) : BlocksAt w s bs := by
  refine ⟨h.len, by have := h.few; omega, h.ok, fun hn => ?_⟩
  rcases h.own.2 with ⟨h0, h1⟩ | ⟨g, cap, cur, hv, _⟩
  · omega
  · unfold Sl.v at hv
    simp only [Value.slice.injEq, true_and] at hv
    refine ⟨g, 0, hv.1, fun t x hx j v hv2 => ?_⟩
    have hc := h.own.cells (g := g) (by unfold Sl.v; rw [hv.1]; rfl) (t * 20 + j) v (flat_at bs t x hx j v hv2)
    rw [Addr.add_mid] at hc
    rw [Nat.zero_add] at hc ⊢
    exact hc
theorem OwnB.below {w w' : World} {B : Nat} {s : Sl} {bs : List Bk} (h : OwnB w B s bs) (hb : Below w.heap.size w w') : OwnB w' B s bs := by
  obtain ⟨h1, h2⟩ := h.own
  refine ⟨⟨h1, ?_⟩, h.ok, h.few⟩
  rcases h2 with h2 | ⟨g, cap, cur, hv, hg, hh, r⟩
  · exact Or.inl h2
  · exact Or.inr ⟨g, cap, cur, hv, hg, by rw [hb.block g (Array.getElem?_eq_some_iff.1 hh).1]; exact hh, r⟩
theorem ownB_nil (w : World) (B : Nat) : OwnB w B ⟨none, 0, 0⟩ [] := ⟨World.ownsRow_nil _ _ _ _, (fun x hx => by cases hx), (by show 0 ≤ 1000000; omega)⟩
/-- append(out, block). -/
theorem wpList_append_block {w : World} {ops : Array Oper} {rest : List Oper} {o : Oper} {a : Act} {Q : Exit → Act → World → Prop} (hgd : o.guard = none) (s x : Operand)
    (ho : o.op = .call { callee := .builtin .append, args := #[s, x], argTypes := #[31, 31] })
    (B : Nat) (S : Sl) (bs : List Bk) (hs : a.eval s = S.v) (hF : OwnB w B S bs) (bo : Nat) (y : Bk) (hx : a.eval x = .slice (some ⟨bo, 0, none⟩) 1 1) (hX : Blk w bo 51 y.cells) (hy : y.Ok)
    (hlen : S.n + 1 ≤ 1000000) (hB : B ≤ w.heap.size)
    (h : ∀ S' w', S'.n = S.n + 1 → OwnB w' B S' (bs ++ [y]) → Below B w w' → wpList Tryz.prog ops Q rest (a.put o.dst S'.v) w') : wpList Tryz.prog ops Q (o :: rest) a w := by
  obtain ⟨i0, hi, hz0, hz1, hz2⟩ := info_parts Tryz.infoRB
  refine wpList_append_own w hgd s x 31 ho B 51 i0 (.agg #[.slice none 0 0, .int .i64 0, .int .i64 0, .slice none 0 0, .int .i64 0, .int .i64 0, .slice none 0 0, .int .i64 0, .int .i64 0, .slice none 0 0, .int .i64 0, .int .i64 0, .slice none 0 0, .slice none 0 0, .int .i64 0, .int .i64 0, .slice none 0 0, .int .i64 0, .int .i64 0, .slice none 0 0]) 20 288 Tryz.underlying31 hi hz0 hz1 hz2 rfl (by decide) _ S.n _ hs hF.own ⟨bo, 0, none⟩ 1 1 y.cells.toList hx rfl ?_ ?_ (by unfold maxLen; omega) (by omega) hB ?_
  · intro j u hj
    rw [Addr.add_mid, Nat.zero_add]
    exact hX.cell j (by simpa using hj)
  · intro u hu
    exact (Array.all_eq_true_iff_forall_mem.1 (bk_one y)) u (by simpa using hu)
  · intro v' w' hown hg hnil
    have hb : Below B w w' := (Below.refl _ _).grown hg hB (fun k hk => (hF.own.lt k hk).1)
    have e : flat bs ++ y.cells.toList = flat (bs ++ [y]) := by unfold flat; rw [List.flatMap_append]; simp
    rw [e] at hown
    obtain ⟨h1, h2⟩ := hown
    rcases h2 with ⟨h3, h4⟩ | ⟨g', c', cur, hv, hr⟩
    · omega
    · subst hv
      exact h ⟨some ⟨g', 0, none⟩, S.n + 1, c'⟩ w' rfl ⟨⟨h1, Or.inr ⟨g', c', cur, rfl, hr⟩⟩, fun z hz => (List.mem_append.1 hz).elim (hF.ok z) (fun h => by simp at h; subst h; exact hy), hlen⟩ hb
end Go.Proofs.YtahfdbblndphaaaGreatDoor

/- The document's model, made from a seed. Laid by tools/genrmake.py. -/
namespace Go.Proofs.YtahfdbblndphaaaGreatDoor
open Go.ChangeShapes Go.WideShapes Go.ChangeAt Go.RowKit
/-- A slice that is a row of the call's own. -/
def FR (w : World) (B : Nat) (s : Sl) (n : Nat) (A : List Int) : Prop := ∃ g, s.ao = some ⟨g, 0, none⟩ ∧ s.n = n ∧ Fresh w B g n s.c A
theorem FR.below {w w' : World} {B : Nat} {s : Sl} {n : Nat} {A : List Int} (h : FR w B s n A) (hb : Below w.heap.size w w') : FR w' B s n A := by
  obtain ⟨g, h1, h2, F⟩ := h
  exact ⟨g, h1, h2, F.below hb⟩
theorem FR.keep {w w' : World} {B b : Nat} {T : TypeId} {cs : Array Value} {s : Sl} {n : Nat} {A : List Int} (h : FR w B s n A) (hb : Blk w b T cs) (hT : T ≠ 69) (so : ∀ k, k ≠ b → w'.heap[k]? = w.heap[k]?) : FR w' B s n A := by
  obtain ⟨g, h1, h2, F⟩ := h
  exact ⟨g, h1, h2, F.of_block (so g (F.ne hb hT))⟩
theorem FR.row {w : World} {B : Nat} {s : Sl} {n : Nat} {A : List Int} (h : FR w B s n A) : RowAt w s.ao n A := by
  obtain ⟨g, h1, _, F⟩ := h
  rw [h1]; exact F.rowAt
theorem FR.mono {w : World} {B B' : Nat} {s : Sl} {n : Nat} {A : List Int} (h : FR w B s n A) (hB : B' ≤ B) : FR w B' s n A := by
  obtain ⟨g, h1, h2, F⟩ := h
  exact ⟨g, h1, h2, F.mono hB⟩
structure FM (w : World) (B : Nat) (m : Mt) (r c n : Nat) (A : List Int) : Prop where
  r : m.r = r
  c : m.c = c
  d : FR w B m.d n A
/-- A layer of the document's model. -/
structure MadeR (w : World) (B seed i D H : Nat) (x : Bk) : Prop where
  f : FR w B x.f D (gainR seed i D)
  q : FM w B x.q D D (D * D) (numR seed (i + D) (D * D) 65536)
  k : FM w B x.k D D (D * D) (numR seed (i + D + D * D) (D * D) 65536)
  v : FM w B x.v D D (D * D) (numR seed (i + D + D * D + D * D) (D * D) 65536)
  o : FM w B x.o D D (D * D) (numR seed (i + D + D * D + D * D + D * D) (D * D) 65536)
  s : FR w B x.s D (gainR seed (i + D + D * D + D * D + D * D + D * D) D)
  u : FM w B x.u H D (H * D) (numR seed (i + D + D * D + D * D + D * D + D * D + D) (H * D) 65536)
  d : FM w B x.d D H (D * H) (numR seed (i + D + D * D + D * D + D * D + D * D + D + H * D) (D * H) 65536)
theorem MadeR.below {w w' : World} {B seed i D H : Nat} {x : Bk} (h : MadeR w B seed i D H x) (hb : Below w.heap.size w w') : MadeR w' B seed i D H x :=
  ⟨h.f.below hb, ⟨h.q.r, h.q.c, h.q.d.below hb⟩, ⟨h.k.r, h.k.c, h.k.d.below hb⟩, ⟨h.v.r, h.v.c, h.v.d.below hb⟩, ⟨h.o.r, h.o.c, h.o.d.below hb⟩, h.s.below hb, ⟨h.u.r, h.u.c, h.u.d.below hb⟩, ⟨h.d.r, h.d.c, h.d.d.below hb⟩⟩
theorem MadeR.keep {w w' : World} {B b seed i D H : Nat} {T : TypeId} {cs : Array Value} {x : Bk} (h : MadeR w B seed i D H x) (hb : Blk w b T cs) (hT : T ≠ 69) (so : ∀ k, k ≠ b → w'.heap[k]? = w.heap[k]?) : MadeR w' B seed i D H x :=
  ⟨h.f.keep hb hT so, ⟨h.q.r, h.q.c, h.q.d.keep hb hT so⟩, ⟨h.k.r, h.k.c, h.k.d.keep hb hT so⟩, ⟨h.v.r, h.v.c, h.v.d.keep hb hT so⟩, ⟨h.o.r, h.o.c, h.o.d.keep hb hT so⟩, h.s.keep hb hT so, ⟨h.u.r, h.u.c, h.u.d.keep hb hT so⟩, ⟨h.d.r, h.d.c, h.d.d.keep hb hT so⟩⟩
theorem gain_tab (seed i n : Nat) : (tab n fun j => numN seed (i + j) 16384 + ((65536 : Nat) : Int)) = gainR seed i n := tab_congr fun j _ => by rw [Int.add_comm]; rfl
/-- One layer of the document's model, laid into block g8: the eight calls. -/
theorem lenB_le {D H : Nat} (h1 : D ≤ 32) (h2 : H ≤ 64) : lenB D H ≤ 8256 ∧ D * D ≤ 1024 ∧ H * D ≤ 2048 ∧ D * H ≤ 2048 := by
  have a1 : D * D ≤ 32 * 32 := Nat.mul_le_mul h1 h1
  have a2 : H * D ≤ 64 * 32 := Nat.mul_le_mul h2 h1
  have a3 : D * H ≤ 32 * 64 := Nat.mul_le_mul h1 h2
  unfold lenB
  omega

theorem OwnB.ne {w : World} {B : Nat} {s : Sl} {bs : List Bk} (h : OwnB w B s bs) {b : Nat} {T : TypeId} {cs : Array Value} (hb : w.heap[b]? = some (.cells cs T (0, 0))) (hT : T ≠ 51) : some b ≠ s.v.ownBlock := by
  intro e
  rcases h.own.2 with ⟨h0, _⟩ | ⟨g, cap, cur, hv, _, hh, _⟩
  · rw [h0] at e; simp [Value.ownBlock] at e
  · rw [hv] at e
    simp [Value.ownBlock] at e
    subst e
    rw [hb] at hh
    simp at hh
    exact hT hh.2
theorem OwnB.keep {w w' : World} {B b : Nat} {T : TypeId} {cs : Array Value} {s : Sl} {bs : List Bk} (h : OwnB w B s bs) (hb : Blk w b T cs) (hT : T ≠ 51) (so : ∀ k, k ≠ b → w'.heap[k]? = w.heap[k]?) : OwnB w' B s bs := by
  have hne := h.ne hb hT
  obtain ⟨h1, h2⟩ := h.own
  refine ⟨⟨h1, h2.imp id ?_⟩, h.ok, h.few⟩
  rintro ⟨g, cap, cur, hv, hg, hh, r⟩
  exact ⟨g, cap, cur, hv, hg, by rw [so g (fun e => hne (by rw [hv, e]; rfl))]; exact hh, r⟩
theorem OwnB.mono {w : World} {B B' : Nat} {s : Sl} {bs : List Bk} (h : OwnB w B s bs) (hB : B' ≤ B) : OwnB w B' s bs := by
  obtain ⟨h1, h2⟩ := h.own
  refine ⟨⟨h1, h2.imp id ?_⟩, h.ok, h.few⟩
  rintro ⟨g, cap, cur, hv, hg, r⟩
  exact ⟨g, cap, cur, hv, by omega, r⟩
/-- append(out, block): nothing turns but the row of layers. -/
theorem wpList_append_block2 {w : World} {ops : Array Oper} {rest : List Oper} {o : Oper} {a : Act} {Q : Exit → Act → World → Prop} (hgd : o.guard = none) (s x : Operand)
    (ho : o.op = .call { callee := .builtin .append, args := #[s, x], argTypes := #[31, 31] })
    (B : Nat) (S : Sl) (bs : List Bk) (hs : a.eval s = S.v) (hF : OwnB w B S bs) (bo : Nat) (y : Bk) (hx : a.eval x = .slice (some ⟨bo, 0, none⟩) 1 1) (hX : Blk w bo 51 y.cells) (hy : y.Ok)
    (hlen : S.n + 1 ≤ 1000000) (hB : B ≤ w.heap.size)
    (h : ∀ S' w', S'.n = S.n + 1 → OwnB w' B S' (bs ++ [y]) → Below B w w' → (∀ (k : Nat) (T : TypeId) (cs : Array Value), w.heap[k]? = some (.cells cs T (0, 0)) → T ≠ 51 → w'.heap[k]? = w.heap[k]?) → wpList Tryz.prog ops Q rest (a.put o.dst S'.v) w') : wpList Tryz.prog ops Q (o :: rest) a w := by
  obtain ⟨i0, hi, hz0, hz1, hz2⟩ := info_parts Tryz.infoRB
  refine wpList_append_own w hgd s x 31 ho B 51 i0 (.agg #[.slice none 0 0, .int .i64 0, .int .i64 0, .slice none 0 0, .int .i64 0, .int .i64 0, .slice none 0 0, .int .i64 0, .int .i64 0, .slice none 0 0, .int .i64 0, .int .i64 0, .slice none 0 0, .slice none 0 0, .int .i64 0, .int .i64 0, .slice none 0 0, .int .i64 0, .int .i64 0, .slice none 0 0]) 20 288 Tryz.underlying31 hi hz0 hz1 hz2 rfl (by decide) _ S.n _ hs hF.own ⟨bo, 0, none⟩ 1 1 y.cells.toList hx rfl ?_ ?_ (by unfold maxLen; omega) (by omega) hB ?_
  · intro j u hj
    rw [Addr.add_mid, Nat.zero_add]
    exact hX.cell j (by simpa using hj)
  · intro u hu
    exact (Array.all_eq_true_iff_forall_mem.1 (bk_one y)) u (by simpa using hu)
  · intro v' w' hown hg hnil
    have hb : Below B w w' := (Below.refl _ _).grown hg hB (fun k hk => (hF.own.lt k hk).1)
    have hk : ∀ (k : Nat) (T : TypeId) (cs : Array Value), w.heap[k]? = some (.cells cs T (0, 0)) → T ≠ 51 → w'.heap[k]? = w.heap[k]? := fun k T cs h1 h2 => hg.block k (Array.getElem?_eq_some_iff.1 h1).1 (hF.ne h1 h2)
    have e : flat bs ++ y.cells.toList = flat (bs ++ [y]) := by unfold flat; rw [List.flatMap_append]; simp
    rw [e] at hown
    obtain ⟨h1, h2⟩ := hown
    rcases h2 with ⟨h3, h4⟩ | ⟨g', c', cur, hv, hr⟩
    · omega
    · subst hv
      exact h ⟨some ⟨g', 0, none⟩, S.n + 1, c'⟩ w' rfl ⟨⟨h1, Or.inr ⟨g', c', cur, rfl, hr⟩⟩, fun z hz => (List.mem_append.1 hz).elim (hF.ok z) (fun h => by simp at h; subst h; exact hy), hlen⟩ hb hk
theorem FR.type {w w' : World} {B : Nat} {s : Sl} {n : Nat} {A : List Int} (h : FR w B s n A) (hk : ∀ (k : Nat) (T : TypeId) (cs : Array Value), w.heap[k]? = some (.cells cs T (0, 0)) → T ≠ 51 → w'.heap[k]? = w.heap[k]?) : FR w' B s n A := by
  obtain ⟨g, h1, h2, F⟩ := h
  obtain ⟨c9, h9, _⟩ := F.row
  exact ⟨g, h1, h2, F.of_block (hk g _ _ h9 (by decide))⟩
theorem MadeR.type {w w' : World} {B seed i D H : Nat} {x : Bk} (h : MadeR w B seed i D H x) (hk : ∀ (k : Nat) (T : TypeId) (cs : Array Value), w.heap[k]? = some (.cells cs T (0, 0)) → T ≠ 51 → w'.heap[k]? = w.heap[k]?) : MadeR w' B seed i D H x :=
  ⟨h.f.type hk, ⟨h.q.r, h.q.c, h.q.d.type hk⟩, ⟨h.k.r, h.k.c, h.k.d.type hk⟩, ⟨h.v.r, h.v.c, h.v.d.type hk⟩, ⟨h.o.r, h.o.c, h.o.d.type hk⟩, h.s.type hk, ⟨h.u.r, h.u.c, h.u.d.type hk⟩, ⟨h.d.r, h.d.c, h.d.d.type hk⟩⟩
theorem set3_other {w : World} {b o1 o2 o3 : Nat} {v1 v2 v3 : Value} : ∀ k, k ≠ b → (((w.setCell ⟨b, o1, none⟩ v1).setCell ⟨b, o2, none⟩ v2).setCell ⟨b, o3, none⟩ v3).heap[k]? = w.heap[k]? := fun k hk => by
  rw [Below.heap_setCell _ _ _ _ (by exact hk), Below.heap_setCell _ _ _ _ (by exact hk), Below.heap_setCell _ _ _ _ (by exact hk)]
theorem set1_other {w : World} {b o1 : Nat} {v1 : Value} : ∀ k, k ≠ b → (w.setCell ⟨b, o1, none⟩ v1).heap[k]? = w.heap[k]? := fun k hk => by
  rw [Below.heap_setCell _ _ _ _ (by exact hk)]
/-- One layer that is being made: its block, and that all elder ones stand. -/
theorem Below.set3 {B : Nat} {w w' : World} (h : Below B w w') {b : Nat} (hb : B ≤ b) (o1 o2 o3 : Nat) (v1 v2 v3 : Value) : Below B w (((w'.setCell ⟨b, o1, none⟩ v1).setCell ⟨b, o2, none⟩ v2).setCell ⟨b, o3, none⟩ v3) :=
  ((h.setCell (p := ⟨b, o1, none⟩) (by exact hb) _).setCell (p := ⟨b, o2, none⟩) (by exact hb) _).setCell (p := ⟨b, o3, none⟩) (by exact hb) _

end Go.Proofs.YtahfdbblndphaaaGreatDoor

/- The awake check of the laws of layer 10 is true. -/
namespace Go.Proofs.YtahfdbblndphaaaGreatDoor
open Go.ChangeShapes Go.WideShapes Go.ChangeAt Go.RowKit
theorem wt_one (W : Wt) : W.cells.all (·.oneCell') = true := by simp [Wt.cells, Sl.v, Value.oneCell']
theorem make_small (w : World) : Calls Tryz.prog 24 #[.agg #[.int .i64 2, .int .i64 1, .int .i64 1, .int .i64 1, .int .i64 1], .int .u64 1] w fun e w' => ∃ W bs M, e = .returned (.tuple #[.agg (Wt.cells W), .int .i64 0]) ∧ Good w' 2 1 1 1 1 W bs M ∧ Below w.heap.size w w' := by
  refine (make_any 2 1 1 1 1 1 w (by omega) (by decide)).mono ?_
  rintro e w' ⟨ge, gB, gl, go, rfl, M, B⟩
  obtain ⟨bs, G⟩ := made_good (Hd := 1) M (by decide)
  exact ⟨_, bs, _, rfl, G, B⟩
/-- An answer of one token. -/
theorem run_one {M : Mdl} {V D H Hd L : Nat} {P : List Int} {j : Nat} (h1 : overB (runS M V D H Hd L P j).Y 1 = true) (h2 : ∀ i, i < j → overB (runS M V D H Hd L P i).Y 1 = false) : j = 1 := by
  rcases Nat.lt_trichotomy j 1 with h | h | h
  · obtain rfl : j = 0 := by omega
    have e : (runS M V D H Hd L P 0).Y = [] := rfl
    rw [e] at h1
    exact absurd h1 (by decide)
  · exact h
  · have := over_not (h2 1 h)
    rw [runS_len] at this
    omega
set_option maxRecDepth 100000 in
set_option maxHeartbeats 1600000 in
theorem gawake_any (w : World) (hT : Tab w) : Calls Tryz.prog 11 #[] w fun e w' => e = .returned (.bool true) ∧ Below w.heap.size w w' := by
  have X0 := blk_new w 23 #[.int .i64 2, .int .i64 1, .int .i64 1, .int .i64 1, .int .i64 1]
  have B0 : Below w.heap.size w (w.alloc (.cells #[.int .i64 2, .int .i64 1, .int .i64 1, .int .i64 1, .int .i64 1] 23)) := (Below.refl _ _).alloc (Nat.le_refl _) _
  generalize hw0 : w.alloc (.cells #[.int .i64 2, .int .i64 1, .int .i64 1, .int .i64 1, .int .i64 1] 23) = w0 at *
  have a0 : w0.cell? ⟨w.heap.size, 0, none⟩ = some (.int .i64 2) := X0.cell 0 rfl
  have a1 : w0.cell? ⟨w.heap.size, 1, none⟩ = some (.int .i64 1) := X0.cell 1 rfl
  have a2 : w0.cell? ⟨w.heap.size, 2, none⟩ = some (.int .i64 1) := X0.cell 2 rfl
  have a3 : w0.cell? ⟨w.heap.size, 3, none⟩ = some (.int .i64 1) := X0.cell 3 rfl
  have a4 : w0.cell? ⟨w.heap.size, 4, none⟩ = some (.int .i64 1) := X0.cell 4 rfl
  have HT : Hid (∀ wv, Below w.heap.size w wv → Tab wv) := fun wv hb => hT.next hb
  clear hT
  go_enter Tryz.func11, Tryz.ntmps11
  go_wp2_with fail
  refine (make_small _).mono ?_
  rintro e w1 ⟨W, bs, M, rfl, G1, B1⟩
  replace X0 := X0.below B1
  have D1 := below_then B0 B1
  clear hw0 a0 a1 a2 a3 a4 B0 B1
  have siz : W.cells.size = 8 := rfl
  have one := wt_one W
  have CR := fun (wv : World) (hg : Good wv 2 1 1 1 1 W bs M) (hT : Tab wv) (ao : Option Addr) (ha : IArg wv ao 1 1 [1]) => run_ok 2 1 1 1 1 W bs M ao 1 1 [1] 1 wv hg ha hT (by decide)
  have CN := fun (wv : World) (hg : Good wv 2 1 1 1 1 W bs M) => run_bad 2 1 1 1 1 W bs M none 0 0 [] 1 wv hg (iarg_nil wv) (by decide)
  rw [show askedN ((2 : Nat) : Int) [] 1 = 8 by decide] at CN
  unfold cfgC at CR CN
  generalize hws : W.cells = ws at *
  have XZ := blk_new w1 29 #[.int .i64 0, .int .i64 0, .slice none 0 0, .slice none 0 0, .slice none 0 0, .int .i64 0, .int .i64 0, .slice none 0 0]
  have BZ : Below w1.heap.size w1 (w1.alloc (.cells #[.int .i64 0, .int .i64 0, .slice none 0 0, .slice none 0 0, .slice none 0 0, .int .i64 0, .int .i64 0, .slice none 0 0] 29)) := (Below.refl _ _).alloc (Nat.le_refl _) _
  generalize hwz : w1.alloc (.cells #[.int .i64 0, .int .i64 0, .slice none 0 0, .slice none 0 0, .slice none 0 0, .int .i64 0, .int .i64 0, .slice none 0 0] 29) = wz at *
  have XR := XZ.row ws
  have BR := below_setRow BZ (Nat.le_refl _) ws
  generalize hwy : wz.setRow w1.heap.size ws = wy at *
  replace X0 := X0.below BR
  have D2 := below_then D1 BR
  have G2 := G1.below BR
  have XT := blk_new wy 3 #[.int .i64 1]
  have BT : Below wy.heap.size wy (wy.alloc (.cells #[.int .i64 1] 3)) := (Below.refl _ _).alloc (Nat.le_refl _) _
  generalize hwt : wy.alloc (.cells #[.int .i64 1] 3) = wt at *
  have a0 : wy.cell? ⟨w.heap.size, 0, none⟩ = some (.int .i64 2) := X0.cell 0 rfl
  have a1 : wy.cell? ⟨w.heap.size, 1, none⟩ = some (.int .i64 1) := X0.cell 1 rfl
  have a2 : wy.cell? ⟨w.heap.size, 2, none⟩ = some (.int .i64 1) := X0.cell 2 rfl
  have a3 : wy.cell? ⟨w.heap.size, 3, none⟩ = some (.int .i64 1) := X0.cell 3 rfl
  have a4 : wy.cell? ⟨w.heap.size, 4, none⟩ = some (.int .i64 1) := X0.cell 4 rfl
  go_wp2_with (first | (refine wpList_store_row rfl 29 _ _ rfl w1.heap.size ws rfl rfl 29 _ XZ (by rw [siz]; exact Tryz.infoW) (by rw [siz]; rfl) one ?_; rw [hwy]) | (refine wpList_load_row rfl 29 _ rfl w1.heap.size rfl 29 ws (0, 0) _ XR Tryz.underlying29 rfl (by rw [siz]; exact Tryz.infoW) ?_))
  have D3 := below_then D2 BT
  refine (CR _ (G2.below BT) (HT.out _ D3) _ (iarg_one XT (by omega) (by omega))).mono ?_
  rintro e w4 ⟨j, ya, yc, rfl, O4, h1, h2, B4⟩
  obtain rfl := run_one h1 h2
  replace X0 := (X0.below BT).below B4
  replace XR := (XR.below BT).below B4
  have G4 := (G2.below BT).below B4
  have D4 := below_then D3 B4
  clear hwz hwy hwt a0 a1 a2 a3 a4 CR h1 h2 XZ BZ XT BT BR B4 D1 D2 D3 G1 G2 O4
  have a0 : w4.cell? ⟨w.heap.size, 0, none⟩ = some (.int .i64 2) := X0.cell 0 rfl
  have a1 : w4.cell? ⟨w.heap.size, 1, none⟩ = some (.int .i64 1) := X0.cell 1 rfl
  have a2 : w4.cell? ⟨w.heap.size, 2, none⟩ = some (.int .i64 1) := X0.cell 2 rfl
  have a3 : w4.cell? ⟨w.heap.size, 3, none⟩ = some (.int .i64 1) := X0.cell 3 rfl
  have a4 : w4.cell? ⟨w.heap.size, 4, none⟩ = some (.int .i64 1) := X0.cell 4 rfl
  go_wp2_with (refine wpList_load_row rfl 29 _ rfl w1.heap.size rfl 29 ws (0, 0) _ XR Tryz.underlying29 rfl (by rw [siz]; exact Tryz.infoW) ?_)
  refine (CN _ G4).mono ?_
  rintro e w5 ⟨rfl, B5⟩
  have D5 := below_then D4 B5
  clear a0 a1 a2 a3 a4 CN X0 XR B5
  have X6 := blk_new w5 3 #[.int .i64 0]
  have B6 : Below w5.heap.size w5 (w5.alloc (.cells #[.int .i64 0] 3)) := (Below.refl _ _).alloc (Nat.le_refl _) _
  generalize hw6 : w5.alloc (.cells #[.int .i64 0] 3) = w6 at *
  have CO := over_any (some ⟨w5.heap.size, 0, none⟩) 1 1 [0] 9 w6 (iarg_one X6 (by omega) (by omega)).row
  rw [show overB [0] 9 = true by decide] at CO
  have F7 := fresh_lit w6 [1, 2, 2] (by unfold Small; decide) (by decide)
  have B7 : Below w6.heap.size w6 (w6.alloc (.cells #[.int .i32 1, .int .i32 2, .int .i32 2] 69)) := (Below.refl _ _).alloc (Nat.le_refl _) _
  replace F7 : Fresh (w6.alloc (.cells #[.int .i32 1, .int .i32 2, .int .i32 2] 69)) w6.heap.size w6.heap.size 3 3 [1, 2, 2] := F7
  generalize hw7 : w6.alloc (.cells #[.int .i32 1, .int .i32 2, .int .i32 2] 69) = w7 at *
  have CX := gnext_any (some ⟨w6.heap.size, 0, none⟩) 3 3 [1, 2, 2] w7 F7.rowAt
  rw [show amax [1, 2, 2] 3 = 1 by decide] at CX
  go_wp2_with (first | (go_at_call 18; refine CO.mono ?_; rintro e w8 ⟨rfl, h8⟩; replace h8 := h8.symm; subst h8) | (go_at_call 20; refine CX.mono ?_; rintro e w9 ⟨rfl, h9⟩; replace h9 := h9.symm; subst h9))
  go_ret
  exact ⟨rfl, below_then (below_then D5 B6) B7⟩
end Go.Proofs.YtahfdbblndphaaaGreatDoor

/- The document's model, made from a seed, and the awake check of the laws of layer 8. Written by tools/genraw8.py. -/
namespace Go.Proofs.YtahfdbblndphaaaGreatDoor
open Go.ChangeShapes Go.WideShapes Go.ChangeAt Go.RowKit
theorem FR.slAt {w : World} {B : Nat} {s : Sl} {n : Nat} {A : List Int} (h : FR w B s n A) : SlAt w s n A := by
  obtain ⟨g, e, e2, F⟩ := h
  exact ⟨e2, by rw [e]; exact F.arg⟩
theorem FM.mtAt {w : World} {B : Nat} {m : Mt} {r c : Nat} {A : List Int} (h : FM w B m r c (r * c) A) (h1 : 1 ≤ r) (h2 : r ≤ 128) (h3 : 1 ≤ c) (h4 : c ≤ 128) : MtAt w m r c A := by
  obtain ⟨mr, mc, ⟨ao, n, ca⟩⟩ := m
  obtain ⟨e1, e2, ⟨g, e3, e4, F⟩⟩ := h
  simp only at e1 e2 e3 e4 F
  subst e1 e2 e3 e4
  exact ⟨g, 0, _, ca, rfl, h1, h2, h3, h4, rfl, F.fit, F.max, F.rowAt⟩
theorem MadeR.bkAt {w : World} {B seed i D H : Nat} {x : Bk} (h : MadeR w B seed i D H x) (h1 : 1 ≤ D) (h2 : D ≤ 128) (h3 : 1 ≤ H) (h4 : H ≤ 128) : BkAt w D H x (layS seed i D H) :=
  ⟨h.f.slAt, h.q.mtAt h1 h2 h1 h2, h.k.mtAt h1 h2 h1 h2, h.v.mtAt h1 h2 h1 h2, h.o.mtAt h1 h2 h1 h2, h.s.slAt, h.u.mtAt h3 h4 h1 h2, h.d.mtAt h1 h2 h3 h4⟩
/-- What is liked behind all tokens. -/
theorem rlikes_full (V D Hd H L n : Nat) (W : Wt) (bs : List Bk) (M : Mdl) (sr sk sv : Sl) (A : List Int) (w : World) (hW : WtAt w V D H W bs M) (hC : DCube w sr (fR M D H Hd L A)) (hn : A.length = n + 1) (h1 : 1 ≤ D) (h2 : D ≤ 5000) :
   Calls Tryz.prog 38 #[.agg W.cells, .agg #[sr.v, sk.v, sv.v]] w fun e w' => ∃ g cap, e = .returned (.slice (some ⟨g, 0, none⟩) V cap) ∧ Fresh w' w.heap.size g V cap (fullX M V D H Hd L A) ∧ Below w.heap.size w w' := by
  have e : fullX M V D H Hd L A = likR M V D (rowOf (rowsL M D H Hd A L) n) := by unfold fullX; rw [hn]; rfl
  have hne : ¬ A.length = 0 := by omega
  rw [e]
  refine rlikes_any V D H n L W bs M sr sk sv (fR M D H Hd L A) (rowsL M D H Hd A L) w hW hC ?_ ?_ ?_ ?_ h1 h2
  · unfold fR; rw [if_neg hne]; simp
  · unfold fR; rw [if_neg hne]; simp
  · rw [rowsL_len, hn]
  · exact rowsL_row M D H Hd A L n (by omega)
theorem make_small8 (w : World) : Calls Tryz.prog 24 #[.agg #[.int .i64 2, .int .i64 1, .int .i64 1, .int .i64 1, .int .i64 1], .int .u64 1] w fun e w' => ∃ W bs, e = .returned (.tuple #[.agg (Wt.cells W), .int .i64 0]) ∧ Good w' 2 1 1 1 1 W bs (mdlS 1 2 1 1 1) ∧ Below w.heap.size w w' := by
  refine (make_any 2 1 1 1 1 1 w (by omega) (by decide)).mono ?_
  rintro e w' ⟨ge, gB, gl, go, rfl, M, B⟩
  obtain ⟨bs, G⟩ := made_good (Hd := 1) M (by decide)
  exact ⟨_, bs, rfl, G, B⟩
theorem iarg_two {w : World} {g : Nat} {x y : Int} (h : Blk w g 3 #[.int .i64 x, .int .i64 y]) (hx : -9223372036854775808 ≤ x ∧ x ≤ 9223372036854775807) (hy : -9223372036854775808 ≤ y ∧ y ≤ 9223372036854775807) : IArg w (some ⟨g, 0, none⟩) 2 2 [x, y] := by
  refine ⟨⟨rfl, by omega, fun k => ?_, fun _ => ⟨g, 0, rfl, fun t ht => ?_⟩⟩, by omega, by omega, fun h => by cases h⟩
  · rcases k with _ | _ | k
    · exact hx
    · exact hy
    · simp [el]
  · rw [Nat.zero_add]
    rcases t with _ | _ | t
    · exact h.cell 0 rfl
    · exact h.cell 1 rfl
    · omega
end Go.Proofs.YtahfdbblndphaaaGreatDoor

/- Rows of layers of the call's own that grow, as one operation. -/
namespace Go.Proofs.YtahfdbblndphaaaGreatDoor
open Go.ChangeShapes Go.WideShapes Go.ChangeAt Go.RowKit
theorem wp_append_blockR {w : World} {o : Oper} {a : Act} {K : Act → World → Prop} {Q : Exit → Act → World → Prop} (s x : Operand)
    (ho : o.op = .call { callee := .builtin .append, args := #[s, x], argTypes := #[31, 31] })
    (B : Nat) (S : Sl) (bs : List Bk) (hs : a.eval s = S.v) (hF : OwnB w B S bs) (bo : Nat) (y : Bk) (hx : a.eval x = .slice (some ⟨bo, 0, none⟩) 1 1) (hX : Blk w bo 51 y.cells) (hy : y.Ok)
    (hlen : S.n + 1 ≤ 1000000) (hB : B ≤ w.heap.size)
    (h : ∀ S' w', S'.n = S.n + 1 → OwnB w' B S' (bs ++ [y]) → Below B w w' → (∀ (k : Nat) (T : TypeId) (cs : Array Value), w.heap[k]? = some (.cells cs T (0, 0)) → T ≠ 51 → w'.heap[k]? = w.heap[k]?) → K (a.put o.dst S'.v) w') : o.wp Tryz.prog a w K Q := by
  obtain ⟨i0, hi, hz0, hz1, hz2⟩ := info_parts Tryz.infoRB
  refine wp_append_own w s x 31 ho B 51 i0 (.agg #[.slice none 0 0, .int .i64 0, .int .i64 0, .slice none 0 0, .int .i64 0, .int .i64 0, .slice none 0 0, .int .i64 0, .int .i64 0, .slice none 0 0, .int .i64 0, .int .i64 0, .slice none 0 0, .slice none 0 0, .int .i64 0, .int .i64 0, .slice none 0 0, .int .i64 0, .int .i64 0, .slice none 0 0]) 20 288 Tryz.underlying31 hi hz0 hz1 hz2 rfl (by decide) _ S.n _ hs hF.own ⟨bo, 0, none⟩ 1 1 y.cells.toList hx rfl ?_ ?_ (by unfold maxLen; omega) (by omega) hB ?_
  · intro j u hj
    rw [Addr.add_mid, Nat.zero_add]
    exact hX.cell j (by simpa using hj)
  · intro u hu
    exact (Array.all_eq_true_iff_forall_mem.1 (bk_one y)) u (by simpa using hu)
  · intro v' w' hown hg hnil
    have hb : Below B w w' := (Below.refl _ _).grown hg hB (fun k hk => (hF.own.lt k hk).1)
    have hk : ∀ (k : Nat) (T : TypeId) (cs : Array Value), w.heap[k]? = some (.cells cs T (0, 0)) → T ≠ 51 → w'.heap[k]? = w.heap[k]? := fun k T cs h1 h2 => hg.block k (Array.getElem?_eq_some_iff.1 h1).1 (hF.ne h1 h2)
    have e : flat bs ++ y.cells.toList = flat (bs ++ [y]) := by unfold flat; rw [List.flatMap_append]; simp
    rw [e] at hown
    obtain ⟨h1, h2⟩ := hown
    rcases h2 with ⟨h3, h4⟩ | ⟨g', c', cur, hv, hr⟩
    · omega
    · subst hv
      exact h ⟨some ⟨g', 0, none⟩, S.n + 1, c'⟩ w' rfl ⟨⟨h1, Or.inr ⟨g', c', cur, rfl, hr⟩⟩, fun z hz => (List.mem_append.1 hz).elim (hF.ok z) (fun h => by simp at h; subst h; exact hy), hlen⟩ hb hk
/-- A row of layers of the call's own. -/
structure OwnM (w : World) (B : Nat) (s : Sl) (bs : List Bk) : Prop where
  own : w.ownsRow B 50 20 s.v s.n (flat bs)
  ok : ∀ x ∈ bs, x.Ok
  few : s.n ≤ 1000000
theorem OwnM.len {w : World} {B : Nat} {s : Sl} {bs : List Bk} (h : OwnM w B s bs) : bs.length = s.n := by
  have := h.own.1
  rw [flat_len] at this
  omega
theorem OwnM.blocks {w : World} {B : Nat} {s : Sl} {bs : List Bk} (h : OwnM w B s bs) : BlocksAt w s bs := by
  refine ⟨h.len, by have := h.few; omega, h.ok, fun hn => ?_⟩
  rcases h.own.2 with ⟨h0, h1⟩ | ⟨g, cap, cur, hv, _⟩
  · omega
  · unfold Sl.v at hv
    simp only [Value.slice.injEq, true_and] at hv
    refine ⟨g, 0, hv.1, fun t x hx j v hv2 => ?_⟩
    have hc := h.own.cells (g := g) (by unfold Sl.v; rw [hv.1]; rfl) (t * 20 + j) v (flat_at bs t x hx j v hv2)
    rw [Addr.add_mid] at hc
    rw [Nat.zero_add] at hc ⊢
    exact hc
theorem OwnM.below {w w' : World} {B : Nat} {s : Sl} {bs : List Bk} (h : OwnM w B s bs) (hb : Below w.heap.size w w') : OwnM w' B s bs := by
  obtain ⟨h1, h2⟩ := h.own
  refine ⟨⟨h1, ?_⟩, h.ok, h.few⟩
  rcases h2 with h2 | ⟨g, cap, cur, hv, hg, hh, r⟩
  · exact Or.inl h2
  · exact Or.inr ⟨g, cap, cur, hv, hg, by rw [hb.block g (Array.getElem?_eq_some_iff.1 hh).1]; exact hh, r⟩
theorem ownM_nil (w : World) (B : Nat) : OwnM w B ⟨none, 0, 0⟩ [] := ⟨World.ownsRow_nil _ _ _ _, (fun x hx => by cases hx), (by show 0 ≤ 1000000; omega)⟩
theorem OwnM.ne {w : World} {B : Nat} {s : Sl} {bs : List Bk} (h : OwnM w B s bs) {b : Nat} {T : TypeId} {cs : Array Value} (hb : w.heap[b]? = some (.cells cs T (0, 0))) (hT : T ≠ 50) : some b ≠ s.v.ownBlock := by
  intro e
  rcases h.own.2 with ⟨h0, _⟩ | ⟨g, cap, cur, hv, _, hh, _⟩
  · rw [h0] at e; simp [Value.ownBlock] at e
  · rw [hv] at e
    simp [Value.ownBlock] at e
    subst e
    rw [hb] at hh
    simp at hh
    exact hT hh.2
theorem OwnM.keep {w w' : World} {B b : Nat} {T : TypeId} {cs : Array Value} {s : Sl} {bs : List Bk} (h : OwnM w B s bs) (hb : Blk w b T cs) (hT : T ≠ 50) (so : ∀ k, k ≠ b → w'.heap[k]? = w.heap[k]?) : OwnM w' B s bs := by
  have hne := h.ne hb hT
  obtain ⟨h1, h2⟩ := h.own
  refine ⟨⟨h1, h2.imp id ?_⟩, h.ok, h.few⟩
  rintro ⟨g, cap, cur, hv, hg, hh, r⟩
  exact ⟨g, cap, cur, hv, hg, by rw [so g (fun e => hne (by rw [hv, e]; rfl))]; exact hh, r⟩
theorem OwnM.mono {w : World} {B B' : Nat} {s : Sl} {bs : List Bk} (h : OwnM w B s bs) (hB : B' ≤ B) : OwnM w B' s bs := by
  obtain ⟨h1, h2⟩ := h.own
  refine ⟨⟨h1, h2.imp id ?_⟩, h.ok, h.few⟩
  rintro ⟨g, cap, cur, hv, hg, r⟩
  exact ⟨g, cap, cur, hv, by omega, r⟩
/-- append(out, block): nothing turns but the row of layers. -/
theorem wpList_append_blockM {w : World} {ops : Array Oper} {rest : List Oper} {o : Oper} {a : Act} {Q : Exit → Act → World → Prop} (hgd : o.guard = none) (s x : Operand)
    (ho : o.op = .call { callee := .builtin .append, args := #[s, x], argTypes := #[27, 27] })
    (B : Nat) (S : Sl) (bs : List Bk) (hs : a.eval s = S.v) (hF : OwnM w B S bs) (bo : Nat) (y : Bk) (hx : a.eval x = .slice (some ⟨bo, 0, none⟩) 1 1) (hX : Blk w bo 50 y.cells) (hy : y.Ok)
    (hlen : S.n + 1 ≤ 1000000) (hB : B ≤ w.heap.size)
    (h : ∀ S' w', S'.n = S.n + 1 → OwnM w' B S' (bs ++ [y]) → Below B w w' → (∀ (k : Nat) (T : TypeId) (cs : Array Value), w.heap[k]? = some (.cells cs T (0, 0)) → T ≠ 50 → w'.heap[k]? = w.heap[k]?) → wpList Tryz.prog ops Q rest (a.put o.dst S'.v) w') : wpList Tryz.prog ops Q (o :: rest) a w := by
  obtain ⟨i0, hi, hz0, hz1, hz2⟩ := info_parts Tryz.infoBlk
  refine wpList_append_own w hgd s x 27 ho B 50 i0 (.agg #[.slice none 0 0, .int .i64 0, .int .i64 0, .slice none 0 0, .int .i64 0, .int .i64 0, .slice none 0 0, .int .i64 0, .int .i64 0, .slice none 0 0, .int .i64 0, .int .i64 0, .slice none 0 0, .slice none 0 0, .int .i64 0, .int .i64 0, .slice none 0 0, .int .i64 0, .int .i64 0, .slice none 0 0]) 20 288 Tryz.underlying27 hi hz0 hz1 hz2 rfl (by decide) _ S.n _ hs hF.own ⟨bo, 0, none⟩ 1 1 y.cells.toList hx rfl ?_ ?_ (by unfold maxLen; omega) (by omega) hB ?_
  · intro j u hj
    rw [Addr.add_mid, Nat.zero_add]
    exact hX.cell j (by simpa using hj)
  · intro u hu
    exact (Array.all_eq_true_iff_forall_mem.1 (bk_one y)) u (by simpa using hu)
  · intro v' w' hown hg hnil
    have hb : Below B w w' := (Below.refl _ _).grown hg hB (fun k hk => (hF.own.lt k hk).1)
    have hk : ∀ (k : Nat) (T : TypeId) (cs : Array Value), w.heap[k]? = some (.cells cs T (0, 0)) → T ≠ 50 → w'.heap[k]? = w.heap[k]? := fun k T cs h1 h2 => hg.block k (Array.getElem?_eq_some_iff.1 h1).1 (hF.ne h1 h2)
    have e : flat bs ++ y.cells.toList = flat (bs ++ [y]) := by unfold flat; rw [List.flatMap_append]; simp
    rw [e] at hown
    obtain ⟨h1, h2⟩ := hown
    rcases h2 with ⟨h3, h4⟩ | ⟨g', c', cur, hv, hr⟩
    · omega
    · subst hv
      exact h ⟨some ⟨g', 0, none⟩, S.n + 1, c'⟩ w' rfl ⟨⟨h1, Or.inr ⟨g', c', cur, rfl, hr⟩⟩, fun z hz => (List.mem_append.1 hz).elim (hF.ok z) (fun h => by simp at h; subst h; exact hy), hlen⟩ hb hk
theorem FR.typeM {w w' : World} {B : Nat} {s : Sl} {n : Nat} {A : List Int} (h : FR w B s n A) (hk : ∀ (k : Nat) (T : TypeId) (cs : Array Value), w.heap[k]? = some (.cells cs T (0, 0)) → T ≠ 50 → w'.heap[k]? = w.heap[k]?) : FR w' B s n A := by
  obtain ⟨g, h1, h2, F⟩ := h
  obtain ⟨c9, h9, _⟩ := F.row
  exact ⟨g, h1, h2, F.of_block (hk g _ _ h9 (by decide))⟩
theorem wp_append_blockM {w : World} {o : Oper} {a : Act} {K : Act → World → Prop} {Q : Exit → Act → World → Prop} (s x : Operand)
    (ho : o.op = .call { callee := .builtin .append, args := #[s, x], argTypes := #[27, 27] })
    (B : Nat) (S : Sl) (bs : List Bk) (hs : a.eval s = S.v) (hF : OwnM w B S bs) (bo : Nat) (y : Bk) (hx : a.eval x = .slice (some ⟨bo, 0, none⟩) 1 1) (hX : Blk w bo 50 y.cells) (hy : y.Ok)
    (hlen : S.n + 1 ≤ 1000000) (hB : B ≤ w.heap.size)
    (h : ∀ S' w', S'.n = S.n + 1 → OwnM w' B S' (bs ++ [y]) → Below B w w' → (∀ (k : Nat) (T : TypeId) (cs : Array Value), w.heap[k]? = some (.cells cs T (0, 0)) → T ≠ 50 → w'.heap[k]? = w.heap[k]?) → K (a.put o.dst S'.v) w') : o.wp Tryz.prog a w K Q := by
  obtain ⟨i0, hi, hz0, hz1, hz2⟩ := info_parts Tryz.infoBlk
  refine wp_append_own w s x 27 ho B 50 i0 (.agg #[.slice none 0 0, .int .i64 0, .int .i64 0, .slice none 0 0, .int .i64 0, .int .i64 0, .slice none 0 0, .int .i64 0, .int .i64 0, .slice none 0 0, .int .i64 0, .int .i64 0, .slice none 0 0, .slice none 0 0, .int .i64 0, .int .i64 0, .slice none 0 0, .int .i64 0, .int .i64 0, .slice none 0 0]) 20 288 Tryz.underlying27 hi hz0 hz1 hz2 rfl (by decide) _ S.n _ hs hF.own ⟨bo, 0, none⟩ 1 1 y.cells.toList hx rfl ?_ ?_ (by unfold maxLen; omega) (by omega) hB ?_
  · intro j u hj
    rw [Addr.add_mid, Nat.zero_add]
    exact hX.cell j (by simpa using hj)
  · intro u hu
    exact (Array.all_eq_true_iff_forall_mem.1 (bk_one y)) u (by simpa using hu)
  · intro v' w' hown hg hnil
    have hb : Below B w w' := (Below.refl _ _).grown hg hB (fun k hk => (hF.own.lt k hk).1)
    have hk : ∀ (k : Nat) (T : TypeId) (cs : Array Value), w.heap[k]? = some (.cells cs T (0, 0)) → T ≠ 50 → w'.heap[k]? = w.heap[k]? := fun k T cs h1 h2 => hg.block k (Array.getElem?_eq_some_iff.1 h1).1 (hF.ne h1 h2)
    have e : flat bs ++ y.cells.toList = flat (bs ++ [y]) := by unfold flat; rw [List.flatMap_append]; simp
    rw [e] at hown
    obtain ⟨h1, h2⟩ := hown
    rcases h2 with ⟨h3, h4⟩ | ⟨g', c', cur, hv, hr⟩
    · omega
    · subst hv
      exact h ⟨some ⟨g', 0, none⟩, S.n + 1, c'⟩ w' rfl ⟨⟨h1, Or.inr ⟨g', c', cur, rfl, hr⟩⟩, fun z hz => (List.mem_append.1 hz).elim (hF.ok z) (fun h => by simp at h; subst h; exact hy), hlen⟩ hb hk
end Go.Proofs.YtahfdbblndphaaaGreatDoor

/- The document's Same of lists of rows, and of views: of two that read alike it is true. -/
namespace Go.Proofs.YtahfdbblndphaaaGreatDoor
open Go.ChangeShapes Go.WideShapes Go.ChangeAt Go.RowKit
theorem drewN_cell (w : World) (m : Nat) {a : Addr} {v : Value} (h : w.cell? a = some v) : (w.drewN m).cell? a = some v := by
  have hlt := World.block_lt_of_cell? w _ h
  rw [(below_drewN (Below.refl w.heap.size w) m).cell hlt]; exact h
/-- A view that was told, as cells. -/
structure ToldAt (w : World) (t k v : Sl) (X : Vw) : Prop where
  t : IArg w t.ao t.n t.c X.T
  k : CubeAt w k.ao k.n X.K
  v : CubeAt w v.ao v.n X.V
theorem ToldAt.below {w w' : World} {t k v : Sl} {X : Vw} (h : ToldAt w t k v X) (hb : Below w.heap.size w w') : ToldAt w' t k v X := ⟨h.t.below hb, h.k.below hb, h.v.below hb⟩
end Go.Proofs.YtahfdbblndphaaaGreatDoor

/- Rows of rows of the call's own: a copy of at most so many rows of at most 40 numbers. -/
namespace Go.Proofs.YtahfdbblndphaaaGreatDoor
open Go.ChangeShapes Go.WideShapes Go.ChangeAt Go.RowKit
theorem rowOf_snoc (R : List (List Int)) (Y : List Int) (t : Nat) : rowOf (R ++ [Y]) t = if t < R.length then rowOf R t else if t = R.length then Y else [] := by
  unfold rowOf
  simp only [List.getD_eq_getElem?_getD]
  by_cases h : t < R.length
  · rw [if_pos h, List.getElem?_append_left h]
  · rw [if_neg h, List.getElem?_append_right (by omega)]
    by_cases e : t = R.length
    · subst e; simp
    · rw [if_neg e, List.getElem?_eq_none (by simp; omega)]; rfl
/-- Block g is a row of rows, all of the call's own, one above the other. -/
structure OwnGrid (w : World) (B g k cap : Nat) (R : List (List Int)) : Prop where
  base : B ≤ g
  len : R.length = k
  own : ∃ vs, w.ownsRow B 24 1 (.slice (some ⟨g, 0, none⟩) k cap) k vs ∧ ∃ gs : Nat → Nat, (∀ t, t < k → ∃ m c, vs[t]? = some (.slice (some ⟨gs t, 0, none⟩) m c) ∧ Fresh w B (gs t) m c (rowOf R t)) ∧ ∀ t u, t < u → u < k → gs t < gs u
theorem own_block {w : World} {B e g k cap : Nat} {vs : List Value} (h : w.ownsRow B e 1 (.slice (some ⟨g, 0, none⟩) k cap) k vs) : B ≤ g ∧ ∃ cur, w.heap[g]? = some (.cells cur e (0, 0)) := by
  rcases h.2 with ⟨h3, _⟩ | ⟨g', c', cur, hv, hg, hh, _⟩
  · cases h3
  · simp only [Value.slice.injEq, Option.some.injEq, Addr.mk.injEq, and_true] at hv
    obtain ⟨rfl, -⟩ := hv
    exact ⟨hg, cur, hh⟩
theorem OwnGrid.grid {w : World} {B g k cap : Nat} {R : List (List Int)} (h : OwnGrid w B g k cap R) (hk : k ≤ 9223372036854775807) : GridAt w (some ⟨g, 0, none⟩) k R := by
  obtain ⟨vs, h1, gs, h2, _⟩ := h.own
  refine ⟨h.len, hk, fun _ => ⟨g, 0, rfl, fun t ht => ?_⟩⟩
  obtain ⟨m, c, e, F⟩ := h2 t ht
  have hc := h1.cells (g := g) rfl t _ e
  have e2 : (Addr.mk g 0 none).add t = ⟨g, t, none⟩ := by simp [Addr.add]; intro h; exact h.symm
  rw [e2] at hc
  exact ⟨_, _, _, by rw [Nat.zero_add]; exact hc, F.arg⟩
theorem OwnGrid.below {w w' : World} {B g k cap : Nat} {R : List (List Int)} (h : OwnGrid w B g k cap R) (hb : Below w.heap.size w w') : OwnGrid w' B g k cap R := by
  obtain ⟨vs, h1, gs, h2, h3⟩ := h.own
  exact ⟨h.base, h.len, vs, owns_below h1 hb, gs, fun t ht => let ⟨m, c, e, F⟩ := h2 t ht; ⟨m, c, e, F.below hb⟩, h3⟩
theorem ownGrid_empty (w : World) : OwnGrid (w.alloc (.cells #[] 24)) w.heap.size w.heap.size 0 0 [] :=
  ⟨Nat.le_refl _, rfl, [], ⟨rfl, Or.inr ⟨w.heap.size, 0, #[], rfl, Nat.le_refl _, heap_alloc_new _ _, Nat.le_refl _, by decide, rfl, rfl⟩⟩, fun t => t, fun t ht => by omega, fun t u _ hu => by omega⟩
/-- append(out, row), out a row of rows of the call's own, the row a newer one. -/
theorem wpList_append_grid {w : World} {ops : Array Oper} {rest : List Oper} {o : Oper} {a : Act} {Q : Exit → Act → World → Prop} (hgd : o.guard = none) (s x : Operand)
    (ho : o.op = .call { callee := .builtin .append, args := #[s, x], argTypes := #[94, 94] })
    (B g k cap : Nat) (R : List (List Int)) (hs : a.eval s = .slice (some ⟨g, 0, none⟩) k cap) (hF : OwnGrid w B g k cap R) (w1 : World) (hF1 : OwnGrid w1 B g k cap R) (hold : Below w1.heap.size w1 w)
    (bo g1 m1 c1 : Nat) (Y : List Int) (hx : a.eval x = .slice (some ⟨bo, 0, none⟩) 1 1) (hX : w.cell? ⟨bo, 0, none⟩ = some (.slice (some ⟨g1, 0, none⟩) m1 c1)) (hY : Fresh w B g1 m1 c1 Y) (hg1 : w1.heap.size ≤ g1)
    (hlen : k + 1 ≤ 1048576) (hB : B ≤ w.heap.size)
    (h : ∀ g' cap' w', OwnGrid w' B g' (k + 1) cap' (R ++ [Y]) → Below B w w' → wpList Tryz.prog ops Q rest (a.put o.dst (.slice (some ⟨g', 0, none⟩) (k + 1) cap')) w') : wpList Tryz.prog ops Q (o :: rest) a w := by
  obtain ⟨i0, hi, hz0, hz1, hz2⟩ := info_parts Tryz.infoRow
  obtain ⟨vs, h1', gs, h2', h3⟩ := hF1.own
  have h1 := owns_below h1' hold
  have h2 : ∀ t, t < k → ∃ m c, vs[t]? = some (.slice (some ⟨gs t, 0, none⟩) m c) ∧ Fresh w B (gs t) m c (rowOf R t) := fun t ht => let ⟨m, c, e, F⟩ := h2' t ht; ⟨m, c, e, F.below hold⟩
  have hlt : ∀ t, t < k → gs t < w1.heap.size := fun t ht => let ⟨m, c, e, F⟩ := h2' t ht; F.lt
  refine wpList_append_own w hgd s x 94 ho B 24 i0 (.slice none 0 0) 1 24 Tryz.underlying94 hi hz0 hz1 hz2 rfl (by decide) _ k _ hs h1 ⟨bo, 0, none⟩ 1 1 [.slice (some ⟨g1, 0, none⟩) m1 c1] hx rfl ?_ (by intro u hu; simp at hu; subst hu; rfl) (by unfold maxLen; omega) (by omega) hB ?_
  · intro j u hj
    match j, hj with
    | 0, hj =>
      simp at hj
      subst hj
      have e2 : (Addr.mk bo 0 none).add 0 = ⟨bo, 0, none⟩ := by simp [Addr.add]
      rw [e2, hX]
  · intro v' w' hown hg hnil
    have hb : Below B w w' := (Below.refl _ _).grown hg hB (fun k hk => by simp [Value.ownBlock] at hk; subst hk; exact hF.base)
    obtain ⟨_, cur, hcur⟩ := own_block h1
    have keep : ∀ {b m c : Nat} {Z : List Int}, Fresh w B b m c Z → Fresh w' B b m c Z := fun {b m c Z} F => F.of_block (hg.block b F.lt (by
      intro e
      simp [Value.ownBlock] at e
      subst e
      obtain ⟨c2, hb2, _⟩ := F.row
      rw [hcur] at hb2
      simp at hb2))
    have hlv : vs.length = k := by have := h1.1; omega
    have hown2 := hown
    obtain ⟨_, h4⟩ := hown2
    rcases h4 with ⟨_, h5⟩ | ⟨g', c', cur', hv, hg2, hr⟩
    · omega
    · subst hv
      refine h g' c' w' ⟨hg2, by simp [hF.len], _, hown, fun t => if t < k then gs t else g1, fun t ht => ?_, fun t u htu hu => ?_⟩ hb
      · rw [rowOf_snoc, hF.len]
        by_cases htk : t < k
        · obtain ⟨m3, c3, e3, F3⟩ := h2 t htk
          simp only [if_pos htk]
          exact ⟨m3, c3, by rw [List.getElem?_append_left (by omega)]; exact e3, keep F3⟩
        · obtain rfl : t = k := by omega
          simp only [Nat.lt_irrefl, if_false, if_pos]
          exact ⟨m1, c1, by rw [List.getElem?_append_right (by omega), hlv]; simp, keep hY⟩
      · simp only []
        rw [if_pos (show t < k by omega)]
        by_cases huk : u < k
        · rw [if_pos huk]; exact h3 t u htu huk
        · rw [if_neg huk]; have := hlt t (by omega); omega
theorem cellRow_new (w : World) (v : Value) : (w.alloc (.cells #[v] 24)).cell? ⟨w.heap.size, 0, none⟩ = some v := by
  have e := heap_alloc_new w (.cells #[v] 24)
  unfold World.cell?
  simp only [e]
  rfl
theorem take_snoc {R : List (List Int)} {k : Nat} (hk : k < R.length) : (R.take (k + 1)).map (List.take 40) = (R.take k).map (List.take 40) ++ [(rowOf R k).take 40] := by
  unfold rowOf
  rw [List.take_add_one, List.map_append, List.getD_eq_getElem?_getD, List.getElem?_eq_getElem hk]
  rfl
/-- At most lim rows of at most 40 numbers. -/
def rowsN (R : List (List Int)) (lim : Nat) : List (List Int) := (R.take lim).map (List.take 40)
theorem rowsN_len (R : List (List Int)) (lim t : Nat) : (rowOf (rowsN R lim) t).length ≤ 40 := by
  unfold rowOf rowsN
  rw [List.getD_eq_getElem?_getD]
  cases e : ((R.take lim).map (List.take 40))[t]? with
  | none => simp
  | some x =>
    obtain ⟨y, _, rfl⟩ := List.mem_map.1 (List.mem_of_getElem? e)
    simp
    omega
end Go.Proofs.YtahfdbblndphaaaGreatDoor

/- At most so many tokens, in memory of one's own. -/
namespace Go.Proofs.YtahfdbblndphaaaGreatDoor
open Go.ChangeShapes Go.WideShapes Go.ChangeAt Go.RowKit
theorem IArg.take {w : World} {ao : Option Addr} {n ca : Nat} {A : List Int} (h : IArg w ao n ca A) {m : Nat} (hm : m ≤ n) : IArg w ao m ca (A.take m) := by
  have hl := h.row.len
  have hf := h.fit
  refine ⟨⟨by rw [List.length_take]; omega, by have := h.row.max; omega, fun k => ?_, fun hn => ?_⟩, by omega, h.max, h.nil⟩
  · rcases Nat.lt_or_ge k m with hk | hk
    · rw [el_take hk]; exact h.row.small k
    · rw [el_over (by rw [List.length_take]; omega)]; omega
  · obtain ⟨b, o, e, hc⟩ := h.row.cells (by omega)
    refine ⟨b, o, e, fun t ht => ?_⟩
    rw [el_take ht]
    exact hc t (by omega)
theorem few8_gen (ao : Option Addr) (n ca : Nat) (A Z : List Int) (lim : Nat) (w : World) (hA : IArg w ao n ca A) (hlim : lim ≤ 4096) (hZ : Z = A.take lim) :
   Calls Tryz.prog 5 #[.slice ao n ca, .int .i64 (lim : Int)] w fun e w' => ∃ b c, e = .returned (.slice (some ⟨b, 0, none⟩) Z.length c) ∧ IOwn w' w.heap.size (.slice (some ⟨b, 0, none⟩) Z.length c) Z.length Z ∧ Below w.heap.size w w' := by
  obtain ⟨i0, hi, hz0, hz1, hz2⟩ := info_parts Tryz.infoInt
  have hl := hA.row.len
  have hf := hA.fit
  have hmx := hA.max
  have B0 : Below w.heap.size w (w.alloc (.cells #[] 3)) := (Below.refl _ _).alloc (Nat.le_refl _) _
  have O0 : (w.alloc (.cells #[] 3)).ownsRow w.heap.size 3 1 (.slice (some ⟨w.heap.size, 0, none⟩) 0 0) 0 [] := World.ownsRow_made w #[] 0 (Nat.le_refl _) (by decide) rfl
  have key : ∀ (ao : Option Addr) (m : Nat) (Z' : List Int), IArg w ao m ca Z' → Z' = Z → m ≤ 4096 → ∀ (ops : Array Oper) (rest : List Oper) (o : Oper) (a : Act) (Q : Exit → Act → World → Prop) (s x : Operand), o.guard = none → o.op = .call { callee := .builtin .append, args := #[s, x], argTypes := #[30, 30] } → a.eval s = .slice (some ⟨w.heap.size, 0, none⟩) 0 0 → a.eval x = .slice ao m ca →
      (∀ b c w', IOwn w' w.heap.size (.slice (some ⟨b, 0, none⟩) Z.length c) Z.length Z → Below w.heap.size w w' → wpList Tryz.prog ops Q rest (a.put o.dst (.slice (some ⟨b, 0, none⟩) Z.length c)) w') → wpList Tryz.prog ops Q (o :: rest) a (w.alloc (.cells #[] 3)) := by
    intro ao m Z' hZ' eZ hm ops rest o a Q s x hg ho hs hx hK
    have hlz : Z'.length = m := hZ'.row.len
    cases ao with
    | none =>
      have hc0 := hZ'.nil rfl
      have hm0 : m = 0 := by have := hZ'.fit; omega
      subst hm0
      obtain rfl : Z' = [] := List.length_eq_zero_iff.1 hlz
      rw [hc0] at hx
      refine wpList_append_own_none hg s x 30 ho w.heap.size 3 i0 1 Tryz.underlying30 hi _ 0 [] hs O0 hx ?_
      have := hK w.heap.size 0 _ (by rw [← eZ]; exact O0) B0
      rw [← eZ] at this
      exact this
    | some ad =>
      refine wpList_append_own _ hg s x 30 ho w.heap.size 3 i0 (.int .i64 0) 1 8 Tryz.underlying30 hi hz0 hz1 hz2 rfl (by decide) _ 0 [] hs O0 ad m ca (Z'.map (Value.int .i64)) hx (by simp [hlz]) ((hZ'.row.below B0).vals) (ints_oneCell _ _) (by unfold maxLen; omega) (by omega) (by simp) ?_
      intro v' w' O1 G1 N1
      have hb : Below w.heap.size (w.alloc (.cells #[] 3)) w' := (Below.refl _ _).grown G1 (by simp) (fun k hk => (O0.lt k hk).1)
      rw [Nat.zero_add, List.nil_append] at O1
      have hv : ∃ b c, v' = .slice (some ⟨b, 0, none⟩) m c := by
        rcases O1.2 with ⟨h3, _⟩ | ⟨g, cap, cur, hv, _⟩
        · have := (N1.1 h3).1; cases this
        · exact ⟨_, _, hv⟩
      obtain ⟨b, c, rfl⟩ := hv
      have e : Z.length = m := by rw [← eZ, hlz]
      have := hK b c w' (by rw [e, ← eZ]; exact O1) (B0.trans hb)
      rw [e] at this
      exact this
  have hZl : Z.length ≤ lim := by rw [hZ, List.length_take]; omega
  by_cases h0 : lim < n
  · have hle : (lim : Int) ≤ (ca : Int) := by omega
    have KT := hA.take (m := lim) (by omega)
    rw [← hZ] at KT
    clear hl hA hZ
    go_enter Tryz.func5, Tryz.ntmps5
    go_wp2_with (at_builtin; refine key _ _ _ KT rfl (by omega) _ _ _ _ _ _ _ rfl rfl rfl rfl ?_; intro b c w' O1 B1)
    go_ret
    exact ⟨b, c, rfl, O1, B1⟩
  · have e1 : Hid (A = Z) := by show _ = _; rw [hZ, List.take_of_length_le (by omega)]
    have hn : n ≤ 4096 := by omega
    clear hl hZ
    go_enter Tryz.func5, Tryz.ntmps5
    go_wp2_with (at_builtin; refine key _ _ _ hA e1.out hn _ _ _ _ _ _ _ rfl rfl rfl rfl ?_; intro b c w' O1 B1)
    go_ret
    exact ⟨b, c, rfl, O1, B1⟩
theorem few8_any (ao : Option Addr) (n ca : Nat) (A : List Int) (lim : Nat) (w : World) (hA : IArg w ao n ca A) (hlim : lim ≤ 4096) :
   Calls Tryz.prog 5 #[.slice ao n ca, .int .i64 (lim : Int)] w fun e w' => ∃ b c, e = .returned (.slice (some ⟨b, 0, none⟩) (A.take lim).length c) ∧ IOwn w' w.heap.size (.slice (some ⟨b, 0, none⟩) (A.take lim).length c) (A.take lim).length (A.take lim) ∧ Below w.heap.size w w' := few8_gen ao n ca A _ lim w hA hlim rfl
end Go.Proofs.YtahfdbblndphaaaGreatDoor

/- lists: a copy of lists of rows, of the call's own. -/
namespace Go.Proofs.YtahfdbblndphaaaGreatDoor
open Go.ChangeShapes Go.WideShapes Go.ChangeAt Go.RowKit
theorem OwnGrid.hangs {w : World} {B g k cap : Nat} {R : List (List Int)} (h : OwnGrid w B g k cap R) (hk : k ≤ 9223372036854775807) : Hangs (fun b => B ≤ b) w (fun w => GridAt w (some ⟨g, 0, none⟩) k R) := by
  intro w2 h2
  obtain ⟨vs, h1, gs, h3, h4⟩ := h.own
  have hl : g < w.heap.size := by obtain ⟨_, cur, hc⟩ := own_block h1; exact (Array.getElem?_eq_some_iff.1 hc).1
  refine OwnGrid.grid (B := B) (cap := cap) ⟨h.base, h.len, vs, owns_mono h1 (Nat.le_refl _) (fun b hb => ?_), gs, fun t ht => ?_, h4⟩ hk
  · simp [Value.ownBlock] at hb
    subst hb
    exact h2 _ h.base hl
  · obtain ⟨m, c, e, F⟩ := h3 t ht
    exact ⟨m, c, e, F.of_block (h2 _ F.base F.lt)⟩
theorem own_caps {w : World} {B e g k cap : Nat} {vs : List Value} (h : w.ownsRow B e 1 (.slice (some ⟨g, 0, none⟩) k cap) k vs) : k ≤ cap ∧ cap ≤ 9223372036854775807 := by
  rcases h.2 with ⟨h3, _⟩ | ⟨g', c', cur, hv, hg, hh, hnc, hcm, _⟩
  · cases h3
  · simp only [Value.slice.injEq, Option.some.injEq, Addr.mk.injEq, and_true] at hv
    obtain ⟨-, -, rfl⟩ := hv
    exact ⟨hnc, hcm⟩
/-- Block g is a list of lists, of the call's own. -/
structure OwnCube (w : World) (B g k cap : Nat) (C : List (List (List Int))) : Prop where
  base : B ≤ g
  len : C.length = k
  own : ∃ vs, w.ownsRow B 94 1 (.slice (some ⟨g, 0, none⟩) k cap) k vs ∧ ∀ (t : Nat) (R : List (List Int)), C[t]? = some R → ∃ ro m c, vs[t]? = some (.slice ro m c) ∧ (ro = none → c = 0) ∧ m ≤ c ∧ c ≤ 9223372036854775807 ∧ Hangs (fun b => B ≤ b ∧ b ≠ g) w (fun w => GridAt w ro m R)
theorem OwnCube.below {w w' : World} {B g k cap : Nat} {C : List (List (List Int))} (h : OwnCube w B g k cap C) (hb : Below w.heap.size w w') : OwnCube w' B g k cap C := by
  obtain ⟨vs, h1, h2⟩ := h.own
  exact ⟨h.base, h.len, vs, owns_below h1 hb, fun t R hR => let ⟨ro, m, c, e, h3, h4, h5, h6⟩ := h2 t R hR; ⟨ro, m, c, e, h3, h4, h5, h6.below hb⟩⟩
theorem OwnCube.lt {w : World} {B g k cap : Nat} {C : List (List (List Int))} (h : OwnCube w B g k cap C) : g < w.heap.size := by
  obtain ⟨vs, h1, _⟩ := h.own
  obtain ⟨_, cur, hc⟩ := own_block h1
  exact (Array.getElem?_eq_some_iff.1 hc).1
theorem OwnCube.cube {w : World} {B g k cap : Nat} {C : List (List (List Int))} (h : OwnCube w B g k cap C) (hk : k ≤ 9223372036854775807) : CubeAt w (some ⟨g, 0, none⟩) k C := by
  obtain ⟨vs, h1, h2⟩ := h.own
  refine ⟨h.len, hk, fun _ => ⟨g, 0, rfl, fun t R hR => ?_⟩⟩
  obtain ⟨ro, m, c, e, h3, h4, h5, h6⟩ := h2 t R hR
  have hc := h1.cells (g := g) rfl t _ e
  have e2 : (Addr.mk g 0 none).add t = ⟨g, t, none⟩ := by simp [Addr.add]; intro h; exact h.symm
  rw [e2] at hc
  exact ⟨ro, m, c, by rw [Nat.zero_add]; exact hc, h3, h4, h5, h6.now⟩
theorem OwnCube.hangs {w : World} {B g k cap : Nat} {C : List (List (List Int))} (h : OwnCube w B g k cap C) (hk : k ≤ 9223372036854775807) : New B w (fun w => CubeAt w (some ⟨g, 0, none⟩) k C) := by
  intro w2 h2
  obtain ⟨vs, h1, h3⟩ := h.own
  refine OwnCube.cube (B := B) (cap := cap) ⟨h.base, h.len, vs, owns_mono h1 (Nat.le_refl _) (fun b hb => ?_), fun t R hR => ?_⟩ hk
  · simp [Value.ownBlock] at hb
    subst hb
    exact h2 _ h.base h.lt
  · obtain ⟨ro, m, c, e, h4, h5, h6, h7⟩ := h3 t R hR
    have hs : w.heap.size ≤ w.heap.size := Nat.le_refl _
    exact ⟨ro, m, c, e, h4, h5, h6, fun w3 h8 => h7 w3 fun b hb hlt => (h8 b hb (Nat.lt_of_not_le fun hge => by
      have e1 := h2 b hb.1 hlt
      rw [Array.getElem?_eq_none hge, Array.getElem?_eq_getElem hlt] at e1
      cases e1)).trans (h2 b hb.1 hlt)⟩
theorem ownCube_empty (w : World) : OwnCube (w.alloc (.cells #[] 94)) w.heap.size w.heap.size 0 0 [] :=
  ⟨Nat.le_refl _, rfl, [], ⟨rfl, Or.inr ⟨w.heap.size, 0, #[], rfl, Nat.le_refl _, heap_alloc_new _ _, Nat.le_refl _, by decide, rfl, rfl⟩⟩, fun t R hR => by simp at hR⟩
theorem wpList_append_cube {w : World} {ops : Array Oper} {rest : List Oper} {o : Oper} {a : Act} {Q : Exit → Act → World → Prop} (hgd : o.guard = none) (s x : Operand)
    (ho : o.op = .call { callee := .builtin .append, args := #[s, x], argTypes := #[54, 54] })
    (B g k cap : Nat) (C : List (List (List Int))) (hs : a.eval s = .slice (some ⟨g, 0, none⟩) k cap) (hF : OwnCube w B g k cap C)
    (bo g1 m1 c1 : Nat) (R : List (List Int)) (hx : a.eval x = .slice (some ⟨bo, 0, none⟩) 1 1) (hX : w.cell? ⟨bo, 0, none⟩ = some (.slice (some ⟨g1, 0, none⟩) m1 c1)) (hm1 : m1 ≤ c1) (hc1 : c1 ≤ 9223372036854775807) (hY : Hangs (fun b => B ≤ b ∧ b ≠ g) w (fun w => GridAt w (some ⟨g1, 0, none⟩) m1 R))
    (hlen : k + 1 ≤ 1048576) (hB : B ≤ w.heap.size)
    (h : ∀ g' cap' w', OwnCube w' B g' (k + 1) cap' (C ++ [R]) → Below B w w' → wpList Tryz.prog ops Q rest (a.put o.dst (.slice (some ⟨g', 0, none⟩) (k + 1) cap')) w') : wpList Tryz.prog ops Q (o :: rest) a w := by
  obtain ⟨i0, hi, hz0, hz1, hz2⟩ := info_parts Tryz.infoList
  obtain ⟨vs, h1, h2⟩ := hF.own
  refine wpList_plain hgd fun _ hK => wp_append_own2 w s x 54 ho B 94 i0 (.slice none 0 0) 1 24 Tryz.underlying54 hi hz0 hz1 hz2 rfl (by decide) _ k _ hs h1 ⟨bo, 0, none⟩ 1 1 [.slice (some ⟨g1, 0, none⟩) m1 c1] hx rfl ?_ (by intro u hu; simp at hu; subst hu; rfl) (by unfold maxLen; omega) (by omega) hB ?_
  · intro j u hj
    match j, hj with
    | 0, hj =>
      simp at hj
      subst hj
      have e2 : (Addr.mk bo 0 none).add 0 = ⟨bo, 0, none⟩ := by simp [Addr.add]
      rw [e2, hX]
  · intro v' w' hown hg hnil hwh
    have hb : Below B w w' := (Below.refl _ _).grown hg hB (fun k hk => by simp [Value.ownBlock] at hk; subst hk; exact hF.base)
    have hlv : vs.length = k := by have := h1.1; omega
    have hown2 := hown
    obtain ⟨_, h4⟩ := hown2
    rcases h4 with ⟨_, h5⟩ | ⟨g', c', cur', hv, hg2, hr⟩
    · omega
    · subst hv
      have hw := hwh g' rfl
      have tr : ∀ {Φ : World → Prop}, Hangs (fun b => B ≤ b ∧ b ≠ g) w Φ → Hangs (fun b => B ≤ b ∧ b ≠ g') w' Φ := fun {Φ} hh w2 hh2 => hh w2 fun b hb1 hlt => by
        have hne : b ≠ g' := by
          rcases hw with e | e
          · simp [Value.ownBlock] at e; omega
          · omega
        exact (hh2 b ⟨hb1.1, hne⟩ (Nat.lt_of_lt_of_le hlt hg.size)).trans (hg.block b hlt (by simp [Value.ownBlock]; omega))
      refine hK _ _ (h g' c' w' ⟨hg2, by simp [hF.len], _, hown, fun t R' hR' => ?_⟩ hb)
      by_cases htk : t < k
      · rw [List.getElem?_append_left (by rw [hF.len]; exact htk)] at hR'
        obtain ⟨ro, m3, c3, e3, q1, q2, q3, q4⟩ := h2 t R' hR'
        exact ⟨ro, m3, c3, by rw [List.getElem?_append_left (by omega)]; exact e3, q1, q2, q3, tr q4⟩
      · rw [List.getElem?_append_right (by rw [hF.len]; omega), hF.len] at hR'
        have e0 : t - k = 0 := by
          rcases Nat.eq_zero_or_pos (t - k) with e | e
          · exact e
          · rw [List.getElem?_eq_none (by simp; omega)] at hR'; cases hR'
        rw [e0] at hR'
        simp at hR'
        subst hR'
        exact ⟨some ⟨g1, 0, none⟩, m1, c1, by rw [List.getElem?_append_right (by omega), hlv, e0]; rfl, (fun h => by cases h), hm1, hc1, tr hY⟩
theorem cellList_new (w : World) (v : Value) : (w.alloc (.cells #[v] 94)).cell? ⟨w.heap.size, 0, none⟩ = some v := by
  have e := heap_alloc_new w (.cells #[v] 94)
  unfold World.cell?
  simp only [e]
  rfl
end Go.Proofs.YtahfdbblndphaaaGreatDoor

/- Told: a view as the document's, of the call's own. -/
namespace Go.Proofs.YtahfdbblndphaaaGreatDoor
open Go.ChangeShapes Go.WideShapes Go.ChangeAt Go.RowKit
theorem take_one {C : List (List (List Int))} {k : Nat} {R : List (List Int)} (h : C[k]? = some R) : C.take (k + 1) = C.take k ++ [R] := by
  rw [List.take_add_one, h]; rfl
end Go.Proofs.YtahfdbblndphaaaGreatDoor

/- Rows, rows of rows and lists of them that came in: as they read, nothing said of what is frozen; copies of them, of the call's own. -/
namespace Go.Proofs.YtahfdbblndphaaaGreatDoor
open Go.ChangeShapes Go.WideShapes Go.ChangeAt Go.RowKit
structure ArgR (w : World) (ao : Option Addr) (n ca : Nat) (A : List Int) : Prop where
  row : RowAt w ao n A
  fit : n ≤ ca
  max : ca ≤ 9223372036854775807
  nil : ao = none → ca = 0
theorem ArgR.below {w w' : World} {ao : Option Addr} {n ca : Nat} {A : List Int} (h : ArgR w ao n ca A) (hb : Below w.heap.size w w') : ArgR w' ao n ca A := ⟨h.row.below hb, h.fit, h.max, h.nil⟩
theorem Arg.raw {w : World} {ao : Option Addr} {n ca : Nat} {A : List Int} (h : Arg w ao n ca A) : ArgR w ao n ca A := ⟨h.row, h.fit, h.max, h.nil⟩
structure GridR (w : World) (ao : Option Addr) (n : Nat) (R : List (List Int)) : Prop where
  len : R.length = n
  max : n ≤ 9223372036854775807
  cells : 0 < n → ∃ b o, ao = some ⟨b, o, none⟩ ∧ ∀ t, t < n → ∃ ro m c, w.cell? ⟨b, o + t, none⟩ = some (.slice ro m c) ∧ ArgR w ro m c (rowOf R t)
theorem GridR.nil (w : World) (ao : Option Addr) : GridR w ao 0 [] := ⟨rfl, by omega, fun h => by omega⟩
theorem GridR.below {w w' : World} {ao : Option Addr} {n : Nat} {R : List (List Int)} (h : GridR w ao n R) (hb : Below w.heap.size w w') : GridR w' ao n R := by
  refine ⟨h.len, h.max, fun hn => ?_⟩
  obtain ⟨b, o, e, hc⟩ := h.cells hn
  refine ⟨b, o, e, fun t ht => ?_⟩
  obtain ⟨ro, m, c, h1, h2⟩ := hc t ht
  have hlt : b < w.heap.size := by simpa using World.block_lt_of_cell? w _ h1
  exact ⟨ro, m, c, by rw [hb.cell (by exact hlt)]; exact h1, h2.below hb⟩
theorem GridAt.raw {w : World} {ao : Option Addr} {n : Nat} {R : List (List Int)} (h : GridAt w ao n R) : GridR w ao n R := ⟨h.len, h.max, fun hn => by
  obtain ⟨b, o, e, hc⟩ := h.cells hn
  exact ⟨b, o, e, fun t ht => let ⟨ro, m, c, h1, h2⟩ := hc t ht; ⟨ro, m, c, h1, h2.raw⟩⟩⟩
structure CubeR (w : World) (ao : Option Addr) (m : Nat) (C : List (List (List Int))) : Prop where
  len : C.length = m
  max : m ≤ 9223372036854775807
  cells : 0 < m → ∃ b o, ao = some ⟨b, o, none⟩ ∧ ∀ (t : Nat) (R : List (List Int)), C[t]? = some R → ∃ ro n c, w.cell? ⟨b, o + t, none⟩ = some (.slice ro n c) ∧ (ro = none → c = 0) ∧ n ≤ c ∧ c ≤ 9223372036854775807 ∧ GridR w ro n R
theorem CubeR.nil (w : World) (ao : Option Addr) : CubeR w ao 0 [] := ⟨rfl, by omega, fun h => by omega⟩
theorem CubeR.below {w w' : World} {ao : Option Addr} {m : Nat} {C : List (List (List Int))} (h : CubeR w ao m C) (hb : Below w.heap.size w w') : CubeR w' ao m C := by
  refine ⟨h.len, h.max, fun hn => ?_⟩
  obtain ⟨b, o, e, hc⟩ := h.cells hn
  refine ⟨b, o, e, fun t R hR => ?_⟩
  obtain ⟨ro, n, c, h1, h2, h3, h4, h5⟩ := hc t R hR
  have hlt : b < w.heap.size := by simpa using World.block_lt_of_cell? w _ h1
  exact ⟨ro, n, c, by rw [hb.cell (by exact hlt)]; exact h1, h2, h3, h4, h5.below hb⟩
theorem CubeAt.raw {w : World} {ao : Option Addr} {m : Nat} {C : List (List (List Int))} (h : CubeAt w ao m C) : CubeR w ao m C := ⟨h.len, h.max, fun hn => by
  obtain ⟨b, o, e, hc⟩ := h.cells hn
  exact ⟨b, o, e, fun t R hR => let ⟨ro, n, c, h1, h2, h3, h4, h5⟩ := hc t R hR; ⟨ro, n, c, h1, h2, h3, h4, h5.raw⟩⟩⟩
set_option maxHeartbeats 800000 in
theorem fewR_any (ao : Option Addr) (n ca : Nat) (A : List Int) (lim : Nat) (li : Int) (w : World) (hli : li = lim) (hA : ArgR w ao n ca A) (hl : lim ≤ 5000) :
   Calls Tryz.prog 15 #[.slice ao n ca, .int .i64 li] w fun e w' => ∃ g n' cap, e = .returned (.slice (some ⟨g, 0, none⟩) n' cap) ∧ n' ≤ lim ∧ Fresh w' w.heap.size g n' cap (A.take lim) ∧ Below w.heap.size w w' := by
  subst hli
  have hm := hA.max
  have hf := hA.fit
  have hlen := hA.row.len
  have F0 := fresh_empty w
  have B0 : Below w.heap.size w (w.alloc (.cells #[] 69)) := (Below.refl _ _).alloc (Nat.le_refl _) _
  by_cases hgt : lim < n
  · obtain ⟨b, o, rfl, hc⟩ := hA.row.cells (by omega)
    have R := (hA.row.part 0 lim (by omega)).below B0
    rw [Nat.add_zero, List.drop_zero] at R
    clear hA hc hlen
    go_enter Tryz.func15, Tryz.ntmps15
    go_wp2_with (at_builtin; refine wpList_append_row rfl _ _ rfl w.heap.size w.heap.size 0 0 [] rfl F0 (some ⟨b, o, none⟩) lim ca (A.take lim) rfl R (fun h => by cases h) (by omega) (by simp) ?_; intro g' cap' w' F1 B1)
    rw [Nat.zero_add, List.nil_append] at *
    go_ret
    exact ⟨_, _, _, rfl, Nat.le_refl _, F1, B0.trans B1⟩
  · have R := hA.row.below B0
    have ht : A.take lim = A := List.take_of_length_le (by omega)
    rw [ht]
    have hnil := hA.nil
    clear hA ht hlen
    go_enter Tryz.func15, Tryz.ntmps15
    go_wp2_with (at_builtin; refine wpList_append_row rfl _ _ rfl w.heap.size w.heap.size 0 0 [] rfl F0 ao n ca A rfl R hnil (by omega) (by simp) ?_; intro g' cap' w' F1 B1)
    rw [Nat.zero_add, List.nil_append] at *
    go_ret
    exact ⟨_, _, _, rfl, by omega, F1, B0.trans B1⟩
/-- At most five lists of at most lim rows of at most 40 numbers. -/
def cutC (C : List (List (List Int))) (lim : Nat) : List (List (List Int)) := (C.take 5).map fun R => rowsN R lim
theorem cutC_len (C : List (List (List Int))) (lim : Nat) : (cutC C lim).length = min 5 C.length := by unfold cutC; simp
theorem cutC_snoc {C : List (List (List Int))} {k : Nat} {R : List (List Int)} (lim : Nat) (_hk : k < 5) (h : C[k]? = some R) : ((C.take (k + 1)).map fun R => rowsN R lim) = ((C.take k).map fun R => rowsN R lim) ++ [rowsN R lim] := by
  rw [take_one h]; simp
end Go.Proofs.YtahfdbblndphaaaGreatDoor

/- Numbers of a model that came in, as they read; what is told of a layer. -/
namespace Go.Proofs.YtahfdbblndphaaaGreatDoor
open Go.ChangeShapes Go.WideShapes Go.ChangeAt Go.RowKit
set_option maxHeartbeats 1600000 in
theorem mfewR_any (r c : Int) (ao : Option Addr) (n ca : Nat) (D : List Int) (w : World) (hD : ArgR w ao n ca D) :
   Calls Tryz.prog 14 #[matV r c ao n ca] w fun e w' => ∃ g n' cap, e = .returned (matV r c (some ⟨g, 0, none⟩) n' cap) ∧ n' ≤ 2000 ∧ Fresh w' w.heap.size g n' cap (D.take 2000) ∧ Below w.heap.size w w' := by
  have X0 := box_new w r c ao n ca
  have B0 : Below w.heap.size w (w.alloc (.cells #[.int .i64 r, .int .i64 c, .slice ao n ca] 26)) := (Below.refl _ _).alloc (Nat.le_refl _) _
  generalize hw0 : w.alloc (.cells #[.int .i64 r, .int .i64 c, .slice ao n ca] 26) = w0 at X0 B0
  have hs0 : w0.heap.size = w.heap.size + 1 := by rw [← hw0]; simp
  have X1 := box_new w0 0 0 none 0 0
  have B1 : Below w0.heap.size w0 (w0.alloc (.cells #[.int .i64 0, .int .i64 0, .slice none 0 0] 26)) := (Below.refl _ _).alloc (Nat.le_refl _) _
  generalize hw1 : w0.alloc (.cells #[.int .i64 0, .int .i64 0, .slice none 0 0] 26) = w1 at X1 B1
  replace X0 := X0.below B1
  replace B1 := below_then B0 B1
  rw [hs0] at X1
  have q2 := X0.c2
  go_enter Tryz.func14, Tryz.ntmps14
  unfold matV at *
  go_wp2_with fail
  refine (fewR_any ao n ca D 2000 2000 _ rfl (by exact hD.below B1) (by omega)).mono ?_
  rintro e w2 ⟨g2, n2, c2, rfl, l2, F2, B2⟩
  have i2 := F2.base
  have i0 := X0.lt
  have i1 := X1.lt
  replace X0 := X0.below B2
  replace X1 := X1.below B2
  replace B2 := below_then B1 B2
  clear hw0 hw1 q2
  have q0 := X0.c0
  have q1 := X0.c1
  have q2 := X0.c2
  have f2 := X0.frozen 2
  have u0 := X1.c0
  have u1 := X1.c1
  have u2 := X1.c2
  have v0 := X1.frozen 0
  have v1 := X1.frozen 1
  have v2 := X1.frozen 2
  go_wp2
  have X2 := X1.block (w' := w2.setCell ⟨w.heap.size, 2, none⟩ (.slice (some ⟨g2, 0, none⟩) n2 c2)) (Below.heap_setCell _ _ _ _ (by show w.heap.size + 1 ≠ w.heap.size; omega))
  have F3 := F2.setOther (a := ⟨w.heap.size, 2, none⟩) (by show g2 ≠ w.heap.size; omega) (.slice (some ⟨g2, 0, none⟩) n2 c2)
  have B3 := B2.setCell (p := ⟨w.heap.size, 2, none⟩) (Nat.le_refl _) (.slice (some ⟨g2, 0, none⟩) n2 c2)
  generalize w2.setCell ⟨w.heap.size, 2, none⟩ (.slice (some ⟨g2, 0, none⟩) n2 c2) = w3 at *
  refine bodyPost_ret (results_cell_row rfl _ _ (w.heap.size + 1) _ _ _ _ rfl (X2.put _ _ _ _ _) Tryz.underlying26 rfl (by kernel_rfl)) rfl ?_
  exact ⟨g2, n2, c2, rfl, l2, (F3.mono (by omega)).put (by omega) _ _ _, Below.put B3 (by omega) _ _ _⟩
/-- A layer that came in. -/
structure LyR (w : World) (x : Bk) (y : Lay) : Prop where
  f : ArgR w x.f.ao x.f.n x.f.c y.F
  q : ArgR w x.q.d.ao x.q.d.n x.q.d.c y.Q
  k : ArgR w x.k.d.ao x.k.d.n x.k.d.c y.K
  v : ArgR w x.v.d.ao x.v.d.n x.v.d.c y.V
  o : ArgR w x.o.d.ao x.o.d.n x.o.d.c y.O
  s : ArgR w x.s.ao x.s.n x.s.c y.S
  u : ArgR w x.u.d.ao x.u.d.n x.u.d.c y.U
  d : ArgR w x.d.d.ao x.d.d.n x.d.d.c y.N
theorem LyR.below {w w' : World} {x : Bk} {y : Lay} (h : LyR w x y) (hb : Below w.heap.size w w') : LyR w' x y := ⟨h.f.below hb, h.q.below hb, h.k.below hb, h.v.below hb, h.o.below hb, h.s.below hb, h.u.below hb, h.d.below hb⟩
/-- A model's numbers that came in. -/
structure WtR (w : World) (W : Wt) (bs : List Bk) (M : Mdl) : Prop where
  ok : W.Ok
  e : ArgR w W.e.d.ao W.e.d.n W.e.d.c M.E
  b : BlocksAt w W.b bs
  len : bs.length = M.Ls.length
  ls : ∀ (t : Nat) (x : Bk), bs[t]? = some x → ∃ y, M.Ls[t]? = some y ∧ LyR w x y
  l : ArgR w W.l.ao W.l.n W.l.c M.G
  o : ArgR w W.o.d.ao W.o.d.n W.o.d.c M.O
theorem WtR.below {w w' : World} {W : Wt} {bs : List Bk} {M : Mdl} (h : WtR w W bs M) (hb : Below w.heap.size w w') : WtR w' W bs M :=
  ⟨h.ok, h.e.below hb, h.b.below hb, h.len, fun t x hx => let ⟨y, h1, h2⟩ := h.ls t x hx; ⟨y, h1, h2.below hb⟩, h.l.below hb, h.o.below hb⟩
def cutL (n : Nat) (y : Lay) : Lay := ⟨y.F.take n, y.Q.take 2000, y.K.take 2000, y.V.take 2000, y.O.take 2000, y.S.take n, y.U.take 2000, y.N.take 2000⟩
/-- A layer that was told: rows of the call's own, the sides as they were. -/
structure BT (w : World) (B : Nat) (x x' : Bk) (y : Lay) : Prop where
  f : FR w B x'.f x'.f.n y.F
  q : FR w B x'.q.d x'.q.d.n y.Q
  k : FR w B x'.k.d x'.k.d.n y.K
  v : FR w B x'.v.d x'.v.d.n y.V
  o : FR w B x'.o.d x'.o.d.n y.O
  s : FR w B x'.s x'.s.n y.S
  u : FR w B x'.u.d x'.u.d.n y.U
  d : FR w B x'.d.d x'.d.d.n y.N
  qs : x'.q.r = x.q.r ∧ x'.q.c = x.q.c
  ks : x'.k.r = x.k.r ∧ x'.k.c = x.k.c
  vs : x'.v.r = x.v.r ∧ x'.v.c = x.v.c
  os : x'.o.r = x.o.r ∧ x'.o.c = x.o.c
  us : x'.u.r = x.u.r ∧ x'.u.c = x.u.c
  ds : x'.d.r = x.d.r ∧ x'.d.c = x.d.c
theorem BT.below {w w' : World} {B : Nat} {x x' : Bk} {y : Lay} (h : BT w B x x' y) (hb : Below w.heap.size w w') : BT w' B x x' y := ⟨h.f.below hb, h.q.below hb, h.k.below hb, h.v.below hb, h.o.below hb, h.s.below hb, h.u.below hb, h.d.below hb, h.qs, h.ks, h.vs, h.os, h.us, h.ds⟩
theorem BT.keep {w w' : World} {B b : Nat} {T : TypeId} {cs : Array Value} {x x' : Bk} {y : Lay} (h : BT w B x x' y) (hb : Blk w b T cs) (hT : T ≠ 69) (so : ∀ k, k ≠ b → w'.heap[k]? = w.heap[k]?) : BT w' B x x' y := ⟨h.f.keep hb hT so, h.q.keep hb hT so, h.k.keep hb hT so, h.v.keep hb hT so, h.o.keep hb hT so, h.s.keep hb hT so, h.u.keep hb hT so, h.d.keep hb hT so, h.qs, h.ks, h.vs, h.os, h.us, h.ds⟩
theorem BT.typeR {w w' : World} {B : Nat} {x x' : Bk} {y : Lay} (h : BT w B x x' y) (hk : ∀ (k : Nat) (T : TypeId) (cs : Array Value), w.heap[k]? = some (.cells cs T (0, 0)) → T ≠ 51 → w'.heap[k]? = w.heap[k]?) : BT w' B x x' y := ⟨h.f.type hk, h.q.type hk, h.k.type hk, h.v.type hk, h.o.type hk, h.s.type hk, h.u.type hk, h.d.type hk, h.qs, h.ks, h.vs, h.os, h.us, h.ds⟩
theorem BT.typeM {w w' : World} {B : Nat} {x x' : Bk} {y : Lay} (h : BT w B x x' y) (hk : ∀ (k : Nat) (T : TypeId) (cs : Array Value), w.heap[k]? = some (.cells cs T (0, 0)) → T ≠ 50 → w'.heap[k]? = w.heap[k]?) : BT w' B x x' y := ⟨h.f.typeM hk, h.q.typeM hk, h.k.typeM hk, h.v.typeM hk, h.o.typeM hk, h.s.typeM hk, h.u.typeM hk, h.d.typeM hk, h.qs, h.ks, h.vs, h.os, h.us, h.ds⟩
theorem BT.mono {w : World} {B B' : Nat} {x x' : Bk} {y : Lay} (h : BT w B x x' y) (hB : B' ≤ B) : BT w B' x x' y := ⟨h.f.mono hB, h.q.mono hB, h.k.mono hB, h.v.mono hB, h.o.mono hB, h.s.mono hB, h.u.mono hB, h.d.mono hB, h.qs, h.ks, h.vs, h.os, h.us, h.ds⟩
/-- Layers that were told, one by one. -/
structure BTs (w : World) (B n k : Nat) (bs xs : List Bk) (Ls : List Lay) : Prop where
  len : xs.length = k
  at_ : ∀ (t : Nat) (x' : Bk), xs[t]? = some x' → ∃ x y, bs[t]? = some x ∧ Ls[t]? = some y ∧ BT w B x x' (cutL n y)
theorem BTs.map {w w' : World} {B n k : Nat} {bs xs : List Bk} {Ls : List Lay} (h : BTs w B n k bs xs Ls) (f : ∀ {x x' : Bk} {y : Lay}, BT w B x x' y → BT w' B x x' y) : BTs w' B n k bs xs Ls := ⟨h.len, fun t x' hx => let ⟨x, y, h1, h2, h3⟩ := h.at_ t x' hx; ⟨x, y, h1, h2, f h3⟩⟩
theorem bts_nil (w : World) (B n : Nat) (bs : List Bk) (Ls : List Lay) : BTs w B n 0 bs [] Ls := ⟨rfl, fun t x' hx => by simp at hx⟩
theorem BTs.snoc {w : World} {B n k : Nat} {bs xs : List Bk} {Ls : List Lay} (h : BTs w B n k bs xs Ls) {x x' : Bk} {y : Lay} (h1 : bs[k]? = some x) (h2 : Ls[k]? = some y) (h3 : BT w B x x' (cutL n y)) : BTs w B n (k + 1) bs (xs ++ [x']) Ls := by
  have hl := h.len
  refine ⟨by simp [hl], fun t z hz => ?_⟩
  rcases Nat.lt_or_ge t k with ht | ht
  · rw [List.getElem?_append_left (by omega)] at hz
    exact h.at_ t z hz
  · rw [List.getElem?_append_right (by omega), hl] at hz
    have ht2 : t < k + 1 := by
      rcases Nat.lt_or_ge (t - k) 1 with q | q
      · omega
      · rw [List.getElem?_eq_none (by simpa using q)] at hz; cases hz
    obtain rfl : t = k := by omega
    simp at hz
    subst hz
    exact ⟨x, y, h1, h2, h3⟩
/-- What Told (n = 100) and Of (n = 5000) hand out. -/
structure WTold (w : World) (B n k : Nat) (W W' : Wt) (bs xs : List Bk) (M : Mdl) : Prop where
  e : FR w B W'.e.d W'.e.d.n (M.E.take 2000)
  es : W'.e.r = W.e.r ∧ W'.e.c = W.e.c
  l : FR w B W'.l W'.l.n (M.G.take n)
  o : FR w B W'.o.d W'.o.d.n (M.O.take 2000)
  os : W'.o.r = W.o.r ∧ W'.o.c = W.o.c
  b : BlocksAt w W'.b xs
  ls : BTs w B n k bs xs M.Ls
end Go.Proofs.YtahfdbblndphaaaGreatDoor

/- What was told of a model reads as a model again, and its check is the same. -/
namespace Go.Proofs.YtahfdbblndphaaaGreatDoor
open Go.ChangeShapes Go.WideShapes Go.ChangeAt Go.RowKit
def cutM (n k : Nat) (M : Mdl) : Mdl := ⟨M.E.take 2000, (M.Ls.take k).map (cutL n), M.G.take n, M.O.take 2000⟩
theorem FR.raw {w : World} {B : Nat} {s : Sl} {n : Nat} {A : List Int} (h : FR w B s n A) : ArgR w s.ao s.n s.c A := by
  obtain ⟨g, e1, e2, F⟩ := h
  exact ⟨by rw [e1, e2]; exact F.rowAt, by rw [e2]; exact F.fit, F.max, fun h => by rw [e1] at h; cases h⟩
theorem BT.raw {w : World} {B : Nat} {x x' : Bk} {y : Lay} (h : BT w B x x' y) : LyR w x' y :=
  ⟨h.f.raw, h.q.raw, h.k.raw, h.v.raw, h.o.raw, h.s.raw, h.u.raw, h.d.raw⟩
theorem BTs.le {w : World} {B n k : Nat} {bs xs : List Bk} {Ls : List Lay} (h : BTs w B n k bs xs Ls) : k ≤ Ls.length := by
  have hl := h.len
  by_cases h0 : k = 0
  · omega
  · obtain ⟨x, y, _, h2, _⟩ := h.at_ (k - 1) (xs[k - 1]'(by omega)) (List.getElem?_eq_getElem (by omega))
    have := (List.getElem?_eq_some_iff.1 h2).1
    omega
theorem cutLs_at {n k t : Nat} {Ls : List Lay} {y : Lay} (ht : t < k) (h : Ls[t]? = some y) : ((Ls.take k).map (cutL n))[t]? = some (cutL n y) := by
  rw [List.getElem?_map, List.getElem?_take_of_lt ht, h]; rfl
theorem mt_ok_of {m m' : Mt} (h : m.Ok) (e : m'.r = m.r ∧ m'.c = m.c) : m'.Ok := ⟨by rw [e.1]; exact h.r, by rw [e.2]; exact h.c⟩
theorem WTold.raw {w : World} {B n k : Nat} {W W' : Wt} {bs xs : List Bk} {M : Mdl} (h : WTold w B n k W W' bs xs M) (hW : W.Ok) : WtR w W' xs (cutM n k M) := by
  have hle := h.ls.le
  have hl := h.ls.len
  refine ⟨⟨mt_ok_of hW.e h.es, by have := h.l.row.max; omega, mt_ok_of hW.o h.os⟩, h.e.raw, h.b, ?_, ?_, h.l.raw, h.o.raw⟩
  · show xs.length = ((M.Ls.take k).map (cutL n)).length
    simp; omega
  · intro t x' hx
    have ht : t < k := by have := (List.getElem?_eq_some_iff.1 hx).1; omega
    obtain ⟨x, y, _, h2, h3⟩ := h.ls.at_ t x' hx
    exact ⟨cutL n y, cutLs_at ht h2, h3.raw⟩
theorem sides_congr {m m' : Mt} (e : m'.r = m.r ∧ m'.c = m.c) (h : m'.d.n = m.d.n) (R K : Int) : sidesB m' R K = sidesB m R K := by
  unfold sidesB; rw [e.1, e.2, h]
theorem fr_len {w : World} {B n : Nat} {s : Sl} {A : List Int} (h : FR w B s n A) : A.length = n := h.row.len
theorem bk_again {w1 w2 : World} {B1 B2 : Nat} {x x' x'' : Bk} {y : Lay} (h1 : BT w1 B1 x x' (cutL 100 y)) (h2 : BT w2 B2 x' x'' (cutL 5000 (cutL 100 y))) (D H : Int) : bkB D H x'' = bkB D H x' := by
  have t2 : ∀ A : List Int, ((A.take 2000).take 2000).length = (A.take 2000).length := fun A => by rw [List.take_take]; rfl
  have t1 : ∀ A : List Int, ((A.take 100).take 5000).length = (A.take 100).length := fun A => by rw [List.take_take]; rfl
  have f : x''.f.n = x'.f.n := by rw [← fr_len h2.f, ← fr_len h1.f]; exact t1 _
  have s : x''.s.n = x'.s.n := by rw [← fr_len h2.s, ← fr_len h1.s]; exact t1 _
  have q : x''.q.d.n = x'.q.d.n := by rw [← fr_len h2.q, ← fr_len h1.q]; exact t2 _
  have k : x''.k.d.n = x'.k.d.n := by rw [← fr_len h2.k, ← fr_len h1.k]; exact t2 _
  have v : x''.v.d.n = x'.v.d.n := by rw [← fr_len h2.v, ← fr_len h1.v]; exact t2 _
  have o : x''.o.d.n = x'.o.d.n := by rw [← fr_len h2.o, ← fr_len h1.o]; exact t2 _
  have u : x''.u.d.n = x'.u.d.n := by rw [← fr_len h2.u, ← fr_len h1.u]; exact t2 _
  have d : x''.d.d.n = x'.d.d.n := by rw [← fr_len h2.d, ← fr_len h1.d]; exact t2 _
  unfold bkB
  rw [f, s, sides_congr h2.qs q, sides_congr h2.ks k, sides_congr h2.vs v, sides_congr h2.os o, sides_congr h2.us u, sides_congr h2.ds d]
theorem all_of_map {α : Type} {p : α → Bool} {A B : List α} (h : A.map p = B.map p) : A.all p = B.all p := by
  have e : ∀ L : List α, L.all p = (L.map p).all id := fun L => by rw [List.all_map]; rfl
  rw [e, e, h]
theorem check_again {w1 w2 : World} {B1 B2 k : Nat} {W W' W'' : Wt} {bs xs ys : List Bk} {M : Mdl} (h1 : WTold w1 B1 100 k W W' bs xs M) (h2 : WTold w2 B2 5000 W'.b.n W' W'' xs ys (cutM 100 k M)) (V D Hd H L : Int) :
    checkN V D Hd H L W'' ys = checkN V D Hd H L W' xs := by
  have t2 : ∀ A : List Int, ((A.take 2000).take 2000).length = (A.take 2000).length := fun A => by rw [List.take_take]; rfl
  have t1 : ∀ A : List Int, ((A.take 100).take 5000).length = (A.take 100).length := fun A => by rw [List.take_take]; rfl
  have e : W''.e.d.n = W'.e.d.n := by rw [← fr_len h2.e, ← fr_len h1.e]; exact t2 _
  have o : W''.o.d.n = W'.o.d.n := by rw [← fr_len h2.o, ← fr_len h1.o]; exact t2 _
  have l : W''.l.n = W'.l.n := by rw [← fr_len h2.l, ← fr_len h1.l]; exact t1 _
  have l1 := h1.ls.len
  have l2 := h2.ls.len
  have l3 := h2.b.len
  have l4 := h1.b.len
  have b : W''.b.n = W'.b.n := by omega
  have hm : ys.map (bkB D H) = xs.map (bkB D H) := by
    apply List.ext_getElem (by simp; omega)
    intro t ht1 ht2
    have hy : ys[t]? = some (ys[t]'(by simpa using ht1)) := List.getElem?_eq_getElem _
    have hx : xs[t]? = some (xs[t]'(by simpa using ht2)) := List.getElem?_eq_getElem _
    obtain ⟨x', y2, g1, g2, g3⟩ := h2.ls.at_ t _ hy
    obtain ⟨x, y, g4, g5, g6⟩ := h1.ls.at_ t _ hx
    rw [hx] at g1
    obtain rfl := Option.some.inj g1
    have htk : t < k := by have : t < xs.length := by simpa using ht2
                           omega
    have g7 : (cutM 100 k M).Ls[t]? = some (cutL 100 y) := cutLs_at htk g5
    rw [g7] at g2
    obtain rfl := Option.some.inj g2
    rw [List.getElem_map, List.getElem_map]
    exact bk_again g6 g3 D H
  unfold checkN fitsB
  rw [sides_congr h2.es e, sides_congr h2.os o, l, b, all_of_map hm]
end Go.Proofs.YtahfdbblndphaaaGreatDoor
