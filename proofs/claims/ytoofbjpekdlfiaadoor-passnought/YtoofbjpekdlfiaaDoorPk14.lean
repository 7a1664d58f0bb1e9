/- Contracts of the program's functions, part 14 of 14: what each call returns and leaves of memory. -/
import Derived.Test.YtoofbjpekdlfiaaDoorPk13
import Derived.Test.YtoofbjpekdlfiaaDoorPk9
import Derived.Test.YtoofbjpekdlfiaaDoorPk4
import Derived.Test.YtoofbjpekdlfiaaDoorPk6
import Derived.Test.YtoofbjpekdlfiaaDoorPk3
import Derived.Test.YtoofbjpekdlfiaaDoorPk7
import Derived.Test.YtoofbjpekdlfiaaDoorPk5
import Derived.LaidMore
import Derived.Lib.LaidTab
import Derived.Stop.Joined
import Derived.Deep.Matrix
import Derived.Deep.Slices
import Derived.Lib.SmallJoins
/- The document's layer 8: what is liked, and all tokens one behind the other. Written by tools/genr8d.py. -/
namespace Go.Proofs.YtoofbjpekdlfiaaDoor
open Go.ChangeShapes Go.WideShapes Go.ChangeAt Go.RowKit
set_option maxRecDepth 100000 in
set_option maxHeartbeats 4000000 in
theorem rlikes_any (V D H n k : Nat) (W : Wt) (bs : List Bk) (M : Mdl) (sr sk sv : Sl) (C : List (List (List Int))) (R : List (List Int)) (w : World) (hW : WtAt w V D H W bs M) (hC : DCube w sr C) (hk : C.length = k + 1) (hR : C[k]? = some R) (hn : R.length = n + 1) (hx : (rowOf R n).length = D) (h1 : 1 ≤ D) (h2 : D ≤ 5000) :
   Calls Tryd.prog 15 #[.agg W.cells, .agg #[sr.v, sk.v, sv.v]] w fun e w' => ∃ g cap, e = .returned (.slice (some ⟨g, 0, none⟩) V cap) ∧ Fresh w' w.heap.size g V cap (likR M V D (rowOf R n)) ∧ Below w.heap.size w w' := by
  have hl := hC.len
  have hks : k ≤ 1000 := by have := hC.small; omega
  obtain ⟨b, o, e0, hc⟩ := hC.cells (by omega)
  obtain ⟨b1, o1, n1, c1, k1, k2, k3, GR⟩ := hc k R hR
  have hg := GR.len
  obtain rfl : n1 = n + 1 := by omega
  obtain ⟨b2, o2, e1, hc2⟩ := GR.cells (by omega)
  simp only [Option.some.injEq, Addr.mk.injEq, and_true] at e1
  obtain ⟨rfl, rfl⟩ := e1
  obtain ⟨ro, m, c, y1, AR⟩ := hc2 n (by omega)
  obtain rfl : D = m := by have := AR.row.len; omega
  have hcap := GR.max
  obtain ⟨⟨er, ec, ⟨ea, en, ez⟩⟩, ⟨ba, bn, bz⟩, ⟨la, ln, lz⟩, ⟨or, oc, od⟩⟩ := W
  obtain ⟨ob, oo, on, oz, e1, MO⟩ := hW.o
  simp only [Mt.mk.injEq] at e1
  obtain ⟨rfl, rfl, rfl⟩ := e1
  obtain ⟨e2, AL⟩ := hW.l
  simp only at e2 AL
  replace e2 := e2.symm
  subst e2
  obtain ⟨ra, rn, rz⟩ := sr
  simp only at e0 hl
  subst e0
  obtain rfl : rn = k + 1 := by omega
  obtain ⟨ka, kn, kz⟩ := sk
  obtain ⟨va, vn, vz⟩ := sv
  have HMO : Hid (∀ W, Below w.heap.size w W → MatAt W V D ob oo on oz M.O) := fun W hb => MO.below hb
  have HAL : Hid (∀ W, Below w.heap.size w W → Arg W la D lz M.G) := fun W hb => AL.below hb
  have HAR : Hid (∀ W, Below w.heap.size w W → Arg W ro D c (rowOf R n)) := fun W hb => AR.below hb
  have HY : Hid (∀ W, Below w.heap.size w W → W.cell? ⟨b1, o1 + n, none⟩ = some (.slice ro D c)) := fun W hb => cell_keep y1 hb
  clear hW hC hc hc2 GR MO AL AR hx hR hg hn
  show Calls Tryd.prog 15 #[.agg #[.int .i64 er, .int .i64 ec, .slice ea en ez, .slice ba bn bz, .slice la D lz, .int .i64 (V : Int), .int .i64 (D : Int), .slice (some ⟨ob, oo, none⟩) on oz], .agg #[.slice (some ⟨b, o, none⟩) (k + 1) rz, .slice ka kn kz, .slice va vn vz]] w _
  have X0 := blk_new w 33 #[.int .i64 er, .int .i64 ec, .slice ea en ez, .slice ba bn bz, .slice la D lz, .int .i64 (V : Int), .int .i64 (D : Int), .slice (some ⟨ob, oo, none⟩) on oz]
  have B0 := below_alloc8 w (.cells #[.int .i64 er, .int .i64 ec, .slice ea en ez, .slice ba bn bz, .slice la D lz, .int .i64 (V : Int), .int .i64 (D : Int), .slice (some ⟨ob, oo, none⟩) on oz] 33)
  have s0 : (w.alloc (.cells #[.int .i64 er, .int .i64 ec, .slice ea en ez, .slice ba bn bz, .slice la D lz, .int .i64 (V : Int), .int .i64 (D : Int), .slice (some ⟨ob, oo, none⟩) on oz] 33)).heap.size = w.heap.size + 1 := by simp
  generalize hw0 : w.alloc (.cells #[.int .i64 er, .int .i64 ec, .slice ea en ez, .slice ba bn bz, .slice la D lz, .int .i64 (V : Int), .int .i64 (D : Int), .slice (some ⟨ob, oo, none⟩) on oz] 33) = wx0 at *
  have X1 := blk_new wx0 48 #[.slice (some ⟨b, o, none⟩) (k + 1) rz, .slice ka kn kz, .slice va vn vz]
  have B1 := below_alloc8 wx0 (.cells #[.slice (some ⟨b, o, none⟩) (k + 1) rz, .slice ka kn kz, .slice va vn vz] 48)
  have s1 : (wx0.alloc (.cells #[.slice (some ⟨b, o, none⟩) (k + 1) rz, .slice ka kn kz, .slice va vn vz] 48)).heap.size = wx0.heap.size + 1 := by simp
  generalize hw1 : wx0.alloc (.cells #[.slice (some ⟨b, o, none⟩) (k + 1) rz, .slice ka kn kz, .slice va vn vz] 48) = wx1 at *
  have X01 := X0.below B1
  have D1 := below_then B0 B1
  have z0 : wx1.cell? ⟨wx0.heap.size, 0, none⟩ = some (.slice (some ⟨b, o, none⟩) (k + 1) rz) := X1.cell 0 rfl
  have k1' := cell_keep k1 D1
  have HX : Hid (Blk wx1 w.heap.size 33 #[.int .i64 er, .int .i64 ec, .slice ea en ez, .slice ba bn bz, .slice la D lz, .int .i64 (V : Int), .int .i64 (D : Int), .slice (some ⟨ob, oo, none⟩) on oz]) := X01
  clear X0 X1 B0 B1 s0 s1 X01 k1
  go_enter Tryd.func15, Tryd.ntmps15
  go_upto_region 2 with fail
  clear hw0 hw1 z0 k1'
  have E0 : Below wx1.heap.size wx1 wx1.drew := (Below.refl _ wx1).drew
  have XE := HX.out.below E0
  have D2 := below_then D1 E0
  have SJ := And.intro XE (HY.out _ D2)
  have wn : IntKind.i64.wrap (n : Int) = (n : Int) := w64_in (by omega)
  refine wp_region_held_drew (S := fun w' => Blk w' w.heap.size 33 #[.int .i64 er, .int .i64 ec, .slice ea en ez, .slice ba bn bz, .slice la D lz, .int .i64 (V : Int), .int .i64 (D : Int), .slice (some ⟨ob, oo, none⟩) on oz] ∧ w'.cell? ⟨b1, o1 + n, none⟩ = some (.slice ro D c)) (by kernel_rfl) (SJ) (fun hHeld => ?_)
  generalize wx1.drew = wj at *
  refine wpAnyH_take (i := 0) (v := (.pointer (some ⟨w.heap.size, 5, none⟩))) rfl (by kernel_rfl) (by kernel_rfl) (by kernel_rfl) (fun _ _ _ h => h) (Or.inl ⟨by rfl, ?_⟩) (by assumption) ?_
  · intro w' hSw
    go_simp
  simp only [List.getElem_toArray, List.getElem_cons_zero, Act.put, List.setIfInBounds_toArray, List.set_cons_zero, List.set_cons_succ]
  refine wpAnyH_take (i := 1) (v := (.agg #[.int .i64 (V : Int), .int .i64 (D : Int), .slice (some ⟨ob, oo, none⟩) on oz])) rfl (by kernel_rfl) (by kernel_rfl) (by kernel_rfl) (fun _ _ _ h => h) (Or.inl ⟨by rfl, ?_⟩) (by assumption) ?_
  · intro w' hSw
    have y5 : w'.cell? ⟨w.heap.size, 5, none⟩ = some (.int .i64 (V : Int)) := hSw.1.cell 5 rfl
    have y6 : w'.cell? ⟨w.heap.size, 6, none⟩ = some (.int .i64 (D : Int)) := hSw.1.cell 6 rfl
    have y7 : w'.cell? ⟨w.heap.size, 7, none⟩ = some (.slice (some ⟨ob, oo, none⟩) on oz) := hSw.1.cell 7 rfl
    go_simp
  simp only [List.getElem_toArray, List.getElem_cons_succ, List.getElem_cons_zero, Act.put, List.setIfInBounds_toArray, List.set_cons_zero, List.set_cons_succ]
  refine wpAnyH_take (i := 2) (v := (.slice (some ⟨b1, o1, none⟩) (n + 1) c1)) rfl (by kernel_rfl) (by kernel_rfl) (by kernel_rfl) (fun _ _ _ h => h) (Or.inl ⟨by rfl, ?_⟩) (by assumption) ?_
  · intro w' hSw
    go_simp
  simp only [List.getElem_toArray, List.getElem_cons_succ, List.getElem_cons_zero, Act.put, List.setIfInBounds_toArray, List.set_cons_zero, List.set_cons_succ]
  refine wpAnyH_take (i := 3) (v := (.slice (some ⟨b1, o1, none⟩) (n + 1) c1)) rfl (by kernel_rfl) (by kernel_rfl) (by kernel_rfl) (fun _ _ _ h => h) (Or.inl ⟨by rfl, ?_⟩) (by assumption) ?_
  · intro w' hSw
    go_simp
  simp only [List.getElem_toArray, List.getElem_cons_succ, List.getElem_cons_zero, Act.put, List.setIfInBounds_toArray, List.set_cons_zero, List.set_cons_succ]
  refine wpAnyH_take (i := 4) (v := (.int .i64 ((n + 1 : Nat) : Int))) rfl (by kernel_rfl) (by kernel_rfl) (by kernel_rfl) (fun _ _ _ h => h) (Or.inl ⟨by rfl, ?_⟩) (by assumption) ?_
  · intro w' hSw
    go_simp
  simp only [List.getElem_toArray, List.getElem_cons_succ, List.getElem_cons_zero, Act.put, List.setIfInBounds_toArray, List.set_cons_zero, List.set_cons_succ]
  refine wpAnyH_take (i := 5) (v := (.int .i64 (n : Int))) rfl (by kernel_rfl) (by kernel_rfl) (by kernel_rfl) (fun _ _ _ h => h) (Or.inl ⟨by rfl, ?_⟩) (by assumption) ?_
  · intro w' hSw
    go_simp
  simp only [List.getElem_toArray, List.getElem_cons_succ, List.getElem_cons_zero, Act.put, List.setIfInBounds_toArray, List.set_cons_zero, List.set_cons_succ]
  refine wpAnyH_take (i := 6) (v := (.pointer (some ⟨b1, o1 + n, none⟩))) rfl (by kernel_rfl) (by kernel_rfl) (by kernel_rfl) (fun _ _ _ h => h) (Or.inl ⟨by rfl, ?_⟩) (by assumption) ?_
  · intro w' hSw
    go_simp; intro h9; omega
  simp only [List.getElem_toArray, List.getElem_cons_succ, List.getElem_cons_zero, Act.put, List.setIfInBounds_toArray, List.set_cons_zero, List.set_cons_succ]
  refine wpAnyH_take (i := 7) (v := (.slice ro D c)) rfl (by kernel_rfl) (by kernel_rfl) (by kernel_rfl) (fun _ _ _ h => h) (Or.inl ⟨by rfl, ?_⟩) (by assumption) ?_
  · intro w' hSw
    have y9 := hSw.2
    go_simp
  simp only [List.getElem_toArray, List.getElem_cons_succ, List.getElem_cons_zero, Act.put, List.setIfInBounds_toArray, List.set_cons_zero, List.set_cons_succ]
  refine wpAnyH_take (i := 8) (v := (.pointer (some ⟨w.heap.size, 4, none⟩))) rfl (by kernel_rfl) (by kernel_rfl) (by kernel_rfl) (fun _ _ _ h => h) (Or.inl ⟨by rfl, ?_⟩) (by assumption) ?_
  · intro w' hSw
    go_simp
  simp only [List.getElem_toArray, List.getElem_cons_succ, List.getElem_cons_zero, Act.put, List.setIfInBounds_toArray, List.set_cons_zero, List.set_cons_succ]
  refine wpAnyH_take (i := 9) (v := (.slice la D lz)) rfl (by kernel_rfl) (by kernel_rfl) (by kernel_rfl) (fun _ _ _ h => h) (Or.inl ⟨by rfl, ?_⟩) (by assumption) ?_
  · intro w' hSw
    have y4 : w'.cell? ⟨w.heap.size, 4, none⟩ = some (.slice la D lz) := hSw.1.cell 4 rfl
    go_simp
  simp only [List.getElem_toArray, List.getElem_cons_succ, List.getElem_cons_zero, Act.put, List.setIfInBounds_toArray, List.set_cons_zero, List.set_cons_succ]
  refine wpAnyH_ready (rs := [10]) (by kernel_rfl) (by simp) ?_
  refine AllReadyH.cons rfl (fun Kc hKc => ?_) AllReadyH.nil
  simp only [List.getElem_toArray, List.getElem_cons_succ, List.getElem_cons_zero]
  rw [if_pos (by rfl)]
  go_wp2_with fail
  refine (refNorm_any _ _ D _ _ (rowOf R n) M.G _ (HAR.out _ D2).row (HAL.out _ D2).row h1 (by omega)).mono ?_
  rintro e w2 ⟨gm, cm, rfl, FM, U1⟩
  have D3 := below_then D2 U1
  go_wp2_with fail
  refine hKc.out _ _ (⟨XE.below U1, HY.out _ D3⟩) (fun hHeld => ?_)
  clear hKc Kc
  refine wpAnyH_ready (rs := [11]) (by kernel_rfl) (by simp) ?_
  refine AllReadyH.cons rfl (fun Kc hKc => ?_) AllReadyH.nil
  simp only [List.getElem_toArray, List.getElem_cons_succ, List.getElem_cons_zero]
  rw [if_pos (by rfl)]
  go_wp2_with fail
  refine (refApply_any V D ob oo on oz M.O _ _ _ _ (HMO.out _ D3) FM.rowAt).mono ?_
  rintro e w3 ⟨gz, cz, rfl, FZ, U2⟩
  have D4 := below_then D3 U2
  go_wp2_with fail
  refine hKc.out _ _ (⟨(XE.below U1).below U2, HY.out _ D4⟩) (fun hHeld => ?_)
  clear hKc Kc
  refine wpAnyH_take (i := 12) (v := (.slice (some ⟨gz, 0, none⟩) V cz)) rfl (by kernel_rfl) (by kernel_rfl) (by kernel_rfl) (fun _ _ _ h => h) (Or.inl ⟨by rfl, ?_⟩) (by assumption) ?_
  · intro w' hSw
    go_simp
  simp only [List.getElem_toArray, List.getElem_cons_succ, List.getElem_cons_zero, Act.put, List.setIfInBounds_toArray, List.set_cons_zero, List.set_cons_succ]
  refine wpAnyH_done (by kernel_rfl) ?_ _
  go_wp2
  go_ret
  exact ⟨gz, cz, rfl, FZ.mono D3.size, D4⟩
/-- What the document keeps of tokens: nothing of none. -/
def fR (M : Mdl) (D H Hd L : Nat) (A : List Int) : List (List (List Int)) := if A.length = 0 then [] else (List.range (L + 1)).map (rowsL M D H Hd A)
def fK (M : Mdl) (D H Hd L : Nat) (A : List Int) : List (List (List Int)) := if A.length = 0 then [] else fullK M D H Hd L A
def fV (M : Mdl) (D H Hd L : Nat) (A : List Int) : List (List (List Int)) := if A.length = 0 then [] else fullV M D H Hd L A
theorem rowsL_nil (M : Mdl) (D H Hd l : Nat) : rowsL M D H Hd [] l = [] := List.length_eq_zero_iff.1 (rowsL_len M D H Hd [] l)
theorem fR_at (M : Mdl) (D H Hd L : Nat) (A : List Int) {l : Nat} (h : l ≤ L) : (fR M D H Hd L A).getD l [] = rowsL M D H Hd A l := by
  unfold fR
  split
  · rename_i h0
    obtain rfl : A = [] := List.length_eq_zero_iff.1 h0
    rw [rowsL_nil]; rfl
  · rw [List.getD_eq_getElem?_getD, List.getElem?_map, List.getElem?_range (by omega)]; rfl
theorem fK_at (M : Mdl) (D H Hd L : Nat) (A : List Int) {l : Nat} (h : l < L) : (fK M D H Hd L A).getD l [] = keysR (layAt M l) D (rowsL M D H Hd A l) := by
  unfold fK
  split
  · rename_i h0
    obtain rfl : A = [] := List.length_eq_zero_iff.1 h0
    rw [rowsL_nil]; rfl
  · exact fullK_at _ _ _ _ _ _ h
theorem fV_at (M : Mdl) (D H Hd L : Nat) (A : List Int) {l : Nat} (h : l < L) : (fV M D H Hd L A).getD l [] = valsR (layAt M l) D (rowsL M D H Hd A l) := by
  unfold fV
  split
  · rename_i h0
    obtain rfl : A = [] := List.length_eq_zero_iff.1 h0
    rw [rowsL_nil]; rfl
  · exact fullV_at _ _ _ _ _ _ h
theorem f_cached (M : Mdl) (D H Hd L : Nat) (A : List Int) : Cached M D H Hd L ⟨A, fK M D H Hd L A, fV M D H Hd L A⟩ A := ⟨rfl, fun _ h => fK_at M D H Hd L A h, fun _ h => fV_at M D H Hd L A h⟩
theorem f_step (M : Mdl) (D H Hd L : Nat) (A : List Int) (t : Int) {l : Nat} (h : l ≤ L) : xRow M D H Hd A.length (fK M D H Hd L A) (fV M D H Hd L A) (begR M.E D t.toNat A.length) l = rowOf (rowsL M D H Hd (A ++ [t]) l) A.length ∧ rowsL M D H Hd (A ++ [t]) l = rowsL M D H Hd A l ++ [xRow M D H Hd A.length (fK M D H Hd L A) (fV M D H Hd L A) (begR M.E D t.toNat A.length) l] := by
  have e := rowsL_snoc (f_cached M D H Hd L A) t l h
  refine ⟨?_, e⟩
  rw [e]
  have := rowOf_last (rowsL M D H Hd A l) (xRow M D H Hd A.length (fK M D H Hd L A) (fV M D H Hd L A) (begR M.E D t.toNat A.length) l)
  rw [rowsL_len] at this
  exact this.symm
theorem goR_f (M : Mdl) (D H Hd L : Nat) (A : List Int) (t : Int) : (List.range (L + 1)).map (goR M D H Hd A.length (fR M D H Hd L A) (fK M D H Hd L A) (fV M D H Hd L A) (begR M.E D t.toNat A.length)) = fR M D H Hd L (A ++ [t]) := by
  have h0 : ¬ (A ++ [t]).length = 0 := by simp
  unfold fR
  rw [if_neg h0]
  refine List.map_congr_left fun l hl => ?_
  have hl' : l ≤ L := by have := List.mem_range.1 hl; omega
  show (fR M D H Hd L A).getD l [] ++ _ = _
  rw [fR_at M D H Hd L A hl', (f_step M D H Hd L A t hl').2]
theorem goK_f (M : Mdl) (D H Hd L : Nat) (A : List Int) (t : Int) : (List.range L).map (goK M D H Hd A.length (fK M D H Hd L A) (fV M D H Hd L A) (begR M.E D t.toNat A.length)) = fK M D H Hd L (A ++ [t]) := by
  have h0 : ¬ (A ++ [t]).length = 0 := by simp
  have e : fK M D H Hd L (A ++ [t]) = fullK M D H Hd L (A ++ [t]) := by unfold fK; rw [if_neg h0]
  rw [e]
  unfold fullK
  refine List.map_congr_left fun l hl => ?_
  have hl' : l < L := List.mem_range.1 hl
  show (fK M D H Hd L A).getD l [] ++ _ = _
  rw [fK_at M D H Hd L A hl', (f_step M D H Hd L A t (by omega)).2]
  unfold keysR
  rw [List.map_append]
  rfl
theorem goV_f (M : Mdl) (D H Hd L : Nat) (A : List Int) (t : Int) : (List.range L).map (goV M D H Hd A.length (fK M D H Hd L A) (fV M D H Hd L A) (begR M.E D t.toNat A.length)) = fV M D H Hd L (A ++ [t]) := by
  have h0 : ¬ (A ++ [t]).length = 0 := by simp
  have e : fV M D H Hd L (A ++ [t]) = fullV M D H Hd L (A ++ [t]) := by unfold fV; rw [if_neg h0]
  rw [e]
  unfold fullV
  refine List.map_congr_left fun l hl => ?_
  have hl' : l < L := List.mem_range.1 hl
  show (fV M D H Hd L A).getD l [] ++ _ = _
  rw [fV_at M D H Hd L A hl', (f_step M D H Hd L A t (by omega)).2]
  unfold valsR
  rw [List.map_append]
  rfl
theorem f_m (M : Mdl) (D H Hd L : Nat) (A : List Int) : (if (fR M D H Hd L A).length = 0 then 0 else ((fR M D H Hd L A).getD 0 []).length) = A.length := by
  rw [fR_at M D H Hd L A (Nat.zero_le _), rowsL_len]
  unfold fR
  by_cases h : A.length = 0
  · rw [if_pos h, h]; rfl
  · rw [if_neg h, if_neg (by simp)]
theorem fK_rows (M : Mdl) (D H Hd L : Nat) (A : List Int) (l : Nat) (h : l < L) : ((fK M D H Hd L A).getD l []).length = A.length ∧ ∀ t, t < A.length → (rowOf ((fK M D H Hd L A).getD l []) t).length = D := by
  rw [fK_at M D H Hd L A h]
  refine ⟨by unfold keysR; rw [List.length_map, rowsL_len], fun t ht => ?_⟩
  rw [keysR_at _ _ (by rw [rowsL_len]; exact ht)]
  exact apl_len _ _ _ _
theorem fV_rows (M : Mdl) (D H Hd L : Nat) (A : List Int) (l : Nat) (h : l < L) : ((fV M D H Hd L A).getD l []).length = A.length ∧ ∀ t, t < A.length → (rowOf ((fV M D H Hd L A).getD l []) t).length = D := by
  rw [fV_at M D H Hd L A h]
  refine ⟨by unfold valsR; rw [List.length_map, rowsL_len], fun t ht => ?_⟩
  rw [valsR_at _ _ (by rw [rowsL_len]; exact ht)]
  exact apl_len _ _ _ _
theorem fKV_len (M : Mdl) (D H Hd L : Nat) (A : List Int) : (fK M D H Hd L A).length = (fV M D H Hd L A).length := by
  unfold fK fV
  split
  · rfl
  · simp [fullK, fullV]
theorem fR_small (M : Mdl) (D H Hd L : Nat) (A : List Int) (hA : A.length ≤ 1000) (l : Nat) : ((fR M D H Hd L A).getD l []).length ≤ 1000 := by
  by_cases h : l ≤ L
  · rw [fR_at M D H Hd L A h, rowsL_len]; exact hA
  · have : (fR M D H Hd L A).length ≤ l := by unfold fR; split <;> simp; omega
    rw [List.getD_eq_getElem?_getD, List.getElem?_eq_none this]
    simp
theorem take_step {A : List Int} {i : Nat} (h : i < A.length) : A.take (i + 1) = A.take i ++ [el A i] := by
  unfold el
  rw [List.take_add_one, List.getD_eq_getElem?_getD, List.getElem?_eq_getElem h]
  rfl

set_option maxRecDepth 100000 in
set_option maxHeartbeats 4000000 in
theorem rfull_any (V D Hd H L n ca : Nat) (ao : Option Addr) (W : Wt) (bs : List Bk) (M : Mdl) (A : List Int) (w : World) (hW : WtAt w V D H W bs M) (hbl : bs.length = L) (hA : IArg w ao n ca A) (ht : ∀ k, k < n → 0 ≤ el A k ∧ el A k < (V : Int)) (m2 : n ≤ 128) (h1 : 1 ≤ D) (h2 : D ≤ 32) (g1 : 1 ≤ Hd) (g2 : Hd ≤ 4) (hd : D % Hd = 0) (q1 : 1 ≤ H) (q2 : H ≤ 128) (hL : L ≤ 900) :
   Calls Tryd.prog 13 #[.agg (cfgC V D Hd H L), .agg W.cells, .slice ao n ca] w fun e w' => ∃ tr tk tv : Sl, e = .returned (.agg #[tr.v, tk.v, tv.v]) ∧ DCube w' tr (fR M D H Hd L A) ∧ DCube w' tk (fK M D H Hd L A) ∧ DCube w' tv (fV M D H Hd L A) ∧ Below w.heap.size w w' := by
  have HW : Hid (∀ wv, Below w.heap.size w wv → WtAt wv V D H W bs M) := fun wv hb => hW.below hb
  have HAA : Hid (∀ wv, Below w.heap.size w wv → IArg wv ao n ca A) := fun wv hb => hA.below hb
  have HGO := fun (p : Nat → Prop) (wv : World) (tok m : Nat) (sr sk sv : Sl) (B : List Int) (hb : Below w.heap.size w wv) => rgo_any p V D Hd H L B.length tok W bs M sr sk sv (fR M D H Hd L B) (fK M D H Hd L B) (fV M D H Hd L B) wv (HW.out wv hb) hbl
  have hlA : Hid (A.length = n) := hA.row.len
  have hn63 := hA.row.max
  have HT : Hid (∀ k, k < n → 0 ≤ el A k ∧ el A k < (V : Int)) := ht
  have siz : W.cells.size = 8 := rfl
  have HWC : Hid (W.cells = W.cells) := rfl
  show Calls Tryd.prog 13 #[.agg #[.int .i64 (V : Int), .int .i64 (D : Int), .int .i64 (Hd : Int), .int .i64 (H : Int), .int .i64 (L : Int)], .agg W.cells, .slice ao n ca] w _
  unfold cfgC at HGO
  generalize W.cells = ws at *
  clear hW hA ht HWC
  have X0 := blk_new w 23 #[.int .i64 (V : Int), .int .i64 (D : Int), .int .i64 (Hd : Int), .int .i64 (H : Int), .int .i64 (L : Int)]
  have B0 := below_alloc8 w (.cells #[.int .i64 (V : Int), .int .i64 (D : Int), .int .i64 (Hd : Int), .int .i64 (H : Int), .int .i64 (L : Int)] 23)
  have s0 : (w.alloc (.cells #[.int .i64 (V : Int), .int .i64 (D : Int), .int .i64 (Hd : Int), .int .i64 (H : Int), .int .i64 (L : Int)] 23)).heap.size = w.heap.size + 1 := by simp
  generalize hw0 : w.alloc (.cells #[.int .i64 (V : Int), .int .i64 (D : Int), .int .i64 (Hd : Int), .int .i64 (H : Int), .int .i64 (L : Int)] 23) = wx0 at *
  have X1 := blk_new wx0 33 ws
  have B1 := below_alloc8 wx0 (.cells ws 33)
  have s1 : (wx0.alloc (.cells ws 33)).heap.size = wx0.heap.size + 1 := by simp
  generalize hw1 : wx0.alloc (.cells ws 33) = wx1 at *
  have X2 := blk_new wx1 48 #[.slice none 0 0, .slice none 0 0, .slice none 0 0]
  have B2 := below_alloc8 wx1 (.cells #[.slice none 0 0, .slice none 0 0, .slice none 0 0] 48)
  have s2 : (wx1.alloc (.cells #[.slice none 0 0, .slice none 0 0, .slice none 0 0] 48)).heap.size = wx1.heap.size + 1 := by simp
  generalize hw2 : wx1.alloc (.cells #[.slice none 0 0, .slice none 0 0, .slice none 0 0] 48) = wx2 at *
  obtain ⟨XA, XB, VB, zB⟩ := var3 wx2 48 #[.slice none 0 0, .slice none 0 0, .slice none 0 0] #[.slice none 0 0, .slice none 0 0, .slice none 0 0]
  generalize hwA : wx2.alloc (.cells #[.slice none 0 0, .slice none 0 0, .slice none 0 0] 48) = wA at *
  generalize hwB : wA.setRow wx2.heap.size #[.slice none 0 0, .slice none 0 0, .slice none 0 0] = w3 at *
  have X03 := ((X0.below B1).below B2).below VB
  have X13 := (X1.below B2).below VB
  have X23 := X2.below VB
  have D3 := below_then (below_then (below_then B0 B1) B2) VB
  have HSZ : Hid (wx0.heap.size = w.heap.size + 1 ∧ wx1.heap.size = wx0.heap.size + 1 ∧ wx2.heap.size = wx1.heap.size + 1) := ⟨s0, s1, s2⟩
  clear X0 X1 X2 B0 B1 B2 VB s0 s1 s2 zB
  go_enter Tryd.func13, Tryd.ntmps13
  go_wp2_with (refine wpList_store_row rfl 48 _ _ rfl wx2.heap.size _ rfl rfl 48 _ XA Tryd.infoRP8 rfl (by simp [Value.oneCell']) ?_; rw [hwB])
  clear hw0 hw1 hw2 hwA hwB XA
  obtain ⟨P, hP⟩ : ∃ P : Nat → Prop, P = fun b => b ≠ wx2.heap.size ∧ b ≠ wx1.heap.size := ⟨_, rfl⟩
  have HP : Hid (∀ b, P b ↔ (b ≠ wx2.heap.size ∧ b ≠ wx1.heap.size)) := fun b => by rw [hP]
  clear hP
  go_loopg [13] n (fun r s13 wr => ∃ (i : Nat) (tr tk tv : Sl), i ≤ n ∧ r = n - i ∧ s13 = .int .i64 (i : Int) ∧ Blk wr wx2.heap.size 48 #[tr.v, tk.v, tv.v] ∧ PCube P wr tr (fR M D H Hd L (A.take i)) ∧ PCube P wr tk (fK M D H Hd L (A.take i)) ∧ PCube P wr tv (fV M D H Hd L (A.take i)) ∧ Blk wr w.heap.size 23 #[.int .i64 (V : Int), .int .i64 (D : Int), .int .i64 (Hd : Int), .int .i64 (H : Int), .int .i64 (L : Int)] ∧ Blk wr wx0.heap.size 33 ws ∧ Blk wr wx1.heap.size 48 #[.slice none 0 0, .slice none 0 0, .slice none 0 0] ∧ Below w.heap.size w wr)
  case atStart => exact ⟨0, ⟨none, 0, 0⟩, ⟨none, 0, 0⟩, ⟨none, 0, 0⟩, by omega, by omega, rfl, XB, pcube_nil _ _, pcube_nil _ _, pcube_nil _ _, X03, X13, X23, D3⟩
  case round =>
  clear XB X03 X13 X23 D3
  obtain ⟨i, tr, tk, tv, hi, rfl, rfl, XP, C1, C2, C3, X0, X1, X2, DW⟩ := hrel
  by_cases hlt : i < n
  · obtain ⟨b, o, rfl, hc⟩ := (HAA.out wr DW).row.cells (by omega)
    have c1 := hc i hlt
    obtain ⟨t1, t2⟩ := HT.out i hlt
    obtain ⟨tok, htok⟩ : ∃ t : Nat, el A i = (t : Int) := ⟨(el A i).toNat, by omega⟩
    have hti : (A.take i).length = i := by rw [List.length_take, hlA.out]; omega
    have e2 : A.take (i + 1) = A.take i ++ [(tok : Int)] := by rw [← htok]; exact take_step (by rw [hlA.out]; exact hlt)
    have GO := HGO P wr tok i tr tk tv (A.take i) DW C1 C2 C3 (f_m _ _ _ _ _ _) (fKV_len _ _ _ _ _ _) (fR_small _ _ _ _ _ _ (by omega)) (fK_rows _ _ _ _ _ _) (fV_rows _ _ _ _ _ _) (by omega) (by omega) h1 h2 g1 g2 hd q1 q2 hL
    have g7 := goR_f M D H Hd L (A.take i) (tok : Int)
    have g8 := goK_f M D H Hd L (A.take i) (tok : Int)
    have g9 := goV_f M D H Hd L (A.take i) (tok : Int)
    rw [Int.toNat_natCast] at g7 g8 g9
    rw [g7, g8, g9, ← e2] at GO
    have HCW : Hid (wx2.heap.size < wr.heap.size ∧ wx1.heap.size < wr.heap.size) := ⟨XP.lt, X2.lt⟩
    have a0 : wr.cell? ⟨w.heap.size, 0, none⟩ = some (.int .i64 (V : Int)) := X0.cell 0 rfl
    have a1 : wr.cell? ⟨w.heap.size, 1, none⟩ = some (.int .i64 (D : Int)) := X0.cell 1 rfl
    have a2 : wr.cell? ⟨w.heap.size, 2, none⟩ = some (.int .i64 (Hd : Int)) := X0.cell 2 rfl
    have a3 : wr.cell? ⟨w.heap.size, 3, none⟩ = some (.int .i64 (H : Int)) := X0.cell 3 rfl
    have a4 : wr.cell? ⟨w.heap.size, 4, none⟩ = some (.int .i64 (L : Int)) := X0.cell 4 rfl
    have c1' : wr.cell? ⟨b, o + i, none⟩ = some (.int .i64 (tok : Int)) := by rw [← htok]; exact c1
    clear hc c1 C1 C2 C3 g7 g8 g9 htok t1 t2 hti e2
    go_wp2_with (first
      | (refine wpList_load_row rfl 33 _ rfl wx0.heap.size rfl 33 _ (0, 0) _ X1 Tryd.underlying33 rfl (by rw [siz]; exact Tryd.infoRW8) ?_)
      | (refine wpList_load_row rfl 48 _ rfl wx2.heap.size rfl 48 _ (0, 0) _ XP Tryd.underlying48 rfl Tryd.infoRP8 ?_)
      | (go_at_call 28; refine GO.mono ?_; clear GO; rintro e w2 ⟨ur, uk, uv, rfl, E1, E2, E3, B2⟩; have XP2 := XP.below B2)
      | (refine wpList_store_row rfl 48 _ _ rfl wx2.heap.size _ rfl rfl 48 _ XP2 Tryd.infoRP8 rfl (all3c rfl rfl rfl) ?_))
    have XN := XP2.row #[ur.v, uk.v, uv.v]
    have hsz := HSZ.out
    have hcw := HCW.out
    have T : Tn (fun b => P b ∨ wr.heap.size ≤ b) P w2 (w2.setRow wx2.heap.size #[ur.v, uk.v, uv.v]) := ⟨by simp, fun b _ hb => by
      have hb2 : P b := by
        rcases hb with h | h
        · exact h
        · exact (HP.out b).2 ⟨by omega, by omega⟩
      exact ⟨hb2, setRow_other _ _ _ _ ((HP.out b).1 hb2).1⟩⟩
    have pp : ∀ b, (P b ∨ wr.heap.size ≤ b) → P b := fun b hb => by
      rcases hb with h | h
      · exact h
      · exact (HP.out b).2 ⟨by omega, by omega⟩
    have F1 := E1.turn T pp
    have F2 := E2.turn T pp
    have F3 := E3.turn T pp
    have o1 : w.heap.size ≠ wx2.heap.size := by omega
    have o2 : wx0.heap.size ≠ wx2.heap.size := by omega
    have o3 : wx1.heap.size ≠ wx2.heap.size := by omega
    have Y0 := (X0.below B2).of_block (w' := w2.setRow wx2.heap.size #[ur.v, uk.v, uv.v]) (setRow_other _ _ _ _ o1)
    have Y1 := (X1.below B2).of_block (w' := w2.setRow wx2.heap.size #[ur.v, uk.v, uv.v]) (setRow_other _ _ _ _ o2)
    have Y2 := (X2.below B2).of_block (w' := w2.setRow wx2.heap.size #[ur.v, uk.v, uv.v]) (setRow_other _ _ _ _ o3)
    have D2 := below_setRow (below_then DW B2) (g := wx2.heap.size) (by omega) #[ur.v, uk.v, uv.v]
    clear hsz hcw o1 o2 o3 T pp E1 E2 E3 X0 X1 X2 XP XP2 B2
    go_roundg (n - (i + 1))
    case measure => omega
    case rel => exact ⟨i + 1, ur, uk, uv, by omega, rfl, by go_num, XN, F1, F2, F3, Y0, Y1, Y2, D2⟩
  · obtain rfl : i = n := by omega
    rw [List.take_of_length_le (by rw [hlA.out]; omega)] at C1 C2 C3
    have XF := X2.row #[tr.v, tk.v, tv.v]
    have hsz := HSZ.out
    have T : Tn P P wr (wr.setRow wx1.heap.size #[tr.v, tk.v, tv.v]) := ⟨by simp, fun b _ hb => ⟨hb, setRow_other _ _ _ _ ((HP.out b).1 hb).2⟩⟩
    have F1 := (C1.turn T (fun _ h => h)).dcube
    have F2 := (C2.turn T (fun _ h => h)).dcube
    have F3 := (C3.turn T (fun _ h => h)).dcube
    have D2 := below_setRow DW (g := wx1.heap.size) (by omega) #[tr.v, tk.v, tv.v]
    clear hsz T C1 C2 C3
    go_wp2_with (first
      | (refine wpList_load_row rfl 48 _ rfl wx2.heap.size rfl 48 _ (0, 0) _ XP Tryd.underlying48 rfl Tryd.infoRP8 ?_)
      | (refine wpList_store_row rfl 48 _ _ rfl wx1.heap.size _ rfl rfl 48 _ X2 Tryd.infoRP8 rfl (all3c rfl rfl rfl) ?_))
    refine bodyPost_ret (results_c1 rfl _ _ wx1.heap.size _ rfl (load_rp XF)) rfl ?_
    exact ⟨tr, tk, tv, rfl, F1, F2, F3, D2⟩
end Go.Proofs.YtoofbjpekdlfiaaDoor

/- A model that was made fits, and reads as its seed's numbers. -/
namespace Go.Proofs.YtoofbjpekdlfiaaDoor
open Go.ChangeShapes Go.WideShapes Go.ChangeAt Go.RowKit
def layS (seed i D H : Nat) : Lay := ⟨gainR seed i D, numR seed (i + D) (D * D) 65536, numR seed (i + D + D * D) (D * D) 65536, numR seed (i + D + D * D + D * D) (D * D) 65536, numR seed (i + D + D * D + D * D + D * D) (D * D) 65536, gainR seed (i + D + D * D + D * D + D * D + D * D) D, numR seed (i + D + D * D + D * D + D * D + D * D + D) (H * D) 65536, numR seed (i + D + D * D + D * D + D * D + D * D + D + H * D) (D * H) 65536⟩
/-- The numbers of a seed. -/
def mdlS (seed V D H L : Nat) : Mdl := ⟨numR seed 0 (V * D) 131072, (List.range L).map fun t => layS seed (V * D + t * lenB D H) D H, gainR seed (V * D + L * lenB D H) D, numR seed (V * D + L * lenB D H + D) (V * D) 65536⟩
theorem Fresh.slAt {w : World} {B g n : Nat} {A : List Int} (h : Fresh w B g n n A) : SlAt w (rs g n) n A := ⟨rfl, h.arg⟩
theorem Fresh.mtAt {w : World} {B g r c : Nat} {A : List Int} (h : Fresh w B g (r * c) (r * c) A) (h1 : 1 ≤ r) (h2 : r ≤ 128) (h3 : 1 ≤ c) (h4 : c ≤ 128) : MtAt w ⟨r, c, rs g (r * c)⟩ r c A :=
  ⟨g, 0, r * c, r * c, rfl, h1, h2, h3, h4, rfl, Nat.le_refl _, h.max, h.rowAt⟩
theorem MadeB.bkAt {w : World} {B seed i D H f q k v o s u d : Nat} (h : MadeB w B seed i D H f q k v o s u d) (h1 : 1 ≤ D) (h2 : D ≤ 128) (h3 : 1 ≤ H) (h4 : H ≤ 128) : BkAt w D H (mkB D H f q k v o s u d) (layS seed i D H) :=
  ⟨h.f.slAt, h.q.mtAt h1 h2 h1 h2, h.k.mtAt h1 h2 h1 h2, h.v.mtAt h1 h2 h1 h2, h.o.mtAt h1 h2 h1 h2, h.s.slAt, h.u.mtAt h3 h4 h1 h2, h.d.mtAt h1 h2 h3 h4⟩
theorem made_good {w : World} {B seed V D Hd H L ge gB gl go : Nat} (h : MadeW w B seed V D H L ge gB gl go) (hs : shapeN V D Hd H L = 0) : ∃ bs, Good w V D Hd H L (mkW V D L ge gB gl go) bs (mdlS seed V D H L) := by
  have hk := shape_ok hs
  obtain ⟨bs, ML⟩ := madeL_of L h.bs
  have BL := ML.blocks (by omega) (by omega) (by omega)
  have hl : bs.length = L := ML.len
  refine ⟨bs, ⟨⟨?_, BL, by unfold mdlS; simp [hl], fun t x hx => ?_, ?_, ?_⟩, mkW_ok (by omega) (by omega), hl, hs, ?_⟩⟩
  · exact h.e.mtAt (by omega) (by omega) (by omega) (by omega)
  · obtain ⟨_, f, q, k, v, o, s, u, d, rfl, m⟩ := ML.at_ t x hx
    have ht : t < L := by rw [← hl]; exact (List.getElem?_eq_some_iff.1 hx).1
    refine ⟨layS seed (V * D + t * lenB D H) D H, ?_, m.bkAt (by omega) (by omega) (by omega) (by omega)⟩
    unfold mdlS
    simp only [List.getElem?_map, List.getElem?_range ht]
    rfl
  · exact h.l.slAt
  · exact h.o.mtAt (by omega) (by omega) (by omega) (by omega)
  · exact made_fits (C := ⟨V, D, Hd, H, L⟩) ML rfl rfl rfl rfl hs
end Go.Proofs.YtoofbjpekdlfiaaDoor

/- The awake check of the laws of layer 10 is true. -/
namespace Go.Proofs.YtoofbjpekdlfiaaDoor
open Go.ChangeShapes Go.WideShapes Go.ChangeAt Go.RowKit
theorem wt_one (W : Wt) : W.cells.all (·.oneCell') = true := by simp [Wt.cells, Sl.v, Value.oneCell']
theorem make_small (w : World) : Calls Tryd.prog 26 #[.agg #[.int .i64 2, .int .i64 1, .int .i64 1, .int .i64 1, .int .i64 1], .int .u64 1] w fun e w' => ∃ W bs M, e = .returned (.tuple #[.agg (Wt.cells W), .int .i64 0]) ∧ Good w' 2 1 1 1 1 W bs M ∧ Below w.heap.size w w' := by
  refine (make_any 2 1 1 1 1 1 w (by omega) (by decide)).mono ?_
  rintro e w' ⟨ge, gB, gl, go, rfl, M, B⟩
  obtain ⟨bs, G⟩ := made_good (Hd := 1) M (by decide)
  exact ⟨_, bs, _, rfl, G, B⟩
/-- An answer of one token. -/
theorem run_one {M : Mdl} {V D H Hd L : Nat} {P : List Int} {j : Nat} (h1 : overB (runS M V D H Hd L P j).Y 1 = true) (h2 : ∀ i, i < j → overB (runS M V D H Hd L P i).Y 1 = false) : j = 1 := by
  rcases Nat.lt_trichotomy j 1 with h | h | h
  · obtain rfl : j = 0 := by omega
    have e : (runS M V D H Hd L P 0).Y = [] := rfl
    rw [e] at h1
    exact absurd h1 (by decide)
  · exact h
  · have := over_not (h2 1 h)
    rw [runS_len] at this
    omega
end Go.Proofs.YtoofbjpekdlfiaaDoor

/- The document's model, made from a seed, and the awake check of the laws of layer 8. Written by tools/genraw8.py. -/
namespace Go.Proofs.YtoofbjpekdlfiaaDoor
open Go.ChangeShapes Go.WideShapes Go.ChangeAt Go.RowKit
theorem FR.slAt {w : World} {B : Nat} {s : Sl} {n : Nat} {A : List Int} (h : FR w B s n A) : SlAt w s n A := by
  obtain ⟨g, e, e2, F⟩ := h
  exact ⟨e2, by rw [e]; exact F.arg⟩
theorem FM.mtAt {w : World} {B : Nat} {m : Mt} {r c : Nat} {A : List Int} (h : FM w B m r c (r * c) A) (h1 : 1 ≤ r) (h2 : r ≤ 128) (h3 : 1 ≤ c) (h4 : c ≤ 128) : MtAt w m r c A := by
  obtain ⟨mr, mc, ⟨ao, n, ca⟩⟩ := m
  obtain ⟨e1, e2, ⟨g, e3, e4, F⟩⟩ := h
  simp only at e1 e2 e3 e4 F
  subst e1 e2 e3 e4
  exact ⟨g, 0, _, ca, rfl, h1, h2, h3, h4, rfl, F.fit, F.max, F.rowAt⟩
theorem MadeR.bkAt {w : World} {B seed i D H : Nat} {x : Bk} (h : MadeR w B seed i D H x) (h1 : 1 ≤ D) (h2 : D ≤ 128) (h3 : 1 ≤ H) (h4 : H ≤ 128) : BkAt w D H x (layS seed i D H) :=
  ⟨h.f.slAt, h.q.mtAt h1 h2 h1 h2, h.k.mtAt h1 h2 h1 h2, h.v.mtAt h1 h2 h1 h2, h.o.mtAt h1 h2 h1 h2, h.s.slAt, h.u.mtAt h3 h4 h1 h2, h.d.mtAt h1 h2 h3 h4⟩
theorem rmade_any (V D Hd H L : Nat) (seed : Nat) (w : World) (hf : shapeN V D Hd H L = 0) :
   Calls Tryd.prog 27 #[.agg (cfgC V D Hd H L), .int .u64 (seed : Int)] w fun e w' => ∃ (W : Wt) (bs : List Bk), e = .returned (.agg W.cells) ∧ WtAt w' V D H W bs (mdlS seed V D H L) ∧ bs.length = L ∧ Below w.heap.size w w' := by
  have hk := shape_ok hf
  refine (rmake_any V D Hd H L seed w hf).mono ?_
  rintro e w' ⟨E, S, Ls, O, bs, rfl, hS, OB, MB, hE, hL, hO, B⟩
  have hl : bs.length = L := by rw [OB.len, hS]
  refine ⟨_, bs, rfl, ⟨?_, OB.blocks, by unfold mdlS; simp [hl], fun t x hx => ?_, hL.slAt, ?_⟩, hl, B⟩
  · exact FM.mtAt ⟨rfl, rfl, hE⟩ (by omega) (by omega) (by omega) (by omega)
  · have ht : t < L := by rw [← hl]; exact (List.getElem?_eq_some_iff.1 hx).1
    refine ⟨layS seed (V * D + t * lenB D H) D H, ?_, (MB t x hx).bkAt (by omega) (by omega) (by omega) (by omega)⟩
    unfold mdlS
    simp only [List.getElem?_map, List.getElem?_range ht]
    rfl
  · exact FM.mtAt ⟨rfl, rfl, hO⟩ (by omega) (by omega) (by omega) (by omega)
/-- What is liked behind all tokens. -/
theorem rlikes_full (V D Hd H L n : Nat) (W : Wt) (bs : List Bk) (M : Mdl) (sr sk sv : Sl) (A : List Int) (w : World) (hW : WtAt w V D H W bs M) (hC : DCube w sr (fR M D H Hd L A)) (hn : A.length = n + 1) (h1 : 1 ≤ D) (h2 : D ≤ 5000) :
   Calls Tryd.prog 15 #[.agg W.cells, .agg #[sr.v, sk.v, sv.v]] w fun e w' => ∃ g cap, e = .returned (.slice (some ⟨g, 0, none⟩) V cap) ∧ Fresh w' w.heap.size g V cap (fullX M V D H Hd L A) ∧ Below w.heap.size w w' := by
  have e : fullX M V D H Hd L A = likR M V D (rowOf (rowsL M D H Hd A L) n) := by unfold fullX; rw [hn]; rfl
  have hne : ¬ A.length = 0 := by omega
  rw [e]
  refine rlikes_any V D H n L W bs M sr sk sv (fR M D H Hd L A) (rowsL M D H Hd A L) w hW hC ?_ ?_ ?_ ?_ h1 h2
  · unfold fR; rw [if_neg hne]; simp
  · unfold fR; rw [if_neg hne]; simp
  · rw [rowsL_len, hn]
  · exact rowsL_row M D H Hd A L n (by omega)
theorem make_small8 (w : World) : Calls Tryd.prog 26 #[.agg #[.int .i64 2, .int .i64 1, .int .i64 1, .int .i64 1, .int .i64 1], .int .u64 1] w fun e w' => ∃ W bs, e = .returned (.tuple #[.agg (Wt.cells W), .int .i64 0]) ∧ Good w' 2 1 1 1 1 W bs (mdlS 1 2 1 1 1) ∧ Below w.heap.size w w' := by
  refine (make_any 2 1 1 1 1 1 w (by omega) (by decide)).mono ?_
  rintro e w' ⟨ge, gB, gl, go, rfl, M, B⟩
  obtain ⟨bs, G⟩ := made_good (Hd := 1) M (by decide)
  exact ⟨_, bs, rfl, G, B⟩
theorem iarg_two {w : World} {g : Nat} {x y : Int} (h : Blk w g 3 #[.int .i64 x, .int .i64 y]) (hx : -9223372036854775808 ≤ x ∧ x ≤ 9223372036854775807) (hy : -9223372036854775808 ≤ y ∧ y ≤ 9223372036854775807) : IArg w (some ⟨g, 0, none⟩) 2 2 [x, y] := by
  refine ⟨⟨rfl, by omega, fun k => ?_, fun _ => ⟨g, 0, rfl, fun t ht => ?_⟩⟩, by omega, by omega, fun h => by cases h⟩
  · rcases k with _ | _ | k
    · exact hx
    · exact hy
    · simp [el]
  · rw [Nat.zero_add]
    rcases t with _ | _ | t
    · exact h.cell 0 rfl
    · exact h.cell 1 rfl
    · omega
set_option maxRecDepth 100000 in
set_option maxHeartbeats 4000000 in
theorem raw8_any (w : World) (hT : Tab w) : Calls Tryd.prog 12 #[] w fun e w' => e = .returned (.bool true) ∧ Below w.heap.size w w' := by
  have X0 := blk_new w 23 #[.int .i64 2, .int .i64 1, .int .i64 1, .int .i64 1, .int .i64 1]
  have B0 := below_alloc8 w (.cells #[.int .i64 2, .int .i64 1, .int .i64 1, .int .i64 1, .int .i64 1] 23)
  generalize hw0 : w.alloc (.cells #[.int .i64 2, .int .i64 1, .int .i64 1, .int .i64 1, .int .i64 1] 23) = w0 at *
  have a0 : w0.cell? ⟨w.heap.size, 0, none⟩ = some (.int .i64 2) := X0.cell 0 rfl
  have a1 : w0.cell? ⟨w.heap.size, 1, none⟩ = some (.int .i64 1) := X0.cell 1 rfl
  have a2 : w0.cell? ⟨w.heap.size, 2, none⟩ = some (.int .i64 1) := X0.cell 2 rfl
  have a3 : w0.cell? ⟨w.heap.size, 3, none⟩ = some (.int .i64 1) := X0.cell 3 rfl
  have a4 : w0.cell? ⟨w.heap.size, 4, none⟩ = some (.int .i64 1) := X0.cell 4 rfl
  have HT : Hid (∀ wv, Below w.heap.size w wv → Tab wv) := fun wv hb => hT.next hb
  clear hT
  go_enter Tryd.func12, Tryd.ntmps12
  go_wp2_with fail
  refine (make_small8 _).mono ?_
  rintro e w1 ⟨W, bs, rfl, G1, B1⟩
  replace X0 := X0.below B1
  have D1 := below_then B0 B1
  clear hw0 a0 a1 a2 a3 a4 B0 B1
  obtain ⟨M, hM⟩ : ∃ M, M = mdlS 1 2 1 1 1 := ⟨_, rfl⟩
  have HM : Hid (M = mdlS 1 2 1 1 1) := hM
  rw [← hM] at G1
  clear hM
  have siz : W.cells.size = 8 := rfl
  have one := wt_one W
  have CF := fun (wv : World) (hg : Good wv 2 1 1 1 1 W bs M) (hT : Tab wv) (ao : Option Addr) (ha : IArg wv ao 2 2 [1, 0]) => full_ok 2 1 1 1 1 W bs M ao 2 2 [1, 0] wv hg ha hT (by decide)
  have CN := fun (wv : World) (hg : Good wv 2 1 1 1 1 W bs M) => full_bad 2 1 1 1 1 W bs M none 0 0 [] wv hg (iarg_nil wv) (by decide)
  rw [show promptN ((2 : Nat) : Int) [] = 8 by decide] at CN
  unfold cfgC at CF CN
  generalize hws : W.cells = ws at *
  obtain ⟨XZ, XR, BR, sz⟩ := var3 w1 29 #[.int .i64 0, .int .i64 0, .slice none 0 0, .slice none 0 0, .slice none 0 0, .int .i64 0, .int .i64 0, .slice none 0 0] ws
  generalize hwz : w1.alloc (.cells #[.int .i64 0, .int .i64 0, .slice none 0 0, .slice none 0 0, .slice none 0 0, .int .i64 0, .int .i64 0, .slice none 0 0] 29) = wz at *
  generalize hwy : wz.setRow w1.heap.size ws = wy at *
  clear sz
  replace X0 := X0.below BR
  have D2 := below_then D1 BR
  have G2 := G1.below BR
  have XT := blk_new wy 3 #[.int .i64 1, .int .i64 0]
  have BT := below_alloc8 wy (.cells #[.int .i64 1, .int .i64 0] 3)
  generalize hwt : wy.alloc (.cells #[.int .i64 1, .int .i64 0] 3) = wt at *
  have a0 : wy.cell? ⟨w.heap.size, 0, none⟩ = some (.int .i64 2) := X0.cell 0 rfl
  have a1 : wy.cell? ⟨w.heap.size, 1, none⟩ = some (.int .i64 1) := X0.cell 1 rfl
  have a2 : wy.cell? ⟨w.heap.size, 2, none⟩ = some (.int .i64 1) := X0.cell 2 rfl
  have a3 : wy.cell? ⟨w.heap.size, 3, none⟩ = some (.int .i64 1) := X0.cell 3 rfl
  have a4 : wy.cell? ⟨w.heap.size, 4, none⟩ = some (.int .i64 1) := X0.cell 4 rfl
  have D3 := below_then D2 BT
  go_wp2_with (first
    | (refine wpList_store_row rfl 29 _ _ rfl w1.heap.size ws rfl rfl 29 _ XZ (by rw [siz]; exact Tryd.infoW) (by rw [siz]; rfl) one ?_; rw [hwy])
    | (refine wpList_load_row rfl 29 _ rfl w1.heap.size rfl 29 ws (0, 0) _ XR Tryd.underlying29 rfl (by rw [siz]; exact Tryd.infoW) ?_))
  refine (CF _ (G2.below BT) (HT.out _ D3) _ (iarg_two XT (by omega) (by omega))).mono ?_
  rintro e w4 ⟨gx, gK, gV, rfl, FX, _, _, B4⟩
  obtain ⟨XA, XB, VB, _⟩ := var3 w4 40 #[.slice none 0 0, .slice none 0 0] #[.slice (some ⟨gK, 0, none⟩) 1 1, .slice (some ⟨gV, 0, none⟩) 1 1]
  generalize hwA : w4.alloc (.cells #[.slice none 0 0, .slice none 0 0] 40) = wA at *
  generalize hwB : wA.setRow w4.heap.size #[.slice (some ⟨gK, 0, none⟩) 1 1, .slice (some ⟨gV, 0, none⟩) 1 1] = wB at *
  clear CF
  go_upto_region 4 with (refine wpList_store_row rfl 40 _ _ rfl w4.heap.size _ rfl rfl 40 _ XA Tryd.infoCa rfl (by simp [Value.oneCell']) ?_; rw [hwB])
  replace FX := FX.below VB
  replace X0 := ((X0.below BT).below B4).below VB
  replace XR := ((XR.below BT).below B4).below VB
  have G3 := ((G2.below BT).below B4).below VB
  have D4 := below_then (below_then D3 B4) VB
  have hfx : w.heap.size ≤ wB.heap.size := D4.size
  clear a0 a1 a2 a3 a4 XZ hwz hwy hwt BT BR G1 G2 XT D1 D2 D3 XA XB hwA hwB B4 VB
  have a0 : wB.cell? ⟨w.heap.size, 0, none⟩ = some (.int .i64 2) := X0.cell 0 rfl
  have a1 : wB.cell? ⟨w.heap.size, 1, none⟩ = some (.int .i64 1) := X0.cell 1 rfl
  have a2 : wB.cell? ⟨w.heap.size, 2, none⟩ = some (.int .i64 1) := X0.cell 2 rfl
  have a3 : wB.cell? ⟨w.heap.size, 3, none⟩ = some (.int .i64 1) := X0.cell 3 rfl
  have a4 : wB.cell? ⟨w.heap.size, 4, none⟩ = some (.int .i64 1) := X0.cell 4 rfl
  go_wp2_with (refine wpList_load_row rfl 29 _ rfl w1.heap.size rfl 29 ws (0, 0) _ XR Tryd.underlying29 rfl (by rw [siz]; exact Tryd.infoW) ?_)
  refine (CN _ G3).mono ?_
  rintro e w5 ⟨rfl, B5⟩
  obtain ⟨XA, XB, VB, _⟩ := var3 w5 40 #[.slice none 0 0, .slice none 0 0] #[.slice none 0 0, .slice none 0 0]
  generalize hwA : w5.alloc (.cells #[.slice none 0 0, .slice none 0 0] 40) = wA at *
  generalize hwB : wA.setRow w5.heap.size #[.slice none 0 0, .slice none 0 0] = wC at *
  go_upto_region 5 with (refine wpList_store_row rfl 40 _ _ rfl w5.heap.size _ rfl rfl 40 _ XA Tryd.infoCa rfl (by simp [Value.oneCell']) ?_; rw [hwB])
  have DC := below_then B5 VB
  replace FX := FX.below DC
  replace X0 := X0.below DC
  have D5 := below_then D4 DC
  clear a0 a1 a2 a3 a4 XA XB hwA hwB B5 VB DC CN XR G3 D4 hfx
  have E0 : Below w.heap.size w wC.drew := D5.drew
  have XE := X0.below ((Below.refl _ wC).drew)
  have FE := FX.drew
  have RM := fun (wv : World) => rmade_any 2 1 1 1 1 1 wv (by decide)
  have RF := fun (wv : World) (W : Wt) (bs : List Bk) (ao : Option Addr) (hW : WtAt wv 2 1 1 W bs M) (hb : bs.length = 1) (ha : IArg wv ao 2 2 [1, 0]) => rfull_any 2 1 1 1 1 2 2 ao W bs M [1, 0] wv hW hb ha (by intro k hk; rcases k with _ | _ | k; exact ⟨by decide, by decide⟩; exact ⟨by decide, by decide⟩; omega) (by omega) (by omega) (by omega) (by omega) (by omega) (by decide) (by omega) (by omega) (by omega)
  have RL := fun (wv : World) (W : Wt) (bs : List Bk) (sr sk sv : Sl) (hW : WtAt wv 2 1 1 W bs M) (hC : DCube wv sr (fR M 1 1 1 1 [1, 0])) => rlikes_full 2 1 1 1 1 1 W bs M sr sk sv [1, 0] wv hW hC rfl (by omega) (by omega)
  rw [← HM.out] at RM
  unfold cfgC at RM RF
  clear X0 FX D5
  refine wp_region_held_drew (S := fun w' => Blk w' w.heap.size 23 #[.int .i64 2, .int .i64 1, .int .i64 1, .int .i64 1, .int .i64 1]) (by kernel_rfl) (XE) (fun hHeld => ?_)
  generalize wC.drew = wd at *
  refine wpAnyH_take (i := 0) (v := (.int .i64 0)) rfl (by kernel_rfl) (by kernel_rfl) (by kernel_rfl) (fun _ _ _ h => h) (Or.inl ⟨by rfl, ?_⟩) (by assumption) ?_
  · intro w' hSw
    go_simp
  simp only [List.getElem_toArray, List.getElem_cons_zero, Act.put, List.setIfInBounds_toArray, List.set_cons_zero, List.set_cons_succ]
  refine wpAnyH_take (i := 1) (v := (.bool true)) rfl (by kernel_rfl) (by kernel_rfl) (by kernel_rfl) (fun _ _ _ h => h) (Or.inl ⟨by rfl, ?_⟩) (by assumption) ?_
  · intro w' hSw
    go_simp
  simp only [List.getElem_toArray, List.getElem_cons_succ, List.getElem_cons_zero, Act.put, List.setIfInBounds_toArray, List.set_cons_zero, List.set_cons_succ]
  refine wpAnyH_take (i := 2) (v := (.bool true)) rfl (by kernel_rfl) (by kernel_rfl) (by kernel_rfl) (fun _ _ _ h => h) (Or.inl ⟨by rfl, ?_⟩) (by assumption) ?_
  · intro w' hSw
    go_simp
  simp only [List.getElem_toArray, List.getElem_cons_succ, List.getElem_cons_zero, Act.put, List.setIfInBounds_toArray, List.set_cons_zero, List.set_cons_succ]
  refine wpAnyH_take (i := 3) (v := (.int .i64 0)) rfl (by kernel_rfl) (by kernel_rfl) (by kernel_rfl) (fun _ _ _ h => h) (Or.inl ⟨by rfl, ?_⟩) (by assumption) ?_
  · intro w' hSw
    go_simp
  simp only [List.getElem_toArray, List.getElem_cons_succ, List.getElem_cons_zero, Act.put, List.setIfInBounds_toArray, List.set_cons_zero, List.set_cons_succ]
  refine wpAnyH_take (i := 4) (v := (.bool true)) rfl (by kernel_rfl) (by kernel_rfl) (by kernel_rfl) (fun _ _ _ h => h) (Or.inl ⟨by rfl, ?_⟩) (by assumption) ?_
  · intro w' hSw
    go_simp
  simp only [List.getElem_toArray, List.getElem_cons_succ, List.getElem_cons_zero, Act.put, List.setIfInBounds_toArray, List.set_cons_zero, List.set_cons_succ]
  refine wpAnyH_take (i := 5) (v := (.bool true)) rfl (by kernel_rfl) (by kernel_rfl) (by kernel_rfl) (fun _ _ _ h => h) (Or.inl ⟨by rfl, ?_⟩) (by assumption) ?_
  · intro w' hSw
    go_simp
  simp only [List.getElem_toArray, List.getElem_cons_succ, List.getElem_cons_zero, Act.put, List.setIfInBounds_toArray, List.set_cons_zero, List.set_cons_succ]
  refine wpAnyH_take (i := 6) (v := (.bool true)) rfl (by kernel_rfl) (by kernel_rfl) (by kernel_rfl) (fun _ _ _ h => h) (Or.inl ⟨by rfl, ?_⟩) (by assumption) ?_
  · intro w' hSw
    go_simp
  simp only [List.getElem_toArray, List.getElem_cons_succ, List.getElem_cons_zero, Act.put, List.setIfInBounds_toArray, List.set_cons_zero, List.set_cons_succ]
  refine wpAnyH_take (i := 7) (v := (.int .i64 8)) rfl (by kernel_rfl) (by kernel_rfl) (by kernel_rfl) (fun _ _ _ h => h) (Or.inl ⟨by rfl, ?_⟩) (by assumption) ?_
  · intro w' hSw
    go_simp
  simp only [List.getElem_toArray, List.getElem_cons_succ, List.getElem_cons_zero, Act.put, List.setIfInBounds_toArray, List.set_cons_zero, List.set_cons_succ]
  refine wpAnyH_take (i := 8) (v := (.bool true)) rfl (by kernel_rfl) (by kernel_rfl) (by kernel_rfl) (fun _ _ _ h => h) (Or.inl ⟨by rfl, ?_⟩) (by assumption) ?_
  · intro w' hSw
    go_simp
  simp only [List.getElem_toArray, List.getElem_cons_succ, List.getElem_cons_zero, Act.put, List.setIfInBounds_toArray, List.set_cons_zero, List.set_cons_succ]
  refine wpAnyH_take (i := 9) (v := (.bool true)) rfl (by kernel_rfl) (by kernel_rfl) (by kernel_rfl) (fun _ _ _ h => h) (Or.inl ⟨by rfl, ?_⟩) (by assumption) ?_
  · intro w' hSw
    go_simp
  simp only [List.getElem_toArray, List.getElem_cons_succ, List.getElem_cons_zero, Act.put, List.setIfInBounds_toArray, List.set_cons_zero, List.set_cons_succ]
  refine wpAnyH_take (i := 10) (v := (.bool true)) rfl (by kernel_rfl) (by kernel_rfl) (by kernel_rfl) (fun _ _ _ h => h) (Or.inl ⟨by rfl, ?_⟩) (by assumption) ?_
  · intro w' hSw
    go_simp
  simp only [List.getElem_toArray, List.getElem_cons_succ, List.getElem_cons_zero, Act.put, List.setIfInBounds_toArray, List.set_cons_zero, List.set_cons_succ]
  refine wpAnyH_take (i := 11) (v := (.slice (some ⟨gx, 0, none⟩) 2 2)) rfl (by kernel_rfl) (by kernel_rfl) (by kernel_rfl) (fun _ _ _ h => h) (Or.inl ⟨by rfl, ?_⟩) (by assumption) ?_
  · intro w' hSw
    go_simp
  simp only [List.getElem_toArray, List.getElem_cons_succ, List.getElem_cons_zero, Act.put, List.setIfInBounds_toArray, List.set_cons_zero, List.set_cons_succ]
  refine wpAnyH_take (i := 12) (v := (.agg #[.int .i64 2, .int .i64 1, .int .i64 1, .int .i64 1, .int .i64 1])) rfl (by kernel_rfl) (by kernel_rfl) (by kernel_rfl) (fun _ _ _ h => h) (Or.inl ⟨by rfl, ?_⟩) (by assumption) ?_
  · intro w' hSw
    have c0 : w'.cell? ⟨w.heap.size, 0, none⟩ = some (.int .i64 2) := hSw.cell 0 rfl
    have c1 : w'.cell? ⟨w.heap.size, 1, none⟩ = some (.int .i64 1) := hSw.cell 1 rfl
    have c2 : w'.cell? ⟨w.heap.size, 2, none⟩ = some (.int .i64 1) := hSw.cell 2 rfl
    have c3 : w'.cell? ⟨w.heap.size, 3, none⟩ = some (.int .i64 1) := hSw.cell 3 rfl
    have c4 : w'.cell? ⟨w.heap.size, 4, none⟩ = some (.int .i64 1) := hSw.cell 4 rfl
    go_simp
  simp only [List.getElem_toArray, List.getElem_cons_succ, List.getElem_cons_zero, Act.put, List.setIfInBounds_toArray, List.set_cons_zero, List.set_cons_succ]
  refine wpAnyH_take (i := 14) (v := (.agg #[.int .i64 2, .int .i64 1, .int .i64 1, .int .i64 1, .int .i64 1])) rfl (by kernel_rfl) (by kernel_rfl) (by kernel_rfl) (fun _ _ _ h => h) (Or.inl ⟨by rfl, ?_⟩) (by assumption) ?_
  · intro w' hSw
    have c0 : w'.cell? ⟨w.heap.size, 0, none⟩ = some (.int .i64 2) := hSw.cell 0 rfl
    have c1 : w'.cell? ⟨w.heap.size, 1, none⟩ = some (.int .i64 1) := hSw.cell 1 rfl
    have c2 : w'.cell? ⟨w.heap.size, 2, none⟩ = some (.int .i64 1) := hSw.cell 2 rfl
    have c3 : w'.cell? ⟨w.heap.size, 3, none⟩ = some (.int .i64 1) := hSw.cell 3 rfl
    have c4 : w'.cell? ⟨w.heap.size, 4, none⟩ = some (.int .i64 1) := hSw.cell 4 rfl
    go_simp
  simp only [List.getElem_toArray, List.getElem_cons_succ, List.getElem_cons_zero, Act.put, List.setIfInBounds_toArray, List.set_cons_zero, List.set_cons_succ]
  refine wpAnyH_take (i := 15) (v := (.agg #[.int .i64 2, .int .i64 1, .int .i64 1, .int .i64 1, .int .i64 1])) rfl (by kernel_rfl) (by kernel_rfl) (by kernel_rfl) (fun _ _ _ h => h) (Or.inl ⟨by rfl, ?_⟩) (by assumption) ?_
  · intro w' hSw
    have c0 : w'.cell? ⟨w.heap.size, 0, none⟩ = some (.int .i64 2) := hSw.cell 0 rfl
    have c1 : w'.cell? ⟨w.heap.size, 1, none⟩ = some (.int .i64 1) := hSw.cell 1 rfl
    have c2 : w'.cell? ⟨w.heap.size, 2, none⟩ = some (.int .i64 1) := hSw.cell 2 rfl
    have c3 : w'.cell? ⟨w.heap.size, 3, none⟩ = some (.int .i64 1) := hSw.cell 3 rfl
    have c4 : w'.cell? ⟨w.heap.size, 4, none⟩ = some (.int .i64 1) := hSw.cell 4 rfl
    go_simp
  simp only [List.getElem_toArray, List.getElem_cons_succ, List.getElem_cons_zero, Act.put, List.setIfInBounds_toArray, List.set_cons_zero, List.set_cons_succ]
  refine wpAnyH_ready (rs := [13, 17]) (by kernel_rfl) (by simp) ?_
  refine AllReadyH.cons rfl (fun Kc hKc => ?_) (AllReadyH.cons rfl (fun Kc hKc => ?_) AllReadyH.nil)
  · simp only [List.getElem_toArray, List.getElem_cons_succ, List.getElem_cons_zero]
    rw [if_pos (by rfl)]
    go_wp2_with fail
    refine (RM _).mono ?_
    rintro e wn1 ⟨W1, bs1, rfl, WA1, hb1, Bn1⟩
    go_wp2_with fail
    have En1 := below_then E0 Bn1
    have Xn1 := XE.below Bn1
    have Fn1 := FE.below Bn1
    refine hKc.out _ _ (Xn1) (fun hHeld => ?_)
    clear hKc Kc
    refine wpAnyH_ready (rs := [16, 17]) (by kernel_rfl) (by simp) ?_
    refine AllReadyH.cons rfl (fun Kc hKc => ?_) (AllReadyH.cons rfl (fun Kc hKc => ?_) AllReadyH.nil)
    · simp only [List.getElem_toArray, List.getElem_cons_succ, List.getElem_cons_zero]
      rw [if_pos (by rfl)]
      go_wp2_with fail
      refine (RM _).mono ?_
      rintro e wn2 ⟨W2, bs2, rfl, WA2, hb2, Bn2⟩
      go_wp2_with fail
      have En2 := below_then En1 Bn2
      have Xn2 := Xn1.below Bn2
      have Fn2 := Fn1.below Bn2
      replace WA1 := WA1.below Bn2
      refine hKc.out _ _ (Xn2) (fun hHeld => ?_)
      clear hKc Kc
      refine wpAnyH_ready (rs := [17]) (by kernel_rfl) (by simp) ?_
      refine AllReadyH.cons rfl (fun Kc hKc => ?_) AllReadyH.nil
      simp only [List.getElem_toArray, List.getElem_cons_succ, List.getElem_cons_zero]
      rw [if_pos (by rfl)]
      go_wp2_with fail
      have XT3 := blk_new wn2 3 #[.int .i64 1, .int .i64 0]
      have Bn3 := below_alloc8 wn2 (.cells #[.int .i64 1, .int .i64 0] 3)
      generalize hwn3 : wn2.alloc (.cells #[.int .i64 1, .int .i64 0] 3) = wn3 at *
      clear hwn3
      have En3 := below_then En2 Bn3
      have Xn3 := Xn2.below Bn3
      have Fn3 := Fn2.below Bn3
      replace WA1 := WA1.below Bn3
      replace WA2 := WA2.below Bn3
      refine hKc.out _ _ (Xn3) (fun hHeld => ?_)
      clear hKc Kc
      refine wpAnyH_ready (rs := [18]) (by kernel_rfl) (by simp) ?_
      refine AllReadyH.cons rfl (fun Kc hKc => ?_) AllReadyH.nil
      simp only [List.getElem_toArray, List.getElem_cons_succ, List.getElem_cons_zero]
      rw [if_pos (by rfl)]
      go_wp2_with fail
      refine (RF _ W2 bs2 _ WA2 hb2 (iarg_two XT3 (by omega) (by omega))).mono ?_
      rintro e wf1 ⟨sr, sk, sv, rfl, C1, _, _, Bf1⟩
      go_wp2_with fail
      refine hKc.out _ _ (Xn3.below Bf1) (fun hHeld => ?_)
      clear hKc Kc
      refine wpAnyH_ready (rs := [19]) (by kernel_rfl) (by simp) ?_
      refine AllReadyH.cons rfl (fun Kc hKc => ?_) AllReadyH.nil
      simp only [List.getElem_toArray, List.getElem_cons_succ, List.getElem_cons_zero]
      rw [if_pos (by rfl)]
      go_wp2_with fail
      refine (RL _ W1 bs1 sr sk sv (WA1.below Bf1) C1).mono ?_
      rintro e wf2 ⟨gl2, cl2, rfl, FL, Bf2⟩
      go_wp2_with fail
      refine hKc.out _ _ ((Xn3.below Bf1).below Bf2) (fun hHeld => ?_)
      clear hKc Kc
      refine wpAnyH_ready (rs := [20]) (by kernel_rfl) (by simp) ?_
      refine AllReadyH.cons rfl (fun Kc hKc => ?_) AllReadyH.nil
      simp only [List.getElem_toArray, List.getElem_cons_succ, List.getElem_cons_zero]
      rw [if_pos (by rfl)]
      go_wp2_with fail
      refine (same_any _ _ 2 _ _ (fullX M 2 1 1 1 1 [1, 0]) _ ((Fn3.below Bf1).below Bf2).rowAt FL.rowAt).mono ?_
      rintro e wf3 ⟨rfl, m3, hm3⟩
      have Bf3 : Below wf2.heap.size wf2 wf3 := (by rw [hm3]; exact below_drewN (Below.refl _ _) m3)
      clear hm3
      go_wp2_with fail
      refine hKc.out _ _ (((Xn3.below Bf1).below Bf2).below Bf3) (fun hHeld => ?_)
      clear hKc Kc
      refine wpAnyH_take (i := 21) (v := (.bool true)) rfl (by kernel_rfl) (by kernel_rfl) (by kernel_rfl) (fun _ _ _ h => h) (Or.inl ⟨by rfl, ?_⟩) (by assumption) ?_
      · intro w' hSw
        go_simp
      simp only [List.getElem_toArray, List.getElem_cons_succ, List.getElem_cons_zero, Act.put, List.setIfInBounds_toArray, List.set_cons_zero, List.set_cons_succ]
      refine wpAnyH_ready (rs := [22]) (by kernel_rfl) (by simp) ?_
      refine AllReadyH.cons rfl (fun Kc hKc => ?_) AllReadyH.nil
      simp only [List.getElem_toArray, List.getElem_cons_succ, List.getElem_cons_zero]
      rw [if_pos (by rfl)]
      go_wp2_with fail
      refine hKc.out _ _ (((Xn3.below Bf1).below Bf2).below Bf3) (fun hHeld => ?_)
      clear hKc Kc
      refine wpAnyH_done (by kernel_rfl) ?_ _
      go_wp2
      go_ret
      exact ⟨rfl, below_then (below_then (below_then En3 Bf1) Bf2) Bf3⟩
    · simp only [List.getElem_toArray, List.getElem_cons_succ, List.getElem_cons_zero]
      rw [if_pos (by rfl)]
      go_wp2_with fail
      have XT4 := blk_new wn1 3 #[.int .i64 1, .int .i64 0]
      have Bn4 := below_alloc8 wn1 (.cells #[.int .i64 1, .int .i64 0] 3)
      generalize hwn4 : wn1.alloc (.cells #[.int .i64 1, .int .i64 0] 3) = wn4 at *
      clear hwn4
      have En4 := below_then En1 Bn4
      have Xn4 := Xn1.below Bn4
      have Fn4 := Fn1.below Bn4
      replace WA1 := WA1.below Bn4
      refine hKc.out _ _ (Xn4) (fun hHeld => ?_)
      clear hKc Kc
      refine wpAnyH_ready (rs := [16]) (by kernel_rfl) (by simp) ?_
      refine AllReadyH.cons rfl (fun Kc hKc => ?_) AllReadyH.nil
      simp only [List.getElem_toArray, List.getElem_cons_succ, List.getElem_cons_zero]
      rw [if_pos (by rfl)]
      go_wp2_with fail
      refine (RM _).mono ?_
      rintro e wn5 ⟨W5, bs5, rfl, WA5, hb5, Bn5⟩
      go_wp2_with fail
      have En5 := below_then En4 Bn5
      have Xn5 := Xn4.below Bn5
      have Fn5 := Fn4.below Bn5
      replace WA1 := WA1.below Bn5
      replace XT4 := XT4.below Bn5
      refine hKc.out _ _ (Xn5) (fun hHeld => ?_)
      clear hKc Kc
      refine wpAnyH_ready (rs := [18]) (by kernel_rfl) (by simp) ?_
      refine AllReadyH.cons rfl (fun Kc hKc => ?_) AllReadyH.nil
      simp only [List.getElem_toArray, List.getElem_cons_succ, List.getElem_cons_zero]
      rw [if_pos (by rfl)]
      go_wp2_with fail
      refine (RF _ W5 bs5 _ WA5 hb5 (iarg_two XT4 (by omega) (by omega))).mono ?_
      rintro e wf1 ⟨sr, sk, sv, rfl, C1, _, _, Bf1⟩
      go_wp2_with fail
      refine hKc.out _ _ (Xn5.below Bf1) (fun hHeld => ?_)
      clear hKc Kc
      refine wpAnyH_ready (rs := [19]) (by kernel_rfl) (by simp) ?_
      refine AllReadyH.cons rfl (fun Kc hKc => ?_) AllReadyH.nil
      simp only [List.getElem_toArray, List.getElem_cons_succ, List.getElem_cons_zero]
      rw [if_pos (by rfl)]
      go_wp2_with fail
      refine (RL _ W1 bs1 sr sk sv (WA1.below Bf1) C1).mono ?_
      rintro e wf2 ⟨gl2, cl2, rfl, FL, Bf2⟩
      go_wp2_with fail
      refine hKc.out _ _ ((Xn5.below Bf1).below Bf2) (fun hHeld => ?_)
      clear hKc Kc
      refine wpAnyH_ready (rs := [20]) (by kernel_rfl) (by simp) ?_
      refine AllReadyH.cons rfl (fun Kc hKc => ?_) AllReadyH.nil
      simp only [List.getElem_toArray, List.getElem_cons_succ, List.getElem_cons_zero]
      rw [if_pos (by rfl)]
      go_wp2_with fail
      refine (same_any _ _ 2 _ _ (fullX M 2 1 1 1 1 [1, 0]) _ ((Fn5.below Bf1).below Bf2).rowAt FL.rowAt).mono ?_
      rintro e wf3 ⟨rfl, m3, hm3⟩
      have Bf3 : Below wf2.heap.size wf2 wf3 := (by rw [hm3]; exact below_drewN (Below.refl _ _) m3)
      clear hm3
      go_wp2_with fail
      refine hKc.out _ _ (((Xn5.below Bf1).below Bf2).below Bf3) (fun hHeld => ?_)
      clear hKc Kc
      refine wpAnyH_take (i := 21) (v := (.bool true)) rfl (by kernel_rfl) (by kernel_rfl) (by kernel_rfl) (fun _ _ _ h => h) (Or.inl ⟨by rfl, ?_⟩) (by assumption) ?_
      · intro w' hSw
        go_simp
      simp only [List.getElem_toArray, List.getElem_cons_succ, List.getElem_cons_zero, Act.put, List.setIfInBounds_toArray, List.set_cons_zero, List.set_cons_succ]
      refine wpAnyH_ready (rs := [22]) (by kernel_rfl) (by simp) ?_
      refine AllReadyH.cons rfl (fun Kc hKc => ?_) AllReadyH.nil
      simp only [List.getElem_toArray, List.getElem_cons_succ, List.getElem_cons_zero]
      rw [if_pos (by rfl)]
      go_wp2_with fail
      refine hKc.out _ _ (((Xn5.below Bf1).below Bf2).below Bf3) (fun hHeld => ?_)
      clear hKc Kc
      refine wpAnyH_done (by kernel_rfl) ?_ _
      go_wp2
      go_ret
      exact ⟨rfl, below_then (below_then (below_then En5 Bf1) Bf2) Bf3⟩
  · simp only [List.getElem_toArray, List.getElem_cons_succ, List.getElem_cons_zero]
    rw [if_pos (by rfl)]
    go_wp2_with fail
    have XT6 := blk_new wd 3 #[.int .i64 1, .int .i64 0]
    have Bn6 := below_alloc8 wd (.cells #[.int .i64 1, .int .i64 0] 3)
    generalize hwn6 : wd.alloc (.cells #[.int .i64 1, .int .i64 0] 3) = wn6 at *
    clear hwn6
    have En6 := below_then E0 Bn6
    have Xn6 := XE.below Bn6
    have Fn6 := FE.below Bn6
    refine hKc.out _ _ (Xn6) (fun hHeld => ?_)
    clear hKc Kc
    refine wpAnyH_ready (rs := [13]) (by kernel_rfl) (by simp) ?_
    refine AllReadyH.cons rfl (fun Kc hKc => ?_) AllReadyH.nil
    simp only [List.getElem_toArray, List.getElem_cons_succ, List.getElem_cons_zero]
    rw [if_pos (by rfl)]
    go_wp2_with fail
    refine (RM _).mono ?_
    rintro e wn7 ⟨W7, bs7, rfl, WA7, hb7, Bn7⟩
    go_wp2_with fail
    have En7 := below_then En6 Bn7
    have Xn7 := Xn6.below Bn7
    have Fn7 := Fn6.below Bn7
    replace XT6 := XT6.below Bn7
    refine hKc.out _ _ (Xn7) (fun hHeld => ?_)
    clear hKc Kc
    refine wpAnyH_ready (rs := [16]) (by kernel_rfl) (by simp) ?_
    refine AllReadyH.cons rfl (fun Kc hKc => ?_) AllReadyH.nil
    simp only [List.getElem_toArray, List.getElem_cons_succ, List.getElem_cons_zero]
    rw [if_pos (by rfl)]
    go_wp2_with fail
    refine (RM _).mono ?_
    rintro e wn8 ⟨W8, bs8, rfl, WA8, hb8, Bn8⟩
    go_wp2_with fail
    have En8 := below_then En7 Bn8
    have Xn8 := Xn7.below Bn8
    have Fn8 := Fn7.below Bn8
    replace WA7 := WA7.below Bn8
    replace XT6 := XT6.below Bn8
    refine hKc.out _ _ (Xn8) (fun hHeld => ?_)
    clear hKc Kc
    refine wpAnyH_ready (rs := [18]) (by kernel_rfl) (by simp) ?_
    refine AllReadyH.cons rfl (fun Kc hKc => ?_) AllReadyH.nil
    simp only [List.getElem_toArray, List.getElem_cons_succ, List.getElem_cons_zero]
    rw [if_pos (by rfl)]
    go_wp2_with fail
    refine (RF _ W8 bs8 _ WA8 hb8 (iarg_two XT6 (by omega) (by omega))).mono ?_
    rintro e wf1 ⟨sr, sk, sv, rfl, C1, _, _, Bf1⟩
    go_wp2_with fail
    refine hKc.out _ _ (Xn8.below Bf1) (fun hHeld => ?_)
    clear hKc Kc
    refine wpAnyH_ready (rs := [19]) (by kernel_rfl) (by simp) ?_
    refine AllReadyH.cons rfl (fun Kc hKc => ?_) AllReadyH.nil
    simp only [List.getElem_toArray, List.getElem_cons_succ, List.getElem_cons_zero]
    rw [if_pos (by rfl)]
    go_wp2_with fail
    refine (RL _ W7 bs7 sr sk sv (WA7.below Bf1) C1).mono ?_
    rintro e wf2 ⟨gl2, cl2, rfl, FL, Bf2⟩
    go_wp2_with fail
    refine hKc.out _ _ ((Xn8.below Bf1).below Bf2) (fun hHeld => ?_)
    clear hKc Kc
    refine wpAnyH_ready (rs := [20]) (by kernel_rfl) (by simp) ?_
    refine AllReadyH.cons rfl (fun Kc hKc => ?_) AllReadyH.nil
    simp only [List.getElem_toArray, List.getElem_cons_succ, List.getElem_cons_zero]
    rw [if_pos (by rfl)]
    go_wp2_with fail
    refine (same_any _ _ 2 _ _ (fullX M 2 1 1 1 1 [1, 0]) _ ((Fn8.below Bf1).below Bf2).rowAt FL.rowAt).mono ?_
    rintro e wf3 ⟨rfl, m3, hm3⟩
    have Bf3 : Below wf2.heap.size wf2 wf3 := (by rw [hm3]; exact below_drewN (Below.refl _ _) m3)
    clear hm3
    go_wp2_with fail
    refine hKc.out _ _ (((Xn8.below Bf1).below Bf2).below Bf3) (fun hHeld => ?_)
    clear hKc Kc
    refine wpAnyH_take (i := 21) (v := (.bool true)) rfl (by kernel_rfl) (by kernel_rfl) (by kernel_rfl) (fun _ _ _ h => h) (Or.inl ⟨by rfl, ?_⟩) (by assumption) ?_
    · intro w' hSw
      go_simp
    simp only [List.getElem_toArray, List.getElem_cons_succ, List.getElem_cons_zero, Act.put, List.setIfInBounds_toArray, List.set_cons_zero, List.set_cons_succ]
    refine wpAnyH_ready (rs := [22]) (by kernel_rfl) (by simp) ?_
    refine AllReadyH.cons rfl (fun Kc hKc => ?_) AllReadyH.nil
    simp only [List.getElem_toArray, List.getElem_cons_succ, List.getElem_cons_zero]
    rw [if_pos (by rfl)]
    go_wp2_with fail
    refine hKc.out _ _ (((Xn8.below Bf1).below Bf2).below Bf3) (fun hHeld => ?_)
    clear hKc Kc
    refine wpAnyH_done (by kernel_rfl) ?_ _
    go_wp2
    go_ret
    exact ⟨rfl, below_then (below_then (below_then En8 Bf1) Bf2) Bf3⟩
end Go.Proofs.YtoofbjpekdlfiaaDoor

/- Small shapes, and rows of tokens that are the same. -/
namespace Go.Proofs.YtoofbjpekdlfiaaDoor
open Go.ChangeShapes Go.WideShapes Go.ChangeAt Go.RowKit
/-- Is a shape a small one? -/
def smallN (D H L : Int) : Int := if 8 < D ∨ 8 < H ∨ 2 < L then 0 else 1
theorem small8_any (V D Hd H L : Int) (w : World) : Calls Tryd.prog 7 #[.agg (cfgC V D Hd H L)] w fun e w' => e = .returned (.int .i64 (smallN D H L)) ∧ Below w.heap.size w w' := by
  have X0 := blk_new w 23 (cfgC V D Hd H L)
  have B0 : Below w.heap.size w (w.alloc (.cells (cfgC V D Hd H L) 23)) := (Below.refl _ _).alloc (Nat.le_refl _) _
  unfold cfgC at *
  generalize hw0 : w.alloc (.cells #[.int .i64 V, .int .i64 D, .int .i64 Hd, .int .i64 H, .int .i64 L] 23) = w0 at *
  have a1 : w0.cell? ⟨w.heap.size, 1, none⟩ = some (.int .i64 D) := X0.cell 1 rfl
  have a3 : w0.cell? ⟨w.heap.size, 3, none⟩ = some (.int .i64 H) := X0.cell 3 rfl
  have a4 : w0.cell? ⟨w.heap.size, 4, none⟩ = some (.int .i64 L) := X0.cell 4 rfl
  have HN : Hid (smallN D H L = if 8 < D ∨ 8 < H ∨ 2 < L then 0 else 1) := rfl
  generalize smallN D H L = res at *
  by_cases h1 : 8 < D
  · have HF : Hid (res = 0) := by show _ = _; rw [HN.out, if_pos (Or.inl h1)]
    clear HN
    go_enter Tryd.func7, Tryd.ntmps7
    go_wp2
    go_ret
    exact ⟨ret_int HF.out.symm, B0⟩
  · by_cases h2 : 8 < H
    · have HF : Hid (res = 0) := by show _ = _; rw [HN.out, if_pos (Or.inr (Or.inl h2))]
      clear HN
      go_enter Tryd.func7, Tryd.ntmps7
      go_wp2
      go_ret
      exact ⟨ret_int HF.out.symm, B0⟩
    · by_cases h3 : 2 < L
      · have HF : Hid (res = 0) := by show _ = _; rw [HN.out, if_pos (Or.inr (Or.inr h3))]
        clear HN
        go_enter Tryd.func7, Tryd.ntmps7
        go_wp2
        go_ret
        exact ⟨ret_int HF.out.symm, B0⟩
      · have HF : Hid (res = 1) := by show _ = _; rw [HN.out, if_neg (by omega)]
        clear HN
        go_enter Tryd.func7, Tryd.ntmps7
        go_wp2
        go_ret
        exact ⟨ret_int HF.out.symm, B0⟩
theorem IArg.drop {w : World} {b o n ca : Nat} {A : List Int} (h : IArg w (some ⟨b, o, none⟩) n ca A) {m : Nat} (hm : m ≤ n) : IRowAt w (some ⟨b, o + m, none⟩) (n - m) (A.drop m) := by
  have hl := h.row.len
  refine ⟨by rw [List.length_drop]; omega, by have := h.row.max; omega, fun k => ?_, fun hn => ?_⟩
  · rw [el_drop]; exact h.row.small _
  · obtain ⟨b', o', e, hc⟩ := h.row.cells (by omega)
    simp only [Option.some.injEq, Addr.mk.injEq, and_true] at e
    obtain ⟨rfl, rfl⟩ := e
    refine ⟨b, o + m, rfl, fun t ht => ?_⟩
    rw [el_drop, Nat.add_assoc]
    exact hc _ (by omega)
end Go.Proofs.YtoofbjpekdlfiaaDoor

/- The table of steps lies in its block, wherever the row's listed variable reads as listed. -/
namespace Go.Proofs.YtoofbjpekdlfiaaDoor
open Go.ChangeShapes Go.WideShapes Go.ChangeAt Go.RowKit
theorem gSteps : Tryd.prog.globalNamed "tiller/curve.steps" = some 0 := by kernel_rfl
theorem tSteps : (Tryd.prog.globals[0]?).map (·.type) = some 133 := by kernel_rfl
theorem cSteps : Tryd.prog.cellsOf 133 = 65 := by kernel_rfl
theorem cNum : Tryd.prog.cellsOf 54 = 1 := by kernel_rfl
theorem tab_of_laid {W : World} (h : laidMetH Tryd.prog [("tiller/curve.steps", Rows.laid_tiller_curve_steps)] W) : Tab W := by
  rw [MakeChecks.laidMetH_plain _ _ _ (by kernel_rfl)] at h
  have h' : laidMet Tryd.prog [("tiller/curve.steps", Lib.tabData .i32 (stp.map fun (n : Nat) => (n : Int)))] W := h
  have ht := Lib.tabIs_of_head gSteps tSteps Tryd.underlying133 Tryd.underlying54 cNum cSteps h'
  unfold Lib.TabIs World.var? at ht
  rw [gSteps] at ht
  simp only [Option.bind_some] at ht
  split at ht
  · rename_i cs t fr hc
    refine ⟨t, fr, ?_⟩
    rw [hc]
    simp only [Option.some.injEq] at ht
    rw [ht]
    simp [tabCells]
  · cases ht
end Go.Proofs.YtoofbjpekdlfiaaDoor

/- An argument that is a row of whole numbers, opened once: nil, empty or not. -/
namespace Go.Proofs.YtoofbjpekdlfiaaDoor
open Go.ChangeShapes Go.WideShapes Go.ChangeAt Go.RowKit
theorem Tryd.cellsInt : Tryd.prog.cellsOf 3 = 1 := by kernel_rfl
theorem viewI_cells {H : Type} {enc : TypeId × Value → H} {W : World} {fuel : Nat} {cs : List Value} {x : DataW H × List MemPlace}
    (hf : DataW.trod enc Tryd.prog W 0 (fun _ => true) true fuel 30 cs = some x) :
    ∃ (a0 : Option Addr) (len cap : Nat) (Z : List Int), cs = [.slice a0 len cap] ∧ IArg W a0 len cap Z := by
  rcases open_ints Tryd.underlying30 Tryd.underlying3 Tryd.cellsInt hf with ⟨hcs, hx⟩ | ⟨a, len', cap', zs, hcs, _, hl, hm, hz, hx, hcell, hwz⟩
  · exact ⟨none, 0, 0, [], hcs, iarg_nil _⟩
  · simp only [if_true] at hz
    unfold maxLen at hm
    refine ⟨some a, len', cap', zs.take len', hcs, ⟨by simp; omega, by omega, fun k => ?_, fun hn => ?_⟩, hl, by omega, fun h => by cases h⟩
    · rcases Nat.lt_or_ge k (zs.take len').length with hk | hk
      · exact bounds_i64 (hwz _ (List.mem_of_mem_take (el_mem hk)))
      · rw [el_over hk]; omega
    · obtain ⟨b, o, s⟩ := a
      have h0 := hcell 0 (by omega)
      have hs : s = none := by simpa [Addr.add] using World.cell?_spot h0
      subst hs
      refine ⟨b, o, rfl, fun t ht => ?_⟩
      have e : (Addr.mk b o none).add t = ⟨b, o + t, none⟩ := by simp [Addr.add]
      rw [← e, hcell t (by omega), el_take ht]
      rfl
set_option maxRecDepth 100000 in
theorem viewI {H : Type} {enc : TypeId × Value → H} {W : World} {b0 : Nat} {v : Value} {d : DataW H} {p : List MemPlace} (hv : Value.okWide Tryd.prog W .any b0 30 v)
    (h : DataW.Trod enc Tryd.prog W 0 (fun _ => true) true 30 v d p) : ∃ (a0 : Option Addr) (len cap : Nat) (Z : List Int), v = .slice a0 len cap ∧ IArg W a0 len cap Z := by
  obtain ⟨a0, la, ca, rfl⟩ := okWide_slice Tryd.underlying30 hv
  obtain ⟨f, hf⟩ := h
  obtain ⟨a1, l1, c1, Z, e, hA⟩ := viewI_cells hf
  simp [Value.cells] at e
  obtain ⟨rfl, rfl, rfl⟩ := e
  exact ⟨_, _, _, Z, rfl, hA⟩
end Go.Proofs.YtoofbjpekdlfiaaDoor

/- Told, Of and Copy of layer 9 over any view. -/
namespace Go.Proofs.YtoofbjpekdlfiaaDoor
open Go.ChangeShapes Go.WideShapes Go.ChangeAt Go.RowKit
/-- A view that came in. -/
structure VwR (w : World) (v : VwV) (X : Vw) : Prop where
  t : IArg w v.t.ao v.t.n v.t.c X.T
  k : CubeR w v.k.ao v.k.n X.K
  v : CubeR w v.v.ao v.v.n X.V
theorem VwR.below {w w' : World} {v : VwV} {X : Vw} (h : VwR w v X) (hb : Below w.heap.size w w') : VwR w' v X := ⟨h.t.below hb, h.k.below hb, h.v.below hb⟩
theorem VwAt.raw {w : World} {v : VwV} {X : Vw} (h : VwAt w v X) : VwR w v X := ⟨h.t, h.k.raw, h.v.raw⟩
def cutVw (X : Vw) : Vw := ⟨X.T.take 130, cutC X.K 130, cutC X.V 130⟩
theorem rowsN_twice (R : List (List Int)) (n : Nat) : rowsN (rowsN R n) n = rowsN R n := by
  unfold rowsN
  rw [← List.map_take, List.take_take, Nat.min_self, List.map_map]
  congr 1
  funext l
  show List.take 40 (List.take 40 l) = List.take 40 l
  rw [List.take_take, Nat.min_self]
theorem cutC_twice (C : List (List (List Int))) (n : Nat) : cutC (cutC C n) n = cutC C n := by
  unfold cutC
  rw [← List.map_take, List.take_take, Nat.min_self, List.map_map]
  congr 1
  funext R
  exact rowsN_twice R n
theorem cutVw_twice (X : Vw) : cutVw (cutVw X) = cutVw X := by
  unfold cutVw
  simp only [cutC_twice, List.take_take, Nat.min_self]
theorem cutC_mem {C : List (List (List Int))} {n : Nat} {R : List (List Int)} (h : R ∈ cutC C n) : R.length ≤ n ∧ (∀ t, (rowOf R t).length ≤ 40) ∧ rowsN R n = R := by
  obtain ⟨S, _, rfl⟩ := List.mem_map.1 h
  exact ⟨by unfold rowsN; rw [List.length_map, List.length_take]; omega, fun t => rowsN_len S n t, rowsN_twice S n⟩
theorem cutC_at_most (C : List (List (List Int))) (n : Nat) : (cutC C n).length ≤ 5 := by rw [cutC_len]; omega
theorem ToldAt.raw {w : World} {t k v : Sl} {X : Vw} (h : ToldAt w t k v X) : VwR w ⟨t, k, v⟩ X := ⟨h.t, h.k.raw, h.v.raw⟩
theorem KV.cubeR {w : World} {g m : Nat} {p : Nat → Prop} {A C : List (List (List Int))} (h : KV w g m 0 p A C) (hl : C.length = m) (hm : m ≤ 9223372036854775807) (hr : ∀ R ∈ C, R.length ≤ 4096) : CubeAt w (some ⟨g, 0, none⟩) m C := by
  obtain ⟨cs, h1, h2, _, h4⟩ := h.row
  refine ⟨hl, hm, fun _ => ⟨g, 0, rfl, fun t R hR => ?_⟩⟩
  have ht : t < m := by have := (List.getElem?_eq_some_iff.1 hR).1; omega
  obtain ⟨ro, n, vs, e, q1, N⟩ := h4 t (by omega) ht
  have e2 : C.getD t [] = R := by rw [List.getD_eq_getElem?_getD, hR]; rfl
  rw [e2] at N
  have G := N.now.grid
  have hl2 := hr R (List.mem_of_getElem? hR)
  have hn := G.len
  refine ⟨ro, n, n, ?_, q1, Nat.le_refl _, by omega, G⟩
  rw [Nat.zero_add]
  unfold World.cell?
  simp only [h1]
  exact e
theorem cutVw_bounds {X : Vw} (hX : cutVw X = X) : X.T.length ≤ 130 ∧ X.K.length ≤ 5 ∧ X.V.length ≤ 5 ∧ (∀ R ∈ X.K, R.length ≤ 130 ∧ (∀ t, (rowOf R t).length ≤ 40) ∧ rowsN R 130 = R) ∧ ∀ R ∈ X.V, R.length ≤ 130 ∧ (∀ t, (rowOf R t).length ≤ 40) ∧ rowsN R 130 = R := by
  have h1 : X.T.take 130 = X.T := congrArg Vw.T hX
  have h2 : cutC X.K 130 = X.K := congrArg Vw.K hX
  have h3 : cutC X.V 130 = X.V := congrArg Vw.V hX
  refine ⟨by rw [← h1, List.length_take]; omega, by rw [← h2]; exact cutC_at_most _ _, by rw [← h3]; exact cutC_at_most _ _, fun R hR => cutC_mem (by rw [h2]; exact hR), fun R hR => cutC_mem (by rw [h3]; exact hR)⟩
end Go.Proofs.YtoofbjpekdlfiaaDoor

/- Arguments that are rows of rows of fixed numbers, lists of them, and views, opened once. -/
namespace Go.Proofs.YtoofbjpekdlfiaaDoor
open Go.ChangeShapes Go.WideShapes Go.ChangeAt Go.RowKit
theorem Tryd.cellsRowR : Tryd.prog.cellsOf 24 = 1 := by kernel_rfl
theorem Tryd.cellsGridR : Tryd.prog.cellsOf 55 = 1 := by kernel_rfl
theorem viewRow_cells {H : Type} {enc : TypeId × Value → H} {W : World} {fuel : Nat} {cs : List Value} {x : DataW H × List MemPlace}
    (hf : DataW.trod enc Tryd.prog W 0 (fun _ => true) true fuel 24 cs = some x) :
    ∃ (a0 : Option Addr) (len cap : Nat) (Z : List Int), cs = [.slice a0 len cap] ∧ ArgR W a0 len cap Z := by
  rcases open_ints Tryd.underlying24 Tryd.underlying54 Tryd.cellsNum hf with ⟨hcs, hx⟩ | ⟨a, len', cap', zs, hcs, _, hl, hm, hz, hx, hcell, hwz⟩
  · exact ⟨none, 0, 0, [], hcs, RowAt.nil _ _, Nat.le_refl _, by omega, fun _ => rfl⟩
  · simp only [if_true] at hz
    unfold maxLen at hm
    refine ⟨some a, len', cap', zs.take len', hcs, ⟨by simp; omega, by omega, fun y hy => bounds_i32 (hwz y (List.mem_of_mem_take hy)), fun hn => ?_⟩, hl, by omega, fun h => by cases h⟩
    obtain ⟨b, o, s⟩ := a
    have h0 := hcell 0 (by omega)
    have hs : s = none := by simpa [Addr.add] using World.cell?_spot h0
    subst hs
    refine ⟨b, o, rfl, fun t ht => ?_⟩
    have e : (Addr.mk b o none).add t = ⟨b, o + t, none⟩ := by simp [Addr.add]
    rw [← e, hcell t (by omega), el_take ht]
    rfl
theorem viewGrid_cells {H : Type} {enc : TypeId × Value → H} {W : World} {fuel : Nat} {cs : List Value} {x : DataW H × List MemPlace}
    (hf : DataW.trod enc Tryd.prog W 0 (fun _ => true) true fuel 55 cs = some x) :
    ∃ (a0 : Option Addr) (len cap : Nat) (Z : List (List Int)), cs = [.slice a0 len cap] ∧ (a0 = none → cap = 0) ∧ len ≤ cap ∧ cap ≤ 9223372036854775807 ∧ GridR W a0 len Z := by
  rcases Deep.open_slice1 Tryd.underlying55 Tryd.cellsRowR hf with ⟨hcs, hx⟩ | ⟨a, len, cap, m, n, V, D, Pl, rfl, hb, hl, hm, hmm, rfl, hx⟩
  · exact ⟨none, 0, 0, [], hcs, fun _ => rfl, Nat.le_refl _, by omega, GridR.nil _ _⟩
  · simp only [if_true] at hmm
    subst hmm
    unfold maxLen at hm
    have each : ∀ i, i < m → ∃ z : (Option Addr × Nat × Nat × List Int), W.cell? (a.add i) = some (.slice z.1 z.2.1 z.2.2.1) ∧ ArgR W z.1 z.2.1 z.2.2.1 z.2.2.2 := fun i hi => by
      obtain ⟨h1, h2⟩ := hx i hi
      obtain ⟨a0, l, c, Z, e, hA⟩ := viewRow_cells h2
      simp only [List.cons.injEq, and_true] at e
      exact ⟨(a0, l, c, Z), by rw [h1, e], hA⟩
    obtain ⟨q, hq⟩ := Deep.choose_lt each
    refine ⟨some a, len, m, (List.range len).map fun t => (q t).2.2.2, rfl, (fun h => by cases h), hl, by omega, by simp, by omega, fun hn => ?_⟩
    obtain ⟨b, o, s⟩ := a
    have h0 := (hq 0 (by omega)).1
    have hs : s = none := by simpa [Addr.add] using World.cell?_spot h0
    subst hs
    refine ⟨b, o, rfl, fun t ht => ?_⟩
    obtain ⟨h1, h2⟩ := hq t (by omega)
    have e : (Addr.mk b o none).add t = ⟨b, o + t, none⟩ := by simp [Addr.add]
    have er : rowOf ((List.range len).map fun t => (q t).2.2.2) t = (q t).2.2.2 := by unfold rowOf; simp [List.getD_eq_getElem?_getD, ht]
    rw [er, ← e]
    exact ⟨_, _, _, h1, h2⟩
theorem viewCube_cells {H : Type} {enc : TypeId × Value → H} {W : World} {fuel : Nat} {cs : List Value} {x : DataW H × List MemPlace}
    (hf : DataW.trod enc Tryd.prog W 0 (fun _ => true) true fuel 38 cs = some x) :
    ∃ (a0 : Option Addr) (len cap : Nat) (Z : List (List (List Int))), cs = [.slice a0 len cap] ∧ (a0 = none → cap = 0) ∧ len ≤ cap ∧ cap ≤ 9223372036854775807 ∧ CubeR W a0 len Z := by
  rcases Deep.open_slice1 Tryd.underlying38 Tryd.cellsGridR hf with ⟨hcs, hx⟩ | ⟨a, len, cap, m, n, V, D, Pl, rfl, hb, hl, hm, hmm, rfl, hx⟩
  · exact ⟨none, 0, 0, [], hcs, fun _ => rfl, Nat.le_refl _, by omega, CubeR.nil _ _⟩
  · simp only [if_true] at hmm
    subst hmm
    unfold maxLen at hm
    have each : ∀ i, i < m → ∃ z : (Option Addr × Nat × Nat × List (List Int)), W.cell? (a.add i) = some (.slice z.1 z.2.1 z.2.2.1) ∧ (z.1 = none → z.2.2.1 = 0) ∧ z.2.1 ≤ z.2.2.1 ∧ z.2.2.1 ≤ 9223372036854775807 ∧ GridR W z.1 z.2.1 z.2.2.2 := fun i hi => by
      obtain ⟨h1, h2⟩ := hx i hi
      obtain ⟨a0, l, c, Z, e, e1, e2, e3, hA⟩ := viewGrid_cells h2
      simp only [List.cons.injEq, and_true] at e
      exact ⟨(a0, l, c, Z), by rw [h1, e], e1, e2, e3, hA⟩
    obtain ⟨q, hq⟩ := Deep.choose_lt each
    refine ⟨some a, len, m, (List.range len).map fun t => (q t).2.2.2, rfl, (fun h => by cases h), hl, by omega, by simp, by omega, fun hn => ?_⟩
    obtain ⟨b, o, s⟩ := a
    have h0 := (hq 0 (by omega)).1
    have hs : s = none := by simpa [Addr.add] using World.cell?_spot h0
    subst hs
    refine ⟨b, o, rfl, fun t R hR => ?_⟩
    have ht : t < len := by have := (List.getElem?_eq_some_iff.1 hR).1; simpa using this
    obtain ⟨h1, h2, h3, h4, h5⟩ := hq t (by omega)
    have e : (Addr.mk b o none).add t = ⟨b, o + t, none⟩ := by simp [Addr.add]
    have er : R = (q t).2.2.2 := by simpa [ht] using hR.symm
    rw [er, ← e]
    exact ⟨_, _, _, h1, h2, h3, h4, h5⟩
theorem Tryd.cellsSl3 : Tryd.prog.cellsOf 30 = 1 := by kernel_rfl
theorem Tryd.cellsCubeR : Tryd.prog.cellsOf 38 = 1 := by kernel_rfl
theorem Tryd.cellsCacheR : Tryd.prog.cellsOf 40 = 2 := by kernel_rfl
set_option maxRecDepth 100000 in
theorem viewCache_cells {H : Type} {enc : TypeId × Value → H} {W : World} {fuel : Nat} {cs : List Value} {x : DataW H × List MemPlace}
    (hf : DataW.trod enc Tryd.prog W 0 (fun _ => true) true fuel 40 cs = some x) :
    ∃ (k v : Sl) (K V : List (List (List Int))), cs = [k.v, v.v] ∧ CubeR W k.ao k.n K ∧ CubeR W v.ao v.n V := by
  obtain ⟨y0, y1, n, rfl, hl, h0, h1⟩ := trod_struct2 Tryd.underlying40 hf
  rw [Tryd.cellsCacheR] at hl
  match cs, hl with
  | [c0, c1], _ =>
    simp [Tryd.cellsCubeR] at h0 h1
    obtain ⟨a0, l0, q0, Z0, e0, -, -, -, k0⟩ := viewCube_cells h0
    obtain ⟨a1, l1, q1, Z1, e1, -, -, -, k1⟩ := viewCube_cells h1
    simp only [List.cons.injEq, and_true] at e0 e1
    subst e0 e1
    exact ⟨⟨a0, l0, q0⟩, ⟨a1, l1, q1⟩, Z0, Z1, rfl, k0, k1⟩
end Go.Proofs.YtoofbjpekdlfiaaDoor

/- An argument that is a model's numbers, opened once. -/
namespace Go.Proofs.YtoofbjpekdlfiaaDoor
open Go.ChangeShapes Go.WideShapes Go.ChangeAt Go.RowKit
theorem Tryd.cellsMatW : Tryd.prog.cellsOf 26 = 3 := by kernel_rfl
theorem Tryd.cellsBlkW : Tryd.prog.cellsOf 59 = 20 := by kernel_rfl
theorem Tryd.cellsBlksW : Tryd.prog.cellsOf 27 = 1 := by kernel_rfl
theorem Tryd.cellsWW : Tryd.prog.cellsOf 29 = 8 := by kernel_rfl
theorem Tryd.cellsIntW : Tryd.prog.cellsOf 3 = 1 := by kernel_rfl
set_option maxRecDepth 100000 in
theorem viewMtW_cells {H : Type} {enc : TypeId × Value → H} {W : World} {fuel : Nat} {cs : List Value} {x : DataW H × List MemPlace}
    (hf : DataW.trod enc Tryd.prog W 0 (fun _ => true) true fuel 26 cs = some x) :
    ∃ (m : Mt) (Z : List Int), cs = [.int .i64 m.r, .int .i64 m.c, m.d.v] ∧ m.Ok ∧ ArgR W m.d.ao m.d.n m.d.c Z := by
  obtain ⟨y0, y1, y2, n, rfl, hl, h0, h1, h2⟩ := Deep.trod_struct3 Tryd.underlying26 hf
  rw [Tryd.cellsMatW] at hl
  match cs, hl with
  | [c0, c1, c2], _ =>
    simp [Tryd.cellsIntW, Tryd.cellsRowR] at h0 h1 h2
    obtain ⟨r, e0, _, w0⟩ := DataW.trod_int Tryd.underlying3 h0
    obtain ⟨c, e1, _, w1⟩ := DataW.trod_int Tryd.underlying3 h1
    obtain ⟨a, l, cp, Z, e2, hA⟩ := viewRow_cells h2
    simp only [List.cons.injEq, and_true] at e0 e1 e2
    subst e0 e1 e2
    exact ⟨⟨r, c, ⟨a, l, cp⟩⟩, Z, rfl, ⟨bounds_i64 w0, bounds_i64 w1⟩, hA⟩
set_option maxRecDepth 100000 in
set_option maxHeartbeats 1600000 in
theorem viewBk_cells {H : Type} {enc : TypeId × Value → H} {W : World} {fuel : Nat} {cs : List Value} {x : DataW H × List MemPlace}
    (hf : DataW.trod enc Tryd.prog W 0 (fun _ => true) true fuel 59 cs = some x) :
    ∃ (b : Bk) (y : Lay), cs = b.cells.toList ∧ b.Ok ∧ LyR W b y := by
  obtain ⟨xs, n, _, rfl, hl, hxl, hff⟩ := DataW.trod_struct Tryd.underlying59 hf
  rw [Tryd.cellsBlkW] at hl
  match xs, hxl, cs, hl with
  | [y0, y1, y2, y3, y4, y5, y6, y7], _, [c0, c1, c2, c3, c4, c5, c6, c7, c8, c9, c10, c11, c12, c13, c14, c15, c16, c17, c18, c19], _ =>
    have g0 := hff 0 _ rfl
    have g1 := hff 1 _ rfl
    have g2 := hff 2 _ rfl
    have g3 := hff 3 _ rfl
    have g4 := hff 4 _ rfl
    have g5 := hff 5 _ rfl
    have g6 := hff 6 _ rfl
    have g7 := hff 7 _ rfl
    simp [Tryd.cellsMatW, Tryd.cellsRowR] at g0 g1 g2 g3 g4 g5 g6 g7
    obtain ⟨aaf, llf, ppf, Zf, ef, hhf⟩ := viewRow_cells g0
    obtain ⟨mq, Zq, eq, oq, hhq⟩ := viewMtW_cells g1
    obtain ⟨mk, Zk, ek, ok, hhk⟩ := viewMtW_cells g2
    obtain ⟨mv, Zv, ev, ov, hhv⟩ := viewMtW_cells g3
    obtain ⟨mo, Zo, eo, oo, hho⟩ := viewMtW_cells g4
    obtain ⟨aas, lls, pps, Zs, es, hhs⟩ := viewRow_cells g5
    obtain ⟨mu, Zu, eu, ou, hhu⟩ := viewMtW_cells g6
    obtain ⟨md, Zd, ed, od, hhd⟩ := viewMtW_cells g7
    simp only [List.cons.injEq, and_true] at ef eq ek ev eo es eu ed
    subst ef
    obtain ⟨rfl, rfl, rfl⟩ := eq
    obtain ⟨rfl, rfl, rfl⟩ := ek
    obtain ⟨rfl, rfl, rfl⟩ := ev
    obtain ⟨rfl, rfl, rfl⟩ := eo
    subst es
    obtain ⟨rfl, rfl, rfl⟩ := eu
    obtain ⟨rfl, rfl, rfl⟩ := ed
    exact ⟨⟨⟨aaf, llf, ppf⟩, mq, mk, mv, mo, ⟨aas, lls, pps⟩, mu, md⟩, ⟨Zf, Zq, Zk, Zv, Zo, Zs, Zu, Zd⟩, rfl, ⟨by have := hhf.row.max; exact this, oq, ok, ov, oo, by have := hhs.row.max; exact this, ou, od⟩, ⟨hhf, hhq, hhk, hhv, hho, hhs, hhu, hhd⟩⟩
set_option maxRecDepth 100000 in
theorem viewBks_cells {H : Type} {enc : TypeId × Value → H} {W : World} {fuel : Nat} {cs : List Value} {x : DataW H × List MemPlace}
    (hf : DataW.trod enc Tryd.prog W 0 (fun _ => true) true fuel 27 cs = some x) :
    ∃ (s : Sl) (bs : List Bk) (Ls : List Lay), cs = [s.v] ∧ BlocksAt W s bs ∧ bs.length = Ls.length ∧ (∀ (t : Nat) (x : Bk), bs[t]? = some x → ∃ y, Ls[t]? = some y ∧ LyR W x y) := by
  rcases Deep.open_slice Tryd.underlying27 hf with ⟨hcs, hx⟩ | ⟨a, len, cap, m, n, D, Pl, rfl, hb, hl, hm, hmm, rfl, hx⟩
  · exact ⟨⟨none, 0, 0⟩, [], [], hcs, ⟨rfl, by show 0 ≤ _; omega, (fun x hx => by cases hx), fun h => absurd h (by show ¬ 0 < 0; omega)⟩, rfl, fun t x h => by simp at h⟩
  · simp only [if_true] at hmm
    subst hmm
    unfold maxLen at hm
    have each : ∀ i, i < m → ∃ z : Bk × Lay, (∀ j v, z.1.cells.toList[j]? = some v → W.cell? (a.add (i * 20 + j)) = some v) ∧ z.1.Ok ∧ LyR W z.1 z.2 := by
      intro i hi
      obtain ⟨cs', h1, h2⟩ := hx i hi
      rw [Tryd.cellsBlkW] at h1
      obtain ⟨_, hlen, hcell⟩ := World.cells?_some h1
      obtain ⟨b, y, rfl, hok, hA⟩ := viewBk_cells h2
      refine ⟨(b, y), fun j v hj => ?_, hok, hA⟩
      have hj2 : j < 20 := (List.getElem?_eq_some_iff.1 hj).1
      have cj := hcell j (by omega)
      rw [Deep.add_add] at cj
      rw [cj]
      exact hj
    haveI : Inhabited (Bk × Lay) := ⟨(⟨⟨none, 0, 0⟩, ⟨0, 0, ⟨none, 0, 0⟩⟩, ⟨0, 0, ⟨none, 0, 0⟩⟩, ⟨0, 0, ⟨none, 0, 0⟩⟩, ⟨0, 0, ⟨none, 0, 0⟩⟩, ⟨none, 0, 0⟩, ⟨0, 0, ⟨none, 0, 0⟩⟩, ⟨0, 0, ⟨none, 0, 0⟩⟩⟩, ⟨[], [], [], [], [], [], [], []⟩)⟩
    obtain ⟨q, hq⟩ := Deep.choose_lt each
    have hat : ∀ {t : Nat} {x : Bk}, ((List.range len).map fun t => (q t).1)[t]? = some x → t < len ∧ x = (q t).1 := fun {t x} h => by
      have ht : t < len := by have := (List.getElem?_eq_some_iff.1 h).1; simpa using this
      exact ⟨ht, by simpa [ht] using h.symm⟩
    refine ⟨⟨some a, len, m⟩, (List.range len).map fun t => (q t).1, (List.range len).map fun t => (q t).2, rfl, ⟨by simp, by show len ≤ _; omega, fun x hx => ?_, fun hn => ?_⟩, by simp, fun t x hx => ?_⟩
    · obtain ⟨t, ht, rfl⟩ := List.mem_map.1 hx
      exact (hq t (by have := List.mem_range.1 ht; omega)).2.1
    · have hn' : 0 < len := hn
      obtain ⟨b, o, s⟩ := a
      have h0 := (hq 0 (by omega)).1 0 _ rfl
      have hs : s = none := by simpa [Addr.add] using World.cell?_spot h0
      subst hs
      refine ⟨b, o, rfl, fun t x hx j v hj => ?_⟩
      obtain ⟨ht, rfl⟩ := hat hx
      have := (hq t (by omega)).1 j v hj
      have e : (Addr.mk b o none).add (t * 20 + j) = ⟨b, o + t * 20 + j, none⟩ := by simp [Addr.add, Nat.add_assoc]
      rw [← e]
      exact this
    · obtain ⟨ht, rfl⟩ := hat hx
      exact ⟨(q t).2, by simp [ht], (hq t (by omega)).2.2⟩
set_option maxRecDepth 100000 in
set_option maxHeartbeats 1600000 in
theorem viewWt {H : Type} {enc : TypeId × Value → H} {W : World} {b0 : Nat} {v : Value} {d : DataW H} {p : List MemPlace} (hv : Value.okWide Tryd.prog W .any b0 29 v)
    (h : DataW.Trod enc Tryd.prog W 0 (fun _ => true) true 29 v d p) : ∃ (V : Wt) (X : List Bk × Mdl), v = .agg V.cells ∧ WtR W V X.1 X.2 := by
  obtain ⟨cs, rfl, hsz⟩ := okWide_struct Tryd.underlying29 hv
  obtain ⟨f, hf⟩ := h
  obtain ⟨xs, n, _, _, hl, hxl, hff⟩ := DataW.trod_struct Tryd.underlying29 hf
  rw [Tryd.cellsWW] at hl
  simp only [Value.cells] at hl hff
  generalize hcs : cs.toList = L at *
  match xs, hxl, L, hl with
  | [y0, y1, y2, y3], _, [c0, c1, c2, c3, c4, c5, c6, c7], _ =>
    have g0 := hff 0 _ rfl
    have g1 := hff 1 _ rfl
    have g2 := hff 2 _ rfl
    have g3 := hff 3 _ rfl
    simp [Tryd.cellsMatW, Tryd.cellsRowR, Tryd.cellsBlksW] at g0 g1 g2 g3
    obtain ⟨me, Ze, ee, oe, he⟩ := viewMtW_cells g0
    obtain ⟨s, bs, Ls, eb, hb, hlen, hbs⟩ := viewBks_cells g1
    obtain ⟨al, ll, pl, Zl, el', hl'⟩ := viewRow_cells g2
    obtain ⟨mo, Zo, eo, oo, ho⟩ := viewMtW_cells g3
    simp only [List.cons.injEq, and_true] at ee eb el' eo
    obtain ⟨rfl, rfl, rfl⟩ := ee
    obtain ⟨rfl, rfl, rfl⟩ := eo
    subst eb el'
    refine ⟨⟨me, s, ⟨al, ll, pl⟩, mo⟩, (bs, ⟨Ze, Ls, Zl, Zo⟩), ?_, ⟨⟨oe, by have := hl'.row.max; exact this, oo⟩, he, hb, hlen, hbs, hl', ho⟩⟩
    congr 1
    exact Array.toList_inj.1 (by rw [hcs]; rfl)
end Go.Proofs.YtoofbjpekdlfiaaDoor
