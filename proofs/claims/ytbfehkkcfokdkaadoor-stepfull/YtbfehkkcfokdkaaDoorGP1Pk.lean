/- Small shapes, and rows of tokens that are the same. -/
import Derived.Test.YtbfehkkcfokdkaaDoorFull2Pk
import Derived.Test.YtbfehkkcfokdkaaDoorPk7
import Derived.Test.YtbfehkkcfokdkaaDoorPk2
import Derived.Test.YtbfehkkcfokdkaaDoorPk4
import Derived.Test.YtbfehkkcfokdkaaDoorPk3
import Derived.Test.YtbfehkkcfokdkaaDoorPk5
/- THE CACHE: token by token the same comes out as from the beginning. -/
namespace Go.Proofs.YtbfehkkcfokdkaaDoor
open Go.ChangeShapes Go.WideShapes Go.ChangeAt Go.RowKit
theorem rowOf_left {R S : List (List Int)} {t : Nat} (h : t < R.length) : rowOf (R ++ S) t = rowOf R t := by
  unfold rowOf
  simp only [List.getD_eq_getElem?_getD, List.getElem?_append_left h]
theorem rowOf_last (R : List (List Int)) (x : List Int) : rowOf (R ++ [x]) R.length = x := by
  unfold rowOf
  simp
theorem madeR_snoc (L : Lay) (D H Hd : Nat) (R : List (List Int)) (x : List Int) : madeR L D H Hd (R ++ [x]) = madeR L D H Hd R ++ [oneR L D H Hd x (keysR L D R) (valsR L D R) R.length] := by
  have tk : ∀ i, i ≤ R.length → (keysR L D (R ++ [x])).take i = (keysR L D R).take i := fun i hi => by
    unfold keysR
    rw [List.map_append, List.take_append_of_le_length (by simpa using hi)]
  have tv : ∀ i, i ≤ R.length → (valsR L D (R ++ [x])).take i = (valsR L D R).take i := fun i hi => by
    unfold valsR
    rw [List.map_append, List.take_append_of_le_length (by simpa using hi)]
  unfold madeR
  rw [List.length_append, List.length_singleton, List.range_succ, List.map_append]
  congr 1
  · refine List.map_congr_left fun i hi => ?_
    have hi' : i < R.length := List.mem_range.1 hi
    rw [rowOf_left hi', tk i (by omega), tv i (by omega)]
  · have ek : (keysR L D R).take R.length = keysR L D R := List.take_of_length_le (by unfold keysR; simp)
    have ev : (valsR L D R).take R.length = valsR L D R := List.take_of_length_le (by unfold valsR; simp)
    simp only [List.map_cons, List.map_nil]
    rw [rowOf_last, tk _ (Nat.le_refl _), tv _ (Nat.le_refl _), ek, ev]
theorem begL_snoc (E : List Int) (D : Nat) (A : List Int) (t : Int) : begL E D (A ++ [t]) = begL E D A ++ [begR E D t.toNat A.length] := by
  unfold begL
  rw [List.length_append, List.length_singleton, List.range_succ, List.map_append]
  congr 1
  · refine List.map_congr_left fun i hi => ?_
    rw [el_append_left (List.mem_range.1 hi)]
  · simp only [List.map_cons, List.map_nil]
    have := el_append_right (A := A) (B := [t]) (k := 0)
    rw [Nat.add_zero] at this
    rw [this]
    rfl
/-- The lists of a view are what the layers make of its rows. -/
def Cached (M : Mdl) (D H Hd L : Nat) (X : Vw) (A : List Int) : Prop := X.T = A ∧ (∀ l, l < L → X.K.getD l [] = keysR (layAt M l) D (rowsL M D H Hd A l)) ∧ ∀ l, l < L → X.V.getD l [] = valsR (layAt M l) D (rowsL M D H Hd A l)
theorem rowsL_snoc {M : Mdl} {D H Hd L : Nat} {X : Vw} {A : List Int} (h : Cached M D H Hd L X A) (t : Int) : ∀ l, l ≤ L → rowsL M D H Hd (A ++ [t]) l = rowsL M D H Hd A l ++ [xRow M D H Hd A.length X.K X.V (begR M.E D t.toNat A.length) l]
  | 0, _ => begL_snoc M.E D A t
  | l + 1, hl => by
    have ih := rowsL_snoc h t l (by omega)
    show madeR (layAt M l) D H Hd (rowsL M D H Hd (A ++ [t]) l) = madeR (layAt M l) D H Hd (rowsL M D H Hd A l) ++ [oneR (layAt M l) D H Hd (xRow M D H Hd A.length X.K X.V (begR M.E D t.toNat A.length) l) (X.K.getD l []) (X.V.getD l []) A.length]
    rw [ih, madeR_snoc, rowsL_len, h.2.1 l (by omega), h.2.2 l (by omega)]
theorem cached_none (M : Mdl) (D H Hd L : Nat) : Cached M D H Hd L noX [] := by
  have e : ∀ l, rowsL M D H Hd [] l = [] := fun l => List.length_eq_zero_iff.1 (rowsL_len M D H Hd [] l)
  exact ⟨rfl, fun l _ => by rw [e]; rfl, fun l _ => by rw [e]; rfl⟩
theorem cached_feed {M : Mdl} {D H Hd L : Nat} {X : Vw} {A : List Int} (h : Cached M D H Hd L X A) {t : Int} (ht : 0 ≤ t) : Cached M D H Hd L (feedV M D H Hd L X t.toNat) (A ++ [t]) := by
  obtain ⟨rfl, h2, h3⟩ := h
  refine ⟨?_, fun l hl => ?_, fun l hl => ?_⟩
  · show X.T ++ [((t.toNat : Nat) : Int)] = X.T ++ [t]
    rw [Int.toNat_of_nonneg ht]
  · show (newK M D H Hd X.T.length L X.K X.V (begR M.E D t.toNat X.T.length)).getD l [] = _
    rw [newK_at _ _ _ _ _ _ _ _ _ hl, rowsL_snoc ⟨rfl, h2, h3⟩ t l (by omega), h2 l hl]
    unfold keysR
    rw [List.map_append]
    rfl
  · show (newV M D H Hd X.T.length L X.K X.V (begR M.E D t.toNat X.T.length)).getD l [] = _
    rw [newV_at _ _ _ _ _ _ _ _ _ hl, rowsL_snoc ⟨rfl, h2, h3⟩ t l (by omega), h3 l hl]
    unfold valsR
    rw [List.map_append]
    rfl
theorem cached_all {M : Mdl} {D H Hd L : Nat} (B : List Int) : ∀ {X : Vw} {A : List Int}, Cached M D H Hd L X A → (∀ x ∈ B, 0 ≤ x) → Cached M D H Hd L (feedAll M D H Hd L X B) (A ++ B) := by
  induction B with
  | nil => intro X A h _; rw [List.append_nil]; exact h
  | cons b B ih =>
    intro X A h hb
    have h1 := cached_feed h (hb b (List.mem_cons_self ..))
    have h2 := ih h1 fun x hx => hb x (List.mem_cons_of_mem _ hx)
    rw [List.append_assoc] at h2
    exact h2
theorem feedX_last {M : Mdl} {D H Hd L : Nat} {X : Vw} {A : List Int} (h : Cached M D H Hd L X A) (t : Int) : feedX M D H Hd L X t.toNat = rowOf (rowsL M D H Hd (A ++ [t]) L) A.length := by
  rw [rowsL_snoc h t L (Nat.le_refl _)]
  have := rowOf_last (rowsL M D H Hd A L) (xRow M D H Hd A.length X.K X.V (begR M.E D t.toNat A.length) L)
  rw [rowsL_len] at this
  rw [this]
  show xRow M D H Hd X.T.length X.K X.V (begR M.E D t.toNat X.T.length) L = _
  rw [h.1]
theorem fullX_last {M : Mdl} {V D H Hd L : Nat} {X : Vw} {A : List Int} (h : Cached M D H Hd L X A) (t : Int) : likR M V D (feedX M D H Hd L X t.toNat) = fullX M V D H Hd L (A ++ [t]) := by
  unfold fullX
  rw [feedX_last h t, List.length_append, List.length_singleton, Nat.add_sub_cancel]
end Go.Proofs.YtbfehkkcfokdkaaDoor

/- The awake check of the laws of layer 9 is true. -/
namespace Go.Proofs.YtbfehkkcfokdkaaDoor
open Go.ChangeShapes Go.WideShapes Go.ChangeAt Go.RowKit
theorem noV_at (w : World) : VwAt w ⟨⟨none, 0, 0⟩, ⟨none, 0, 0⟩, ⟨none, 0, 0⟩⟩ noX := ⟨iarg_nil _, ⟨rfl, by show 0 ≤ _; omega, fun h => absurd (show 0 < 0 from h) (by omega)⟩, ⟨rfl, by show 0 ≤ _; omega, fun h => absurd (show 0 < 0 from h) (by omega)⟩⟩
set_option maxRecDepth 100000 in
set_option maxHeartbeats 1600000 in
theorem sawake_any (w : World) (hT : Tab w) : Calls Tryd.prog 8 #[] w fun e w' => e = .returned (.bool true) ∧ Below w.heap.size w w' := by
  have X0 := blk_new w 23 #[.int .i64 2, .int .i64 1, .int .i64 1, .int .i64 1, .int .i64 1]
  have B0 : Below w.heap.size w (w.alloc (.cells #[.int .i64 2, .int .i64 1, .int .i64 1, .int .i64 1, .int .i64 1] 23)) := (Below.refl _ _).alloc (Nat.le_refl _) _
  generalize hw0 : w.alloc (.cells #[.int .i64 2, .int .i64 1, .int .i64 1, .int .i64 1, .int .i64 1] 23) = w0 at *
  have a0 : w0.cell? ⟨w.heap.size, 0, none⟩ = some (.int .i64 2) := X0.cell 0 rfl
  have a1 : w0.cell? ⟨w.heap.size, 1, none⟩ = some (.int .i64 1) := X0.cell 1 rfl
  have a2 : w0.cell? ⟨w.heap.size, 2, none⟩ = some (.int .i64 1) := X0.cell 2 rfl
  have a3 : w0.cell? ⟨w.heap.size, 3, none⟩ = some (.int .i64 1) := X0.cell 3 rfl
  have a4 : w0.cell? ⟨w.heap.size, 4, none⟩ = some (.int .i64 1) := X0.cell 4 rfl
  have HT : Hid (∀ wv, Below w.heap.size w wv → Tab wv) := fun wv hb => hT.next hb
  clear hT
  go_enter Tryd.func8, Tryd.ntmps8
  go_wp2_with fail
  refine (make_small _).mono ?_
  rintro e w1 ⟨W, bs, M, rfl, G1, B1⟩
  replace X0 := X0.below B1
  have D1 := below_then B0 B1
  clear hw0 a0 a1 a2 a3 a4 B0 B1
  have siz : W.cells.size = 8 := rfl
  have one := wt_one W
  have CF := fun (wv : World) (hg : Good wv 2 1 1 1 1 W bs M) (hT : Tab wv) => feed_ok 2 1 1 1 1 W bs M ⟨⟨none, 0, 0⟩, ⟨none, 0, 0⟩, ⟨none, 0, 0⟩⟩ noX 1 wv hT (by show 0 ≤ 127; omega) (by omega) hg (noV_at wv) (noX_fit _ _ _)
  have CB := fun (wv : World) (hg : Good wv 2 1 1 1 1 W bs M) => feed_tok 2 1 1 1 1 W bs M ⟨⟨none, 0, 0⟩, ⟨none, 0, 0⟩, ⟨none, 0, 0⟩⟩ noX 2 wv (by show 0 ≤ 127; omega) (by decide) hg (noV_at wv) (noX_fit _ _ _)
  have CU := fun (wv : World) (hg : Good wv 2 1 1 1 1 W bs M) (hT : Tab wv) (ao : Option Addr) (ha : IArg wv ao 1 1 [1]) => full_ok 2 1 1 1 1 W bs M ao 1 1 [1] wv hg ha hT (by decide)
  have HE : Hid (likR M 2 1 (feedX M 1 1 1 1 noX 1) = fullX M 2 1 1 1 1 [1]) := fullX_last (cached_none M 1 1 1 1) 1
  have HTl : Hid ((feedV M 1 1 1 1 noX 1).T = [1]) := rfl
  unfold cfgC at CF CB CU
  unfold VwV.cells Sl.v at CF CB
  unfold noV at CB
  simp only at CF CB
  generalize hws : W.cells = ws at *
  have XA1 := blk_new w1 32 #[.int .i64 0, .int .i64 0, .slice none 0 0, .slice none 0 0, .slice none 0 0, .int .i64 0, .int .i64 0, .slice none 0 0]
  have BA1 : Below w1.heap.size w1 (w1.alloc (.cells #[.int .i64 0, .int .i64 0, .slice none 0 0, .slice none 0 0, .slice none 0 0, .int .i64 0, .int .i64 0, .slice none 0 0] 32)) := (Below.refl _ _).alloc (Nat.le_refl _) _
  generalize hwa1 : w1.alloc (.cells #[.int .i64 0, .int .i64 0, .slice none 0 0, .slice none 0 0, .slice none 0 0, .int .i64 0, .int .i64 0, .slice none 0 0] 32) = wa1 at *
  have XB1 := XA1.row ws
  have BB1 := below_setRow BA1 (Nat.le_refl _) ws
  generalize hwb1 : wa1.setRow w1.heap.size ws = wb1 at *
  have XR := XB1
  replace X0 := X0.below BB1
  have D2 := below_then D1 BB1
  have G2 := G1.below BB1
  have a0 : wb1.cell? ⟨w.heap.size, 0, none⟩ = some (.int .i64 2) := X0.cell 0 rfl
  have a1 : wb1.cell? ⟨w.heap.size, 1, none⟩ = some (.int .i64 1) := X0.cell 1 rfl
  have a2 : wb1.cell? ⟨w.heap.size, 2, none⟩ = some (.int .i64 1) := X0.cell 2 rfl
  have a3 : wb1.cell? ⟨w.heap.size, 3, none⟩ = some (.int .i64 1) := X0.cell 3 rfl
  have a4 : wb1.cell? ⟨w.heap.size, 4, none⟩ = some (.int .i64 1) := X0.cell 4 rfl
  go_wp2_with (first | (refine wpList_store_row rfl 32 _ _ rfl w1.heap.size ws rfl rfl 32 _ XA1 (by rw [siz]; exact Tryd.infoW) (by rw [siz]; rfl) one ?_; rw [hwb1]) | (refine wpList_load_row rfl 32 _ rfl w1.heap.size rfl 32 ws (0, 0) _ XR Tryd.underlying32 rfl (by rw [siz]; exact Tryd.infoW) ?_))
  refine (CF _ G2 (HT.out _ D2)).mono ?_
  rintro e w4 ⟨vv, g4, rfl, N4, F4, B4⟩
  have hT4 := N4.now.t
  have onev := vwv_one vv
  have sizv := vwv_size vv
  obtain ⟨⟨ta, tn, tz⟩, ⟨ka, kn, kz⟩, ⟨va, vn, vz⟩⟩ := vv
  simp only at hT4
  have htn : tn = 1 := by have h9 := hT4.row.len; rw [HTl.out] at h9; exact h9.symm
  subst htn
  replace X0 := X0.below B4
  replace XR := XR.below B4
  have D4 := below_then D2 B4
  have G4 := G2.below B4
  rw [HE.out] at F4
  clear hwa1 hwb1 a0 a1 a2 a3 a4 CF N4 hT4 XA1 BA1 XB1 BB1 D1 D2 G1 G2 HTl HE B4
  unfold VwV.cells Sl.v at onev sizv
  simp only at onev sizv
  have XA2 := blk_new w4 42 #[.slice none 0 0, .slice none 0 0, .slice none 0 0]
  have BA2 : Below w4.heap.size w4 (w4.alloc (.cells #[.slice none 0 0, .slice none 0 0, .slice none 0 0] 42)) := (Below.refl _ _).alloc (Nat.le_refl _) _
  generalize hwa2 : w4.alloc (.cells #[.slice none 0 0, .slice none 0 0, .slice none 0 0] 42) = wa2 at *
  have XB2 := XA2.row #[.slice ta 1 tz, .slice ka kn kz, .slice va vn vz]
  have BB2 := below_setRow BA2 (Nat.le_refl _) #[.slice ta 1 tz, .slice ka kn kz, .slice va vn vz]
  generalize hwb2 : wa2.setRow w4.heap.size #[.slice ta 1 tz, .slice ka kn kz, .slice va vn vz] = wb2 at *
  replace X0 := X0.below BB2
  replace XR := XR.below BB2
  replace D4 := below_then D4 BB2
  replace G4 := G4.below BB2
  replace F4 := F4.below BB2
  have XV := XB2
  have XT := blk_new wb2 3 #[.int .i64 1]
  have BT : Below wb2.heap.size wb2 (wb2.alloc (.cells #[.int .i64 1] 3)) := (Below.refl _ _).alloc (Nat.le_refl _) _
  generalize hwt : wb2.alloc (.cells #[.int .i64 1] 3) = wt at *
  have a0 : wb2.cell? ⟨w.heap.size, 0, none⟩ = some (.int .i64 2) := X0.cell 0 rfl
  have a1 : wb2.cell? ⟨w.heap.size, 1, none⟩ = some (.int .i64 1) := X0.cell 1 rfl
  have a2 : wb2.cell? ⟨w.heap.size, 2, none⟩ = some (.int .i64 1) := X0.cell 2 rfl
  have a3 : wb2.cell? ⟨w.heap.size, 3, none⟩ = some (.int .i64 1) := X0.cell 3 rfl
  have a4 : wb2.cell? ⟨w.heap.size, 4, none⟩ = some (.int .i64 1) := X0.cell 4 rfl
  go_wp2_with (first | (refine wpList_store_row rfl 42 _ _ rfl w4.heap.size #[.slice ta 1 tz, .slice ka kn kz, .slice va vn vz] rfl rfl 42 _ XA2 Tryd.infoV rfl onev ?_; rw [hwb2]) | (refine wpList_load_row rfl 32 _ rfl w1.heap.size rfl 32 ws (0, 0) _ XR Tryd.underlying32 rfl (by rw [siz]; exact Tryd.infoW) ?_))
  have D5 := below_then D4 BT
  refine (CU _ (G4.below BT) (HT.out _ D5) _ (iarg_one XT (by omega) (by omega))).mono ?_
  rintro e w6 ⟨g6, gK, gV, rfl, F6, N6, N7, B6⟩
  replace X0 := (X0.below BT).below B6
  replace XR := (XR.below BT).below B6
  replace XV := (XV.below BT).below B6
  have F5 := (F4.below BT).below B6
  have D6 := below_then D5 B6
  have G6 := (G4.below BT).below B6
  clear hwa2 hwb2 hwt a0 a1 a2 a3 a4 CU N6 N7 XA2 BA2 XB2 BB2 XT BT D4 D5 G4 F4 B6
  have XA3 := blk_new w6 40 #[.slice none 0 0, .slice none 0 0]
  have BA3 : Below w6.heap.size w6 (w6.alloc (.cells #[.slice none 0 0, .slice none 0 0] 40)) := (Below.refl _ _).alloc (Nat.le_refl _) _
  generalize hwa3 : w6.alloc (.cells #[.slice none 0 0, .slice none 0 0] 40) = wa3 at *
  have XB3 := XA3.row #[.slice (some ⟨gK, 0, none⟩) 1 1, .slice (some ⟨gV, 0, none⟩) 1 1]
  have BB3 := below_setRow BA3 (Nat.le_refl _) #[.slice (some ⟨gK, 0, none⟩) 1 1, .slice (some ⟨gV, 0, none⟩) 1 1]
  generalize hwb3 : wa3.setRow w6.heap.size #[.slice (some ⟨gK, 0, none⟩) 1 1, .slice (some ⟨gV, 0, none⟩) 1 1] = wb3 at *
  have hall3 : Array.all (#[.slice (some ⟨gK, 0, none⟩) 1 1, .slice (some ⟨gV, 0, none⟩) 1 1] : Array Value) (fun v => v.oneCell') = true := by simp [Value.oneCell']
  replace X0 := X0.below BB3
  replace XR := XR.below BB3
  replace XV := XV.below BB3
  replace D6 := below_then D6 BB3
  replace G6 := G6.below BB3
  replace F5 := F5.below BB3
  replace F6 := F6.below BB3
  have a0 : wb3.cell? ⟨w.heap.size, 0, none⟩ = some (.int .i64 2) := X0.cell 0 rfl
  have a1 : wb3.cell? ⟨w.heap.size, 1, none⟩ = some (.int .i64 1) := X0.cell 1 rfl
  have a2 : wb3.cell? ⟨w.heap.size, 2, none⟩ = some (.int .i64 1) := X0.cell 2 rfl
  have a3 : wb3.cell? ⟨w.heap.size, 3, none⟩ = some (.int .i64 1) := X0.cell 3 rfl
  have a4 : wb3.cell? ⟨w.heap.size, 4, none⟩ = some (.int .i64 1) := X0.cell 4 rfl
  go_wp2_with (first | (refine wpList_store_row rfl 40 _ _ rfl w6.heap.size #[.slice (some ⟨gK, 0, none⟩) 1 1, .slice (some ⟨gV, 0, none⟩) 1 1] rfl rfl 40 _ XA3 Tryd.infoCa rfl hall3 ?_; rw [hwb3]) | (refine wpList_load_row rfl 32 _ rfl w1.heap.size rfl 32 ws (0, 0) _ XR Tryd.underlying32 rfl (by rw [siz]; exact Tryd.infoW) ?_))
  refine (CB _ G6).mono ?_
  rintro e w8 ⟨rfl, B8⟩
  replace XV := XV.below B8
  have D8 := below_then D6 B8
  replace F5 := F5.below B8
  replace F6 := F6.below B8
  clear hwa3 hwb3 a0 a1 a2 a3 a4 CB XA3 BA3 XB3 BB3 D6 G6 X0 XR B8
  have XA4 := blk_new w8 42 #[.slice none 0 0, .slice none 0 0, .slice none 0 0]
  have BA4 : Below w8.heap.size w8 (w8.alloc (.cells #[.slice none 0 0, .slice none 0 0, .slice none 0 0] 42)) := (Below.refl _ _).alloc (Nat.le_refl _) _
  generalize hwa4 : w8.alloc (.cells #[.slice none 0 0, .slice none 0 0, .slice none 0 0] 42) = wa4 at *
  have XB4 := XA4.row #[.slice none 0 0, .slice none 0 0, .slice none 0 0]
  have BB4 := below_setRow BA4 (Nat.le_refl _) #[.slice none 0 0, .slice none 0 0, .slice none 0 0]
  generalize hwb4 : wa4.setRow w8.heap.size #[.slice none 0 0, .slice none 0 0, .slice none 0 0] = wb4 at *
  have hall4 : Array.all (#[.slice none 0 0, .slice none 0 0, .slice none 0 0] : Array Value) (fun v => v.oneCell') = true := by simp [Value.oneCell']
  replace XV := XV.below BB4
  have D9 := below_then D8 BB4
  replace F5 := F5.below BB4
  replace F6 := F6.below BB4
  have cT : wb4.cell? ⟨w4.heap.size, 0, none⟩ = some (.slice ta 1 tz) := XV.cell 0 rfl
  have CS := same_any (some ⟨g4, 0, none⟩) (some ⟨g6, 0, none⟩) 2 2 2 _ wb4 F5.rowAt F6.rowAt
  go_upto_region 6 with (refine wpList_store_row rfl 42 _ _ rfl w8.heap.size #[.slice none 0 0, .slice none 0 0, .slice none 0 0] rfl rfl 42 _ XA4 Tryd.infoV rfl hall4 ?_; rw [hwb4])
  clear hwa4 hwb4
  go_wp2_with (go_at_call 13; refine CS.mono ?_; rintro e wz ⟨rfl, mq, hz⟩; have Dz : Below w.heap.size w wz := (by rw [hz]; exact below_drewN D9 mq); have cZ : wz.cell? ⟨w4.heap.size, 0, none⟩ = some (.slice ta 1 tz) := (by rw [hz]; simpa using cT); clear hz cT)
  go_ret
  exact ⟨rfl, Dz⟩
end Go.Proofs.YtbfehkkcfokdkaaDoor

/- Small shapes, and rows of tokens that are the same. -/
namespace Go.Proofs.YtbfehkkcfokdkaaDoor
open Go.ChangeShapes Go.WideShapes Go.ChangeAt Go.RowKit
/-- Is a shape a small one? -/
def smallN (D H L : Int) : Int := if 8 < D ∨ 8 < H ∨ 2 < L then 0 else 1
theorem small8_any (V D Hd H L : Int) (w : World) : Calls Tryd.prog 7 #[.agg (cfgC V D Hd H L)] w fun e w' => e = .returned (.int .i64 (smallN D H L)) ∧ Below w.heap.size w w' := by
  have X0 := blk_new w 23 (cfgC V D Hd H L)
  have B0 : Below w.heap.size w (w.alloc (.cells (cfgC V D Hd H L) 23)) := (Below.refl _ _).alloc (Nat.le_refl _) _
  unfold cfgC at *
  generalize hw0 : w.alloc (.cells #[.int .i64 V, .int .i64 D, .int .i64 Hd, .int .i64 H, .int .i64 L] 23) = w0 at *
  have a1 : w0.cell? ⟨w.heap.size, 1, none⟩ = some (.int .i64 D) := X0.cell 1 rfl
  have a3 : w0.cell? ⟨w.heap.size, 3, none⟩ = some (.int .i64 H) := X0.cell 3 rfl
  have a4 : w0.cell? ⟨w.heap.size, 4, none⟩ = some (.int .i64 L) := X0.cell 4 rfl
  have HN : Hid (smallN D H L = if 8 < D ∨ 8 < H ∨ 2 < L then 0 else 1) := rfl
  generalize smallN D H L = res at *
  by_cases h1 : 8 < D
  · have HF : Hid (res = 0) := by show _ = _; rw [HN.out, if_pos (Or.inl h1)]
    clear HN
    go_enter Tryd.func7, Tryd.ntmps7
    go_wp2
    go_ret
    exact ⟨ret_int HF.out.symm, B0⟩
  · by_cases h2 : 8 < H
    · have HF : Hid (res = 0) := by show _ = _; rw [HN.out, if_pos (Or.inr (Or.inl h2))]
      clear HN
      go_enter Tryd.func7, Tryd.ntmps7
      go_wp2
      go_ret
      exact ⟨ret_int HF.out.symm, B0⟩
    · by_cases h3 : 2 < L
      · have HF : Hid (res = 0) := by show _ = _; rw [HN.out, if_pos (Or.inr (Or.inr h3))]
        clear HN
        go_enter Tryd.func7, Tryd.ntmps7
        go_wp2
        go_ret
        exact ⟨ret_int HF.out.symm, B0⟩
      · have HF : Hid (res = 1) := by show _ = _; rw [HN.out, if_neg (by omega)]
        clear HN
        go_enter Tryd.func7, Tryd.ntmps7
        go_wp2
        go_ret
        exact ⟨ret_int HF.out.symm, B0⟩
theorem IArg.drop {w : World} {b o n ca : Nat} {A : List Int} (h : IArg w (some ⟨b, o, none⟩) n ca A) {m : Nat} (hm : m ≤ n) : IRowAt w (some ⟨b, o + m, none⟩) (n - m) (A.drop m) := by
  have hl := h.row.len
  refine ⟨by rw [List.length_drop]; omega, by have := h.row.max; omega, fun k => ?_, fun hn => ?_⟩
  · rw [el_drop]; exact h.row.small _
  · obtain ⟨b', o', e, hc⟩ := h.row.cells (by omega)
    simp only [Option.some.injEq, Addr.mk.injEq, and_true] at e
    obtain ⟨rfl, rfl⟩ := e
    refine ⟨b, o + m, rfl, fun t ht => ?_⟩
    rw [el_drop, Nat.add_assoc]
    exact hc _ (by omega)
end Go.Proofs.YtbfehkkcfokdkaaDoor
