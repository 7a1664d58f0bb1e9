/- Contracts of the program's functions, part 7 of 10: what each call returns and leaves of memory. -/
import Derived.Test.YtlmdjhdlfdandaaDoorPk6
import Derived.Test.YtlmdjhdlfdandaaDoorPk2
import Derived.Test.YtlmdjhdlfdandaaDoorPk5
import Derived.Test.YtlmdjhdlfdandaaDoorPk4
/- Package pass: Full: how much a model likes each token behind a row of them, from the beginning. -/
namespace Go.Proofs.YtlmdjhdlfdandaaDoor
open Go.ChangeShapes Go.WideShapes Go.ChangeAt Go.RowKit
/-- The first rows of tokens; what l layers make of them. -/
def begL (E : List Int) (D : Nat) (A : List Int) : List (List Int) := (List.range A.length).map fun t => begR E D (el A t).toNat t
def rowsL (M : Mdl) (D H Hd : Nat) (A : List Int) : Nat → List (List Int)
  | 0 => begL M.E D A
  | l + 1 => madeR (layAt M l) D H Hd (rowsL M D H Hd A l)
def fullK (M : Mdl) (D H Hd L : Nat) (A : List Int) : List (List (List Int)) := (List.range L).map fun l => keysR (layAt M l) D (rowsL M D H Hd A l)
def fullV (M : Mdl) (D H Hd L : Nat) (A : List Int) : List (List (List Int)) := (List.range L).map fun l => valsR (layAt M l) D (rowsL M D H Hd A l)
def fullX (M : Mdl) (V D H Hd L : Nat) (A : List Int) : List Int := likR M V D (rowOf (rowsL M D H Hd A L) (A.length - 1))
theorem rowsL_len (M : Mdl) (D H Hd : Nat) (A : List Int) : ∀ l, (rowsL M D H Hd A l).length = A.length
  | 0 => by show (begL M.E D A).length = _; unfold begL; simp
  | l + 1 => by show (madeR _ _ _ _ (rowsL M D H Hd A l)).length = _; unfold madeR; simp [rowsL_len M D H Hd A l]
theorem rowsL_row (M : Mdl) (D H Hd : Nat) (A : List Int) : ∀ l t, t < A.length → (rowOf (rowsL M D H Hd A l) t).length = D
  | 0, t, h => by
    show (rowOf (begL M.E D A) t).length = D
    unfold rowOf begL
    rw [List.getD_eq_getElem?_getD, List.getElem?_map, List.getElem?_range h]
    exact tab_len _ _
  | l + 1, t, h => by
    show (rowOf (madeR _ _ _ _ (rowsL M D H Hd A l)) t).length = D
    rw [madeR_at _ _ _ _ (by rw [rowsL_len]; exact h)]
    exact tab_len _ _
theorem begL_at (E : List Int) (D : Nat) {A : List Int} {t : Nat} (h : t < A.length) : rowOf (begL E D A) t = begR E D (el A t).toNat t := by
  unfold rowOf begL
  rw [List.getD_eq_getElem?_getD, List.getElem?_map, List.getElem?_range h]
  rfl
theorem fullK_at (M : Mdl) (D H Hd L : Nat) (A : List Int) {l : Nat} (h : l < L) : (fullK M D H Hd L A).getD l [] = keysR (layAt M l) D (rowsL M D H Hd A l) := by
  unfold fullK
  rw [List.getD_eq_getElem?_getD, List.getElem?_map, List.getElem?_range h]
  rfl
theorem fullV_at (M : Mdl) (D H Hd L : Nat) (A : List Int) {l : Nat} (h : l < L) : (fullV M D H Hd L A).getD l [] = valsR (layAt M l) D (rowsL M D H Hd A l) := by
  unfold fullV
  rw [List.getD_eq_getElem?_getD, List.getElem?_map, List.getElem?_range h]
  rfl
theorem Tryd.infoCa : (Tryd.prog.info? 41).map (·.size) = some 2 := by kernel_rfl
theorem load_ca {w : World} {g : Nat} {cs : Array Value} (h : Blk w g 41 cs) (hs : cs.size = 2) : (loadVar 41 ⟨g, 0, none⟩).run Tryd.prog w = .ok (.agg cs) w :=
  run_loadVar_row w g _ _ cs _ _ h Tryd.underlying41 rfl (by rw [hs]; exact Tryd.infoCa)
theorem results_mid {fn : Func} {p u v : Tmp} {ty : TypeId} (h : fn.results = #[.tmp u, .cell p ty, .tmp v]) (tmps : Array Value) (w : World) (g : Nat) (cs : Array Value)
    (hp : tmps.getD p undef = .pointer (some ⟨g, 0, none⟩)) (hl : (loadVar ty ⟨g, 0, none⟩).run Tryd.prog w = .ok (.agg cs) w) :
    (results fn tmps).run Tryd.prog w = .ok (.tuple #[tmps.getD u undef, .agg cs, tmps.getD v undef]) w := by
  have hp' : tmps[p]?.getD undef = .pointer (some ⟨g, 0, none⟩) := by simpa using hp
  simp [results, h, hp', asAddr, hl]
def offF (w : World) (gK gV gC b : Nat) : Prop := w.heap.size + 2 < b ∧ b ≠ gK ∧ b ≠ gV ∧ b ≠ gC
/-- Within Full: boxes, the cache, and its lists up to layer t. -/
structure FI (w wr : World) (cfg ws : Array Value) (gC gK gV L t : Nat) (A1 A2 : List (List (List Int))) : Prop where
  x0 : Blk wr w.heap.size 23 cfg
  x1 : Blk wr (w.heap.size + 1) 32 ws
  x2 : Blk wr (w.heap.size + 2) 41 #[.slice none 0 0, .slice none 0 0]
  xc : Blk wr gC 41 #[.slice (some ⟨gK, 0, none⟩) L L, .slice (some ⟨gV, 0, none⟩) L L]
  k : KV wr gK L t (offF w gK gV gC) A1 []
  v : KV wr gV L t (offF w gK gV gC) A2 []
  ne : w.heap.size + 2 < gK ∧ w.heap.size + 2 < gV ∧ w.heap.size + 2 < gC ∧ gK ≠ gV ∧ gK ≠ gC ∧ gV ≠ gC
  kp : Below w.heap.size w wr
theorem FI.below {w wr w' : World} {cfg ws : Array Value} {gC gK gV L t : Nat} {A1 A2 : List (List (List Int))} (h : FI w wr cfg ws gC gK gV L t A1 A2) (hb : Below wr.heap.size wr w') : FI w w' cfg ws gC gK gV L t A1 A2 :=
  ⟨h.x0.below hb, h.x1.below hb, h.x2.below hb, h.xc.below hb, h.k.below hb, h.v.below hb, h.ne, below_then h.kp hb⟩
theorem FI.next {w wr : World} {cfg ws : Array Value} {gC gK gV L t : Nat} {A1 A2 : List (List (List Int))} (h : FI w wr cfg ws gC gK gV L t A1 A2) (ht : t < L) {r1 r2 n : Nat} {vs1 vs2 : List Value} (hn : n ≤ 9223372036854775807) (N1 : Hangs (offF w gK gV gC) wr fun w => GridV w (some ⟨r1, 0, none⟩) n vs1 (A1.getD t [])) (N2 : Hangs (offF w gK gV gC) wr fun w => GridV w (some ⟨r2, 0, none⟩) n vs2 (A2.getD t [])) :
    FI w ((wr.setCell ⟨gK, t, none⟩ (.slice (some ⟨r1, 0, none⟩) n n)).setCell ⟨gV, t, none⟩ (.slice (some ⟨r2, 0, none⟩) n n)) cfg ws gC gK gV L (t + 1) A1 A2 := by
  obtain ⟨e1, e2, e3, e4, e5, e6⟩ := h.ne
  have pk : ¬ offF w gK gV gC gK := fun h => h.2.1 rfl
  have pv : ¬ offF w gK gV gC gV := fun h => h.2.2.1 rfl
  refine ⟨(h.x0.other (by show _ ≠ gK; omega) _).other (by show _ ≠ gV; omega) _, (h.x1.other (by show _ ≠ gK; omega) _).other (by show _ ≠ gV; omega) _, (h.x2.other (by show _ ≠ gK; omega) _).other (by show _ ≠ gV; omega) _, (h.xc.other (by show _ ≠ gK; omega) _).other (by show _ ≠ gV; omega) _, ?_, ?_, h.ne, ?_⟩
  · exact (h.k.step ht pk (fun h => by cases h) (Nat.le_refl _) hn N1).far (by show gV ≠ gK; omega) pv _
  · exact (h.v.far (by show gK ≠ gV; omega) pk _).step ht pv (fun h => by cases h) (Nat.le_refl _) hn (N2.set pk _)
  · exact (h.kp.setCell (p := ⟨gK, t, none⟩) (by show w.heap.size ≤ gK; omega) _).setCell (p := ⟨gV, t, none⟩) (by show w.heap.size ≤ gV; omega) _
theorem Hangs.setRowFar {p : Nat → Prop} {w : World} {Φ : World → Prop} (h : Hangs p w Φ) {g : Nat} (hg : ¬ p g) (cs : Array Value) : Hangs p (w.setRow g cs) Φ := h.row hg cs
set_option maxRecDepth 100000 in
set_option maxHeartbeats 1600000 in
theorem full_bad (V D Hd H L : Nat) (W : Wt) (bs : List Bk) (M : Mdl) (ao : Option Addr) (n ca : Nat) (A : List Int) (w : World) (hG : Good w V D Hd H L W bs M) (hA : IArg w ao n ca A) (hq : promptN V A ≠ 0) :
   Calls Tryd.prog 11 #[.agg (cfgC V D Hd H L), .agg W.cells, .slice ao n ca] w fun e w' => e = .returned (.tuple #[.slice none 0 0, .agg #[.slice none 0 0, .slice none 0 0], .int .i64 (promptN V A)]) ∧ Below w.heap.size w w' := by
  obtain ⟨q1, q2, q3, q4, q5, q6, q7, q8, q9, q10⟩ := shape_ok hG.shape
  have CK := fun (wv : World) (hb : Below w.heap.size w wv) => check_good (hG.below hb)
  have CP := fun (wv : World) (hb : Below w.heap.size w wv) => prompt_any V D Hd H L ao n ca A wv (hA.below hb)
  have siz : W.cells.size = 8 := rfl
  have hq' : (promptN V A == 0) = false := by simpa using hq
  generalize promptN V A = q at *
  generalize hws : W.cells = ws at *
  unfold cfgC at CK CP ⊢
  have X0 := blk_new w 23 #[.int .i64 (V : Int), .int .i64 (D : Int), .int .i64 (Hd : Int), .int .i64 (H : Int), .int .i64 (L : Int)]
  have B0 : Below w.heap.size w (w.alloc (.cells #[.int .i64 (V : Int), .int .i64 (D : Int), .int .i64 (Hd : Int), .int .i64 (H : Int), .int .i64 (L : Int)] 23)) := (Below.refl _ _).alloc (Nat.le_refl _) _
  have s0 : (w.alloc (.cells #[.int .i64 (V : Int), .int .i64 (D : Int), .int .i64 (Hd : Int), .int .i64 (H : Int), .int .i64 (L : Int)] 23)).heap.size = w.heap.size + 1 := by simp
  generalize hw0 : w.alloc (.cells #[.int .i64 (V : Int), .int .i64 (D : Int), .int .i64 (Hd : Int), .int .i64 (H : Int), .int .i64 (L : Int)] 23) = w0 at *
  have X1 := blk_new w0 32 ws
  have B1 : Below w0.heap.size w0 (w0.alloc (.cells ws 32)) := (Below.refl _ _).alloc (Nat.le_refl _) _
  have s1 : (w0.alloc (.cells ws 32)).heap.size = w0.heap.size + 1 := by simp
  rw [s0] at X1 s1
  generalize hw1 : w0.alloc (.cells ws 32) = w1 at *
  have X2 := blk_new w1 41 #[.slice none 0 0, .slice none 0 0]
  have B2 : Below w1.heap.size w1 (w1.alloc (.cells #[.slice none 0 0, .slice none 0 0] 41)) := (Below.refl _ _).alloc (Nat.le_refl _) _
  have s2 : (w1.alloc (.cells #[.slice none 0 0, .slice none 0 0] 41)).heap.size = w1.heap.size + 1 := by simp
  rw [s1] at X2 s2
  generalize hw2 : w1.alloc (.cells #[.slice none 0 0, .slice none 0 0] 41) = w2 at *
  replace X0 := (X0.below B1).below B2
  replace X1 := X1.below B2
  replace B2 := below_then (below_then B0 B1) B2
  have a0 : w2.cell? ⟨w.heap.size, 0, none⟩ = some (.int .i64 (V : Int)) := X0.cell 0 rfl
  have a1 : w2.cell? ⟨w.heap.size, 1, none⟩ = some (.int .i64 (D : Int)) := X0.cell 1 rfl
  have a2 : w2.cell? ⟨w.heap.size, 2, none⟩ = some (.int .i64 (Hd : Int)) := X0.cell 2 rfl
  have a3 : w2.cell? ⟨w.heap.size, 3, none⟩ = some (.int .i64 (H : Int)) := X0.cell 3 rfl
  have a4 : w2.cell? ⟨w.heap.size, 4, none⟩ = some (.int .i64 (L : Int)) := X0.cell 4 rfl
  go_enter Tryd.func11, Tryd.ntmps11
  go_wp2_with (refine wpList_load_row rfl 32 _ rfl (w.heap.size + 1) rfl 32 ws (0, 0) _ X1 Tryd.underlying32 rfl (by rw [siz]; exact Tryd.infoW) ?_)
  refine (CK _ B2).mono ?_
  rintro e w3 ⟨rfl, B3⟩
  replace X0 := X0.below B3
  replace X1 := X1.below B3
  replace X2 := X2.below B3
  have D3 := below_then B2 B3
  clear a0 a1 a2 a3 a4 hw0 hw1 hw2 B0 B1 B2 B3 CK
  have a0 : w3.cell? ⟨w.heap.size, 0, none⟩ = some (.int .i64 (V : Int)) := X0.cell 0 rfl
  have a1 : w3.cell? ⟨w.heap.size, 1, none⟩ = some (.int .i64 (D : Int)) := X0.cell 1 rfl
  have a2 : w3.cell? ⟨w.heap.size, 2, none⟩ = some (.int .i64 (Hd : Int)) := X0.cell 2 rfl
  have a3 : w3.cell? ⟨w.heap.size, 3, none⟩ = some (.int .i64 (H : Int)) := X0.cell 3 rfl
  have a4 : w3.cell? ⟨w.heap.size, 4, none⟩ = some (.int .i64 (L : Int)) := X0.cell 4 rfl
  go_wp2_with fail
  refine (CP _ D3).mono ?_
  rintro e w4 ⟨rfl, B4⟩
  replace X0 := X0.below B4
  replace X1 := X1.below B4
  replace X2 := X2.below B4
  have D4 := below_then D3 B4
  clear a0 a1 a2 a3 a4 B4 D3 CP s0 s1 s2
  have hall : Array.all (#[.slice none 0 0, .slice none 0 0] : Array Value) (fun v => v.oneCell') = true := by simp [Value.oneCell']
  go_wp2_with (refine wpList_store_row rfl 41 _ _ rfl (w.heap.size + 1 + 1) #[.slice none 0 0, .slice none 0 0] rfl rfl 41 _ X2 Tryd.infoCa rfl hall ?_)
  refine bodyPost_ret (results_mid rfl _ _ (w.heap.size + 1 + 1) _ rfl (load_ca (X2.row _) rfl)) rfl ?_
  exact ⟨rfl, below_setRow D4 (by omega) _⟩
set_option maxRecDepth 100000 in
set_option maxHeartbeats 1600000 in
theorem full_ok (V D Hd H L : Nat) (W : Wt) (bs : List Bk) (M : Mdl) (ao : Option Addr) (n ca : Nat) (A : List Int) (w : World) (hG : Good w V D Hd H L W bs M) (hA : IArg w ao n ca A) (hT : Tab w) (hq : promptN V A = 0) :
   Calls Tryd.prog 11 #[.agg (cfgC V D Hd H L), .agg W.cells, .slice ao n ca] w fun e w' => ∃ g gK gV, e = .returned (.tuple #[.slice (some ⟨g, 0, none⟩) V V, .agg #[.slice (some ⟨gK, 0, none⟩) L L, .slice (some ⟨gV, 0, none⟩) L L], .int .i64 0]) ∧ Fresh w' w.heap.size g V V (fullX M V D H Hd L A) ∧ New w.heap.size w' (fun w => CubeAt w (some ⟨gK, 0, none⟩) L (fullK M D H Hd L A)) ∧ New w.heap.size w' (fun w => CubeAt w (some ⟨gV, 0, none⟩) L (fullV M D H Hd L A)) ∧ Below w.heap.size w w' := by
  obtain ⟨q1, q2, q3, q4, q5, q6, q7, q8, q9, q10⟩ := shape_ok hG.shape
  have CK := fun (wv : World) (hb : Below w.heap.size w wv) => check_good (hG.below hb)
  have CP := fun (wv : World) (hb : Below w.heap.size w wv) => prompt_any V D Hd H L ao n ca A wv (hA.below hb)
  have siz : W.cells.size = 8 := rfl
  obtain ⟨p1, p2, p3⟩ := prompt_ok hq
  rw [hq] at CP
  have hl := hA.row.len
  have HT : Hid (∀ wv, Below w.heap.size w wv → Tab wv) := fun wv hb => hT.next hb
  have HG : Hid (∀ wv, Below w.heap.size w wv → Good wv V D Hd H L W bs M) := fun wv hb => hG.below hb
  have HA : Hid (∀ wv, Below w.heap.size w wv → IRowAt wv ao n A) := fun wv hb => hA.row.below hb
  have HK : Hid (∀ k, k < A.length → 0 ≤ el A k ∧ el A k < V) := fun k hk => by have := all_el hk p3; unfold tokB at this; simpa using this
  have HLN : Hid (A.length = n) := hl
  have CB := fun (wv : World) (hb : Below w.heap.size w wv) (tok at' : Nat) (h1 : tok < V) (h2 : at' ≤ 4096) => begin_any V D H W bs M tok at' wv (hG.wt.below hb) h1 h2
  have CL := fun (wv : World) (hb : Below w.heap.size w wv) (xo : Option Addr) (cx : Nat) (Xr : List Int) (hX : RowAt wv xo D Xr) => likes_any V D H W bs M xo cx Xr wv (hG.wt.below hb) hX (by omega) (by omega)
  have blen := hG.wt.b.len
  have hbl := hG.len
  have hmod := shape_mod hG.shape
  clear hT hG hA
  have LF : Hid ((fullK M D H Hd L A).length = L ∧ (fullV M D H Hd L A).length = L) := ⟨by unfold fullK; simp, by unfold fullV; simp⟩
  obtain ⟨we, ⟨ba, bn, bz⟩, wl, wo⟩ := W
  simp only at blen
  have hbn : L = bn := by rw [← hbl, blen]
  subst hbn
  have wb : (Wt.cells ⟨we, ⟨ba, L, bz⟩, wl, wo⟩)[3]? = some (.slice ba L bz) := rfl
  generalize hws : Wt.cells ⟨we, ⟨ba, L, bz⟩, wl, wo⟩ = ws at *
  unfold cfgC at CK CP ⊢
  have X0 := blk_new w 23 #[.int .i64 (V : Int), .int .i64 (D : Int), .int .i64 (Hd : Int), .int .i64 (H : Int), .int .i64 (L : Int)]
  have B0 : Below w.heap.size w (w.alloc (.cells #[.int .i64 (V : Int), .int .i64 (D : Int), .int .i64 (Hd : Int), .int .i64 (H : Int), .int .i64 (L : Int)] 23)) := (Below.refl _ _).alloc (Nat.le_refl _) _
  have s0 : (w.alloc (.cells #[.int .i64 (V : Int), .int .i64 (D : Int), .int .i64 (Hd : Int), .int .i64 (H : Int), .int .i64 (L : Int)] 23)).heap.size = w.heap.size + 1 := by simp
  generalize hw0 : w.alloc (.cells #[.int .i64 (V : Int), .int .i64 (D : Int), .int .i64 (Hd : Int), .int .i64 (H : Int), .int .i64 (L : Int)] 23) = w0 at *
  have X1 := blk_new w0 32 ws
  have B1 : Below w0.heap.size w0 (w0.alloc (.cells ws 32)) := (Below.refl _ _).alloc (Nat.le_refl _) _
  have s1 : (w0.alloc (.cells ws 32)).heap.size = w0.heap.size + 1 := by simp
  rw [s0] at X1 s1
  generalize hw1 : w0.alloc (.cells ws 32) = w1 at *
  have X2 := blk_new w1 41 #[.slice none 0 0, .slice none 0 0]
  have B2 : Below w1.heap.size w1 (w1.alloc (.cells #[.slice none 0 0, .slice none 0 0] 41)) := (Below.refl _ _).alloc (Nat.le_refl _) _
  have s2 : (w1.alloc (.cells #[.slice none 0 0, .slice none 0 0] 41)).heap.size = w1.heap.size + 1 := by simp
  rw [s1] at X2 s2
  generalize hw2 : w1.alloc (.cells #[.slice none 0 0, .slice none 0 0] 41) = w2 at *
  replace X0 := (X0.below B1).below B2
  replace X1 := X1.below B2
  replace B2 := below_then (below_then B0 B1) B2
  have a0 : w2.cell? ⟨w.heap.size, 0, none⟩ = some (.int .i64 (V : Int)) := X0.cell 0 rfl
  have a1 : w2.cell? ⟨w.heap.size, 1, none⟩ = some (.int .i64 (D : Int)) := X0.cell 1 rfl
  have a2 : w2.cell? ⟨w.heap.size, 2, none⟩ = some (.int .i64 (Hd : Int)) := X0.cell 2 rfl
  have a3 : w2.cell? ⟨w.heap.size, 3, none⟩ = some (.int .i64 (H : Int)) := X0.cell 3 rfl
  have a4 : w2.cell? ⟨w.heap.size, 4, none⟩ = some (.int .i64 (L : Int)) := X0.cell 4 rfl
  go_enter Tryd.func11, Tryd.ntmps11
  go_wp2_with (refine wpList_load_row rfl 32 _ rfl (w.heap.size + 1) rfl 32 ws (0, 0) _ X1 Tryd.underlying32 rfl (by rw [siz]; exact Tryd.infoW) ?_)
  refine (CK _ B2).mono ?_
  rintro e w3 ⟨rfl, B3⟩
  replace X0 := X0.below B3
  replace X1 := X1.below B3
  replace X2 := X2.below B3
  have D3 := below_then B2 B3
  clear a0 a1 a2 a3 a4 hw0 hw1 hw2 B0 B1 B2 B3 CK
  have a0 : w3.cell? ⟨w.heap.size, 0, none⟩ = some (.int .i64 (V : Int)) := X0.cell 0 rfl
  have a1 : w3.cell? ⟨w.heap.size, 1, none⟩ = some (.int .i64 (D : Int)) := X0.cell 1 rfl
  have a2 : w3.cell? ⟨w.heap.size, 2, none⟩ = some (.int .i64 (Hd : Int)) := X0.cell 2 rfl
  have a3 : w3.cell? ⟨w.heap.size, 3, none⟩ = some (.int .i64 (H : Int)) := X0.cell 3 rfl
  have a4 : w3.cell? ⟨w.heap.size, 4, none⟩ = some (.int .i64 (L : Int)) := X0.cell 4 rfl
  go_wp2_with fail
  refine (CP _ D3).mono ?_
  rintro e w4 ⟨rfl, B4⟩
  replace X0 := X0.below B4
  replace X1 := X1.below B4
  replace X2 := X2.below B4
  have D4 := below_then D3 B4
  clear a0 a1 a2 a3 a4 B4 D3 CP s0 s1 s2
  have hmk := run_make_row' (P := Tryd.prog) 49 27 (.slice none 0 0) 24 Tryd.underlying49 Tryd.infoRow rfl .i64 .i64 n (by omega) (by omega)
  have hmk2 := run_make_row' (P := Tryd.prog) 39 49 (.slice none 0 0) 24 Tryd.underlying39 Tryd.infoList rfl .i64 .i64 L (by omega) (by omega)
  have F0 := fillTo_made w4 n (begL M.E D A)
  have B5 : Below w4.heap.size w4 (w4.alloc (.cells (madeCells #[.slice none 0 0] n) 27)) := (Below.refl _ _).alloc (Nat.le_refl _) _
  generalize hw5 : w4.alloc (.cells (madeCells #[.slice none 0 0] n) 27) = w5 at *
  have z4 := X2.lt
  replace X0 := X0.below B5
  replace X1 := X1.below B5
  replace X2 := X2.below B5
  have D5 := below_then D4 B5
  go_wp2_with fail
  clear hw5
  go_loopg [36] n (fun r i wr => ∃ k : Nat, k ≤ n ∧ r = n - k ∧ i = .int .i64 k ∧ FillTo wr w4.heap.size n k (begL M.E D A) ∧ Blk wr w.heap.size 23 #[.int .i64 (V : Int), .int .i64 (D : Int), .int .i64 (Hd : Int), .int .i64 (H : Int), .int .i64 (L : Int)] ∧ Blk wr (w.heap.size + 1) 32 ws ∧ Blk wr (w.heap.size + 2) 41 #[.slice none 0 0, .slice none 0 0] ∧ Below w.heap.size w wr)
  case atStart => exact ⟨0, by omega, by omega, rfl, F0, X0, X1, X2, D5⟩
  case round =>
    obtain ⟨k, hk, rfl, rfl, F1, Y0, Y1, Y2, KP⟩ := hrel
    clear F0 X0 X1 X2 D5 B5
    by_cases hlt : k < n
    · obtain ⟨b, o, rfl, hc⟩ := (HA.out wr KP).cells (by omega)
      have ck := hc k hlt
      clear hc
      obtain ⟨t1, t2⟩ := HK.out k (by omega)
      have HBG : Hid (rowOf (begL M.E D A) k = begR M.E D (el A k).toNat k) := begL_at M.E D (by omega)
      obtain ⟨tk, htk⟩ : ∃ tk : Nat, el A k = tk := ⟨(el A k).toNat, by omega⟩
      rw [htk] at ck t2 HBG
      rw [Int.toNat_natCast] at HBG
      clear htk t1
      have CC := CB wr KP tk k (by omega) (by omega)
      have X1 := Y1
      go_wp2_with (refine wpList_load_row rfl 32 _ rfl (w.heap.size + 1) rfl 32 ws (0, 0) _ X1 Tryd.underlying32 rfl (by rw [siz]; exact Tryd.infoW) ?_)
      refine CC.mono ?_
      rintro e w7 ⟨g, cap, rfl, F7, B7⟩
      have sF := F1.lt
      have F2 := F1.below B7
      have N7 : New (w4.heap.size + 1) w7 fun w => Arg w (some ⟨g, 0, none⟩) D cap (rowOf (begL M.E D A) k) := by
        rw [HBG.out]
        exact (F7.new.mono (by omega)).imp fun _ h => h.arg
      have F3 := F2.step hlt N7
      have ff := F2.frozen k
      obtain ⟨v, hv⟩ := F2.cell hlt
      have KQ := below_then KP B7
      replace Y0 := Y0.below B7
      replace Y1 := Y1.below B7
      replace Y2 := Y2.below B7
      clear N7 F1 X1 CC ck
      go_wp2
      go_roundg (n - (k + 1))
      case measure => omega
      case rel => exact ⟨k + 1, by omega, rfl, by go_num, F3, Y0.other (by show _ ≠ w4.heap.size; omega) _, Y1.other (by show _ ≠ w4.heap.size; omega) _, Y2.other (by show _ ≠ w4.heap.size; omega) _, KQ.setCell (p := ⟨w4.heap.size, k, none⟩) (by show w.heap.size ≤ w4.heap.size; omega) _⟩
    · obtain rfl : k = n := by omega
      obtain ⟨vs0, N0⟩ := F1.grid (by unfold begL; simp [HLN.out]) (by omega) (Nat.le_refl w4.heap.size)
      have G0 : Hangs (fun b => b < wr.heap.size) wr (fun w => GridAt w (some ⟨w4.heap.size, 0, none⟩) k (rowsL M D H Hd A 0)) := (Hangs.mono N0 fun b hb _ => hb).imp fun _ h => h.grid
      have y2 := Y2.lt
      clear F1 N0 CB hmk
      have XX0 := Y0
      go_upto_region 13 with fail
      go_cut [14] from 49 (fun s14 wc => ∃ gC gK gV, s14 = .pointer (some ⟨gC, 0, none⟩) ∧ GridAt wc (some ⟨w4.heap.size, 0, none⟩) k (rowsL M D H Hd A 0) ∧ FI w wc #[.int .i64 (V : Int), .int .i64 (D : Int), .int .i64 (Hd : Int), .int .i64 (H : Int), .int .i64 (L : Int)] ws gC gK gV L 0 (fullK M D H Hd L A) (fullV M D H Hd L A))
      case first =>
        clear XX0
        replace Y0 := Y0.below ((Below.refl _ _).drew)
        replace Y1 := Y1.below ((Below.refl _ _).drew)
        replace Y2 := Y2.below ((Below.refl _ _).drew)
        replace KP := KP.drew
        replace G0 := G0.below ((Below.refl _ _).drew)
        have HKV := fun (wv : World) (p : Nat → Prop) => kv_made wv L p (fullK M D H Hd L A) [] rfl
        have HVV := fun (wv : World) (p : Nat → Prop) => kv_made wv L p (fullV M D H Hd L A) [] rfl
        refine wp_region_held_drew (S := fun w' => Blk w' (w.heap.size + 1) 32 ws) (by kernel_rfl) (Y1) (fun hHeld => ?_)
        have zA : wr.heap.size ≤ wr.drew.heap.size := Nat.le_refl _
        generalize hA : wr.drew = wA at *
        clear hA
        refine wpAnyH_take (i := 0) (v := (.pointer (some ⟨w.heap.size + 1, 3, none⟩))) rfl (by kernel_rfl) (by kernel_rfl) (by kernel_rfl) (fun _ _ _ h => h) (Or.inl ⟨by rfl, ?_⟩) (by assumption) ?_
        · intro w' hSw
          go_simp
        simp only [List.getElem_toArray, List.getElem_cons_zero, Act.put, List.setIfInBounds_toArray, List.set_cons_zero, List.set_cons_succ]
        refine wpAnyH_take (i := 1) (v := (.slice ba L bz)) rfl (by kernel_rfl) (by kernel_rfl) (by kernel_rfl) (fun _ _ _ h => h) (Or.inl ⟨by rfl, ?_⟩) (by assumption) ?_
        · intro w' hSw
          have c3 : w'.cell? ⟨w.heap.size + 1, 3, none⟩ = some (.slice ba L bz) := hSw.cell 3 wb
          go_simp
        simp only [List.getElem_toArray, List.getElem_cons_succ, List.getElem_cons_zero, Act.put, List.setIfInBounds_toArray, List.set_cons_zero, List.set_cons_succ]
        refine wpAnyH_take (i := 2) (v := (.int .i64 (L : Int))) rfl (by kernel_rfl) (by kernel_rfl) (by kernel_rfl) (fun _ _ _ h => h) (Or.inl ⟨by rfl, ?_⟩) (by assumption) ?_
        · intro w' hSw
          go_simp
        simp only [List.getElem_toArray, List.getElem_cons_succ, List.getElem_cons_zero, Act.put, List.setIfInBounds_toArray, List.set_cons_zero, List.set_cons_succ]
        refine wpAnyH_take (i := 4) (v := (.pointer (some ⟨w.heap.size + 1, 3, none⟩))) rfl (by kernel_rfl) (by kernel_rfl) (by kernel_rfl) (fun _ _ _ h => h) (Or.inl ⟨by rfl, ?_⟩) (by assumption) ?_
        · intro w' hSw
          go_simp
        simp only [List.getElem_toArray, List.getElem_cons_succ, List.getElem_cons_zero, Act.put, List.setIfInBounds_toArray, List.set_cons_zero, List.set_cons_succ]
        refine wpAnyH_take (i := 5) (v := (.slice ba L bz)) rfl (by kernel_rfl) (by kernel_rfl) (by kernel_rfl) (fun _ _ _ h => h) (Or.inl ⟨by rfl, ?_⟩) (by assumption) ?_
        · intro w' hSw
          have c3 : w'.cell? ⟨w.heap.size + 1, 3, none⟩ = some (.slice ba L bz) := hSw.cell 3 wb
          go_simp
        simp only [List.getElem_toArray, List.getElem_cons_succ, List.getElem_cons_zero, Act.put, List.setIfInBounds_toArray, List.set_cons_zero, List.set_cons_succ]
        refine wpAnyH_take (i := 6) (v := (.int .i64 (L : Int))) rfl (by kernel_rfl) (by kernel_rfl) (by kernel_rfl) (fun _ _ _ h => h) (Or.inl ⟨by rfl, ?_⟩) (by assumption) ?_
        · intro w' hSw
          go_simp
        simp only [List.getElem_toArray, List.getElem_cons_succ, List.getElem_cons_zero, Act.put, List.setIfInBounds_toArray, List.set_cons_zero, List.set_cons_succ]
        refine wpAnyH_ready (rs := [3, 7, 9]) (by kernel_rfl) (by simp) ?_
        refine AllReadyH.cons rfl (fun Kc hKc => ?_) (AllReadyH.cons rfl (fun Kc hKc => ?_) (AllReadyH.cons rfl (fun Kc hKc => ?_) AllReadyH.nil))
        · simp only [List.getElem_toArray, List.getElem_cons_succ, List.getElem_cons_zero]
          rw [if_pos (by rfl)]
          go_wp2_with fail
          have NK := HKV wA
          have EM1 : Below wA.heap.size wA (wA.alloc (.cells (madeCells #[.slice none 0 0] L) 49)) := (Below.refl _ _).alloc (Nat.le_refl _) _
          have zwM1 : wA.heap.size < (wA.alloc (.cells (madeCells #[.slice none 0 0] L) 49)).heap.size := by simp
          generalize hn1 : wA.alloc (.cells (madeCells #[.slice none 0 0] L) 49) = wM1 at *
          replace Y0 := Y0.below EM1
          replace Y1 := Y1.below EM1
          replace Y2 := Y2.below EM1
          replace KP := below_then KP EM1
          replace G0 := G0.below EM1
          refine hKc.out _ _ Y1 (fun hHeld => ?_)
          clear hKc Kc hn1
          refine wpAnyH_ready (rs := [7, 9]) (by kernel_rfl) (by simp) ?_
          refine AllReadyH.cons rfl (fun Kc hKc => ?_) (AllReadyH.cons rfl (fun Kc hKc => ?_) AllReadyH.nil)
          · simp only [List.getElem_toArray, List.getElem_cons_succ, List.getElem_cons_zero]
            rw [if_pos (by rfl)]
            go_wp2_with fail
            have NV := HVV wM1
            have EM2 : Below wM1.heap.size wM1 (wM1.alloc (.cells (madeCells #[.slice none 0 0] L) 49)) := (Below.refl _ _).alloc (Nat.le_refl _) _
            have zwM2 : wM1.heap.size < (wM1.alloc (.cells (madeCells #[.slice none 0 0] L) 49)).heap.size := by simp
            generalize hn2 : wM1.alloc (.cells (madeCells #[.slice none 0 0] L) 49) = wM2 at *
            replace Y0 := Y0.below EM2
            replace Y1 := Y1.below EM2
            replace Y2 := Y2.below EM2
            replace KP := below_then KP EM2
            replace G0 := G0.below EM2
            replace NK := fun p => (NK p).below EM2
            refine hKc.out _ _ Y1 (fun hHeld => ?_)
            clear hKc Kc hn2
            refine wpAnyH_take (i := 8) (v := (.agg #[.slice (some ⟨wA.heap.size, 0, none⟩) L L, .slice (some ⟨wM1.heap.size, 0, none⟩) L L])) rfl (by kernel_rfl) (by kernel_rfl) (by kernel_rfl) (fun _ _ _ h => h) (Or.inl ⟨by rfl, ?_⟩) (by assumption) ?_
            · intro w' hSw
              go_simp
            simp only [List.getElem_toArray, List.getElem_cons_succ, List.getElem_cons_zero, Act.put, List.setIfInBounds_toArray, List.set_cons_zero, List.set_cons_succ]
            refine wpAnyH_ready (rs := [9]) (by kernel_rfl) (by simp) ?_
            refine AllReadyH.cons rfl (fun Kc hKc => ?_) AllReadyH.nil
            simp only [List.getElem_toArray, List.getElem_cons_succ, List.getElem_cons_zero]
            rw [if_pos (by rfl)]
            go_wp2_with fail
            have XC := blk_new wM2 41 #[.slice none 0 0, .slice none 0 0]
            have EM3 : Below wM2.heap.size wM2 (wM2.alloc (.cells #[.slice none 0 0, .slice none 0 0] 41)) := (Below.refl _ _).alloc (Nat.le_refl _) _
            have zwM3 : wM2.heap.size < (wM2.alloc (.cells #[.slice none 0 0, .slice none 0 0] 41)).heap.size := by simp
            generalize hn3 : wM2.alloc (.cells #[.slice none 0 0, .slice none 0 0] 41) = wM3 at *
            replace Y0 := Y0.below EM3
            replace Y1 := Y1.below EM3
            replace Y2 := Y2.below EM3
            replace KP := below_then KP EM3
            replace G0 := G0.below EM3
            replace NK := fun p => (NK p).below EM3
            replace NV := fun p => (NV p).below EM3
            refine hKc.out _ _ Y1 (fun hHeld => ?_)
            clear hKc Kc hn3
            refine wpAnyH_ready (rs := [10]) (by kernel_rfl) (by simp) ?_
            refine AllReadyH.cons rfl (fun Kc hKc => ?_) AllReadyH.nil
            simp only [List.getElem_toArray, List.getElem_cons_succ, List.getElem_cons_zero]
            rw [if_pos (by rfl)]
            have hall : Array.all (#[.slice (some ⟨wA.heap.size, 0, none⟩) L L, .slice (some ⟨wM1.heap.size, 0, none⟩) L L] : Array Value) (fun v => v.oneCell') = true := by simp [Value.oneCell']
            refine wp_store_row 41 _ _ rfl (wM2.heap.size) #[.slice (some ⟨wA.heap.size, 0, none⟩) L L, .slice (some ⟨wM1.heap.size, 0, none⟩) L L] rfl rfl 41 _ XC Tryd.infoCa rfl hall ?_
            have so : ∀ b, b ≠ wM2.heap.size → (wM3.setRow (wM2.heap.size) #[.slice (some ⟨wA.heap.size, 0, none⟩) L L, .slice (some ⟨wM1.heap.size, 0, none⟩) L L]).heap[b]? = wM3.heap[b]? := fun b hb => setRow_other _ _ _ _ hb
            have y0 := Y0.lt
            refine hKc.out _ _ (Blk.of_block Y1 (so _ (by omega))) (fun hHeld => ?_)
            clear hKc Kc
            refine wpAnyH_done (by kernel_rfl) ?_ _
            go_wp2_with fail
            go_meet
            case rel =>
              refine ⟨wM2.heap.size, wA.heap.size, wM1.heap.size, rfl, ?_, ⟨Blk.of_block Y0 (so _ (by omega)), Blk.of_block Y1 (so _ (by omega)), Blk.of_block Y2 (so _ (by omega)), XC.row _, ?_, ?_, by omega, below_setRow KP (by omega) _⟩⟩
              · exact (G0.row (g := wM2.heap.size) (by show ¬ (_ < _); omega) _).now
              · exact (NK _).put (by omega) (fun h => h.2.2.2 rfl) _
              · exact (NV _).put (by omega) (fun h => h.2.2.2 rfl) _
          · simp only [List.getElem_toArray, List.getElem_cons_succ, List.getElem_cons_zero]
            rw [if_pos (by rfl)]
            go_wp2_with fail
            have XC := blk_new wM1 41 #[.slice none 0 0, .slice none 0 0]
            have EM2 : Below wM1.heap.size wM1 (wM1.alloc (.cells #[.slice none 0 0, .slice none 0 0] 41)) := (Below.refl _ _).alloc (Nat.le_refl _) _
            have zwM2 : wM1.heap.size < (wM1.alloc (.cells #[.slice none 0 0, .slice none 0 0] 41)).heap.size := by simp
            generalize hn2 : wM1.alloc (.cells #[.slice none 0 0, .slice none 0 0] 41) = wM2 at *
            replace Y0 := Y0.below EM2
            replace Y1 := Y1.below EM2
            replace Y2 := Y2.below EM2
            replace KP := below_then KP EM2
            replace G0 := G0.below EM2
            replace NK := fun p => (NK p).below EM2
            refine hKc.out _ _ Y1 (fun hHeld => ?_)
            clear hKc Kc hn2
            refine wpAnyH_ready (rs := [7]) (by kernel_rfl) (by simp) ?_
            refine AllReadyH.cons rfl (fun Kc hKc => ?_) AllReadyH.nil
            simp only [List.getElem_toArray, List.getElem_cons_succ, List.getElem_cons_zero]
            rw [if_pos (by rfl)]
            go_wp2_with fail
            have NV := HVV wM2
            have EM3 : Below wM2.heap.size wM2 (wM2.alloc (.cells (madeCells #[.slice none 0 0] L) 49)) := (Below.refl _ _).alloc (Nat.le_refl _) _
            have zwM3 : wM2.heap.size < (wM2.alloc (.cells (madeCells #[.slice none 0 0] L) 49)).heap.size := by simp
            generalize hn3 : wM2.alloc (.cells (madeCells #[.slice none 0 0] L) 49) = wM3 at *
            replace Y0 := Y0.below EM3
            replace Y1 := Y1.below EM3
            replace Y2 := Y2.below EM3
            replace KP := below_then KP EM3
            replace G0 := G0.below EM3
            replace NK := fun p => (NK p).below EM3
            replace XC := XC.below EM3
            refine hKc.out _ _ Y1 (fun hHeld => ?_)
            clear hKc Kc hn3
            refine wpAnyH_take (i := 8) (v := (.agg #[.slice (some ⟨wA.heap.size, 0, none⟩) L L, .slice (some ⟨wM2.heap.size, 0, none⟩) L L])) rfl (by kernel_rfl) (by kernel_rfl) (by kernel_rfl) (fun _ _ _ h => h) (Or.inl ⟨by rfl, ?_⟩) (by assumption) ?_
            · intro w' hSw
              go_simp
            simp only [List.getElem_toArray, List.getElem_cons_succ, List.getElem_cons_zero, Act.put, List.setIfInBounds_toArray, List.set_cons_zero, List.set_cons_succ]
            refine wpAnyH_ready (rs := [10]) (by kernel_rfl) (by simp) ?_
            refine AllReadyH.cons rfl (fun Kc hKc => ?_) AllReadyH.nil
            simp only [List.getElem_toArray, List.getElem_cons_succ, List.getElem_cons_zero]
            rw [if_pos (by rfl)]
            have hall : Array.all (#[.slice (some ⟨wA.heap.size, 0, none⟩) L L, .slice (some ⟨wM2.heap.size, 0, none⟩) L L] : Array Value) (fun v => v.oneCell') = true := by simp [Value.oneCell']
            refine wp_store_row 41 _ _ rfl (wM1.heap.size) #[.slice (some ⟨wA.heap.size, 0, none⟩) L L, .slice (some ⟨wM2.heap.size, 0, none⟩) L L] rfl rfl 41 _ XC Tryd.infoCa rfl hall ?_
            have so : ∀ b, b ≠ wM1.heap.size → (wM3.setRow (wM1.heap.size) #[.slice (some ⟨wA.heap.size, 0, none⟩) L L, .slice (some ⟨wM2.heap.size, 0, none⟩) L L]).heap[b]? = wM3.heap[b]? := fun b hb => setRow_other _ _ _ _ hb
            have y0 := Y0.lt
            refine hKc.out _ _ (Blk.of_block Y1 (so _ (by omega))) (fun hHeld => ?_)
            clear hKc Kc
            refine wpAnyH_done (by kernel_rfl) ?_ _
            go_wp2_with fail
            go_meet
            case rel =>
              refine ⟨wM1.heap.size, wA.heap.size, wM2.heap.size, rfl, ?_, ⟨Blk.of_block Y0 (so _ (by omega)), Blk.of_block Y1 (so _ (by omega)), Blk.of_block Y2 (so _ (by omega)), XC.row _, ?_, ?_, by omega, below_setRow KP (by omega) _⟩⟩
              · exact (G0.row (g := wM1.heap.size) (by show ¬ (_ < _); omega) _).now
              · exact (NK _).put (by omega) (fun h => h.2.2.2 rfl) _
              · exact (NV _).put (by omega) (fun h => h.2.2.2 rfl) _
        · simp only [List.getElem_toArray, List.getElem_cons_succ, List.getElem_cons_zero]
          rw [if_pos (by rfl)]
          go_wp2_with fail
          have NV := HVV wA
          have EM1 : Below wA.heap.size wA (wA.alloc (.cells (madeCells #[.slice none 0 0] L) 49)) := (Below.refl _ _).alloc (Nat.le_refl _) _
          have zwM1 : wA.heap.size < (wA.alloc (.cells (madeCells #[.slice none 0 0] L) 49)).heap.size := by simp
          generalize hn1 : wA.alloc (.cells (madeCells #[.slice none 0 0] L) 49) = wM1 at *
          replace Y0 := Y0.below EM1
          replace Y1 := Y1.below EM1
          replace Y2 := Y2.below EM1
          replace KP := below_then KP EM1
          replace G0 := G0.below EM1
          refine hKc.out _ _ Y1 (fun hHeld => ?_)
          clear hKc Kc hn1
          refine wpAnyH_ready (rs := [3, 9]) (by kernel_rfl) (by simp) ?_
          refine AllReadyH.cons rfl (fun Kc hKc => ?_) (AllReadyH.cons rfl (fun Kc hKc => ?_) AllReadyH.nil)
          · simp only [List.getElem_toArray, List.getElem_cons_succ, List.getElem_cons_zero]
            rw [if_pos (by rfl)]
            go_wp2_with fail
            have NK := HKV wM1
            have EM2 : Below wM1.heap.size wM1 (wM1.alloc (.cells (madeCells #[.slice none 0 0] L) 49)) := (Below.refl _ _).alloc (Nat.le_refl _) _
            have zwM2 : wM1.heap.size < (wM1.alloc (.cells (madeCells #[.slice none 0 0] L) 49)).heap.size := by simp
            generalize hn2 : wM1.alloc (.cells (madeCells #[.slice none 0 0] L) 49) = wM2 at *
            replace Y0 := Y0.below EM2
            replace Y1 := Y1.below EM2
            replace Y2 := Y2.below EM2
            replace KP := below_then KP EM2
            replace G0 := G0.below EM2
            replace NV := fun p => (NV p).below EM2
            refine hKc.out _ _ Y1 (fun hHeld => ?_)
            clear hKc Kc hn2
            refine wpAnyH_take (i := 8) (v := (.agg #[.slice (some ⟨wM1.heap.size, 0, none⟩) L L, .slice (some ⟨wA.heap.size, 0, none⟩) L L])) rfl (by kernel_rfl) (by kernel_rfl) (by kernel_rfl) (fun _ _ _ h => h) (Or.inl ⟨by rfl, ?_⟩) (by assumption) ?_
            · intro w' hSw
              go_simp
            simp only [List.getElem_toArray, List.getElem_cons_succ, List.getElem_cons_zero, Act.put, List.setIfInBounds_toArray, List.set_cons_zero, List.set_cons_succ]
            refine wpAnyH_ready (rs := [9]) (by kernel_rfl) (by simp) ?_
            refine AllReadyH.cons rfl (fun Kc hKc => ?_) AllReadyH.nil
            simp only [List.getElem_toArray, List.getElem_cons_succ, List.getElem_cons_zero]
            rw [if_pos (by rfl)]
            go_wp2_with fail
            have XC := blk_new wM2 41 #[.slice none 0 0, .slice none 0 0]
            have EM3 : Below wM2.heap.size wM2 (wM2.alloc (.cells #[.slice none 0 0, .slice none 0 0] 41)) := (Below.refl _ _).alloc (Nat.le_refl _) _
            have zwM3 : wM2.heap.size < (wM2.alloc (.cells #[.slice none 0 0, .slice none 0 0] 41)).heap.size := by simp
            generalize hn3 : wM2.alloc (.cells #[.slice none 0 0, .slice none 0 0] 41) = wM3 at *
            replace Y0 := Y0.below EM3
            replace Y1 := Y1.below EM3
            replace Y2 := Y2.below EM3
            replace KP := below_then KP EM3
            replace G0 := G0.below EM3
            replace NV := fun p => (NV p).below EM3
            replace NK := fun p => (NK p).below EM3
            refine hKc.out _ _ Y1 (fun hHeld => ?_)
            clear hKc Kc hn3
            refine wpAnyH_ready (rs := [10]) (by kernel_rfl) (by simp) ?_
            refine AllReadyH.cons rfl (fun Kc hKc => ?_) AllReadyH.nil
            simp only [List.getElem_toArray, List.getElem_cons_succ, List.getElem_cons_zero]
            rw [if_pos (by rfl)]
            have hall : Array.all (#[.slice (some ⟨wM1.heap.size, 0, none⟩) L L, .slice (some ⟨wA.heap.size, 0, none⟩) L L] : Array Value) (fun v => v.oneCell') = true := by simp [Value.oneCell']
            refine wp_store_row 41 _ _ rfl (wM2.heap.size) #[.slice (some ⟨wM1.heap.size, 0, none⟩) L L, .slice (some ⟨wA.heap.size, 0, none⟩) L L] rfl rfl 41 _ XC Tryd.infoCa rfl hall ?_
            have so : ∀ b, b ≠ wM2.heap.size → (wM3.setRow (wM2.heap.size) #[.slice (some ⟨wM1.heap.size, 0, none⟩) L L, .slice (some ⟨wA.heap.size, 0, none⟩) L L]).heap[b]? = wM3.heap[b]? := fun b hb => setRow_other _ _ _ _ hb
            have y0 := Y0.lt
            refine hKc.out _ _ (Blk.of_block Y1 (so _ (by omega))) (fun hHeld => ?_)
            clear hKc Kc
            refine wpAnyH_done (by kernel_rfl) ?_ _
            go_wp2_with fail
            go_meet
            case rel =>
              refine ⟨wM2.heap.size, wM1.heap.size, wA.heap.size, rfl, ?_, ⟨Blk.of_block Y0 (so _ (by omega)), Blk.of_block Y1 (so _ (by omega)), Blk.of_block Y2 (so _ (by omega)), XC.row _, ?_, ?_, by omega, below_setRow KP (by omega) _⟩⟩
              · exact (G0.row (g := wM2.heap.size) (by show ¬ (_ < _); omega) _).now
              · exact (NK _).put (by omega) (fun h => h.2.2.2 rfl) _
              · exact (NV _).put (by omega) (fun h => h.2.2.2 rfl) _
          · simp only [List.getElem_toArray, List.getElem_cons_succ, List.getElem_cons_zero]
            rw [if_pos (by rfl)]
            go_wp2_with fail
            have XC := blk_new wM1 41 #[.slice none 0 0, .slice none 0 0]
            have EM2 : Below wM1.heap.size wM1 (wM1.alloc (.cells #[.slice none 0 0, .slice none 0 0] 41)) := (Below.refl _ _).alloc (Nat.le_refl _) _
            have zwM2 : wM1.heap.size < (wM1.alloc (.cells #[.slice none 0 0, .slice none 0 0] 41)).heap.size := by simp
            generalize hn2 : wM1.alloc (.cells #[.slice none 0 0, .slice none 0 0] 41) = wM2 at *
            replace Y0 := Y0.below EM2
            replace Y1 := Y1.below EM2
            replace Y2 := Y2.below EM2
            replace KP := below_then KP EM2
            replace G0 := G0.below EM2
            replace NV := fun p => (NV p).below EM2
            refine hKc.out _ _ Y1 (fun hHeld => ?_)
            clear hKc Kc hn2
            refine wpAnyH_ready (rs := [3]) (by kernel_rfl) (by simp) ?_
            refine AllReadyH.cons rfl (fun Kc hKc => ?_) AllReadyH.nil
            simp only [List.getElem_toArray, List.getElem_cons_succ, List.getElem_cons_zero]
            rw [if_pos (by rfl)]
            go_wp2_with fail
            have NK := HKV wM2
            have EM3 : Below wM2.heap.size wM2 (wM2.alloc (.cells (madeCells #[.slice none 0 0] L) 49)) := (Below.refl _ _).alloc (Nat.le_refl _) _
            have zwM3 : wM2.heap.size < (wM2.alloc (.cells (madeCells #[.slice none 0 0] L) 49)).heap.size := by simp
            generalize hn3 : wM2.alloc (.cells (madeCells #[.slice none 0 0] L) 49) = wM3 at *
            replace Y0 := Y0.below EM3
            replace Y1 := Y1.below EM3
            replace Y2 := Y2.below EM3
            replace KP := below_then KP EM3
            replace G0 := G0.below EM3
            replace NV := fun p => (NV p).below EM3
            replace XC := XC.below EM3
            refine hKc.out _ _ Y1 (fun hHeld => ?_)
            clear hKc Kc hn3
            refine wpAnyH_take (i := 8) (v := (.agg #[.slice (some ⟨wM2.heap.size, 0, none⟩) L L, .slice (some ⟨wA.heap.size, 0, none⟩) L L])) rfl (by kernel_rfl) (by kernel_rfl) (by kernel_rfl) (fun _ _ _ h => h) (Or.inl ⟨by rfl, ?_⟩) (by assumption) ?_
            · intro w' hSw
              go_simp
            simp only [List.getElem_toArray, List.getElem_cons_succ, List.getElem_cons_zero, Act.put, List.setIfInBounds_toArray, List.set_cons_zero, List.set_cons_succ]
            refine wpAnyH_ready (rs := [10]) (by kernel_rfl) (by simp) ?_
            refine AllReadyH.cons rfl (fun Kc hKc => ?_) AllReadyH.nil
            simp only [List.getElem_toArray, List.getElem_cons_succ, List.getElem_cons_zero]
            rw [if_pos (by rfl)]
            have hall : Array.all (#[.slice (some ⟨wM2.heap.size, 0, none⟩) L L, .slice (some ⟨wA.heap.size, 0, none⟩) L L] : Array Value) (fun v => v.oneCell') = true := by simp [Value.oneCell']
            refine wp_store_row 41 _ _ rfl (wM1.heap.size) #[.slice (some ⟨wM2.heap.size, 0, none⟩) L L, .slice (some ⟨wA.heap.size, 0, none⟩) L L] rfl rfl 41 _ XC Tryd.infoCa rfl hall ?_
            have so : ∀ b, b ≠ wM1.heap.size → (wM3.setRow (wM1.heap.size) #[.slice (some ⟨wM2.heap.size, 0, none⟩) L L, .slice (some ⟨wA.heap.size, 0, none⟩) L L]).heap[b]? = wM3.heap[b]? := fun b hb => setRow_other _ _ _ _ hb
            have y0 := Y0.lt
            refine hKc.out _ _ (Blk.of_block Y1 (so _ (by omega))) (fun hHeld => ?_)
            clear hKc Kc
            refine wpAnyH_done (by kernel_rfl) ?_ _
            go_wp2_with fail
            go_meet
            case rel =>
              refine ⟨wM1.heap.size, wM2.heap.size, wA.heap.size, rfl, ?_, ⟨Blk.of_block Y0 (so _ (by omega)), Blk.of_block Y1 (so _ (by omega)), Blk.of_block Y2 (so _ (by omega)), XC.row _, ?_, ?_, by omega, below_setRow KP (by omega) _⟩⟩
              · exact (G0.row (g := wM1.heap.size) (by show ¬ (_ < _); omega) _).now
              · exact (NK _).put (by omega) (fun h => h.2.2.2 rfl) _
              · exact (NV _).put (by omega) (fun h => h.2.2.2 rfl) _
        · simp only [List.getElem_toArray, List.getElem_cons_succ, List.getElem_cons_zero]
          rw [if_pos (by rfl)]
          go_wp2_with fail
          have XC := blk_new wA 41 #[.slice none 0 0, .slice none 0 0]
          have EM1 : Below wA.heap.size wA (wA.alloc (.cells #[.slice none 0 0, .slice none 0 0] 41)) := (Below.refl _ _).alloc (Nat.le_refl _) _
          have zwM1 : wA.heap.size < (wA.alloc (.cells #[.slice none 0 0, .slice none 0 0] 41)).heap.size := by simp
          generalize hn1 : wA.alloc (.cells #[.slice none 0 0, .slice none 0 0] 41) = wM1 at *
          replace Y0 := Y0.below EM1
          replace Y1 := Y1.below EM1
          replace Y2 := Y2.below EM1
          replace KP := below_then KP EM1
          replace G0 := G0.below EM1
          refine hKc.out _ _ Y1 (fun hHeld => ?_)
          clear hKc Kc hn1
          refine wpAnyH_ready (rs := [3, 7]) (by kernel_rfl) (by simp) ?_
          refine AllReadyH.cons rfl (fun Kc hKc => ?_) (AllReadyH.cons rfl (fun Kc hKc => ?_) AllReadyH.nil)
          · simp only [List.getElem_toArray, List.getElem_cons_succ, List.getElem_cons_zero]
            rw [if_pos (by rfl)]
            go_wp2_with fail
            have NK := HKV wM1
            have EM2 : Below wM1.heap.size wM1 (wM1.alloc (.cells (madeCells #[.slice none 0 0] L) 49)) := (Below.refl _ _).alloc (Nat.le_refl _) _
            have zwM2 : wM1.heap.size < (wM1.alloc (.cells (madeCells #[.slice none 0 0] L) 49)).heap.size := by simp
            generalize hn2 : wM1.alloc (.cells (madeCells #[.slice none 0 0] L) 49) = wM2 at *
            replace Y0 := Y0.below EM2
            replace Y1 := Y1.below EM2
            replace Y2 := Y2.below EM2
            replace KP := below_then KP EM2
            replace G0 := G0.below EM2
            replace XC := XC.below EM2
            refine hKc.out _ _ Y1 (fun hHeld => ?_)
            clear hKc Kc hn2
            refine wpAnyH_ready (rs := [7]) (by kernel_rfl) (by simp) ?_
            refine AllReadyH.cons rfl (fun Kc hKc => ?_) AllReadyH.nil
            simp only [List.getElem_toArray, List.getElem_cons_succ, List.getElem_cons_zero]
            rw [if_pos (by rfl)]
            go_wp2_with fail
            have NV := HVV wM2
            have EM3 : Below wM2.heap.size wM2 (wM2.alloc (.cells (madeCells #[.slice none 0 0] L) 49)) := (Below.refl _ _).alloc (Nat.le_refl _) _
            have zwM3 : wM2.heap.size < (wM2.alloc (.cells (madeCells #[.slice none 0 0] L) 49)).heap.size := by simp
            generalize hn3 : wM2.alloc (.cells (madeCells #[.slice none 0 0] L) 49) = wM3 at *
            replace Y0 := Y0.below EM3
            replace Y1 := Y1.below EM3
            replace Y2 := Y2.below EM3
            replace KP := below_then KP EM3
            replace G0 := G0.below EM3
            replace XC := XC.below EM3
            replace NK := fun p => (NK p).below EM3
            refine hKc.out _ _ Y1 (fun hHeld => ?_)
            clear hKc Kc hn3
            refine wpAnyH_take (i := 8) (v := (.agg #[.slice (some ⟨wM1.heap.size, 0, none⟩) L L, .slice (some ⟨wM2.heap.size, 0, none⟩) L L])) rfl (by kernel_rfl) (by kernel_rfl) (by kernel_rfl) (fun _ _ _ h => h) (Or.inl ⟨by rfl, ?_⟩) (by assumption) ?_
            · intro w' hSw
              go_simp
            simp only [List.getElem_toArray, List.getElem_cons_succ, List.getElem_cons_zero, Act.put, List.setIfInBounds_toArray, List.set_cons_zero, List.set_cons_succ]
            refine wpAnyH_ready (rs := [10]) (by kernel_rfl) (by simp) ?_
            refine AllReadyH.cons rfl (fun Kc hKc => ?_) AllReadyH.nil
            simp only [List.getElem_toArray, List.getElem_cons_succ, List.getElem_cons_zero]
            rw [if_pos (by rfl)]
            have hall : Array.all (#[.slice (some ⟨wM1.heap.size, 0, none⟩) L L, .slice (some ⟨wM2.heap.size, 0, none⟩) L L] : Array Value) (fun v => v.oneCell') = true := by simp [Value.oneCell']
            refine wp_store_row 41 _ _ rfl (wA.heap.size) #[.slice (some ⟨wM1.heap.size, 0, none⟩) L L, .slice (some ⟨wM2.heap.size, 0, none⟩) L L] rfl rfl 41 _ XC Tryd.infoCa rfl hall ?_
            have so : ∀ b, b ≠ wA.heap.size → (wM3.setRow (wA.heap.size) #[.slice (some ⟨wM1.heap.size, 0, none⟩) L L, .slice (some ⟨wM2.heap.size, 0, none⟩) L L]).heap[b]? = wM3.heap[b]? := fun b hb => setRow_other _ _ _ _ hb
            have y0 := Y0.lt
            refine hKc.out _ _ (Blk.of_block Y1 (so _ (by omega))) (fun hHeld => ?_)
            clear hKc Kc
            refine wpAnyH_done (by kernel_rfl) ?_ _
            go_wp2_with fail
            go_meet
            case rel =>
              refine ⟨wA.heap.size, wM1.heap.size, wM2.heap.size, rfl, ?_, ⟨Blk.of_block Y0 (so _ (by omega)), Blk.of_block Y1 (so _ (by omega)), Blk.of_block Y2 (so _ (by omega)), XC.row _, ?_, ?_, by omega, below_setRow KP (by omega) _⟩⟩
              · exact (G0.row (g := wA.heap.size) (by show ¬ (_ < _); omega) _).now
              · exact (NK _).put (by omega) (fun h => h.2.2.2 rfl) _
              · exact (NV _).put (by omega) (fun h => h.2.2.2 rfl) _
          · simp only [List.getElem_toArray, List.getElem_cons_succ, List.getElem_cons_zero]
            rw [if_pos (by rfl)]
            go_wp2_with fail
            have NV := HVV wM1
            have EM2 : Below wM1.heap.size wM1 (wM1.alloc (.cells (madeCells #[.slice none 0 0] L) 49)) := (Below.refl _ _).alloc (Nat.le_refl _) _
            have zwM2 : wM1.heap.size < (wM1.alloc (.cells (madeCells #[.slice none 0 0] L) 49)).heap.size := by simp
            generalize hn2 : wM1.alloc (.cells (madeCells #[.slice none 0 0] L) 49) = wM2 at *
            replace Y0 := Y0.below EM2
            replace Y1 := Y1.below EM2
            replace Y2 := Y2.below EM2
            replace KP := below_then KP EM2
            replace G0 := G0.below EM2
            replace XC := XC.below EM2
            refine hKc.out _ _ Y1 (fun hHeld => ?_)
            clear hKc Kc hn2
            refine wpAnyH_ready (rs := [3]) (by kernel_rfl) (by simp) ?_
            refine AllReadyH.cons rfl (fun Kc hKc => ?_) AllReadyH.nil
            simp only [List.getElem_toArray, List.getElem_cons_succ, List.getElem_cons_zero]
            rw [if_pos (by rfl)]
            go_wp2_with fail
            have NK := HKV wM2
            have EM3 : Below wM2.heap.size wM2 (wM2.alloc (.cells (madeCells #[.slice none 0 0] L) 49)) := (Below.refl _ _).alloc (Nat.le_refl _) _
            have zwM3 : wM2.heap.size < (wM2.alloc (.cells (madeCells #[.slice none 0 0] L) 49)).heap.size := by simp
            generalize hn3 : wM2.alloc (.cells (madeCells #[.slice none 0 0] L) 49) = wM3 at *
            replace Y0 := Y0.below EM3
            replace Y1 := Y1.below EM3
            replace Y2 := Y2.below EM3
            replace KP := below_then KP EM3
            replace G0 := G0.below EM3
            replace XC := XC.below EM3
            replace NV := fun p => (NV p).below EM3
            refine hKc.out _ _ Y1 (fun hHeld => ?_)
            clear hKc Kc hn3
            refine wpAnyH_take (i := 8) (v := (.agg #[.slice (some ⟨wM2.heap.size, 0, none⟩) L L, .slice (some ⟨wM1.heap.size, 0, none⟩) L L])) rfl (by kernel_rfl) (by kernel_rfl) (by kernel_rfl) (fun _ _ _ h => h) (Or.inl ⟨by rfl, ?_⟩) (by assumption) ?_
            · intro w' hSw
              go_simp
            simp only [List.getElem_toArray, List.getElem_cons_succ, List.getElem_cons_zero, Act.put, List.setIfInBounds_toArray, List.set_cons_zero, List.set_cons_succ]
            refine wpAnyH_ready (rs := [10]) (by kernel_rfl) (by simp) ?_
            refine AllReadyH.cons rfl (fun Kc hKc => ?_) AllReadyH.nil
            simp only [List.getElem_toArray, List.getElem_cons_succ, List.getElem_cons_zero]
            rw [if_pos (by rfl)]
            have hall : Array.all (#[.slice (some ⟨wM2.heap.size, 0, none⟩) L L, .slice (some ⟨wM1.heap.size, 0, none⟩) L L] : Array Value) (fun v => v.oneCell') = true := by simp [Value.oneCell']
            refine wp_store_row 41 _ _ rfl (wA.heap.size) #[.slice (some ⟨wM2.heap.size, 0, none⟩) L L, .slice (some ⟨wM1.heap.size, 0, none⟩) L L] rfl rfl 41 _ XC Tryd.infoCa rfl hall ?_
            have so : ∀ b, b ≠ wA.heap.size → (wM3.setRow (wA.heap.size) #[.slice (some ⟨wM2.heap.size, 0, none⟩) L L, .slice (some ⟨wM1.heap.size, 0, none⟩) L L]).heap[b]? = wM3.heap[b]? := fun b hb => setRow_other _ _ _ _ hb
            have y0 := Y0.lt
            refine hKc.out _ _ (Blk.of_block Y1 (so _ (by omega))) (fun hHeld => ?_)
            clear hKc Kc
            refine wpAnyH_done (by kernel_rfl) ?_ _
            go_wp2_with fail
            go_meet
            case rel =>
              refine ⟨wA.heap.size, wM2.heap.size, wM1.heap.size, rfl, ?_, ⟨Blk.of_block Y0 (so _ (by omega)), Blk.of_block Y1 (so _ (by omega)), Blk.of_block Y2 (so _ (by omega)), XC.row _, ?_, ?_, by omega, below_setRow KP (by omega) _⟩⟩
              · exact (G0.row (g := wA.heap.size) (by show ¬ (_ < _); omega) _).now
              · exact (NK _).put (by omega) (fun h => h.2.2.2 rfl) _
              · exact (NV _).put (by omega) (fun h => h.2.2.2 rfl) _
      case rest =>
        obtain ⟨gC, gK, gV, rfl, GR, FF⟩ := hcut
        clear XX0 Y0 Y1 Y2 KP G0 hmk2
        have X1 := FF.x1
        have c3 : wc.cell? ⟨w.heap.size + 1, 3, none⟩ = some (.slice ba L bz) := X1.cell 3 wb
        go_wp2_with fail
        clear c3 X1
        go_loopg [61, 11] L (fun r i s wr => ∃ (t gr : Nat), t ≤ L ∧ r = L - t ∧ i = .int .i64 t ∧ s = .slice (some ⟨gr, 0, none⟩) k k ∧ GridAt wr (some ⟨gr, 0, none⟩) k (rowsL M D H Hd A t) ∧ FI w wr #[.int .i64 (V : Int), .int .i64 (D : Int), .int .i64 (Hd : Int), .int .i64 (H : Int), .int .i64 (L : Int)] ws gC gK gV L t (fullK M D H Hd L A) (fullV M D H Hd L A))
        case atStart => exact ⟨0, w4.heap.size, by omega, by omega, rfl, rfl, GR, FF⟩
        case round =>
          obtain ⟨t, gr, htl, rfl, rfl, rfl, GR, FF⟩ := hrel
          by_cases hlt : t < L
          · obtain ⟨x, hx⟩ : ∃ x, bs[t]? = some x := ⟨_, List.getElem?_eq_getElem (by omega)⟩
            have WW := (HG.out wr FF.kp).wt
            obtain ⟨Lx, hLx, BK⟩ := WW.ls t x hx
            have HLx : Hid (layAt M t = Lx) := by show _ = _; unfold layAt; rw [List.getD_eq_getElem?_getD, hLx]; rfl
            obtain ⟨g, o, e0, hc⟩ := WW.b.cells (by show 0 < L; omega)
            simp only at e0
            subst e0
            have r0 := hc t x hx
            clear hc hLx WW
            have HO := fun (ro : Option Addr) (nn cc : Nat) (R : List (List Int)) (wv : World) h1' (hb : BkAt wv D H x Lx) h3' h4' h5' => layer_any V D Hd H H L x Lx ro nn cc R wv h1' hb h3' h4' h5' (by omega) (by omega) (by omega) (by omega) hmod (by omega)
            unfold cfgC at HO
            have one := bk_one x
            have siz2 := bk_size x
            generalize x.cells = cs at *
            have XZ := blk_new wr 48 #[.slice none 0 0, .int .i64 0, .int .i64 0, .slice none 0 0, .int .i64 0, .int .i64 0, .slice none 0 0, .int .i64 0, .int .i64 0, .slice none 0 0, .int .i64 0, .int .i64 0, .slice none 0 0, .slice none 0 0, .int .i64 0, .int .i64 0, .slice none 0 0, .int .i64 0, .int .i64 0, .slice none 0 0]
            have BZ : Below wr.heap.size wr (wr.alloc (.cells #[.slice none 0 0, .int .i64 0, .int .i64 0, .slice none 0 0, .int .i64 0, .int .i64 0, .slice none 0 0, .int .i64 0, .int .i64 0, .slice none 0 0, .int .i64 0, .int .i64 0, .slice none 0 0, .slice none 0 0, .int .i64 0, .int .i64 0, .slice none 0 0, .int .i64 0, .int .i64 0, .slice none 0 0] 48)) := (Below.refl _ _).alloc (Nat.le_refl _) _
            generalize hwz : wr.alloc (.cells #[.slice none 0 0, .int .i64 0, .int .i64 0, .slice none 0 0, .int .i64 0, .int .i64 0, .slice none 0 0, .int .i64 0, .int .i64 0, .slice none 0 0, .int .i64 0, .int .i64 0, .slice none 0 0, .slice none 0 0, .int .i64 0, .int .i64 0, .slice none 0 0, .int .i64 0, .int .i64 0, .slice none 0 0] 48) = wz at *
            have XR := XZ.row cs
            have BR := below_setRow BZ (Nat.le_refl _) cs
            generalize hwy : wz.setRow wr.heap.size cs = wy at *
            have HL : Hid (cs.toList.toArray = cs) := by show _ = _; simp
            have ltk := FF.k.lt
            have ltv := FF.v.lt
            have ltc := FF.xc.lt
            have ne := FF.ne
            have FY := (FF.below BR).below ((Below.refl _ _).drew)
            have GY := (GR.below BR).below ((Below.refl _ _).drew)
            have XY := XR.below ((Below.refl _ _).drew)
            have BY := (BK.below BR).below ((Below.refl _ _).drew)
            have sY : wr.heap.size ≤ wy.drew.heap.size := BR.size
            have rl : ∀ s, s < k → (rowOf (rowsL M D H Hd A t) s).length = D := fun s hs => rowsL_row M D H Hd A t s (by rw [HLN.out]; exact hs)
            have E1 : Hid ((fullK M D H Hd L A).getD t [] = keysR Lx D (rowsL M D H Hd A t)) := by show _ = _; rw [fullK_at _ _ _ _ _ _ hlt, HLx.out]
            have E2 : Hid ((fullV M D H Hd L A).getD t [] = valsR Lx D (rowsL M D H Hd A t)) := by show _ = _; rw [fullV_at _ _ _ _ _ _ hlt, HLx.out]
            have E3 : Hid (rowsL M D H Hd A (t + 1) = madeR Lx D H Hd (rowsL M D H Hd A t)) := by show _ = _; rw [← HLx.out]; rfl
            clear FF GR BK BZ
            go_wp2_with (first | (refine wpList_load_mid rfl 48 _ rfl g (o + t * 20) rfl cs.toList _ r0 Tryd.underlying48 rfl (by rw [Array.length_toList, siz2]; exact Tryd.infoB) ?_; rw [HL.out]) | (refine wpList_store_row rfl 48 _ _ rfl wr.heap.size cs rfl rfl 48 _ XZ (by rw [siz2]; exact Tryd.infoB) siz2.symm one ?_; rw [hwy]))
            clear hwz hwy XZ XR r0 HL
            refine wp_region_held_drew (S := fun w' => Blk w' w.heap.size 23 #[.int .i64 (V : Int), .int .i64 (D : Int), .int .i64 (Hd : Int), .int .i64 (H : Int), .int .i64 (L : Int)] ∧ Blk w' wr.heap.size 48 cs ∧ Blk w' gC 41 #[.slice (some ⟨gK, 0, none⟩) L L, .slice (some ⟨gV, 0, none⟩) L L]) (by kernel_rfl) (⟨FY.x0, XY, FY.xc⟩) (fun hHeld => ?_)
            refine wpAnyH_take (i := 0) (v := (.pointer (some ⟨gC, 0, none⟩))) rfl (by kernel_rfl) (by kernel_rfl) (by kernel_rfl) (fun _ _ _ h => h) (Or.inl ⟨by rfl, ?_⟩) (by assumption) ?_
            · intro w' hSw
              go_simp
            simp only [List.getElem_toArray, List.getElem_cons_zero, Act.put, List.setIfInBounds_toArray, List.set_cons_zero, List.set_cons_succ]
            refine wpAnyH_take (i := 1) (v := (.slice (some ⟨gK, 0, none⟩) L L)) rfl (by kernel_rfl) (by kernel_rfl) (by kernel_rfl) (fun _ _ _ h => h) (Or.inl ⟨by rfl, ?_⟩) (by assumption) ?_
            · intro w' hSw
              have ck : w'.cell? ⟨gC, 0, none⟩ = some (.slice (some ⟨gK, 0, none⟩) L L) := hSw.2.2.cell 0 rfl
              go_simp
            simp only [List.getElem_toArray, List.getElem_cons_succ, List.getElem_cons_zero, Act.put, List.setIfInBounds_toArray, List.set_cons_zero, List.set_cons_succ]
            refine wpAnyH_take (i := 2) (v := (.int .i64 (t : Int))) rfl (by kernel_rfl) (by kernel_rfl) (by kernel_rfl) (fun _ _ _ h => h) (Or.inl ⟨by rfl, ?_⟩) (by assumption) ?_
            · intro w' hSw
              go_simp
            simp only [List.getElem_toArray, List.getElem_cons_succ, List.getElem_cons_zero, Act.put, List.setIfInBounds_toArray, List.set_cons_zero, List.set_cons_succ]
            refine wpAnyH_take (i := 3) (v := (.pointer (some ⟨gC, 1, none⟩))) rfl (by kernel_rfl) (by kernel_rfl) (by kernel_rfl) (fun _ _ _ h => h) (Or.inl ⟨by rfl, ?_⟩) (by assumption) ?_
            · intro w' hSw
              go_simp
            simp only [List.getElem_toArray, List.getElem_cons_succ, List.getElem_cons_zero, Act.put, List.setIfInBounds_toArray, List.set_cons_zero, List.set_cons_succ]
            refine wpAnyH_take (i := 4) (v := (.slice (some ⟨gV, 0, none⟩) L L)) rfl (by kernel_rfl) (by kernel_rfl) (by kernel_rfl) (fun _ _ _ h => h) (Or.inl ⟨by rfl, ?_⟩) (by assumption) ?_
            · intro w' hSw
              have cv : w'.cell? ⟨gC, 1, none⟩ = some (.slice (some ⟨gV, 0, none⟩) L L) := hSw.2.2.cell 1 rfl
              go_simp
            simp only [List.getElem_toArray, List.getElem_cons_succ, List.getElem_cons_zero, Act.put, List.setIfInBounds_toArray, List.set_cons_zero, List.set_cons_succ]
            refine wpAnyH_take (i := 5) (v := (.int .i64 (t : Int))) rfl (by kernel_rfl) (by kernel_rfl) (by kernel_rfl) (fun _ _ _ h => h) (Or.inl ⟨by rfl, ?_⟩) (by assumption) ?_
            · intro w' hSw
              go_simp
            simp only [List.getElem_toArray, List.getElem_cons_succ, List.getElem_cons_zero, Act.put, List.setIfInBounds_toArray, List.set_cons_zero, List.set_cons_succ]
            refine wpAnyH_take (i := 6) (v := (.agg #[.int .i64 (V : Int), .int .i64 (D : Int), .int .i64 (Hd : Int), .int .i64 (H : Int), .int .i64 (L : Int)])) rfl (by kernel_rfl) (by kernel_rfl) (by kernel_rfl) (fun _ _ _ h => h) (Or.inl ⟨by rfl, ?_⟩) (by assumption) ?_
            · intro w' hSw
              have cc0 : w'.cell? ⟨w.heap.size, 0, none⟩ = some (.int .i64 (V : Int)) := hSw.1.cell 0 rfl
              have cc1 : w'.cell? ⟨w.heap.size, 1, none⟩ = some (.int .i64 (D : Int)) := hSw.1.cell 1 rfl
              have cc2 : w'.cell? ⟨w.heap.size, 2, none⟩ = some (.int .i64 (Hd : Int)) := hSw.1.cell 2 rfl
              have cc3 : w'.cell? ⟨w.heap.size, 3, none⟩ = some (.int .i64 (H : Int)) := hSw.1.cell 3 rfl
              have cc4 : w'.cell? ⟨w.heap.size, 4, none⟩ = some (.int .i64 (L : Int)) := hSw.1.cell 4 rfl
              go_simp
            simp only [List.getElem_toArray, List.getElem_cons_succ, List.getElem_cons_zero, Act.put, List.setIfInBounds_toArray, List.set_cons_zero, List.set_cons_succ]
            refine wpAnyH_take (i := 7) (v := (.agg cs)) rfl (by kernel_rfl) (by kernel_rfl) (by kernel_rfl) (fun _ _ _ h => h) (Or.inl ⟨by rfl, ?_⟩) (by assumption) ?_
            · intro w' hSw
              exact yield_row 48 _ rfl wr.heap.size rfl cs (load_b hSw.2.1 siz2)
            simp only [List.getElem_toArray, List.getElem_cons_succ, List.getElem_cons_zero, Act.put, List.setIfInBounds_toArray, List.set_cons_zero, List.set_cons_succ]
            refine wpAnyH_take (i := 8) (v := (.slice (some ⟨gr, 0, none⟩) k k)) rfl (by kernel_rfl) (by kernel_rfl) (by kernel_rfl) (fun _ _ _ h => h) (Or.inl ⟨by rfl, ?_⟩) (by assumption) ?_
            · intro w' hSw
              go_simp
            simp only [List.getElem_toArray, List.getElem_cons_succ, List.getElem_cons_zero, Act.put, List.setIfInBounds_toArray, List.set_cons_zero, List.set_cons_succ]
            refine wpAnyH_ready (rs := [9]) (by kernel_rfl) (by simp) ?_
            refine AllReadyH.cons rfl (fun Kc hKc => ?_) AllReadyH.nil
            simp only [List.getElem_toArray, List.getElem_cons_succ, List.getElem_cons_zero]
            rw [if_pos (by rfl)]
            go_wp2_with fail
            refine (HO _ _ _ (rowsL M D H Hd A t) _ (HT.out _ FY.kp) BY GY rl (by omega)).mono ?_
            rintro e w9 ⟨gm, gk, gv, vm, vk, vv, rfl, NM, NK, NV, B9⟩
            have FZ := FY.below B9
            go_wp2_with fail
            refine hKc.out _ _ (⟨FZ.x0, XY.below B9, FZ.xc⟩) (fun hHeld => ?_)
            clear hKc Kc
            refine wpAnyH_take (i := 10) (v := (.tuple #[.slice (some ⟨gm, 0, none⟩) k k, .slice (some ⟨gk, 0, none⟩) k k, .slice (some ⟨gv, 0, none⟩) k k])) rfl (by kernel_rfl) (by kernel_rfl) (by kernel_rfl) (fun _ _ _ h => h) (Or.inl ⟨by rfl, ?_⟩) (by assumption) ?_
            · intro w' hSw
              go_simp
            simp only [List.getElem_toArray, List.getElem_cons_succ, List.getElem_cons_zero, Act.put, List.setIfInBounds_toArray, List.set_cons_zero, List.set_cons_succ]
            refine wpAnyH_take (i := 11) (v := (.slice (some ⟨gm, 0, none⟩) k k)) rfl (by kernel_rfl) (by kernel_rfl) (by kernel_rfl) (fun _ _ _ h => h) (Or.inl ⟨by rfl, ?_⟩) (by assumption) ?_
            · intro w' hSw
              go_simp
            simp only [List.getElem_toArray, List.getElem_cons_succ, List.getElem_cons_zero, Act.put, List.setIfInBounds_toArray, List.set_cons_zero, List.set_cons_succ]
            refine wpAnyH_take (i := 12) (v := (.slice (some ⟨gk, 0, none⟩) k k)) rfl (by kernel_rfl) (by kernel_rfl) (by kernel_rfl) (fun _ _ _ h => h) (Or.inl ⟨by rfl, ?_⟩) (by assumption) ?_
            · intro w' hSw
              go_simp
            simp only [List.getElem_toArray, List.getElem_cons_succ, List.getElem_cons_zero, Act.put, List.setIfInBounds_toArray, List.set_cons_zero, List.set_cons_succ]
            refine wpAnyH_take (i := 13) (v := (.slice (some ⟨gv, 0, none⟩) k k)) rfl (by kernel_rfl) (by kernel_rfl) (by kernel_rfl) (fun _ _ _ h => h) (Or.inl ⟨by rfl, ?_⟩) (by assumption) ?_
            · intro w' hSw
              go_simp
            simp only [List.getElem_toArray, List.getElem_cons_succ, List.getElem_cons_zero, Act.put, List.setIfInBounds_toArray, List.set_cons_zero, List.set_cons_succ]
            refine wpAnyH_take (i := 14) (v := (.slice (some ⟨gm, 0, none⟩) k k)) rfl (by kernel_rfl) (by kernel_rfl) (by kernel_rfl) (fun _ _ _ h => h) (Or.inl ⟨by rfl, ?_⟩) (by assumption) ?_
            · intro w' hSw
              go_simp
            simp only [List.getElem_toArray, List.getElem_cons_succ, List.getElem_cons_zero, Act.put, List.setIfInBounds_toArray, List.set_cons_zero, List.set_cons_succ]
            refine wpAnyH_take (i := 15) (v := (.pointer (some ⟨gK, t, none⟩))) rfl (by kernel_rfl) (by kernel_rfl) (by kernel_rfl) (fun _ _ _ h => h) (Or.inl ⟨by rfl, ?_⟩) (by assumption) ?_
            · intro w' hSw
              go_simp
            simp only [List.getElem_toArray, List.getElem_cons_succ, List.getElem_cons_zero, Act.put, List.setIfInBounds_toArray, List.set_cons_zero, List.set_cons_succ]
            clear hHeld HO one siz2 GY BY
            have N1 : Hangs (offF w gK gV gC) w9 fun w => GridV w (some ⟨gk, 0, none⟩) k vk ((fullK M D H Hd L A).getD t []) := by
              rw [E1.out]
              exact Hangs.mono NK fun b _ hb => ⟨by omega, by omega, by omega, by omega⟩
            have N2 : Hangs (offF w gK gV gC) w9 fun w => GridV w (some ⟨gv, 0, none⟩) k vv ((fullV M D H Hd L A).getD t []) := by
              rw [E2.out]
              exact Hangs.mono NV fun b _ hb => ⟨by omega, by omega, by omega, by omega⟩
            have FN := FZ.next hlt (by omega) N1 N2
            have s9 := B9.size
            have GN : GridAt ((w9.setCell ⟨gK, t, none⟩ (.slice (some ⟨gk, 0, none⟩) k k)).setCell ⟨gV, t, none⟩ (.slice (some ⟨gv, 0, none⟩) k k)) (some ⟨gm, 0, none⟩) k (rowsL M D H Hd A (t + 1)) := by
              rw [E3.out]
              exact ((NM.set (a := ⟨gK, t, none⟩) (by show gK < _; omega) _).set (a := ⟨gV, t, none⟩) (by show gV < _; omega) _).now.grid
            have pk : ¬ offF w gK gV gC gK := fun h => h.2.1 rfl
            have V1 := FZ.v.far (a := ⟨gK, t, none⟩) (by show gK ≠ gV; omega) pk (.slice (some ⟨gk, 0, none⟩) k k)
            have fz1 := FZ.k.frozen t
            obtain ⟨r1, m1, v1, cu1, _, _⟩ := FZ.k.at hlt
            have fz2 := V1.frozen t
            obtain ⟨r2, m2, v2, cu2, _, _⟩ := V1.at hlt
            have Q1 : Blk (w9.setCell ⟨gK, t, none⟩ (.slice (some ⟨gk, 0, none⟩) k k)) w.heap.size 23 #[.int .i64 (V : Int), .int .i64 (D : Int), .int .i64 (Hd : Int), .int .i64 (H : Int), .int .i64 (L : Int)] ∧ Blk (w9.setCell ⟨gK, t, none⟩ (.slice (some ⟨gk, 0, none⟩) k k)) wr.heap.size 48 cs ∧ Blk (w9.setCell ⟨gK, t, none⟩ (.slice (some ⟨gk, 0, none⟩) k k)) gC 41 #[.slice (some ⟨gK, 0, none⟩) L L, .slice (some ⟨gV, 0, none⟩) L L] := ⟨FZ.x0.other (by show _ ≠ gK; omega) _, (XY.below B9).other (by show _ ≠ gK; omega) _, FZ.xc.other (by show _ ≠ gK; omega) _⟩
            have Q2 := Q1.2.1.other (a := ⟨gV, t, none⟩) (by show _ ≠ gV; omega) (.slice (some ⟨gv, 0, none⟩) k k)
            clear V1 N1 N2 NM NK NV XY FY
            refine wpAnyH_ready (rs := [16]) (by kernel_rfl) (by simp) ?_
            refine AllReadyH.cons rfl (fun Kc hKc => ?_) AllReadyH.nil
            simp only [List.getElem_toArray, List.getElem_cons_succ, List.getElem_cons_zero]
            rw [if_pos (by rfl)]
            go_wp2_with fail
            refine hKc.out _ _ Q1 (fun hHeld => ?_)
            clear hKc Kc
            generalize hS1 : w9.setCell ⟨gK, t, none⟩ (.slice (some ⟨gk, 0, none⟩) k k) = wS1 at *
            refine wpAnyH_take (i := 17) (v := (.pointer (some ⟨gV, t, none⟩))) rfl (by kernel_rfl) (by kernel_rfl) (by kernel_rfl) (fun _ _ _ h => h) (Or.inl ⟨by rfl, ?_⟩) (by assumption) ?_
            · intro w' hSw
              go_simp
            simp only [List.getElem_toArray, List.getElem_cons_succ, List.getElem_cons_zero, Act.put, List.setIfInBounds_toArray, List.set_cons_zero, List.set_cons_succ]
            refine wpAnyH_ready (rs := [18]) (by kernel_rfl) (by simp) ?_
            refine AllReadyH.cons rfl (fun Kc hKc => ?_) AllReadyH.nil
            simp only [List.getElem_toArray, List.getElem_cons_succ, List.getElem_cons_zero]
            rw [if_pos (by rfl)]
            go_wp2_with fail
            refine hKc.out _ _ ⟨FN.x0, Q2, FN.xc⟩ (fun hHeld => ?_)
            clear hKc Kc
            refine wpAnyH_done (by kernel_rfl) ?_ _
            go_wp2_with fail
            go_roundg (L - (t + 1))
            case measure => omega
            case rel => exact ⟨t + 1, gm, by omega, rfl, by go_num, rfl, GN, FN⟩
          · obtain rfl : t = L := by omega
            obtain ⟨rb, ro, er, hc⟩ := GR.cells (by omega)
            simp only [Option.some.injEq, Addr.mk.injEq, and_true] at er
            obtain ⟨rfl, rfl⟩ := er
            obtain ⟨ko, km, kc, cr, AR⟩ := hc (k - 1) (by omega)
            obtain rfl : km = D := by rw [← rowsL_row M D H Hd A t (k - 1) (by rw [HLN.out]; omega), AR.row.len]
            rw [Nat.zero_add] at cr
            clear hc GR
            obtain ⟨m, rfl⟩ : ∃ m, k = m + 1 := ⟨k - 1, by omega⟩
            rw [Nat.add_sub_cancel] at cr AR
            have e1 : IntKind.i64.wrap (((m : Int) + 1) - 1) = (m : Int) := by rw [show ((m : Int) + 1) - 1 = m by omega]; exact wrap_in (by omega)
            have e0 : IntKind.i64.wrap (m : Int) = (m : Int) := wrap_in (by omega)
            have hnm : ¬ ((m : Int) + 1 ≤ (m : Int)) := by omega
            have FY := FF.below ((Below.refl _ _).drew)
            have AY := AR.below ((Below.refl _ _).drew)
            have cY : wr.drew.cell? ⟨gr, m, none⟩ = some (.slice ko km kc) := cr
            have ne := FF.ne
            have HX : Hid (fullX M V km H Hd t A = likR M V km (rowOf (rowsL M km H Hd A t) m)) := by show _ = _; unfold fullX; rw [HLN.out, Nat.add_sub_cancel]
            clear FF AR cr
            go_wp2_with fail
            refine wp_region_held_drew (S := fun w' => Blk w' (w.heap.size + 1) 32 ws ∧ Blk w' gC 41 #[.slice (some ⟨gK, 0, none⟩) t t, .slice (some ⟨gV, 0, none⟩) t t] ∧ w'.cell? ⟨gr, m, none⟩ = some (.slice ko km kc)) (by kernel_rfl) (⟨FY.x1, FY.xc, cY⟩) (fun hHeld => ?_)
            refine wpAnyH_take (i := 0) (v := (.agg ws)) rfl (by kernel_rfl) (by kernel_rfl) (by kernel_rfl) (fun _ _ _ h => h) (Or.inl ⟨by rfl, ?_⟩) (by assumption) ?_
            · intro w' hSw
              exact yield_row 32 _ rfl (w.heap.size + 1) rfl ws (load_w hSw.1 siz)
            simp only [List.getElem_toArray, List.getElem_cons_zero, Act.put, List.setIfInBounds_toArray, List.set_cons_zero, List.set_cons_succ]
            refine wpAnyH_take (i := 1) (v := (.slice (some ⟨gr, 0, none⟩) (m + 1) (m + 1))) rfl (by kernel_rfl) (by kernel_rfl) (by kernel_rfl) (fun _ _ _ h => h) (Or.inl ⟨by rfl, ?_⟩) (by assumption) ?_
            · intro w' hSw
              go_simp
            simp only [List.getElem_toArray, List.getElem_cons_succ, List.getElem_cons_zero, Act.put, List.setIfInBounds_toArray, List.set_cons_zero, List.set_cons_succ]
            refine wpAnyH_take (i := 2) (v := (.slice (some ⟨gr, 0, none⟩) (m + 1) (m + 1))) rfl (by kernel_rfl) (by kernel_rfl) (by kernel_rfl) (fun _ _ _ h => h) (Or.inl ⟨by rfl, ?_⟩) (by assumption) ?_
            · intro w' hSw
              go_simp
            simp only [List.getElem_toArray, List.getElem_cons_succ, List.getElem_cons_zero, Act.put, List.setIfInBounds_toArray, List.set_cons_zero, List.set_cons_succ]
            refine wpAnyH_take (i := 3) (v := (.int .i64 ((m : Int) + 1))) rfl (by kernel_rfl) (by kernel_rfl) (by kernel_rfl) (fun _ _ _ h => h) (Or.inl ⟨by rfl, ?_⟩) (by assumption) ?_
            · intro w' hSw
              go_simp
            simp only [List.getElem_toArray, List.getElem_cons_succ, List.getElem_cons_zero, Act.put, List.setIfInBounds_toArray, List.set_cons_zero, List.set_cons_succ]
            refine wpAnyH_take (i := 4) (v := (.int .i64 (m : Int))) rfl (by kernel_rfl) (by kernel_rfl) (by kernel_rfl) (fun _ _ _ h => h) (Or.inl ⟨by rfl, ?_⟩) (by assumption) ?_
            · intro w' hSw
              go_simp
            simp only [List.getElem_toArray, List.getElem_cons_succ, List.getElem_cons_zero, Act.put, List.setIfInBounds_toArray, List.set_cons_zero, List.set_cons_succ]
            refine wpAnyH_take (i := 5) (v := (.pointer (some ⟨gr, m, none⟩))) rfl (by kernel_rfl) (by kernel_rfl) (by kernel_rfl) (fun _ _ _ h => h) (Or.inl ⟨by rfl, ?_⟩) (by assumption) ?_
            · intro w' hSw
              go_simp
            simp only [List.getElem_toArray, List.getElem_cons_succ, List.getElem_cons_zero, Act.put, List.setIfInBounds_toArray, List.set_cons_zero, List.set_cons_succ]
            refine wpAnyH_take (i := 6) (v := (.slice ko km kc)) rfl (by kernel_rfl) (by kernel_rfl) (by kernel_rfl) (fun _ _ _ h => h) (Or.inl ⟨by rfl, ?_⟩) (by assumption) ?_
            · intro w' hSw
              have cm := hSw.2.2
              go_simp
            simp only [List.getElem_toArray, List.getElem_cons_succ, List.getElem_cons_zero, Act.put, List.setIfInBounds_toArray, List.set_cons_zero, List.set_cons_succ]
            refine wpAnyH_take (i := 8) (v := (.agg #[.slice (some ⟨gK, 0, none⟩) t t, .slice (some ⟨gV, 0, none⟩) t t])) rfl (by kernel_rfl) (by kernel_rfl) (by kernel_rfl) (fun _ _ _ h => h) (Or.inl ⟨by rfl, ?_⟩) (by assumption) ?_
            · intro w' hSw
              exact yield_row 41 _ rfl gC rfl _ (load_ca hSw.2.1 rfl)
            simp only [List.getElem_toArray, List.getElem_cons_succ, List.getElem_cons_zero, Act.put, List.setIfInBounds_toArray, List.set_cons_zero, List.set_cons_succ]
            refine wpAnyH_ready (rs := [7]) (by kernel_rfl) (by simp) ?_
            refine AllReadyH.cons rfl (fun Kc hKc => ?_) AllReadyH.nil
            simp only [List.getElem_toArray, List.getElem_cons_succ, List.getElem_cons_zero]
            rw [if_pos (by rfl)]
            go_wp2_with fail
            refine (CL _ FY.kp _ _ _ AY.row).mono ?_
            rintro e w9 ⟨gl, rfl, FL, B9⟩
            have FZ := FY.below B9
            have cZ := cell_keep cY B9
            go_wp2_with fail
            refine hKc.out _ _ (⟨FZ.x1, FZ.xc, cZ⟩) (fun hHeld => ?_)
            clear hKc Kc
            refine wpAnyH_take (i := 9) (v := (.slice (some ⟨gl, 0, none⟩) V V)) rfl (by kernel_rfl) (by kernel_rfl) (by kernel_rfl) (fun _ _ _ h => h) (Or.inl ⟨by rfl, ?_⟩) (by assumption) ?_
            · intro w' hSw
              go_simp
            simp only [List.getElem_toArray, List.getElem_cons_succ, List.getElem_cons_zero, Act.put, List.setIfInBounds_toArray, List.set_cons_zero, List.set_cons_succ]
            refine wpAnyH_ready (rs := [10]) (by kernel_rfl) (by simp) ?_
            refine AllReadyH.cons rfl (fun Kc hKc => ?_) AllReadyH.nil
            simp only [List.getElem_toArray, List.getElem_cons_succ, List.getElem_cons_zero]
            rw [if_pos (by rfl)]
            have hall : Array.all (#[.slice (some ⟨gK, 0, none⟩) t t, .slice (some ⟨gV, 0, none⟩) t t] : Array Value) (fun v => v.oneCell') = true := by simp [Value.oneCell']
            refine wp_store_row 41 _ _ rfl (w.heap.size + 1 + 1) #[.slice (some ⟨gK, 0, none⟩) t t, .slice (some ⟨gV, 0, none⟩) t t] rfl rfl 41 _ FZ.x2 Tryd.infoCa rfl hall ?_
            have so : ∀ b, b ≠ w.heap.size + 1 + 1 → (w9.setRow (w.heap.size + 1 + 1) #[.slice (some ⟨gK, 0, none⟩) t t, .slice (some ⟨gV, 0, none⟩) t t]).heap[b]? = w9.heap[b]? := fun b hb => setRow_other _ _ _ _ hb
            have cN : (w9.setRow (w.heap.size + 1 + 1) #[.slice (some ⟨gK, 0, none⟩) t t, .slice (some ⟨gV, 0, none⟩) t t]).cell? ⟨gr, m, none⟩ = some (.slice ko km kc) := by
              rw [World.cell?_of_block (so gr (by
                rintro rfl
                have h9 := FZ.x2
                unfold Blk at h9
                unfold World.cell? at cZ
                simp only [h9] at cZ
                rcases m with _ | _ | m
                · simp at cZ; have := AY.row.cells (by omega); obtain ⟨_, _, e, _⟩ := this; rw [← cZ.1] at e; cases e
                · simp at cZ; have := AY.row.cells (by omega); obtain ⟨_, _, e, _⟩ := this; rw [← cZ.1] at e; cases e
                · simp at cZ))]
              exact cZ
            refine hKc.out _ _ ⟨Blk.of_block FZ.x1 (so _ (by omega)), Blk.of_block FZ.xc (so _ (by omega)), cN⟩ (fun hHeld => ?_)
            clear hKc Kc
            refine wpAnyH_take (i := 11) (v := (.int .i64 0)) rfl (by kernel_rfl) (by kernel_rfl) (by kernel_rfl) (fun _ _ _ h => h) (Or.inl ⟨by rfl, ?_⟩) (by assumption) ?_
            · intro w' hSw
              go_simp
            simp only [List.getElem_toArray, List.getElem_cons_succ, List.getElem_cons_zero, Act.put, List.setIfInBounds_toArray, List.set_cons_zero, List.set_cons_succ]
            refine wpAnyH_done (by kernel_rfl) ?_ _
            go_wp2
            refine bodyPost_ret (results_mid rfl _ _ (w.heap.size + 1 + 1) _ rfl (load_ca (FZ.x2.row _) rfl)) rfl ?_
            rw [HX.out]
            have sF := FY.kp.size
            refine ⟨gl, gK, gV, rfl, (FL.of_block (so gl (FL.ne FZ.x2 (by decide)))).mono sF, ?_, ?_, below_setRow FZ.kp (by omega) _⟩
            · exact (FZ.k.put (g2 := w.heap.size + 1 + 1) (by omega) (fun h => by have := h.1; omega) _).cube LF.out.1 (by omega) (fun b hb => by have := hb.1; omega) (by omega)
            · exact (FZ.v.put (g2 := w.heap.size + 1 + 1) (by omega) (fun h => by have := h.1; omega) _).cube LF.out.2 (by omega) (fun b hb => by have := hb.1; omega) (by omega)
end Go.Proofs.YtlmdjhdlfdandaaDoor

/- THE CACHE: token by token the same comes out as from the beginning. -/
namespace Go.Proofs.YtlmdjhdlfdandaaDoor
open Go.ChangeShapes Go.WideShapes Go.ChangeAt Go.RowKit
theorem rowOf_left {R S : List (List Int)} {t : Nat} (h : t < R.length) : rowOf (R ++ S) t = rowOf R t := by
  unfold rowOf
  simp only [List.getD_eq_getElem?_getD, List.getElem?_append_left h]
theorem rowOf_last (R : List (List Int)) (x : List Int) : rowOf (R ++ [x]) R.length = x := by
  unfold rowOf
  simp
theorem madeR_snoc (L : Lay) (D H Hd : Nat) (R : List (List Int)) (x : List Int) : madeR L D H Hd (R ++ [x]) = madeR L D H Hd R ++ [oneR L D H Hd x (keysR L D R) (valsR L D R) R.length] := by
  have tk : ∀ i, i ≤ R.length → (keysR L D (R ++ [x])).take i = (keysR L D R).take i := fun i hi => by
    unfold keysR
    rw [List.map_append, List.take_append_of_le_length (by simpa using hi)]
  have tv : ∀ i, i ≤ R.length → (valsR L D (R ++ [x])).take i = (valsR L D R).take i := fun i hi => by
    unfold valsR
    rw [List.map_append, List.take_append_of_le_length (by simpa using hi)]
  unfold madeR
  rw [List.length_append, List.length_singleton, List.range_succ, List.map_append]
  congr 1
  · refine List.map_congr_left fun i hi => ?_
    have hi' : i < R.length := List.mem_range.1 hi
    rw [rowOf_left hi', tk i (by omega), tv i (by omega)]
  · have ek : (keysR L D R).take R.length = keysR L D R := List.take_of_length_le (by unfold keysR; simp)
    have ev : (valsR L D R).take R.length = valsR L D R := List.take_of_length_le (by unfold valsR; simp)
    simp only [List.map_cons, List.map_nil]
    rw [rowOf_last, tk _ (Nat.le_refl _), tv _ (Nat.le_refl _), ek, ev]
theorem begL_snoc (E : List Int) (D : Nat) (A : List Int) (t : Int) : begL E D (A ++ [t]) = begL E D A ++ [begR E D t.toNat A.length] := by
  unfold begL
  rw [List.length_append, List.length_singleton, List.range_succ, List.map_append]
  congr 1
  · refine List.map_congr_left fun i hi => ?_
    rw [el_append_left (List.mem_range.1 hi)]
  · simp only [List.map_cons, List.map_nil]
    have := el_append_right (A := A) (B := [t]) (k := 0)
    rw [Nat.add_zero] at this
    rw [this]
    rfl
/-- The lists of a view are what the layers make of its rows. -/
def Cached (M : Mdl) (D H Hd L : Nat) (X : Vw) (A : List Int) : Prop := X.T = A ∧ (∀ l, l < L → X.K.getD l [] = keysR (layAt M l) D (rowsL M D H Hd A l)) ∧ ∀ l, l < L → X.V.getD l [] = valsR (layAt M l) D (rowsL M D H Hd A l)
theorem rowsL_snoc {M : Mdl} {D H Hd L : Nat} {X : Vw} {A : List Int} (h : Cached M D H Hd L X A) (t : Int) : ∀ l, l ≤ L → rowsL M D H Hd (A ++ [t]) l = rowsL M D H Hd A l ++ [xRow M D H Hd A.length X.K X.V (begR M.E D t.toNat A.length) l]
  | 0, _ => begL_snoc M.E D A t
  | l + 1, hl => by
    have ih := rowsL_snoc h t l (by omega)
    show madeR (layAt M l) D H Hd (rowsL M D H Hd (A ++ [t]) l) = madeR (layAt M l) D H Hd (rowsL M D H Hd A l) ++ [oneR (layAt M l) D H Hd (xRow M D H Hd A.length X.K X.V (begR M.E D t.toNat A.length) l) (X.K.getD l []) (X.V.getD l []) A.length]
    rw [ih, madeR_snoc, rowsL_len, h.2.1 l (by omega), h.2.2 l (by omega)]
theorem cached_none (M : Mdl) (D H Hd L : Nat) : Cached M D H Hd L noX [] := by
  have e : ∀ l, rowsL M D H Hd [] l = [] := fun l => List.length_eq_zero_iff.1 (rowsL_len M D H Hd [] l)
  exact ⟨rfl, fun l _ => by rw [e]; rfl, fun l _ => by rw [e]; rfl⟩
theorem cached_feed {M : Mdl} {D H Hd L : Nat} {X : Vw} {A : List Int} (h : Cached M D H Hd L X A) {t : Int} (ht : 0 ≤ t) : Cached M D H Hd L (feedV M D H Hd L X t.toNat) (A ++ [t]) := by
  obtain ⟨rfl, h2, h3⟩ := h
  refine ⟨?_, fun l hl => ?_, fun l hl => ?_⟩
  · show X.T ++ [((t.toNat : Nat) : Int)] = X.T ++ [t]
    rw [Int.toNat_of_nonneg ht]
  · show (newK M D H Hd X.T.length L X.K X.V (begR M.E D t.toNat X.T.length)).getD l [] = _
    rw [newK_at _ _ _ _ _ _ _ _ _ hl, rowsL_snoc ⟨rfl, h2, h3⟩ t l (by omega), h2 l hl]
    unfold keysR
    rw [List.map_append]
    rfl
  · show (newV M D H Hd X.T.length L X.K X.V (begR M.E D t.toNat X.T.length)).getD l [] = _
    rw [newV_at _ _ _ _ _ _ _ _ _ hl, rowsL_snoc ⟨rfl, h2, h3⟩ t l (by omega), h3 l hl]
    unfold valsR
    rw [List.map_append]
    rfl
theorem cached_all {M : Mdl} {D H Hd L : Nat} (B : List Int) : ∀ {X : Vw} {A : List Int}, Cached M D H Hd L X A → (∀ x ∈ B, 0 ≤ x) → Cached M D H Hd L (feedAll M D H Hd L X B) (A ++ B) := by
  induction B with
  | nil => intro X A h _; rw [List.append_nil]; exact h
  | cons b B ih =>
    intro X A h hb
    have h1 := cached_feed h (hb b (List.mem_cons_self ..))
    have h2 := ih h1 fun x hx => hb x (List.mem_cons_of_mem _ hx)
    rw [List.append_assoc] at h2
    exact h2
theorem feedX_last {M : Mdl} {D H Hd L : Nat} {X : Vw} {A : List Int} (h : Cached M D H Hd L X A) (t : Int) : feedX M D H Hd L X t.toNat = rowOf (rowsL M D H Hd (A ++ [t]) L) A.length := by
  rw [rowsL_snoc h t L (Nat.le_refl _)]
  have := rowOf_last (rowsL M D H Hd A L) (xRow M D H Hd A.length X.K X.V (begR M.E D t.toNat A.length) L)
  rw [rowsL_len] at this
  rw [this]
  show xRow M D H Hd X.T.length X.K X.V (begR M.E D t.toNat X.T.length) L = _
  rw [h.1]
theorem fullX_last {M : Mdl} {V D H Hd L : Nat} {X : Vw} {A : List Int} (h : Cached M D H Hd L X A) (t : Int) : likR M V D (feedX M D H Hd L X t.toNat) = fullX M V D H Hd L (A ++ [t]) := by
  unfold fullX
  rw [feedX_last h t, List.length_append, List.length_singleton, Nat.add_sub_cancel]
end Go.Proofs.YtlmdjhdlfdandaaDoor

/- Rows of rows of the call's own: a copy of at most so many rows of at most 40 numbers. -/
namespace Go.Proofs.YtlmdjhdlfdandaaDoor
open Go.ChangeShapes Go.WideShapes Go.ChangeAt Go.RowKit
theorem rowOf_snoc (R : List (List Int)) (Y : List Int) (t : Nat) : rowOf (R ++ [Y]) t = if t < R.length then rowOf R t else if t = R.length then Y else [] := by
  unfold rowOf
  simp only [List.getD_eq_getElem?_getD]
  by_cases h : t < R.length
  · rw [if_pos h, List.getElem?_append_left h]
  · rw [if_neg h, List.getElem?_append_right (by omega)]
    by_cases e : t = R.length
    · subst e; simp
    · rw [if_neg e, List.getElem?_eq_none (by simp; omega)]; rfl
/-- Block g is a row of rows, all of the call's own, one above the other. -/
structure OwnGrid (w : World) (B g k cap : Nat) (R : List (List Int)) : Prop where
  base : B ≤ g
  len : R.length = k
  own : ∃ vs, w.ownsRow B 27 1 (.slice (some ⟨g, 0, none⟩) k cap) k vs ∧ ∃ gs : Nat → Nat, (∀ t, t < k → ∃ m c, vs[t]? = some (.slice (some ⟨gs t, 0, none⟩) m c) ∧ Fresh w B (gs t) m c (rowOf R t)) ∧ ∀ t u, t < u → u < k → gs t < gs u
theorem own_block {w : World} {B e g k cap : Nat} {vs : List Value} (h : w.ownsRow B e 1 (.slice (some ⟨g, 0, none⟩) k cap) k vs) : B ≤ g ∧ ∃ cur, w.heap[g]? = some (.cells cur e (0, 0)) := by
  rcases h.2 with ⟨h3, _⟩ | ⟨g', c', cur, hv, hg, hh, _⟩
  · cases h3
  · simp only [Value.slice.injEq, Option.some.injEq, Addr.mk.injEq, and_true] at hv
    obtain ⟨rfl, -⟩ := hv
    exact ⟨hg, cur, hh⟩
theorem OwnGrid.grid {w : World} {B g k cap : Nat} {R : List (List Int)} (h : OwnGrid w B g k cap R) (hk : k ≤ 9223372036854775807) : GridAt w (some ⟨g, 0, none⟩) k R := by
  obtain ⟨vs, h1, gs, h2, _⟩ := h.own
  refine ⟨h.len, hk, fun _ => ⟨g, 0, rfl, fun t ht => ?_⟩⟩
  obtain ⟨m, c, e, F⟩ := h2 t ht
  have hc := h1.cells (g := g) rfl t _ e
  have e2 : (Addr.mk g 0 none).add t = ⟨g, t, none⟩ := by simp [Addr.add]; intro h; exact h.symm
  rw [e2] at hc
  exact ⟨_, _, _, by rw [Nat.zero_add]; exact hc, F.arg⟩
theorem OwnGrid.below {w w' : World} {B g k cap : Nat} {R : List (List Int)} (h : OwnGrid w B g k cap R) (hb : Below w.heap.size w w') : OwnGrid w' B g k cap R := by
  obtain ⟨vs, h1, gs, h2, h3⟩ := h.own
  exact ⟨h.base, h.len, vs, owns_below h1 hb, gs, fun t ht => let ⟨m, c, e, F⟩ := h2 t ht; ⟨m, c, e, F.below hb⟩, h3⟩
theorem ownGrid_empty (w : World) : OwnGrid (w.alloc (.cells #[] 27)) w.heap.size w.heap.size 0 0 [] :=
  ⟨Nat.le_refl _, rfl, [], ⟨rfl, Or.inr ⟨w.heap.size, 0, #[], rfl, Nat.le_refl _, heap_alloc_new _ _, Nat.le_refl _, by decide, rfl, rfl⟩⟩, fun t => t, fun t ht => by omega, fun t u _ hu => by omega⟩
/-- append(out, row), out a row of rows of the call's own, the row a newer one. -/
theorem wpList_append_grid {w : World} {ops : Array Oper} {rest : List Oper} {o : Oper} {a : Act} {Q : Exit → Act → World → Prop} (hgd : o.guard = none) (s x : Operand)
    (ho : o.op = .call { callee := .builtin .append, args := #[s, x], argTypes := #[49, 49] })
    (B g k cap : Nat) (R : List (List Int)) (hs : a.eval s = .slice (some ⟨g, 0, none⟩) k cap) (hF : OwnGrid w B g k cap R) (w1 : World) (hF1 : OwnGrid w1 B g k cap R) (hold : Below w1.heap.size w1 w)
    (bo g1 m1 c1 : Nat) (Y : List Int) (hx : a.eval x = .slice (some ⟨bo, 0, none⟩) 1 1) (hX : w.cell? ⟨bo, 0, none⟩ = some (.slice (some ⟨g1, 0, none⟩) m1 c1)) (hY : Fresh w B g1 m1 c1 Y) (hg1 : w1.heap.size ≤ g1)
    (hlen : k + 1 ≤ 1048576) (hB : B ≤ w.heap.size)
    (h : ∀ g' cap' w', OwnGrid w' B g' (k + 1) cap' (R ++ [Y]) → Below B w w' → wpList Tryd.prog ops Q rest (a.put o.dst (.slice (some ⟨g', 0, none⟩) (k + 1) cap')) w') : wpList Tryd.prog ops Q (o :: rest) a w := by
  obtain ⟨i0, hi, hz0, hz1, hz2⟩ := info_parts Tryd.infoRow
  obtain ⟨vs, h1', gs, h2', h3⟩ := hF1.own
  have h1 := owns_below h1' hold
  have h2 : ∀ t, t < k → ∃ m c, vs[t]? = some (.slice (some ⟨gs t, 0, none⟩) m c) ∧ Fresh w B (gs t) m c (rowOf R t) := fun t ht => let ⟨m, c, e, F⟩ := h2' t ht; ⟨m, c, e, F.below hold⟩
  have hlt : ∀ t, t < k → gs t < w1.heap.size := fun t ht => let ⟨m, c, e, F⟩ := h2' t ht; F.lt
  refine wpList_append_own w hgd s x 49 ho B 27 i0 (.slice none 0 0) 1 24 Tryd.underlying49 hi hz0 hz1 hz2 rfl (by decide) _ k _ hs h1 ⟨bo, 0, none⟩ 1 1 [.slice (some ⟨g1, 0, none⟩) m1 c1] hx rfl ?_ (by intro u hu; simp at hu; subst hu; rfl) (by unfold maxLen; omega) (by omega) hB ?_
  · intro j u hj
    match j, hj with
    | 0, hj =>
      simp at hj
      subst hj
      have e2 : (Addr.mk bo 0 none).add 0 = ⟨bo, 0, none⟩ := by simp [Addr.add]
      rw [e2, hX]
  · intro v' w' hown hg hnil
    have hb : Below B w w' := (Below.refl _ _).grown hg hB (fun k hk => by simp [Value.ownBlock] at hk; subst hk; exact hF.base)
    obtain ⟨_, cur, hcur⟩ := own_block h1
    have keep : ∀ {b m c : Nat} {Z : List Int}, Fresh w B b m c Z → Fresh w' B b m c Z := fun {b m c Z} F => F.of_block (hg.block b F.lt (by
      intro e
      simp [Value.ownBlock] at e
      subst e
      obtain ⟨c2, hb2, _⟩ := F.row
      rw [hcur] at hb2
      simp at hb2))
    have hlv : vs.length = k := by have := h1.1; omega
    have hown2 := hown
    obtain ⟨_, h4⟩ := hown2
    rcases h4 with ⟨_, h5⟩ | ⟨g', c', cur', hv, hg2, hr⟩
    · omega
    · subst hv
      refine h g' c' w' ⟨hg2, by simp [hF.len], _, hown, fun t => if t < k then gs t else g1, fun t ht => ?_, fun t u htu hu => ?_⟩ hb
      · rw [rowOf_snoc, hF.len]
        by_cases htk : t < k
        · obtain ⟨m3, c3, e3, F3⟩ := h2 t htk
          simp only [if_pos htk]
          exact ⟨m3, c3, by rw [List.getElem?_append_left (by omega)]; exact e3, keep F3⟩
        · obtain rfl : t = k := by omega
          simp only [Nat.lt_irrefl, if_false, if_pos]
          exact ⟨m1, c1, by rw [List.getElem?_append_right (by omega), hlv]; simp, keep hY⟩
      · simp only []
        rw [if_pos (show t < k by omega)]
        by_cases huk : u < k
        · rw [if_pos huk]; exact h3 t u htu huk
        · rw [if_neg huk]; have := hlt t (by omega); omega
theorem cellRow_new (w : World) (v : Value) : (w.alloc (.cells #[v] 27)).cell? ⟨w.heap.size, 0, none⟩ = some v := by
  have e := heap_alloc_new w (.cells #[v] 27)
  unfold World.cell?
  simp only [e]
  rfl
theorem take_snoc {R : List (List Int)} {k : Nat} (hk : k < R.length) : (R.take (k + 1)).map (List.take 40) = (R.take k).map (List.take 40) ++ [(rowOf R k).take 40] := by
  unfold rowOf
  rw [List.take_add_one, List.map_append, List.getD_eq_getElem?_getD, List.getElem?_eq_getElem hk]
  rfl
/-- At most lim rows of at most 40 numbers. -/
def rowsN (R : List (List Int)) (lim : Nat) : List (List Int) := (R.take lim).map (List.take 40)
theorem rowsN_len (R : List (List Int)) (lim t : Nat) : (rowOf (rowsN R lim) t).length ≤ 40 := by
  unfold rowOf rowsN
  rw [List.getD_eq_getElem?_getD]
  cases e : ((R.take lim).map (List.take 40))[t]? with
  | none => simp
  | some x =>
    obtain ⟨y, _, rfl⟩ := List.mem_map.1 (List.mem_of_getElem? e)
    simp
    omega
end Go.Proofs.YtlmdjhdlfdandaaDoor

/- What is fed one by one is what is made from the beginning: the views, as lists; a small view is told whole. -/
namespace Go.Proofs.YtlmdjhdlfdandaaDoor
theorem rows_whole {R : List (List Int)} {D : Nat} (h1 : R.length ≤ 130) (hD : D ≤ 40) (h2 : ∀ t, t < R.length → (rowOf R t).length = D) : rowsN R 130 = R := by
  unfold rowsN
  rw [List.take_of_length_le h1]
  apply List.ext_getElem?
  intro i
  rw [List.getElem?_map]
  by_cases hi : i < R.length
  · have := h2 i hi
    unfold rowOf at this
    rw [List.getD_eq_getElem?_getD, List.getElem?_eq_getElem hi] at this
    rw [List.getElem?_eq_getElem hi]
    simp only [Option.getD_some] at this
    simp only [Option.map_some, Option.some.injEq]
    exact List.take_of_length_le (by omega)
  · rw [List.getElem?_eq_none (by omega)]; rfl
theorem fit_whole {V : Int} {D L : Nat} {X : Vw} (hf : VwFit V D L X) (hD : D ≤ 40) : (∀ R ∈ X.K, rowsN R 130 = R) ∧ ∀ R ∈ X.V, rowsN R 130 = R := by
  have hm := hf.most
  exact ⟨fun R hR => rows_whole (by rw [(hf.ks R hR).1]; omega) hD (fun t ht => (hf.ks R hR).2 t (by rw [← (hf.ks R hR).1]; exact ht)), fun R hR => rows_whole (by rw [(hf.vs R hR).1]; omega) hD (fun t ht => (hf.vs R hR).2 t (by rw [← (hf.vs R hR).1]; exact ht))⟩
theorem list_eq {C E : List (List (List Int))} {L : Nat} (h1 : C.length = L) (h2 : E.length = L) (h : ∀ l, l < L → C.getD l [] = E.getD l []) : C = E := by
  apply List.ext_getElem?
  intro i
  by_cases hi : i < L
  · have := h i hi
    rw [List.getD_eq_getElem?_getD, List.getD_eq_getElem?_getD, List.getElem?_eq_getElem (by omega), List.getElem?_eq_getElem (by omega)] at this
    rw [List.getElem?_eq_getElem (by omega), List.getElem?_eq_getElem (by omega)]
    simpa using this
  · rw [List.getElem?_eq_none (by omega), List.getElem?_eq_none (by omega)]
/-- The view of P, fed one by one, holds the lists that are made from the beginning. -/
theorem feed_full {M : Mdl} {V D H Hd L : Nat} {P : List Int} (hP : P.all (tokB V) = true) (h0 : 1 ≤ P.length) (hl : P.length ≤ 128) (hf : VwFit V D L noX) :
    (feedAll M D H Hd L noX P).T = P ∧ (feedAll M D H Hd L noX P).K = fullK M D H Hd L P ∧ (feedAll M D H Hd L noX P).V = fullV M D H Hd L P := by
  have hc : Cached M D H Hd L (feedAll M D H Hd L noX P) ([] ++ P) := cached_all P (cached_none M D H Hd L) fun x hx => by
    have := List.all_eq_true.1 hP x hx
    unfold tokB at this
    have : 0 ≤ x ∧ x < V := by simpa using this
    exact this.1
  rw [List.nil_append] at hc
  have hfn : VwFit V D L (feedAll M D H Hd L noX P) := feedAll_fit hf hP (by show 0 + _ ≤ _; omega)
  have hlen : (feedAll M D H Hd L noX P).T.length = P.length := by rw [hc.1]
  refine ⟨hc.1, list_eq (by rw [hfn.k, if_neg (by omega)]) (by unfold fullK; simp) fun l h => ?_, list_eq (by rw [hfn.v, if_neg (by omega)]) (by unfold fullV; simp) fun l h => ?_⟩
  · rw [hc.2.1 l h]
    unfold fullK
    rw [List.getD_eq_getElem?_getD, List.getElem?_map, List.getElem?_range h]
    rfl
  · rw [hc.2.2 l h]
    unfold fullV
    rw [List.getD_eq_getElem?_getD, List.getElem?_map, List.getElem?_range h]
    rfl
end Go.Proofs.YtlmdjhdlfdandaaDoor

/- The document's Same of lists of rows, and of views: of two that read alike it is true. -/
namespace Go.Proofs.YtlmdjhdlfdandaaDoor
open Go.ChangeShapes Go.WideShapes Go.ChangeAt Go.RowKit
theorem drewN_cell (w : World) (m : Nat) {a : Addr} {v : Value} (h : w.cell? a = some v) : (w.drewN m).cell? a = some v := by
  have hlt := World.block_lt_of_cell? w _ h
  rw [(below_drewN (Below.refl w.heap.size w) m).cell hlt]; exact h
set_option maxHeartbeats 800000 in
theorem cubeSame_eq (ao bo : Option Addr) (n ca cb : Nat) (C : List (List (List Int))) (w : World) (hA : CubeAt w ao n C) (hB : CubeAt w bo n C) :
   Calls Tryd.prog 14 #[.slice ao n ca, .slice bo n cb] w fun e w' => e = .returned (.bool true) ∧ ∃ m, w' = w.drewN m := by
  have hn := hA.max
  have hl := hA.len
  go_enter Tryd.func14, Tryd.ntmps14
  go_wp2
  go_loopg [14] n (fun r i wr => ∃ k : Nat, k ≤ n ∧ r = n - k ∧ i = .int .i64 k ∧ ∃ m, wr = w.drewN m)
  case atStart => exact ⟨0, by omega, by omega, rfl, 0, rfl⟩
  case round =>
    obtain ⟨k, hk, rfl, rfl, m0, hw0⟩ := hrel
    have HW : Hid (wr = w.drewN m0) := hw0
    clear hw0
    by_cases hlt : k < n
    · obtain ⟨b, o, rfl, hc⟩ := hA.cells (by omega)
      obtain ⟨b', o', rfl, hc'⟩ := hB.cells (by omega)
      obtain ⟨R, hR⟩ : ∃ R, C[k]? = some R := ⟨_, List.getElem?_eq_getElem (show k < C.length by omega)⟩
      obtain ⟨ro, n1, c1, q1, -, -, -, G1⟩ := hc k R hR
      obtain ⟨ro2, n2, c2, q2, -, -, -, G2⟩ := hc' k R hR
      have e12 : n2 = n1 := by rw [← G2.len, G1.len]
      subst e12
      have hn2 := G1.max
      have Q1 : Hid (∀ m, (w.drewN m).cell? ⟨b, o + k, none⟩ = some (.slice ro n2 c1)) := fun m => drewN_cell w m q1
      have Q2 : Hid (∀ m, (w.drewN m).cell? ⟨b', o' + k, none⟩ = some (.slice ro2 n2 c2)) := fun m => drewN_cell w m q2
      clear hA hB hc hc' q1 q2
      have q1 : wr.cell? ⟨b, o + k, none⟩ = some (.slice ro n2 c1) := by rw [HW.out]; exact Q1.out _
      have q2 : wr.cell? ⟨b', o' + k, none⟩ = some (.slice ro2 n2 c2) := by rw [HW.out]; exact Q2.out _
      go_wp2_with fail
      go_quiet (fail)
      replace HW : Hid (wr.drewN nq = w.drewN (m0 + nq)) := by show _ = _; rw [HW.out, World.drewN_drewN]
      generalize wr.drewN nq = wq at *
      generalize m0 + nq = m1 at *
      clear q1 q2
      have q1 : wq.cell? ⟨b, o + k, none⟩ = some (.slice ro n2 c1) := by rw [HW.out]; exact Q1.out _
      go_wp2_with fail
      clear q1
      go_loopg [33] n2 (fun r i wr => ∃ j : Nat, j ≤ n2 ∧ r = n2 - j ∧ i = .int .i64 j ∧ ∃ m, wr = w.drewN m)
      case atStart => exact ⟨0, by omega, by omega, rfl, m1, HW.out⟩
      case round =>
        obtain ⟨j, hj, rfl, rfl, m2, hw2⟩ := hrel
        have HV : Hid (wr = w.drewN m2) := hw2
        clear hw2 HW
        by_cases hjt : j < n2
        · obtain ⟨d, p, rfl, hd⟩ := G1.cells (by omega)
          obtain ⟨d', p', rfl, hd'⟩ := G2.cells (by omega)
          obtain ⟨r1, l1, x1, s1, A1⟩ := hd j hjt
          obtain ⟨r2, l2, x2, s2, A2⟩ := hd' j hjt
          have el12 : l2 = l1 := by rw [← A2.row.len, A1.row.len]
          subst el12
          have q1 : wr.cell? ⟨b, o + k, none⟩ = some (.slice (some ⟨d, p, none⟩) n2 c1) := by rw [HV.out]; exact Q1.out _
          have q2 : wr.cell? ⟨b', o' + k, none⟩ = some (.slice (some ⟨d', p', none⟩) n2 c2) := by rw [HV.out]; exact Q2.out _
          have t1 : wr.cell? ⟨d, p + j, none⟩ = some (.slice r1 l2 x1) := by rw [HV.out]; exact drewN_cell w m2 s1
          have t2 : wr.cell? ⟨d', p' + j, none⟩ = some (.slice r2 l2 x2) := by rw [HV.out]; exact drewN_cell w m2 s2
          have SS := fun m => same_any r1 r2 l2 x1 x2 _ (wr.drewN m) (by rw [HV.out, World.drewN_drewN]; exact A1.row.below (below_drewN (Below.refl _ _) _)) (by rw [HV.out, World.drewN_drewN]; exact A2.row.below (below_drewN (Below.refl _ _) _))
          clear hd hd' s1 s2 A1 A2 G1 G2
          go_wp2_with fail
          go_quiet (first | (go_at_call 15; exact Calls.quiet_of (SS _)))
          go_wp2_with fail
          go_roundg (n2 - (j + 1))
          case measure => omega
          case rel => exact ⟨j + 1, by omega, rfl, by go_num, m2 + nq, by rw [HV.out, World.drewN_drewN]⟩
        · obtain rfl : j = n2 := by omega
          clear G1 G2
          go_wp2_with fail
          go_roundg (n - (k + 1))
          case measure => omega
          case rel => exact ⟨k + 1, by omega, rfl, by go_num, m2, HV.out⟩
    · obtain rfl : k = n := by omega
      go_wp2
      go_ret
      exact ⟨rfl, m0, HW.out⟩
/-- A view that was told, as cells. -/
structure ToldAt (w : World) (t k v : Sl) (X : Vw) : Prop where
  t : IArg w t.ao t.n t.c X.T
  k : CubeAt w k.ao k.n X.K
  v : CubeAt w v.ao v.n X.V
theorem ToldAt.below {w w' : World} {t k v : Sl} {X : Vw} (h : ToldAt w t k v X) (hb : Below w.heap.size w w') : ToldAt w' t k v X := ⟨h.t.below hb, h.k.below hb, h.v.below hb⟩
end Go.Proofs.YtlmdjhdlfdandaaDoor

/- Rows of lists that grow by values, two side by side; the first rows of each list of a cache. -/
namespace Go.Proofs.YtlmdjhdlfdandaaDoor
open Go.ChangeShapes Go.WideShapes Go.ChangeAt Go.RowKit
/-- append of one list of rows onto a row of lists of the call's own, by its value. -/
theorem wpList_append_vl {w : World} {ops : Array Oper} {rest : List Oper} {o : Oper} {a : Act} {Q : Exit → Act → World → Prop} (hgd : o.guard = none) (s x : Operand)
    (ho : o.op = .call { callee := .builtin .append, args := #[s, x], argTypes := #[39, 39] })
    (B g k cap : Nat) (vs : List Value) (hs : a.eval s = .slice (some ⟨g, 0, none⟩) k cap) (O : w.ownsRow B 49 1 (.slice (some ⟨g, 0, none⟩) k cap) k vs)
    (bo : Nat) (u : Value) (hx : a.eval x = .slice (some ⟨bo, 0, none⟩) 1 1) (hX : w.cell? ⟨bo, 0, none⟩ = some u) (hu : u.oneCell' = true)
    (hlen : k + 1 ≤ 1048576) (hB : B ≤ w.heap.size)
    (h : ∀ g' cap' w', w'.ownsRow B 49 1 (.slice (some ⟨g', 0, none⟩) (k + 1) cap') (k + 1) (vs ++ [u]) → w.grownBy w' (some g) → (g' = g ∨ w.heap.size ≤ g') → wpList Tryd.prog ops Q rest (a.put o.dst (.slice (some ⟨g', 0, none⟩) (k + 1) cap')) w') : wpList Tryd.prog ops Q (o :: rest) a w := by
  obtain ⟨i0, hi, hz0, hz1, hz2⟩ := info_parts Tryd.infoList
  refine wpList_plain hgd fun _ hK => wp_append_own2 w s x 39 ho B 49 i0 (.slice none 0 0) 1 24 Tryd.underlying39 hi hz0 hz1 hz2 rfl (by decide) _ k _ hs O ⟨bo, 0, none⟩ 1 1 [u] hx rfl ?_ (by intro v hv; simp at hv; subst hv; exact hu) (by unfold maxLen; omega) (by omega) hB ?_
  · intro j v hj
    match j, hj with
    | 0, hj =>
      simp at hj
      subst hj
      have e2 : (Addr.mk bo 0 none).add 0 = ⟨bo, 0, none⟩ := by simp [Addr.add]
      rw [e2, hX]
  · intro v' w' O1 G1 _ N1
    have O2 := O1
    rcases O2.2 with ⟨h2, h3⟩ | ⟨g', cap', cur, h3, h4⟩
    · exact absurd h3 (by omega)
    · subst h3
      refine hK _ _ (h g' cap' w' O1 G1 ?_)
      rcases N1 g' rfl with b | b
      · left; simp [Value.ownBlock] at b; exact b.symm
      · right; omega
/-- Two rows of lists of the call's own, side by side, behind w0. -/
structure TwoR (w0 w : World) (g1 c1 g2 c2 n1 n2 : Nat) (vs1 vs2 : List Value) : Prop where
  o1 : w.ownsRow w0.heap.size 49 1 (.slice (some ⟨g1, 0, none⟩) n1 c1) n1 vs1
  o2 : w.ownsRow w0.heap.size 49 1 (.slice (some ⟨g2, 0, none⟩) n2 c2) n2 vs2
  ne : g1 ≠ g2
  kp : Below w0.heap.size w0 w
theorem TwoR.below {w0 w w' : World} {g1 c1 g2 c2 n1 n2 : Nat} {vs1 vs2 : List Value} (h : TwoR w0 w g1 c1 g2 c2 n1 n2 vs1 vs2) (hb : Below w.heap.size w w') : TwoR w0 w' g1 c1 g2 c2 n1 n2 vs1 vs2 :=
  ⟨owns_below h.o1 hb, owns_below h.o2 hb, h.ne, h.kp.trans (hb.mono h.kp.size)⟩
theorem TwoR.grow1 {w0 w w' : World} {g1 c1 g2 c2 n1 n2 g' c' n' : Nat} {vs1 vs2 vs' : List Value} (h : TwoR w0 w g1 c1 g2 c2 n1 n2 vs1 vs2) (O : w'.ownsRow w0.heap.size 49 1 (.slice (some ⟨g', 0, none⟩) n' c') n' vs') (hG : w.grownBy w' (some g1)) (hg : g' = g1 ∨ w.heap.size ≤ g') : TwoR w0 w' g' c' g2 c2 n' n2 vs' vs2 := by
  have l1 := h.o1.lt g1 rfl
  have l2 := h.o2.lt g2 rfl
  refine ⟨O, owns_mono h.o2 (Nat.le_refl _) (fun b hb => ?_), ?_, h.kp.trans ⟨hG.os, hG.tape, hG.output, hG.size, fun b hb => hG.block b (Nat.lt_of_lt_of_le hb h.kp.size) (fun e => ?_)⟩⟩
  · simp [Value.ownBlock] at hb
    subst hb
    exact hG.block _ l2.2 (fun e => h.ne (by simpa using e.symm))
  · rcases hg with e | e
    · rw [e]; exact h.ne
    · omega
  · simp only [Option.some.injEq] at e; omega
theorem TwoR.grow2 {w0 w w' : World} {g1 c1 g2 c2 n1 n2 g' c' n' : Nat} {vs1 vs2 vs' : List Value} (h : TwoR w0 w g1 c1 g2 c2 n1 n2 vs1 vs2) (O : w'.ownsRow w0.heap.size 49 1 (.slice (some ⟨g', 0, none⟩) n' c') n' vs') (hG : w.grownBy w' (some g2)) (hg : g' = g2 ∨ w.heap.size ≤ g') : TwoR w0 w' g1 c1 g' c' n1 n' vs1 vs' := by
  have l1 := h.o1.lt g1 rfl
  have l2 := h.o2.lt g2 rfl
  refine ⟨owns_mono h.o1 (Nat.le_refl _) (fun b hb => ?_), O, ?_, h.kp.trans ⟨hG.os, hG.tape, hG.output, hG.size, fun b hb => hG.block b (Nat.lt_of_lt_of_le hb h.kp.size) (fun e => ?_)⟩⟩
  · simp [Value.ownBlock] at hb
    subst hb
    exact hG.block _ l1.2 (fun e => h.ne (by simpa using e))
  · rcases hg with e | e
    · rw [e]; exact h.ne
    · omega
  · simp only [Option.some.injEq] at e; omega
/-- Two empty rows, made one behind the other. -/
theorem twoR_new (w : World) : TwoR w ((w.alloc (.cells #[] 49)).alloc (.cells #[] 49)) w.heap.size 0 (w.alloc (.cells #[] 49)).heap.size 0 0 0 [] [] := by
  have B1 : Below w.heap.size w (w.alloc (.cells #[] 49)) := (Below.refl _ _).alloc (Nat.le_refl _) _
  have B2 : Below (w.alloc (.cells #[] 49)).heap.size (w.alloc (.cells #[] 49)) ((w.alloc (.cells #[] 49)).alloc (.cells #[] 49)) := (Below.refl _ _).alloc (Nat.le_refl _) _
  have O1 : (w.alloc (.cells #[] 49)).ownsRow w.heap.size 49 1 (.slice (some ⟨w.heap.size, 0, none⟩) 0 0) 0 [] := World.ownsRow_made w #[] 0 (Nat.le_refl _) (by decide) rfl
  refine ⟨owns_below O1 B2, owns_mono (World.ownsRow_made (w.alloc (.cells #[] 49)) #[] 0 (Nat.le_refl _) (by decide) rfl) B1.size (fun _ _ => rfl), ?_, B1.trans (B2.mono B1.size)⟩
  simp
/-- The lists of a cube of which each has m rows, one by one. -/
theorem cube_lists {w : World} {g L m : Nat} {C : List (List (List Int))} (h : CubeAt w (some ⟨g, 0, none⟩) L C) (hm : ∀ t, t < L → (C.getD t []).length = m) (h1 : 1 ≤ m) : ∃ f : Nat → Nat × Nat × Nat, ∀ t, t < L → w.cell? ⟨g, t, none⟩ = some (.slice (some ⟨(f t).1, (f t).2.1, none⟩) m (f t).2.2) ∧ m ≤ (f t).2.2 ∧ (f t).2.2 ≤ 9223372036854775807 ∧ GridAt w (some ⟨(f t).1, (f t).2.1, none⟩) m (C.getD t []) := by
  have H : ∀ t, ∃ p : Nat × Nat × Nat, t < L → w.cell? ⟨g, t, none⟩ = some (.slice (some ⟨p.1, p.2.1, none⟩) m p.2.2) ∧ m ≤ p.2.2 ∧ p.2.2 ≤ 9223372036854775807 ∧ GridAt w (some ⟨p.1, p.2.1, none⟩) m (C.getD t []) := by
    intro t
    by_cases ht : t < L
    · obtain ⟨b, o, e, hc⟩ := h.cells (by omega)
      simp only [Option.some.injEq, Addr.mk.injEq, and_true] at e
      obtain ⟨rfl, rfl⟩ := e
      have hl := h.len
      have ht' : t < C.length := by omega
      obtain ⟨ro, n, c, k1, k2, k3, k4, k5⟩ := hc t _ (List.getElem?_eq_getElem ht')
      have hR : C.getD t [] = C[t] := by simp [List.getD_eq_getElem?_getD, List.getElem?_eq_getElem ht']
      have hn : n = m := by rw [← hm t ht, hR]; exact k5.len.symm
      subst hn
      obtain ⟨b1, o1, rfl, _⟩ := k5.cells (by omega)
      rw [Nat.zero_add] at k1
      exact ⟨(b1, o1, c), fun _ => ⟨k1, k3, k4, by rw [hR]; exact k5⟩⟩
    · exact ⟨(0, 0, 0), fun h => absurd h ht⟩
  exact ⟨fun t => (H t).choose, fun t ht => (H t).choose_spec ht⟩
/-- The values of the first k lists, each cut to its first n rows. -/
def cutVs (f : Nat → Nat × Nat × Nat) (n k : Nat) : List Value := (List.range k).map fun t => Value.slice (some ⟨(f t).1, (f t).2.1, none⟩) n (f t).2.2
theorem cutVs_succ (f : Nat → Nat × Nat × Nat) (n k : Nat) : cutVs f n (k + 1) = cutVs f n k ++ [Value.slice (some ⟨(f k).1, (f k).2.1, none⟩) n (f k).2.2] := by unfold cutVs; rw [List.range_succ, List.map_append]; rfl
theorem cut_cube {w : World} {B g L c n m : Nat} {f : Nat → Nat × Nat × Nat} {C : List (List (List Int))} (O : w.ownsRow B 49 1 (.slice (some ⟨g, 0, none⟩) L c) L (cutVs f n L)) (hC : C.length = L) (hL : L ≤ 9223372036854775807) (hn : n ≤ m) (hf : ∀ t, t < L → m ≤ (f t).2.2 ∧ (f t).2.2 ≤ 9223372036854775807 ∧ GridAt w (some ⟨(f t).1, (f t).2.1, none⟩) m (C.getD t [])) : CubeAt w (some ⟨g, 0, none⟩) L (C.map (List.take n)) := by
  refine ⟨by simp [hC], hL, fun _ => ⟨g, 0, rfl, fun t R hR => ?_⟩⟩
  have ht : t < L := by have := (List.getElem?_eq_some_iff.1 hR).1; simpa [hC] using this
  obtain ⟨k1, k2, k3⟩ := hf t ht
  have e : (cutVs f n L)[t]? = some (.slice (some ⟨(f t).1, (f t).2.1, none⟩) n (f t).2.2) := by unfold cutVs; simp [List.getElem?_range ht]
  have hc := O.cells (g := g) rfl t _ e
  have e2 : (Addr.mk g 0 none).add t = ⟨g, t, none⟩ := by simp [Addr.add]; intro h; exact h.symm
  rw [e2] at hc
  have hRe : R = (C.getD t []).take n := by
    have ht' : t < C.length := by omega
    rw [List.getElem?_map, List.getElem?_eq_getElem ht'] at hR
    simp only [Option.map_some, Option.some.injEq] at hR
    rw [← hR]
    simp [List.getD_eq_getElem?_getD, List.getElem?_eq_getElem ht']
  exact ⟨_, n, (f t).2.2, by rw [Nat.zero_add]; exact hc, (by intro h; cases h), by omega, k2, by rw [hRe]; exact k3.take hn⟩
/-- The cache of a beginning is the beginning of the cache, as lists. -/
theorem full_cut {M : Mdl} {V D H Hd L n : Nat} {P : List Int} (hP : P.all (tokB V) = true) (h1 : 1 ≤ n) (hn : n ≤ P.length) (hl : P.length ≤ 128) :
    (fullK M D H Hd L P).map (List.take n) = fullK M D H Hd L (P.take n) ∧ (fullV M D H Hd L P).map (List.take n) = fullV M D H Hd L (P.take n) := by
  have hf : VwFit (V : Int) D L noX := noX_fit _ _ _
  have hPn : (P.take n).all (tokB V) = true := by
    have := hP
    rw [← List.take_append_drop n P, List.all_append, Bool.and_eq_true] at this
    exact this.1
  have ln : (P.take n).length = n := by rw [List.length_take]; omega
  obtain ⟨a1, a2, a3⟩ := feed_full (M := M) (H := H) (Hd := Hd) hP (by omega) hl hf
  obtain ⟨b1, b2, b3⟩ := feed_full (M := M) (H := H) (Hd := Hd) hPn (by omega) (by omega) hf
  have e := cut_feedAll (M := M) (H := H) (Hd := Hd) h1 hn hP hl hf
  rw [← a2, ← a3, ← b2, ← b3, ← e]
  exact ⟨rfl, rfl⟩
theorem fullK_rows {M : Mdl} {V D H Hd L : Nat} {P : List Int} (hP : P.all (tokB V) = true) (h0 : 1 ≤ P.length) (hl : P.length ≤ 128) : (∀ t, t < L → ((fullK M D H Hd L P).getD t []).length = P.length) ∧ (∀ t, t < L → ((fullV M D H Hd L P).getD t []).length = P.length) ∧ (fullK M D H Hd L P).length = L ∧ (fullV M D H Hd L P).length = L := by
  have hf : VwFit (V : Int) D L noX := noX_fit _ _ _
  obtain ⟨a1, a2, a3⟩ := feed_full (M := M) (H := H) (Hd := Hd) hP h0 hl hf
  have hfit : VwFit (V : Int) D L (feedAll M D H Hd L noX P) := feedAll_fit (noX_fit _ _ _) hP (by show 0 + _ ≤ _; omega)
  have hk := hfit.k
  have hv := hfit.v
  rw [a1] at hk hv
  rw [if_neg (by omega), a2] at hk
  rw [if_neg (by omega), a3] at hv
  refine ⟨fun t ht => ?_, fun t ht => ?_, hk, hv⟩
  · have := (fit_list (K := fullK M D H Hd L P) (n := P.length) (by rw [if_neg (by omega)]; exact hk) (by have := hfit.ks; rw [a1, a2] at this; exact this) ht).1
    exact this
  · have := (fit_list (K := fullV M D H Hd L P) (n := P.length) (by rw [if_neg (by omega)]; exact hv) (by have := hfit.vs; rw [a1, a3] at this; exact this) ht).1
    exact this
end Go.Proofs.YtlmdjhdlfdandaaDoor

/- The document's own answers of layer 7: a score, and the errors' numbers; and what Scores answers where a key is of another length. -/
namespace Go.Proofs.YtlmdjhdlfdandaaDoor
open Go.ChangeShapes Go.WideShapes Go.ChangeAt Go.RowKit
set_option maxHeartbeats 1600000 in
theorem scores_bad (qo ko : Option Addr) (n m cq ck p : Nat) (Q : List Int) (K : List (List Int)) (w : World) (hQ : RowAt w qo n Q) (hK : GridAt w ko m K) (hn : n ≤ 4096) (hm : m ≤ 4096) (hp : p < m) (hl : ∀ t, t < p → (rowOf K t).length = n) (hb : (rowOf K p).length ≠ n) (hb4 : (rowOf K p).length ≤ 4096) :
   Calls Tryd.prog 70 #[.slice qo n cq, .slice ko m ck] w fun e w' => e = .returned (.tuple #[.slice none 0 0, .int .i64 6]) ∧ Below w.heap.size w w' := by
  have hmk := run_make_row' (P := Tryd.prog) 27 55 (.int .i32 0) 4 Tryd.underlying27 Tryd.infoNum rfl .i64 .i64 m (by omega) (by omega)
  have F0 := fresh_made w m (by omega)
  have B0 : Below w.heap.size w (w.alloc (.cells (madeCells #[.int .i32 0] m) 55)) := (Below.refl _ _).alloc (Nat.le_refl _) _
  have HK : Hid (∀ wv, Below w.heap.size w wv → GridAt wv ko m K) := fun wv hb => hK.below hb
  have HQ : Hid (∀ wv, Below w.heap.size w wv → RowAt wv qo n Q) := fun wv hb => hQ.below hb
  have hk := scoreK_bd n
  have sb := sat_bd (clip n * 65536)
  have HE : Hid (invN (sat (clip n * 65536)) = scoreK n) := rfl
  go_enter Tryd.func70, Tryd.ntmps70
  go_wp2_with (first | (go_at_call 84; refine (of_any _ _ (by omega) (by omega)).mono ?_; rintro e w ⟨rfl, rfl⟩) | (go_at_call 66; refine (inv_any _ _ (by omega) (by omega)).mono ?_; rintro e w ⟨rfl, rfl⟩; rw [HE.out]))
  clear hmk hK hQ
  generalize w.alloc (.cells (madeCells #[.int .i32 0] m) 55) = w0 at *
  go_loopg [21] m (fun r i wr => ∃ j : Nat, j ≤ p ∧ r = m - j ∧ i = .int .i64 j ∧ Fresh wr w.heap.size w.heap.size m m (tab m fun i => if i < j then scoreN Q (rowOf K i) n else 0) ∧ Below w.heap.size w wr)
  case atStart => exact ⟨0, by omega, by omega, rfl, by rw [tab_start]; exact F0, B0⟩
  case round =>
    obtain ⟨j, hj, rfl, rfl, F1, B1⟩ := hrel
    clear F0 B0
    have hlm : j < m := by omega
    have R1 := HK.out _ B1
    have A1 := HQ.out _ B1
    obtain ⟨b, o, rfl, hc⟩ := R1.cells (by omega)
    obtain ⟨ro, m1, k1, q1, AR⟩ := hc j hlm
    have l1 := AR.row.len
    by_cases hlj : j < p
    · rw [hl j hlj] at l1
      subst l1
      have f1 := F1.frozen j
      have f2 := F1.cell hlm
      have d1 := dotN_bd Q (rowOf K j) n
      have d2 := scoreN_bd Q (rowOf K j) n
      clear hc R1
      go_wp2_with (first | (go_at_call 83; refine (dot_any _ _ _ _ _ _ _ _ A1 AR.row hn).mono ?_; rintro e w1 ⟨rfl, n1, rfl⟩) | (go_at_call 67; refine (mul_any _ _ _ (by omega) (by omega) (by omega) (by omega)).mono ?_; rintro e w' ⟨rfl, n2, rfl⟩))
      go_roundg (m - (j + 1))
      case measure => omega
      case rel => exact ⟨j + 1, by omega, rfl, by go_num, (F1.drewN (n1 + n2)).step (f := fun i => scoreN Q (rowOf K i) n) (scoreN Q (rowOf K j) n) hlm rfl (by omega), (below_drewN B1 (n1 + n2)).setCell (Nat.le_refl _) _⟩
    · obtain rfl : j = p := by omega
      have hx := AR.row.max
      have hne : fitN n m1 = 6 := by unfold fitN; rw [if_neg (by omega), if_pos (by omega)]
      clear hc R1 AR A1 F1
      go_wp2_with (go_at_call 83; refine (dot_bad _ _ _ _ _ _ _ (by omega) hx (by rw [hne]; omega)).mono ?_; rw [hne]; rintro e wr ⟨rfl, rfl⟩)
      go_ret2
      exact ⟨rfl, B1⟩
theorem refDot2 (ao bo : Option Addr) (n1 n2 n ca cb : Nat) (A B : List Int) (w : World) (h1 : n1 = n) (h2 : n2 = n) (hA : RowAt w ao n A) (hB : RowAt w bo n B) :
   Calls Tryd.prog 52 #[.slice ao n1 ca, .slice bo n2 cb] w fun e w' => e = .returned (.int .i32 (dotN A B n)) ∧ ∃ m, w' = w.drewN m := by
  subst h1
  subst h2
  exact refDot_any _ _ _ _ _ _ _ _ hA hB
theorem drew_drewN (w : World) (a b : Nat) : w.drew.drewN (a + b) = w.drewN (1 + a + b) := by
  have h : w.drew = w.drewN 1 := rfl
  rw [h, World.drewN_drewN, Nat.add_assoc]
set_option maxHeartbeats 1600000 in
theorem refScore_any (b o n cq b' o' n' ck f s : Nat) (Q Kr : List Int) (w : World) (hQ : Arg w (some ⟨b, o, none⟩) n cq Q) (hK : Arg w (some ⟨b', o', none⟩) n' ck Kr) (h1 : f + s ≤ n) (h2 : f + s ≤ n') (h4 : s ≤ 4096) (h0 : 1 ≤ s ∨ f = 0) :
   Calls Tryd.prog 77 #[.slice (some ⟨b, o, none⟩) n cq, .slice (some ⟨b', o', none⟩) n' ck, .int .i64 f, .int .i64 s] w fun e w' => e = .returned (.int .i32 (scoreN (partOf Q f s) (partOf Kr f s) s)) ∧ ∃ d, w' = w.drewN d := by
  have P1 : RowAt w (some ⟨b, o + f, none⟩) s (partOf Q f s) := hQ.row.part f s h1
  have P2 : RowAt w (some ⟨b', o' + f, none⟩) s (partOf Kr f s) := hK.row.part f s h2
  have x1 := hQ.fit
  have x2 := hQ.max
  have x3 := hK.fit
  have x4 := hK.max
  have y0 : IntKind.i64.wrap ((f : Int) + (s : Int)) = (f : Int) + (s : Int) := wrap_in (by omega)
  have y1 : 0 ≤ (f : Int) + (s : Int) := by omega
  have y2 : (f : Int) + (s : Int) ≤ (cq : Int) := by omega
  have y3 : (f : Int) + (s : Int) ≤ (ck : Int) := by omega
  have HC : Hid (sat ((s : Int) * 65536) = sat (clip s * 65536)) := by show _ = _; unfold sat clip; omega
  have HE : Hid (invN (sat (clip s * 65536)) = scoreK s) := rfl
  have sb := sat_bd (clip s * 65536)
  have kb := scoreK_bd s
  have db := dotN_bd (partOf Q f s) (partOf Kr f s) s
  have ys : IntKind.i64.wrap ((s : Int) * 65536) = (s : Int) * 65536 := wrap_in (by omega)
  clear hQ hK
  replace h0 : 1 ≤ s ∨ (s = 0 ∧ f = 0) := by omega
  rcases h0 with h0 | h0
  · have y4 : ¬ cq = f := by omega
    have y5 : ¬ ck = f := by omega
    go_enter Tryd.func77, Tryd.ntmps77
    go_wp2_with fail
    go_region_with (first
        | (go_at_call 52; refine (refDot2 _ _ _ _ s _ _ _ _ _ (by omega) (by omega) (P1.below (Below.refl _ _).drew) (P2.below (Below.refl _ _).drew)).mono ?_; rintro e w1 ⟨rfl, d1, hw1⟩; have HW1 : Hid (w1 = w.drew.drewN d1) := hw1; clear hw1)
        | (go_at_call 55; refine (refSat_any _ _ (by omega) (by omega)).mono ?_; rintro e w1 ⟨rfl, rfl⟩; rw [HC.out])
        | (go_at_call 54; refine (refInv_any _ _ (by omega) (by omega)).mono ?_; rintro e w1 ⟨rfl, rfl⟩; rw [HE.out])
        | (go_at_call 57; refine (refMul_any _ _ _ (by omega) (by omega) (by omega) (by omega)).mono ?_; rintro e w2 ⟨rfl, d2, hw2⟩; have HW2 : Hid (w2 = w1.drewN d2) := hw2; clear hw2))
    all_goals
      go_wp2
      go_ret
      exact ⟨rfl, 1 + d1 + d2, by rw [HW2.out, HW1.out, World.drewN_drewN]; exact drew_drewN _ _ _⟩
  · obtain ⟨rfl, rfl⟩ := h0
    rw [show partOf Q 0 0 = [] from by simp [partOf], show partOf Kr 0 0 = [] from by simp [partOf]] at *
    have y6 : IntKind.i64.wrap 0 = 0 := rfl
    have HC : Hid (sat 0 = sat (clip 0 * 65536)) := rfl
    have HE : Hid (invN (sat (clip 0 * 65536)) = scoreK 0) := rfl
    have sb := sat_bd (clip 0 * 65536)
    clear y0 y1 y2 y3 P1 P2 ys
    by_cases z1 : cq = 0
    all_goals by_cases z2 : ck = 0
    all_goals
      go_enter Tryd.func77, Tryd.ntmps77
      go_wp2_with fail
      go_region_with (first
          | (go_at_call 52; refine (refDot_any _ _ 0 _ _ [] [] _ (RowAt.nil _ _) (RowAt.nil _ _)).mono ?_; rintro e w1 ⟨rfl, d1, hw1⟩; have HW1 : Hid (w1 = w.drew.drewN d1) := hw1; clear hw1)
          | (go_at_call 55; refine (refSat_any 0 _ (by omega) (by omega)).mono ?_; rintro e w1 ⟨rfl, rfl⟩; rw [HC.out])
          | (go_at_call 54; refine (refInv_any _ _ (by omega) (by omega)).mono ?_; rintro e w1 ⟨rfl, rfl⟩; rw [HE.out])
          | (go_at_call 57; refine (refMul_any _ _ _ (by omega) (by omega) (by omega) (by omega)).mono ?_; rintro e w2 ⟨rfl, d2, hw2⟩; have HW2 : Hid (w2 = w1.drewN d2) := hw2; clear hw2))
      all_goals
        go_wp2
        go_ret
        exact ⟨rfl, 1 + d1 + d2, by rw [HW2.out, HW1.out, World.drewN_drewN]; exact drew_drewN _ _ _⟩
end Go.Proofs.YtlmdjhdlfdandaaDoor
