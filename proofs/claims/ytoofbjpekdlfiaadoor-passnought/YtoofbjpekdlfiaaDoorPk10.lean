/- Contracts of the program's functions, part 10 of 14: what each call returns and leaves of memory. -/
import Derived.Test.YtoofbjpekdlfiaaDoorPk9
import Derived.Deep.MidRow
/- Package pass: Full: how much a model likes each token behind a row of them, from the beginning. -/
namespace Go.Proofs.YtoofbjpekdlfiaaDoor
open Go.ChangeShapes Go.WideShapes Go.ChangeAt Go.RowKit
/-- The first rows of tokens; what l layers make of them. -/
def begL (E : List Int) (D : Nat) (A : List Int) : List (List Int) := (List.range A.length).map fun t => begR E D (el A t).toNat t
def rowsL (M : Mdl) (D H Hd : Nat) (A : List Int) : Nat → List (List Int)
  | 0 => begL M.E D A
  | l + 1 => madeR (layAt M l) D H Hd (rowsL M D H Hd A l)
def fullK (M : Mdl) (D H Hd L : Nat) (A : List Int) : List (List (List Int)) := (List.range L).map fun l => keysR (layAt M l) D (rowsL M D H Hd A l)
def fullV (M : Mdl) (D H Hd L : Nat) (A : List Int) : List (List (List Int)) := (List.range L).map fun l => valsR (layAt M l) D (rowsL M D H Hd A l)
def fullX (M : Mdl) (V D H Hd L : Nat) (A : List Int) : List Int := likR M V D (rowOf (rowsL M D H Hd A L) (A.length - 1))
theorem rowsL_len (M : Mdl) (D H Hd : Nat) (A : List Int) : ∀ l, (rowsL M D H Hd A l).length = A.length
  | 0 => by show (begL M.E D A).length = _; unfold begL; simp
  | l + 1 => by show (madeR _ _ _ _ (rowsL M D H Hd A l)).length = _; unfold madeR; simp [rowsL_len M D H Hd A l]
theorem rowsL_row (M : Mdl) (D H Hd : Nat) (A : List Int) : ∀ l t, t < A.length → (rowOf (rowsL M D H Hd A l) t).length = D
  | 0, t, h => by
    show (rowOf (begL M.E D A) t).length = D
    unfold rowOf begL
    rw [List.getD_eq_getElem?_getD, List.getElem?_map, List.getElem?_range h]
    exact tab_len _ _
  | l + 1, t, h => by
    show (rowOf (madeR _ _ _ _ (rowsL M D H Hd A l)) t).length = D
    rw [madeR_at _ _ _ _ (by rw [rowsL_len]; exact h)]
    exact tab_len _ _
theorem begL_at (E : List Int) (D : Nat) {A : List Int} {t : Nat} (h : t < A.length) : rowOf (begL E D A) t = begR E D (el A t).toNat t := by
  unfold rowOf begL
  rw [List.getD_eq_getElem?_getD, List.getElem?_map, List.getElem?_range h]
  rfl
theorem fullK_at (M : Mdl) (D H Hd L : Nat) (A : List Int) {l : Nat} (h : l < L) : (fullK M D H Hd L A).getD l [] = keysR (layAt M l) D (rowsL M D H Hd A l) := by
  unfold fullK
  rw [List.getD_eq_getElem?_getD, List.getElem?_map, List.getElem?_range h]
  rfl
theorem fullV_at (M : Mdl) (D H Hd L : Nat) (A : List Int) {l : Nat} (h : l < L) : (fullV M D H Hd L A).getD l [] = valsR (layAt M l) D (rowsL M D H Hd A l) := by
  unfold fullV
  rw [List.getD_eq_getElem?_getD, List.getElem?_map, List.getElem?_range h]
  rfl
theorem Tryd.infoCa : (Tryd.prog.info? 40).map (·.size) = some 2 := by kernel_rfl
theorem load_ca {w : World} {g : Nat} {cs : Array Value} (h : Blk w g 40 cs) (hs : cs.size = 2) : (loadVar 40 ⟨g, 0, none⟩).run Tryd.prog w = .ok (.agg cs) w :=
  run_loadVar_row w g _ _ cs _ _ h Tryd.underlying40 rfl (by rw [hs]; exact Tryd.infoCa)
theorem results_mid {fn : Func} {p u v : Tmp} {ty : TypeId} (h : fn.results = #[.tmp u, .cell p ty, .tmp v]) (tmps : Array Value) (w : World) (g : Nat) (cs : Array Value)
    (hp : tmps.getD p undef = .pointer (some ⟨g, 0, none⟩)) (hl : (loadVar ty ⟨g, 0, none⟩).run Tryd.prog w = .ok (.agg cs) w) :
    (results fn tmps).run Tryd.prog w = .ok (.tuple #[tmps.getD u undef, .agg cs, tmps.getD v undef]) w := by
  have hp' : tmps[p]?.getD undef = .pointer (some ⟨g, 0, none⟩) := by simpa using hp
  simp [results, h, hp', asAddr, hl]
def offF (w : World) (gK gV gC b : Nat) : Prop := w.heap.size + 2 < b ∧ b ≠ gK ∧ b ≠ gV ∧ b ≠ gC
/-- Within Full: boxes, the cache, and its lists up to layer t. -/
structure FI (w wr : World) (cfg ws : Array Value) (gC gK gV L t : Nat) (A1 A2 : List (List (List Int))) : Prop where
  x0 : Blk wr w.heap.size 23 cfg
  x1 : Blk wr (w.heap.size + 1) 29 ws
  x2 : Blk wr (w.heap.size + 2) 40 #[.slice none 0 0, .slice none 0 0]
  xc : Blk wr gC 40 #[.slice (some ⟨gK, 0, none⟩) L L, .slice (some ⟨gV, 0, none⟩) L L]
  k : KV wr gK L t (offF w gK gV gC) A1 []
  v : KV wr gV L t (offF w gK gV gC) A2 []
  ne : w.heap.size + 2 < gK ∧ w.heap.size + 2 < gV ∧ w.heap.size + 2 < gC ∧ gK ≠ gV ∧ gK ≠ gC ∧ gV ≠ gC
  kp : Below w.heap.size w wr
theorem FI.below {w wr w' : World} {cfg ws : Array Value} {gC gK gV L t : Nat} {A1 A2 : List (List (List Int))} (h : FI w wr cfg ws gC gK gV L t A1 A2) (hb : Below wr.heap.size wr w') : FI w w' cfg ws gC gK gV L t A1 A2 :=
  ⟨h.x0.below hb, h.x1.below hb, h.x2.below hb, h.xc.below hb, h.k.below hb, h.v.below hb, h.ne, below_then h.kp hb⟩
theorem FI.next {w wr : World} {cfg ws : Array Value} {gC gK gV L t : Nat} {A1 A2 : List (List (List Int))} (h : FI w wr cfg ws gC gK gV L t A1 A2) (ht : t < L) {r1 r2 n : Nat} {vs1 vs2 : List Value} (hn : n ≤ 9223372036854775807) (N1 : Hangs (offF w gK gV gC) wr fun w => GridV w (some ⟨r1, 0, none⟩) n vs1 (A1.getD t [])) (N2 : Hangs (offF w gK gV gC) wr fun w => GridV w (some ⟨r2, 0, none⟩) n vs2 (A2.getD t [])) :
    FI w ((wr.setCell ⟨gK, t, none⟩ (.slice (some ⟨r1, 0, none⟩) n n)).setCell ⟨gV, t, none⟩ (.slice (some ⟨r2, 0, none⟩) n n)) cfg ws gC gK gV L (t + 1) A1 A2 := by
  obtain ⟨e1, e2, e3, e4, e5, e6⟩ := h.ne
  have pk : ¬ offF w gK gV gC gK := fun h => h.2.1 rfl
  have pv : ¬ offF w gK gV gC gV := fun h => h.2.2.1 rfl
  refine ⟨(h.x0.other (by show _ ≠ gK; omega) _).other (by show _ ≠ gV; omega) _, (h.x1.other (by show _ ≠ gK; omega) _).other (by show _ ≠ gV; omega) _, (h.x2.other (by show _ ≠ gK; omega) _).other (by show _ ≠ gV; omega) _, (h.xc.other (by show _ ≠ gK; omega) _).other (by show _ ≠ gV; omega) _, ?_, ?_, h.ne, ?_⟩
  · exact (h.k.step ht pk (fun h => by cases h) (Nat.le_refl _) hn N1).far (by show gV ≠ gK; omega) pv _
  · exact (h.v.far (by show gK ≠ gV; omega) pk _).step ht pv (fun h => by cases h) (Nat.le_refl _) hn (N2.set pk _)
  · exact (h.kp.setCell (p := ⟨gK, t, none⟩) (by show w.heap.size ≤ gK; omega) _).setCell (p := ⟨gV, t, none⟩) (by show w.heap.size ≤ gV; omega) _
theorem Hangs.setRowFar {p : Nat → Prop} {w : World} {Φ : World → Prop} (h : Hangs p w Φ) {g : Nat} (hg : ¬ p g) (cs : Array Value) : Hangs p (w.setRow g cs) Φ := h.row hg cs
set_option maxRecDepth 100000 in
set_option maxHeartbeats 1600000 in
theorem full_bad (V D Hd H L : Nat) (W : Wt) (bs : List Bk) (M : Mdl) (ao : Option Addr) (n ca : Nat) (A : List Int) (w : World) (hG : Good w V D Hd H L W bs M) (hA : IArg w ao n ca A) (hq : promptN V A ≠ 0) :
   Calls Tryd.prog 9 #[.agg (cfgC V D Hd H L), .agg W.cells, .slice ao n ca] w fun e w' => e = .returned (.tuple #[.slice none 0 0, .agg #[.slice none 0 0, .slice none 0 0], .int .i64 (promptN V A)]) ∧ Below w.heap.size w w' := by
  obtain ⟨q1, q2, q3, q4, q5, q6, q7, q8, q9, q10⟩ := shape_ok hG.shape
  have CK := fun (wv : World) (hb : Below w.heap.size w wv) => check_good (hG.below hb)
  have CP := fun (wv : World) (hb : Below w.heap.size w wv) => prompt_any V D Hd H L ao n ca A wv (hA.below hb)
  have siz : W.cells.size = 8 := rfl
  have hq' : (promptN V A == 0) = false := by simpa using hq
  generalize promptN V A = q at *
  generalize hws : W.cells = ws at *
  unfold cfgC at CK CP ⊢
  have X0 := blk_new w 23 #[.int .i64 (V : Int), .int .i64 (D : Int), .int .i64 (Hd : Int), .int .i64 (H : Int), .int .i64 (L : Int)]
  have B0 : Below w.heap.size w (w.alloc (.cells #[.int .i64 (V : Int), .int .i64 (D : Int), .int .i64 (Hd : Int), .int .i64 (H : Int), .int .i64 (L : Int)] 23)) := (Below.refl _ _).alloc (Nat.le_refl _) _
  have s0 : (w.alloc (.cells #[.int .i64 (V : Int), .int .i64 (D : Int), .int .i64 (Hd : Int), .int .i64 (H : Int), .int .i64 (L : Int)] 23)).heap.size = w.heap.size + 1 := by simp
  generalize hw0 : w.alloc (.cells #[.int .i64 (V : Int), .int .i64 (D : Int), .int .i64 (Hd : Int), .int .i64 (H : Int), .int .i64 (L : Int)] 23) = w0 at *
  have X1 := blk_new w0 29 ws
  have B1 : Below w0.heap.size w0 (w0.alloc (.cells ws 29)) := (Below.refl _ _).alloc (Nat.le_refl _) _
  have s1 : (w0.alloc (.cells ws 29)).heap.size = w0.heap.size + 1 := by simp
  rw [s0] at X1 s1
  generalize hw1 : w0.alloc (.cells ws 29) = w1 at *
  have X2 := blk_new w1 40 #[.slice none 0 0, .slice none 0 0]
  have B2 : Below w1.heap.size w1 (w1.alloc (.cells #[.slice none 0 0, .slice none 0 0] 40)) := (Below.refl _ _).alloc (Nat.le_refl _) _
  have s2 : (w1.alloc (.cells #[.slice none 0 0, .slice none 0 0] 40)).heap.size = w1.heap.size + 1 := by simp
  rw [s1] at X2 s2
  generalize hw2 : w1.alloc (.cells #[.slice none 0 0, .slice none 0 0] 40) = w2 at *
  replace X0 := (X0.below B1).below B2
  replace X1 := X1.below B2
  replace B2 := below_then (below_then B0 B1) B2
  have a0 : w2.cell? ⟨w.heap.size, 0, none⟩ = some (.int .i64 (V : Int)) := X0.cell 0 rfl
  have a1 : w2.cell? ⟨w.heap.size, 1, none⟩ = some (.int .i64 (D : Int)) := X0.cell 1 rfl
  have a2 : w2.cell? ⟨w.heap.size, 2, none⟩ = some (.int .i64 (Hd : Int)) := X0.cell 2 rfl
  have a3 : w2.cell? ⟨w.heap.size, 3, none⟩ = some (.int .i64 (H : Int)) := X0.cell 3 rfl
  have a4 : w2.cell? ⟨w.heap.size, 4, none⟩ = some (.int .i64 (L : Int)) := X0.cell 4 rfl
  go_enter Tryd.func9, Tryd.ntmps9
  go_wp2_with (refine wpList_load_row rfl 29 _ rfl (w.heap.size + 1) rfl 29 ws (0, 0) _ X1 Tryd.underlying29 rfl (by rw [siz]; exact Tryd.infoW) ?_)
  refine (CK _ B2).mono ?_
  rintro e w3 ⟨rfl, B3⟩
  replace X0 := X0.below B3
  replace X1 := X1.below B3
  replace X2 := X2.below B3
  have D3 := below_then B2 B3
  clear a0 a1 a2 a3 a4 hw0 hw1 hw2 B0 B1 B2 B3 CK
  have a0 : w3.cell? ⟨w.heap.size, 0, none⟩ = some (.int .i64 (V : Int)) := X0.cell 0 rfl
  have a1 : w3.cell? ⟨w.heap.size, 1, none⟩ = some (.int .i64 (D : Int)) := X0.cell 1 rfl
  have a2 : w3.cell? ⟨w.heap.size, 2, none⟩ = some (.int .i64 (Hd : Int)) := X0.cell 2 rfl
  have a3 : w3.cell? ⟨w.heap.size, 3, none⟩ = some (.int .i64 (H : Int)) := X0.cell 3 rfl
  have a4 : w3.cell? ⟨w.heap.size, 4, none⟩ = some (.int .i64 (L : Int)) := X0.cell 4 rfl
  go_wp2_with fail
  refine (CP _ D3).mono ?_
  rintro e w4 ⟨rfl, B4⟩
  replace X0 := X0.below B4
  replace X1 := X1.below B4
  replace X2 := X2.below B4
  have D4 := below_then D3 B4
  clear a0 a1 a2 a3 a4 B4 D3 CP s0 s1 s2
  have hall : Array.all (#[.slice none 0 0, .slice none 0 0] : Array Value) (fun v => v.oneCell') = true := by simp [Value.oneCell']
  go_wp2_with (refine wpList_store_row rfl 40 _ _ rfl (w.heap.size + 1 + 1) #[.slice none 0 0, .slice none 0 0] rfl rfl 40 _ X2 Tryd.infoCa rfl hall ?_)
  refine bodyPost_ret (results_mid rfl _ _ (w.heap.size + 1 + 1) _ rfl (load_ca (X2.row _) rfl)) rfl ?_
  exact ⟨rfl, below_setRow D4 (by omega) _⟩
set_option maxRecDepth 100000 in
set_option maxHeartbeats 1600000 in
theorem full_ok (V D Hd H L : Nat) (W : Wt) (bs : List Bk) (M : Mdl) (ao : Option Addr) (n ca : Nat) (A : List Int) (w : World) (hG : Good w V D Hd H L W bs M) (hA : IArg w ao n ca A) (hT : Tab w) (hq : promptN V A = 0) :
   Calls Tryd.prog 9 #[.agg (cfgC V D Hd H L), .agg W.cells, .slice ao n ca] w fun e w' => ∃ g gK gV, e = .returned (.tuple #[.slice (some ⟨g, 0, none⟩) V V, .agg #[.slice (some ⟨gK, 0, none⟩) L L, .slice (some ⟨gV, 0, none⟩) L L], .int .i64 0]) ∧ Fresh w' w.heap.size g V V (fullX M V D H Hd L A) ∧ New w.heap.size w' (fun w => CubeAt w (some ⟨gK, 0, none⟩) L (fullK M D H Hd L A)) ∧ New w.heap.size w' (fun w => CubeAt w (some ⟨gV, 0, none⟩) L (fullV M D H Hd L A)) ∧ Below w.heap.size w w' := by
  obtain ⟨q1, q2, q3, q4, q5, q6, q7, q8, q9, q10⟩ := shape_ok hG.shape
  have CK := fun (wv : World) (hb : Below w.heap.size w wv) => check_good (hG.below hb)
  have CP := fun (wv : World) (hb : Below w.heap.size w wv) => prompt_any V D Hd H L ao n ca A wv (hA.below hb)
  have siz : W.cells.size = 8 := rfl
  obtain ⟨p1, p2, p3⟩ := prompt_ok hq
  rw [hq] at CP
  have hl := hA.row.len
  have HT : Hid (∀ wv, Below w.heap.size w wv → Tab wv) := fun wv hb => hT.next hb
  have HG : Hid (∀ wv, Below w.heap.size w wv → Good wv V D Hd H L W bs M) := fun wv hb => hG.below hb
  have HA : Hid (∀ wv, Below w.heap.size w wv → IRowAt wv ao n A) := fun wv hb => hA.row.below hb
  have HK : Hid (∀ k, k < A.length → 0 ≤ el A k ∧ el A k < V) := fun k hk => by have := all_el hk p3; unfold tokB at this; simpa using this
  have HLN : Hid (A.length = n) := hl
  have CB := fun (wv : World) (hb : Below w.heap.size w wv) (tok at' : Nat) (h1 : tok < V) (h2 : at' ≤ 4096) => begin_any V D H W bs M tok at' wv (hG.wt.below hb) h1 h2
  have CL := fun (wv : World) (hb : Below w.heap.size w wv) (xo : Option Addr) (cx : Nat) (Xr : List Int) (hX : RowAt wv xo D Xr) => likes_any V D H W bs M xo cx Xr wv (hG.wt.below hb) hX (by omega) (by omega)
  have blen := hG.wt.b.len
  have hbl := hG.len
  have hmod := shape_mod hG.shape
  clear hT hG hA
  have LF : Hid ((fullK M D H Hd L A).length = L ∧ (fullV M D H Hd L A).length = L) := ⟨by unfold fullK; simp, by unfold fullV; simp⟩
  obtain ⟨we, ⟨ba, bn, bz⟩, wl, wo⟩ := W
  simp only at blen
  have hbn : L = bn := by rw [← hbl, blen]
  subst hbn
  have wb : (Wt.cells ⟨we, ⟨ba, L, bz⟩, wl, wo⟩)[3]? = some (.slice ba L bz) := rfl
  generalize hws : Wt.cells ⟨we, ⟨ba, L, bz⟩, wl, wo⟩ = ws at *
  unfold cfgC at CK CP ⊢
  have X0 := blk_new w 23 #[.int .i64 (V : Int), .int .i64 (D : Int), .int .i64 (Hd : Int), .int .i64 (H : Int), .int .i64 (L : Int)]
  have B0 : Below w.heap.size w (w.alloc (.cells #[.int .i64 (V : Int), .int .i64 (D : Int), .int .i64 (Hd : Int), .int .i64 (H : Int), .int .i64 (L : Int)] 23)) := (Below.refl _ _).alloc (Nat.le_refl _) _
  have s0 : (w.alloc (.cells #[.int .i64 (V : Int), .int .i64 (D : Int), .int .i64 (Hd : Int), .int .i64 (H : Int), .int .i64 (L : Int)] 23)).heap.size = w.heap.size + 1 := by simp
  generalize hw0 : w.alloc (.cells #[.int .i64 (V : Int), .int .i64 (D : Int), .int .i64 (Hd : Int), .int .i64 (H : Int), .int .i64 (L : Int)] 23) = w0 at *
  have X1 := blk_new w0 29 ws
  have B1 : Below w0.heap.size w0 (w0.alloc (.cells ws 29)) := (Below.refl _ _).alloc (Nat.le_refl _) _
  have s1 : (w0.alloc (.cells ws 29)).heap.size = w0.heap.size + 1 := by simp
  rw [s0] at X1 s1
  generalize hw1 : w0.alloc (.cells ws 29) = w1 at *
  have X2 := blk_new w1 40 #[.slice none 0 0, .slice none 0 0]
  have B2 : Below w1.heap.size w1 (w1.alloc (.cells #[.slice none 0 0, .slice none 0 0] 40)) := (Below.refl _ _).alloc (Nat.le_refl _) _
  have s2 : (w1.alloc (.cells #[.slice none 0 0, .slice none 0 0] 40)).heap.size = w1.heap.size + 1 := by simp
  rw [s1] at X2 s2
  generalize hw2 : w1.alloc (.cells #[.slice none 0 0, .slice none 0 0] 40) = w2 at *
  replace X0 := (X0.below B1).below B2
  replace X1 := X1.below B2
  replace B2 := below_then (below_then B0 B1) B2
  have a0 : w2.cell? ⟨w.heap.size, 0, none⟩ = some (.int .i64 (V : Int)) := X0.cell 0 rfl
  have a1 : w2.cell? ⟨w.heap.size, 1, none⟩ = some (.int .i64 (D : Int)) := X0.cell 1 rfl
  have a2 : w2.cell? ⟨w.heap.size, 2, none⟩ = some (.int .i64 (Hd : Int)) := X0.cell 2 rfl
  have a3 : w2.cell? ⟨w.heap.size, 3, none⟩ = some (.int .i64 (H : Int)) := X0.cell 3 rfl
  have a4 : w2.cell? ⟨w.heap.size, 4, none⟩ = some (.int .i64 (L : Int)) := X0.cell 4 rfl
  go_enter Tryd.func9, Tryd.ntmps9
  go_wp2_with (refine wpList_load_row rfl 29 _ rfl (w.heap.size + 1) rfl 29 ws (0, 0) _ X1 Tryd.underlying29 rfl (by rw [siz]; exact Tryd.infoW) ?_)
  refine (CK _ B2).mono ?_
  rintro e w3 ⟨rfl, B3⟩
  replace X0 := X0.below B3
  replace X1 := X1.below B3
  replace X2 := X2.below B3
  have D3 := below_then B2 B3
  clear a0 a1 a2 a3 a4 hw0 hw1 hw2 B0 B1 B2 B3 CK
  have a0 : w3.cell? ⟨w.heap.size, 0, none⟩ = some (.int .i64 (V : Int)) := X0.cell 0 rfl
  have a1 : w3.cell? ⟨w.heap.size, 1, none⟩ = some (.int .i64 (D : Int)) := X0.cell 1 rfl
  have a2 : w3.cell? ⟨w.heap.size, 2, none⟩ = some (.int .i64 (Hd : Int)) := X0.cell 2 rfl
  have a3 : w3.cell? ⟨w.heap.size, 3, none⟩ = some (.int .i64 (H : Int)) := X0.cell 3 rfl
  have a4 : w3.cell? ⟨w.heap.size, 4, none⟩ = some (.int .i64 (L : Int)) := X0.cell 4 rfl
  go_wp2_with fail
  refine (CP _ D3).mono ?_
  rintro e w4 ⟨rfl, B4⟩
  replace X0 := X0.below B4
  replace X1 := X1.below B4
  replace X2 := X2.below B4
  have D4 := below_then D3 B4
  clear a0 a1 a2 a3 a4 B4 D3 CP s0 s1 s2
  have hmk := run_make_row' (P := Tryd.prog) 55 24 (.slice none 0 0) 24 Tryd.underlying55 Tryd.infoRow rfl .i64 .i64 n (by omega) (by omega)
  have hmk2 := run_make_row' (P := Tryd.prog) 38 55 (.slice none 0 0) 24 Tryd.underlying38 Tryd.infoList rfl .i64 .i64 L (by omega) (by omega)
  have F0 := fillTo_made w4 n (begL M.E D A)
  have B5 : Below w4.heap.size w4 (w4.alloc (.cells (madeCells #[.slice none 0 0] n) 24)) := (Below.refl _ _).alloc (Nat.le_refl _) _
  generalize hw5 : w4.alloc (.cells (madeCells #[.slice none 0 0] n) 24) = w5 at *
  have z4 := X2.lt
  replace X0 := X0.below B5
  replace X1 := X1.below B5
  replace X2 := X2.below B5
  have D5 := below_then D4 B5
  go_wp2_with fail
  clear hw5
  go_loopg [36] n (fun r i wr => ∃ k : Nat, k ≤ n ∧ r = n - k ∧ i = .int .i64 k ∧ FillTo wr w4.heap.size n k (begL M.E D A) ∧ Blk wr w.heap.size 23 #[.int .i64 (V : Int), .int .i64 (D : Int), .int .i64 (Hd : Int), .int .i64 (H : Int), .int .i64 (L : Int)] ∧ Blk wr (w.heap.size + 1) 29 ws ∧ Blk wr (w.heap.size + 2) 40 #[.slice none 0 0, .slice none 0 0] ∧ Below w.heap.size w wr)
  case atStart => exact ⟨0, by omega, by omega, rfl, F0, X0, X1, X2, D5⟩
  case round =>
    obtain ⟨k, hk, rfl, rfl, F1, Y0, Y1, Y2, KP⟩ := hrel
    clear F0 X0 X1 X2 D5 B5
    by_cases hlt : k < n
    · obtain ⟨b, o, rfl, hc⟩ := (HA.out wr KP).cells (by omega)
      have ck := hc k hlt
      clear hc
      obtain ⟨t1, t2⟩ := HK.out k (by omega)
      have HBG : Hid (rowOf (begL M.E D A) k = begR M.E D (el A k).toNat k) := begL_at M.E D (by omega)
      obtain ⟨tk, htk⟩ : ∃ tk : Nat, el A k = tk := ⟨(el A k).toNat, by omega⟩
      rw [htk] at ck t2 HBG
      rw [Int.toNat_natCast] at HBG
      clear htk t1
      have CC := CB wr KP tk k (by omega) (by omega)
      have X1 := Y1
      go_wp2_with (refine wpList_load_row rfl 29 _ rfl (w.heap.size + 1) rfl 29 ws (0, 0) _ X1 Tryd.underlying29 rfl (by rw [siz]; exact Tryd.infoW) ?_)
      refine CC.mono ?_
      rintro e w7 ⟨g, cap, rfl, F7, B7⟩
      have sF := F1.lt
      have F2 := F1.below B7
      have N7 : New (w4.heap.size + 1) w7 fun w => Arg w (some ⟨g, 0, none⟩) D cap (rowOf (begL M.E D A) k) := by
        rw [HBG.out]
        exact (F7.new.mono (by omega)).imp fun _ h => h.arg
      have F3 := F2.step hlt N7
      have ff := F2.frozen k
      obtain ⟨v, hv⟩ := F2.cell hlt
      have KQ := below_then KP B7
      replace Y0 := Y0.below B7
      replace Y1 := Y1.below B7
      replace Y2 := Y2.below B7
      clear N7 F1 X1 CC ck
      go_wp2
      go_roundg (n - (k + 1))
      case measure => omega
      case rel => exact ⟨k + 1, by omega, rfl, by go_num, F3, Y0.other (by show _ ≠ w4.heap.size; omega) _, Y1.other (by show _ ≠ w4.heap.size; omega) _, Y2.other (by show _ ≠ w4.heap.size; omega) _, KQ.setCell (p := ⟨w4.heap.size, k, none⟩) (by show w.heap.size ≤ w4.heap.size; omega) _⟩
    · obtain rfl : k = n := by omega
      obtain ⟨vs0, N0⟩ := F1.grid (by unfold begL; simp [HLN.out]) (by omega) (Nat.le_refl w4.heap.size)
      have G0 : Hangs (fun b => b < wr.heap.size) wr (fun w => GridAt w (some ⟨w4.heap.size, 0, none⟩) k (rowsL M D H Hd A 0)) := (Hangs.mono N0 fun b hb _ => hb).imp fun _ h => h.grid
      have y2 := Y2.lt
      clear F1 N0 CB hmk
      have XX0 := Y0
      go_upto_region 13 with fail
      go_cut [14] from 49 (fun s14 wc => ∃ gC gK gV, s14 = .pointer (some ⟨gC, 0, none⟩) ∧ GridAt wc (some ⟨w4.heap.size, 0, none⟩) k (rowsL M D H Hd A 0) ∧ FI w wc #[.int .i64 (V : Int), .int .i64 (D : Int), .int .i64 (Hd : Int), .int .i64 (H : Int), .int .i64 (L : Int)] ws gC gK gV L 0 (fullK M D H Hd L A) (fullV M D H Hd L A))
      case first =>
        clear XX0
        replace Y0 := Y0.below ((Below.refl _ _).drew)
        replace Y1 := Y1.below ((Below.refl _ _).drew)
        replace Y2 := Y2.below ((Below.refl _ _).drew)
        replace KP := KP.drew
        replace G0 := G0.below ((Below.refl _ _).drew)
        have HKV := fun (wv : World) (p : Nat → Prop) => kv_made wv L p (fullK M D H Hd L A) [] rfl
        have HVV := fun (wv : World) (p : Nat → Prop) => kv_made wv L p (fullV M D H Hd L A) [] rfl
        refine wp_region_held_drew (S := fun w' => Blk w' (w.heap.size + 1) 29 ws) (by kernel_rfl) (Y1) (fun hHeld => ?_)
        have zA : wr.heap.size ≤ wr.drew.heap.size := Nat.le_refl _
        generalize hA : wr.drew = wA at *
        clear hA
        refine wpAnyH_take (i := 0) (v := (.pointer (some ⟨w.heap.size + 1, 3, none⟩))) rfl (by kernel_rfl) (by kernel_rfl) (by kernel_rfl) (fun _ _ _ h => h) (Or.inl ⟨by rfl, ?_⟩) (by assumption) ?_
        · intro w' hSw
          go_simp
        simp only [List.getElem_toArray, List.getElem_cons_zero, Act.put, List.setIfInBounds_toArray, List.set_cons_zero, List.set_cons_succ]
        refine wpAnyH_take (i := 1) (v := (.slice ba L bz)) rfl (by kernel_rfl) (by kernel_rfl) (by kernel_rfl) (fun _ _ _ h => h) (Or.inl ⟨by rfl, ?_⟩) (by assumption) ?_
        · intro w' hSw
          have c3 : w'.cell? ⟨w.heap.size + 1, 3, none⟩ = some (.slice ba L bz) := hSw.cell 3 wb
          go_simp
        simp only [List.getElem_toArray, List.getElem_cons_succ, List.getElem_cons_zero, Act.put, List.setIfInBounds_toArray, List.set_cons_zero, List.set_cons_succ]
        refine wpAnyH_take (i := 2) (v := (.int .i64 (L : Int))) rfl (by kernel_rfl) (by kernel_rfl) (by kernel_rfl) (fun _ _ _ h => h) (Or.inl ⟨by rfl, ?_⟩) (by assumption) ?_
        · intro w' hSw
          go_simp
        simp only [List.getElem_toArray, List.getElem_cons_succ, List.getElem_cons_zero, Act.put, List.setIfInBounds_toArray, List.set_cons_zero, List.set_cons_succ]
        refine wpAnyH_take (i := 4) (v := (.pointer (some ⟨w.heap.size + 1, 3, none⟩))) rfl (by kernel_rfl) (by kernel_rfl) (by kernel_rfl) (fun _ _ _ h => h) (Or.inl ⟨by rfl, ?_⟩) (by assumption) ?_
        · intro w' hSw
          go_simp
        simp only [List.getElem_toArray, List.getElem_cons_succ, List.getElem_cons_zero, Act.put, List.setIfInBounds_toArray, List.set_cons_zero, List.set_cons_succ]
        refine wpAnyH_take (i := 5) (v := (.slice ba L bz)) rfl (by kernel_rfl) (by kernel_rfl) (by kernel_rfl) (fun _ _ _ h => h) (Or.inl ⟨by rfl, ?_⟩) (by assumption) ?_
        · intro w' hSw
          have c3 : w'.cell? ⟨w.heap.size + 1, 3, none⟩ = some (.slice ba L bz) := hSw.cell 3 wb
          go_simp
        simp only [List.getElem_toArray, List.getElem_cons_succ, List.getElem_cons_zero, Act.put, List.setIfInBounds_toArray, List.set_cons_zero, List.set_cons_succ]
        refine wpAnyH_take (i := 6) (v := (.int .i64 (L : Int))) rfl (by kernel_rfl) (by kernel_rfl) (by kernel_rfl) (fun _ _ _ h => h) (Or.inl ⟨by rfl, ?_⟩) (by assumption) ?_
        · intro w' hSw
          go_simp
        simp only [List.getElem_toArray, List.getElem_cons_succ, List.getElem_cons_zero, Act.put, List.setIfInBounds_toArray, List.set_cons_zero, List.set_cons_succ]
        refine wpAnyH_ready (rs := [3, 7, 9]) (by kernel_rfl) (by simp) ?_
        refine AllReadyH.cons rfl (fun Kc hKc => ?_) (AllReadyH.cons rfl (fun Kc hKc => ?_) (AllReadyH.cons rfl (fun Kc hKc => ?_) AllReadyH.nil))
        · simp only [List.getElem_toArray, List.getElem_cons_succ, List.getElem_cons_zero]
          rw [if_pos (by rfl)]
          go_wp2_with fail
          have NK := HKV wA
          have EM1 : Below wA.heap.size wA (wA.alloc (.cells (madeCells #[.slice none 0 0] L) 55)) := (Below.refl _ _).alloc (Nat.le_refl _) _
          have zwM1 : wA.heap.size < (wA.alloc (.cells (madeCells #[.slice none 0 0] L) 55)).heap.size := by simp
          generalize hn1 : wA.alloc (.cells (madeCells #[.slice none 0 0] L) 55) = wM1 at *
          replace Y0 := Y0.below EM1
          replace Y1 := Y1.below EM1
          replace Y2 := Y2.below EM1
          replace KP := below_then KP EM1
          replace G0 := G0.below EM1
          refine hKc.out _ _ Y1 (fun hHeld => ?_)
          clear hKc Kc hn1
          refine wpAnyH_ready (rs := [7, 9]) (by kernel_rfl) (by simp) ?_
          refine AllReadyH.cons rfl (fun Kc hKc => ?_) (AllReadyH.cons rfl (fun Kc hKc => ?_) AllReadyH.nil)
          · simp only [List.getElem_toArray, List.getElem_cons_succ, List.getElem_cons_zero]
            rw [if_pos (by rfl)]
            go_wp2_with fail
            have NV := HVV wM1
            have EM2 : Below wM1.heap.size wM1 (wM1.alloc (.cells (madeCells #[.slice none 0 0] L) 55)) := (Below.refl _ _).alloc (Nat.le_refl _) _
            have zwM2 : wM1.heap.size < (wM1.alloc (.cells (madeCells #[.slice none 0 0] L) 55)).heap.size := by simp
            generalize hn2 : wM1.alloc (.cells (madeCells #[.slice none 0 0] L) 55) = wM2 at *
            replace Y0 := Y0.below EM2
            replace Y1 := Y1.below EM2
            replace Y2 := Y2.below EM2
            replace KP := below_then KP EM2
            replace G0 := G0.below EM2
            replace NK := fun p => (NK p).below EM2
            refine hKc.out _ _ Y1 (fun hHeld => ?_)
            clear hKc Kc hn2
            refine wpAnyH_take (i := 8) (v := (.agg #[.slice (some ⟨wA.heap.size, 0, none⟩) L L, .slice (some ⟨wM1.heap.size, 0, none⟩) L L])) rfl (by kernel_rfl) (by kernel_rfl) (by kernel_rfl) (fun _ _ _ h => h) (Or.inl ⟨by rfl, ?_⟩) (by assumption) ?_
            · intro w' hSw
              go_simp
            simp only [List.getElem_toArray, List.getElem_cons_succ, List.getElem_cons_zero, Act.put, List.setIfInBounds_toArray, List.set_cons_zero, List.set_cons_succ]
            refine wpAnyH_ready (rs := [9]) (by kernel_rfl) (by simp) ?_
            refine AllReadyH.cons rfl (fun Kc hKc => ?_) AllReadyH.nil
            simp only [List.getElem_toArray, List.getElem_cons_succ, List.getElem_cons_zero]
            rw [if_pos (by rfl)]
            go_wp2_with fail
            have XC := blk_new wM2 40 #[.slice none 0 0, .slice none 0 0]
            have EM3 : Below wM2.heap.size wM2 (wM2.alloc (.cells #[.slice none 0 0, .slice none 0 0] 40)) := (Below.refl _ _).alloc (Nat.le_refl _) _
            have zwM3 : wM2.heap.size < (wM2.alloc (.cells #[.slice none 0 0, .slice none 0 0] 40)).heap.size := by simp
            generalize hn3 : wM2.alloc (.cells #[.slice none 0 0, .slice none 0 0] 40) = wM3 at *
            replace Y0 := Y0.below EM3
            replace Y1 := Y1.below EM3
            replace Y2 := Y2.below EM3
            replace KP := below_then KP EM3
            replace G0 := G0.below EM3
            replace NK := fun p => (NK p).below EM3
            replace NV := fun p => (NV p).below EM3
            refine hKc.out _ _ Y1 (fun hHeld => ?_)
            clear hKc Kc hn3
            refine wpAnyH_ready (rs := [10]) (by kernel_rfl) (by simp) ?_
            refine AllReadyH.cons rfl (fun Kc hKc => ?_) AllReadyH.nil
            simp only [List.getElem_toArray, List.getElem_cons_succ, List.getElem_cons_zero]
            rw [if_pos (by rfl)]
            have hall : Array.all (#[.slice (some ⟨wA.heap.size, 0, none⟩) L L, .slice (some ⟨wM1.heap.size, 0, none⟩) L L] : Array Value) (fun v => v.oneCell') = true := by simp [Value.oneCell']
            refine wp_store_row 40 _ _ rfl (wM2.heap.size) #[.slice (some ⟨wA.heap.size, 0, none⟩) L L, .slice (some ⟨wM1.heap.size, 0, none⟩) L L] rfl rfl 40 _ XC Tryd.infoCa rfl hall ?_
            have so : ∀ b, b ≠ wM2.heap.size → (wM3.setRow (wM2.heap.size) #[.slice (some ⟨wA.heap.size, 0, none⟩) L L, .slice (some ⟨wM1.heap.size, 0, none⟩) L L]).heap[b]? = wM3.heap[b]? := fun b hb => setRow_other _ _ _ _ hb
            have y0 := Y0.lt
            refine hKc.out _ _ (Blk.of_block Y1 (so _ (by omega))) (fun hHeld => ?_)
            clear hKc Kc
            refine wpAnyH_done (by kernel_rfl) ?_ _
            go_wp2_with fail
            go_meet
            case rel =>
              refine ⟨wM2.heap.size, wA.heap.size, wM1.heap.size, rfl, ?_, ⟨Blk.of_block Y0 (so _ (by omega)), Blk.of_block Y1 (so _ (by omega)), Blk.of_block Y2 (so _ (by omega)), XC.row _, ?_, ?_, by omega, below_setRow KP (by omega) _⟩⟩
              · exact (G0.row (g := wM2.heap.size) (by show ¬ (_ < _); omega) _).now
              · exact (NK _).put (by omega) (fun h => h.2.2.2 rfl) _
              · exact (NV _).put (by omega) (fun h => h.2.2.2 rfl) _
          · simp only [List.getElem_toArray, List.getElem_cons_succ, List.getElem_cons_zero]
            rw [if_pos (by rfl)]
            go_wp2_with fail
            have XC := blk_new wM1 40 #[.slice none 0 0, .slice none 0 0]
            have EM2 : Below wM1.heap.size wM1 (wM1.alloc (.cells #[.slice none 0 0, .slice none 0 0] 40)) := (Below.refl _ _).alloc (Nat.le_refl _) _
            have zwM2 : wM1.heap.size < (wM1.alloc (.cells #[.slice none 0 0, .slice none 0 0] 40)).heap.size := by simp
            generalize hn2 : wM1.alloc (.cells #[.slice none 0 0, .slice none 0 0] 40) = wM2 at *
            replace Y0 := Y0.below EM2
            replace Y1 := Y1.below EM2
            replace Y2 := Y2.below EM2
            replace KP := below_then KP EM2
            replace G0 := G0.below EM2
            replace NK := fun p => (NK p).below EM2
            refine hKc.out _ _ Y1 (fun hHeld => ?_)
            clear hKc Kc hn2
            refine wpAnyH_ready (rs := [7]) (by kernel_rfl) (by simp) ?_
            refine AllReadyH.cons rfl (fun Kc hKc => ?_) AllReadyH.nil
            simp only [List.getElem_toArray, List.getElem_cons_succ, List.getElem_cons_zero]
            rw [if_pos (by rfl)]
            go_wp2_with fail
            have NV := HVV wM2
            have EM3 : Below wM2.heap.size wM2 (wM2.alloc (.cells (madeCells #[.slice none 0 0] L) 55)) := (Below.refl _ _).alloc (Nat.le_refl _) _
            have zwM3 : wM2.heap.size < (wM2.alloc (.cells (madeCells #[.slice none 0 0] L) 55)).heap.size := by simp
            generalize hn3 : wM2.alloc (.cells (madeCells #[.slice none 0 0] L) 55) = wM3 at *
            replace Y0 := Y0.below EM3
            replace Y1 := Y1.below EM3
            replace Y2 := Y2.below EM3
            replace KP := below_then KP EM3
            replace G0 := G0.below EM3
            replace NK := fun p => (NK p).below EM3
            replace XC := XC.below EM3
            refine hKc.out _ _ Y1 (fun hHeld => ?_)
            clear hKc Kc hn3
            refine wpAnyH_take (i := 8) (v := (.agg #[.slice (some ⟨wA.heap.size, 0, none⟩) L L, .slice (some ⟨wM2.heap.size, 0, none⟩) L L])) rfl (by kernel_rfl) (by kernel_rfl) (by kernel_rfl) (fun _ _ _ h => h) (Or.inl ⟨by rfl, ?_⟩) (by assumption) ?_
            · intro w' hSw
              go_simp
            simp only [List.getElem_toArray, List.getElem_cons_succ, List.getElem_cons_zero, Act.put, List.setIfInBounds_toArray, List.set_cons_zero, List.set_cons_succ]
            refine wpAnyH_ready (rs := [10]) (by kernel_rfl) (by simp) ?_
            refine AllReadyH.cons rfl (fun Kc hKc => ?_) AllReadyH.nil
            simp only [List.getElem_toArray, List.getElem_cons_succ, List.getElem_cons_zero]
            rw [if_pos (by rfl)]
            have hall : Array.all (#[.slice (some ⟨wA.heap.size, 0, none⟩) L L, .slice (some ⟨wM2.heap.size, 0, none⟩) L L] : Array Value) (fun v => v.oneCell') = true := by simp [Value.oneCell']
            refine wp_store_row 40 _ _ rfl (wM1.heap.size) #[.slice (some ⟨wA.heap.size, 0, none⟩) L L, .slice (some ⟨wM2.heap.size, 0, none⟩) L L] rfl rfl 40 _ XC Tryd.infoCa rfl hall ?_
            have so : ∀ b, b ≠ wM1.heap.size → (wM3.setRow (wM1.heap.size) #[.slice (some ⟨wA.heap.size, 0, none⟩) L L, .slice (some ⟨wM2.heap.size, 0, none⟩) L L]).heap[b]? = wM3.heap[b]? := fun b hb => setRow_other _ _ _ _ hb
            have y0 := Y0.lt
            refine hKc.out _ _ (Blk.of_block Y1 (so _ (by omega))) (fun hHeld => ?_)
            clear hKc Kc
            refine wpAnyH_done (by kernel_rfl) ?_ _
            go_wp2_with fail
            go_meet
            case rel =>
              refine ⟨wM1.heap.size, wA.heap.size, wM2.heap.size, rfl, ?_, ⟨Blk.of_block Y0 (so _ (by omega)), Blk.of_block Y1 (so _ (by omega)), Blk.of_block Y2 (so _ (by omega)), XC.row _, ?_, ?_, by omega, below_setRow KP (by omega) _⟩⟩
              · exact (G0.row (g := wM1.heap.size) (by show ¬ (_ < _); omega) _).now
              · exact (NK _).put (by omega) (fun h => h.2.2.2 rfl) _
              · exact (NV _).put (by omega) (fun h => h.2.2.2 rfl) _
        · simp only [List.getElem_toArray, List.getElem_cons_succ, List.getElem_cons_zero]
          rw [if_pos (by rfl)]
          go_wp2_with fail
          have NV := HVV wA
          have EM1 : Below wA.heap.size wA (wA.alloc (.cells (madeCells #[.slice none 0 0] L) 55)) := (Below.refl _ _).alloc (Nat.le_refl _) _
          have zwM1 : wA.heap.size < (wA.alloc (.cells (madeCells #[.slice none 0 0] L) 55)).heap.size := by simp
          generalize hn1 : wA.alloc (.cells (madeCells #[.slice none 0 0] L) 55) = wM1 at *
          replace Y0 := Y0.below EM1
          replace Y1 := Y1.below EM1
          replace Y2 := Y2.below EM1
          replace KP := below_then KP EM1
          replace G0 := G0.below EM1
          refine hKc.out _ _ Y1 (fun hHeld => ?_)
          clear hKc Kc hn1
          refine wpAnyH_ready (rs := [3, 9]) (by kernel_rfl) (by simp) ?_
          refine AllReadyH.cons rfl (fun Kc hKc => ?_) (AllReadyH.cons rfl (fun Kc hKc => ?_) AllReadyH.nil)
          · simp only [List.getElem_toArray, List.getElem_cons_succ, List.getElem_cons_zero]
            rw [if_pos (by rfl)]
            go_wp2_with fail
            have NK := HKV wM1
            have EM2 : Below wM1.heap.size wM1 (wM1.alloc (.cells (madeCells #[.slice none 0 0] L) 55)) := (Below.refl _ _).alloc (Nat.le_refl _) _
            have zwM2 : wM1.heap.size < (wM1.alloc (.cells (madeCells #[.slice none 0 0] L) 55)).heap.size := by simp
            generalize hn2 : wM1.alloc (.cells (madeCells #[.slice none 0 0] L) 55) = wM2 at *
            replace Y0 := Y0.below EM2
            replace Y1 := Y1.below EM2
            replace Y2 := Y2.below EM2
            replace KP := below_then KP EM2
            replace G0 := G0.below EM2
            replace NV := fun p => (NV p).below EM2
            refine hKc.out _ _ Y1 (fun hHeld => ?_)
            clear hKc Kc hn2
            refine wpAnyH_take (i := 8) (v := (.agg #[.slice (some ⟨wM1.heap.size, 0, none⟩) L L, .slice (some ⟨wA.heap.size, 0, none⟩) L L])) rfl (by kernel_rfl) (by kernel_rfl) (by kernel_rfl) (fun _ _ _ h => h) (Or.inl ⟨by rfl, ?_⟩) (by assumption) ?_
            · intro w' hSw
              go_simp
            simp only [List.getElem_toArray, List.getElem_cons_succ, List.getElem_cons_zero, Act.put, List.setIfInBounds_toArray, List.set_cons_zero, List.set_cons_succ]
            refine wpAnyH_ready (rs := [9]) (by kernel_rfl) (by simp) ?_
            refine AllReadyH.cons rfl (fun Kc hKc => ?_) AllReadyH.nil
            simp only [List.getElem_toArray, List.getElem_cons_succ, List.getElem_cons_zero]
            rw [if_pos (by rfl)]
            go_wp2_with fail
            have XC := blk_new wM2 40 #[.slice none 0 0, .slice none 0 0]
            have EM3 : Below wM2.heap.size wM2 (wM2.alloc (.cells #[.slice none 0 0, .slice none 0 0] 40)) := (Below.refl _ _).alloc (Nat.le_refl _) _
            have zwM3 : wM2.heap.size < (wM2.alloc (.cells #[.slice none 0 0, .slice none 0 0] 40)).heap.size := by simp
            generalize hn3 : wM2.alloc (.cells #[.slice none 0 0, .slice none 0 0] 40) = wM3 at *
            replace Y0 := Y0.below EM3
            replace Y1 := Y1.below EM3
            replace Y2 := Y2.below EM3
            replace KP := below_then KP EM3
            replace G0 := G0.below EM3
            replace NV := fun p => (NV p).below EM3
            replace NK := fun p => (NK p).below EM3
            refine hKc.out _ _ Y1 (fun hHeld => ?_)
            clear hKc Kc hn3
            refine wpAnyH_ready (rs := [10]) (by kernel_rfl) (by simp) ?_
            refine AllReadyH.cons rfl (fun Kc hKc => ?_) AllReadyH.nil
            simp only [List.getElem_toArray, List.getElem_cons_succ, List.getElem_cons_zero]
            rw [if_pos (by rfl)]
            have hall : Array.all (#[.slice (some ⟨wM1.heap.size, 0, none⟩) L L, .slice (some ⟨wA.heap.size, 0, none⟩) L L] : Array Value) (fun v => v.oneCell') = true := by simp [Value.oneCell']
            refine wp_store_row 40 _ _ rfl (wM2.heap.size) #[.slice (some ⟨wM1.heap.size, 0, none⟩) L L, .slice (some ⟨wA.heap.size, 0, none⟩) L L] rfl rfl 40 _ XC Tryd.infoCa rfl hall ?_
            have so : ∀ b, b ≠ wM2.heap.size → (wM3.setRow (wM2.heap.size) #[.slice (some ⟨wM1.heap.size, 0, none⟩) L L, .slice (some ⟨wA.heap.size, 0, none⟩) L L]).heap[b]? = wM3.heap[b]? := fun b hb => setRow_other _ _ _ _ hb
            have y0 := Y0.lt
            refine hKc.out _ _ (Blk.of_block Y1 (so _ (by omega))) (fun hHeld => ?_)
            clear hKc Kc
            refine wpAnyH_done (by kernel_rfl) ?_ _
            go_wp2_with fail
            go_meet
            case rel =>
              refine ⟨wM2.heap.size, wM1.heap.size, wA.heap.size, rfl, ?_, ⟨Blk.of_block Y0 (so _ (by omega)), Blk.of_block Y1 (so _ (by omega)), Blk.of_block Y2 (so _ (by omega)), XC.row _, ?_, ?_, by omega, below_setRow KP (by omega) _⟩⟩
              · exact (G0.row (g := wM2.heap.size) (by show ¬ (_ < _); omega) _).now
              · exact (NK _).put (by omega) (fun h => h.2.2.2 rfl) _
              · exact (NV _).put (by omega) (fun h => h.2.2.2 rfl) _
          · simp only [List.getElem_toArray, List.getElem_cons_succ, List.getElem_cons_zero]
            rw [if_pos (by rfl)]
            go_wp2_with fail
            have XC := blk_new wM1 40 #[.slice none 0 0, .slice none 0 0]
            have EM2 : Below wM1.heap.size wM1 (wM1.alloc (.cells #[.slice none 0 0, .slice none 0 0] 40)) := (Below.refl _ _).alloc (Nat.le_refl _) _
            have zwM2 : wM1.heap.size < (wM1.alloc (.cells #[.slice none 0 0, .slice none 0 0] 40)).heap.size := by simp
            generalize hn2 : wM1.alloc (.cells #[.slice none 0 0, .slice none 0 0] 40) = wM2 at *
            replace Y0 := Y0.below EM2
            replace Y1 := Y1.below EM2
            replace Y2 := Y2.below EM2
            replace KP := below_then KP EM2
            replace G0 := G0.below EM2
            replace NV := fun p => (NV p).below EM2
            refine hKc.out _ _ Y1 (fun hHeld => ?_)
            clear hKc Kc hn2
            refine wpAnyH_ready (rs := [3]) (by kernel_rfl) (by simp) ?_
            refine AllReadyH.cons rfl (fun Kc hKc => ?_) AllReadyH.nil
            simp only [List.getElem_toArray, List.getElem_cons_succ, List.getElem_cons_zero]
            rw [if_pos (by rfl)]
            go_wp2_with fail
            have NK := HKV wM2
            have EM3 : Below wM2.heap.size wM2 (wM2.alloc (.cells (madeCells #[.slice none 0 0] L) 55)) := (Below.refl _ _).alloc (Nat.le_refl _) _
            have zwM3 : wM2.heap.size < (wM2.alloc (.cells (madeCells #[.slice none 0 0] L) 55)).heap.size := by simp
            generalize hn3 : wM2.alloc (.cells (madeCells #[.slice none 0 0] L) 55) = wM3 at *
            replace Y0 := Y0.below EM3
            replace Y1 := Y1.below EM3
            replace Y2 := Y2.below EM3
            replace KP := below_then KP EM3
            replace G0 := G0.below EM3
            replace NV := fun p => (NV p).below EM3
            replace XC := XC.below EM3
            refine hKc.out _ _ Y1 (fun hHeld => ?_)
            clear hKc Kc hn3
            refine wpAnyH_take (i := 8) (v := (.agg #[.slice (some ⟨wM2.heap.size, 0, none⟩) L L, .slice (some ⟨wA.heap.size, 0, none⟩) L L])) rfl (by kernel_rfl) (by kernel_rfl) (by kernel_rfl) (fun _ _ _ h => h) (Or.inl ⟨by rfl, ?_⟩) (by assumption) ?_
            · intro w' hSw
              go_simp
            simp only [List.getElem_toArray, List.getElem_cons_succ, List.getElem_cons_zero, Act.put, List.setIfInBounds_toArray, List.set_cons_zero, List.set_cons_succ]
            refine wpAnyH_ready (rs := [10]) (by kernel_rfl) (by simp) ?_
            refine AllReadyH.cons rfl (fun Kc hKc => ?_) AllReadyH.nil
            simp only [List.getElem_toArray, List.getElem_cons_succ, List.getElem_cons_zero]
            rw [if_pos (by rfl)]
            have hall : Array.all (#[.slice (some ⟨wM2.heap.size, 0, none⟩) L L, .slice (some ⟨wA.heap.size, 0, none⟩) L L] : Array Value) (fun v => v.oneCell') = true := by simp [Value.oneCell']
            refine wp_store_row 40 _ _ rfl (wM1.heap.size) #[.slice (some ⟨wM2.heap.size, 0, none⟩) L L, .slice (some ⟨wA.heap.size, 0, none⟩) L L] rfl rfl 40 _ XC Tryd.infoCa rfl hall ?_
            have so : ∀ b, b ≠ wM1.heap.size → (wM3.setRow (wM1.heap.size) #[.slice (some ⟨wM2.heap.size, 0, none⟩) L L, .slice (some ⟨wA.heap.size, 0, none⟩) L L]).heap[b]? = wM3.heap[b]? := fun b hb => setRow_other _ _ _ _ hb
            have y0 := Y0.lt
            refine hKc.out _ _ (Blk.of_block Y1 (so _ (by omega))) (fun hHeld => ?_)
            clear hKc Kc
            refine wpAnyH_done (by kernel_rfl) ?_ _
            go_wp2_with fail
            go_meet
            case rel =>
              refine ⟨wM1.heap.size, wM2.heap.size, wA.heap.size, rfl, ?_, ⟨Blk.of_block Y0 (so _ (by omega)), Blk.of_block Y1 (so _ (by omega)), Blk.of_block Y2 (so _ (by omega)), XC.row _, ?_, ?_, by omega, below_setRow KP (by omega) _⟩⟩
              · exact (G0.row (g := wM1.heap.size) (by show ¬ (_ < _); omega) _).now
              · exact (NK _).put (by omega) (fun h => h.2.2.2 rfl) _
              · exact (NV _).put (by omega) (fun h => h.2.2.2 rfl) _
        · simp only [List.getElem_toArray, List.getElem_cons_succ, List.getElem_cons_zero]
          rw [if_pos (by rfl)]
          go_wp2_with fail
          have XC := blk_new wA 40 #[.slice none 0 0, .slice none 0 0]
          have EM1 : Below wA.heap.size wA (wA.alloc (.cells #[.slice none 0 0, .slice none 0 0] 40)) := (Below.refl _ _).alloc (Nat.le_refl _) _
          have zwM1 : wA.heap.size < (wA.alloc (.cells #[.slice none 0 0, .slice none 0 0] 40)).heap.size := by simp
          generalize hn1 : wA.alloc (.cells #[.slice none 0 0, .slice none 0 0] 40) = wM1 at *
          replace Y0 := Y0.below EM1
          replace Y1 := Y1.below EM1
          replace Y2 := Y2.below EM1
          replace KP := below_then KP EM1
          replace G0 := G0.below EM1
          refine hKc.out _ _ Y1 (fun hHeld => ?_)
          clear hKc Kc hn1
          refine wpAnyH_ready (rs := [3, 7]) (by kernel_rfl) (by simp) ?_
          refine AllReadyH.cons rfl (fun Kc hKc => ?_) (AllReadyH.cons rfl (fun Kc hKc => ?_) AllReadyH.nil)
          · simp only [List.getElem_toArray, List.getElem_cons_succ, List.getElem_cons_zero]
            rw [if_pos (by rfl)]
            go_wp2_with fail
            have NK := HKV wM1
            have EM2 : Below wM1.heap.size wM1 (wM1.alloc (.cells (madeCells #[.slice none 0 0] L) 55)) := (Below.refl _ _).alloc (Nat.le_refl _) _
            have zwM2 : wM1.heap.size < (wM1.alloc (.cells (madeCells #[.slice none 0 0] L) 55)).heap.size := by simp
            generalize hn2 : wM1.alloc (.cells (madeCells #[.slice none 0 0] L) 55) = wM2 at *
            replace Y0 := Y0.below EM2
            replace Y1 := Y1.below EM2
            replace Y2 := Y2.below EM2
            replace KP := below_then KP EM2
            replace G0 := G0.below EM2
            replace XC := XC.below EM2
            refine hKc.out _ _ Y1 (fun hHeld => ?_)
            clear hKc Kc hn2
            refine wpAnyH_ready (rs := [7]) (by kernel_rfl) (by simp) ?_
            refine AllReadyH.cons rfl (fun Kc hKc => ?_) AllReadyH.nil
            simp only [List.getElem_toArray, List.getElem_cons_succ, List.getElem_cons_zero]
            rw [if_pos (by rfl)]
            go_wp2_with fail
            have NV := HVV wM2
            have EM3 : Below wM2.heap.size wM2 (wM2.alloc (.cells (madeCells #[.slice none 0 0] L) 55)) := (Below.refl _ _).alloc (Nat.le_refl _) _
            have zwM3 : wM2.heap.size < (wM2.alloc (.cells (madeCells #[.slice none 0 0] L) 55)).heap.size := by simp
            generalize hn3 : wM2.alloc (.cells (madeCells #[.slice none 0 0] L) 55) = wM3 at *
            replace Y0 := Y0.below EM3
            replace Y1 := Y1.below EM3
            replace Y2 := Y2.below EM3
            replace KP := below_then KP EM3
            replace G0 := G0.below EM3
            replace XC := XC.below EM3
            replace NK := fun p => (NK p).below EM3
            refine hKc.out _ _ Y1 (fun hHeld => ?_)
            clear hKc Kc hn3
            refine wpAnyH_take (i := 8) (v := (.agg #[.slice (some ⟨wM1.heap.size, 0, none⟩) L L, .slice (some ⟨wM2.heap.size, 0, none⟩) L L])) rfl (by kernel_rfl) (by kernel_rfl) (by kernel_rfl) (fun _ _ _ h => h) (Or.inl ⟨by rfl, ?_⟩) (by assumption) ?_
            · intro w' hSw
              go_simp
            simp only [List.getElem_toArray, List.getElem_cons_succ, List.getElem_cons_zero, Act.put, List.setIfInBounds_toArray, List.set_cons_zero, List.set_cons_succ]
            refine wpAnyH_ready (rs := [10]) (by kernel_rfl) (by simp) ?_
            refine AllReadyH.cons rfl (fun Kc hKc => ?_) AllReadyH.nil
            simp only [List.getElem_toArray, List.getElem_cons_succ, List.getElem_cons_zero]
            rw [if_pos (by rfl)]
            have hall : Array.all (#[.slice (some ⟨wM1.heap.size, 0, none⟩) L L, .slice (some ⟨wM2.heap.size, 0, none⟩) L L] : Array Value) (fun v => v.oneCell') = true := by simp [Value.oneCell']
            refine wp_store_row 40 _ _ rfl (wA.heap.size) #[.slice (some ⟨wM1.heap.size, 0, none⟩) L L, .slice (some ⟨wM2.heap.size, 0, none⟩) L L] rfl rfl 40 _ XC Tryd.infoCa rfl hall ?_
            have so : ∀ b, b ≠ wA.heap.size → (wM3.setRow (wA.heap.size) #[.slice (some ⟨wM1.heap.size, 0, none⟩) L L, .slice (some ⟨wM2.heap.size, 0, none⟩) L L]).heap[b]? = wM3.heap[b]? := fun b hb => setRow_other _ _ _ _ hb
            have y0 := Y0.lt
            refine hKc.out _ _ (Blk.of_block Y1 (so _ (by omega))) (fun hHeld => ?_)
            clear hKc Kc
            refine wpAnyH_done (by kernel_rfl) ?_ _
            go_wp2_with fail
            go_meet
            case rel =>
              refine ⟨wA.heap.size, wM1.heap.size, wM2.heap.size, rfl, ?_, ⟨Blk.of_block Y0 (so _ (by omega)), Blk.of_block Y1 (so _ (by omega)), Blk.of_block Y2 (so _ (by omega)), XC.row _, ?_, ?_, by omega, below_setRow KP (by omega) _⟩⟩
              · exact (G0.row (g := wA.heap.size) (by show ¬ (_ < _); omega) _).now
              · exact (NK _).put (by omega) (fun h => h.2.2.2 rfl) _
              · exact (NV _).put (by omega) (fun h => h.2.2.2 rfl) _
          · simp only [List.getElem_toArray, List.getElem_cons_succ, List.getElem_cons_zero]
            rw [if_pos (by rfl)]
            go_wp2_with fail
            have NV := HVV wM1
            have EM2 : Below wM1.heap.size wM1 (wM1.alloc (.cells (madeCells #[.slice none 0 0] L) 55)) := (Below.refl _ _).alloc (Nat.le_refl _) _
            have zwM2 : wM1.heap.size < (wM1.alloc (.cells (madeCells #[.slice none 0 0] L) 55)).heap.size := by simp
            generalize hn2 : wM1.alloc (.cells (madeCells #[.slice none 0 0] L) 55) = wM2 at *
            replace Y0 := Y0.below EM2
            replace Y1 := Y1.below EM2
            replace Y2 := Y2.below EM2
            replace KP := below_then KP EM2
            replace G0 := G0.below EM2
            replace XC := XC.below EM2
            refine hKc.out _ _ Y1 (fun hHeld => ?_)
            clear hKc Kc hn2
            refine wpAnyH_ready (rs := [3]) (by kernel_rfl) (by simp) ?_
            refine AllReadyH.cons rfl (fun Kc hKc => ?_) AllReadyH.nil
            simp only [List.getElem_toArray, List.getElem_cons_succ, List.getElem_cons_zero]
            rw [if_pos (by rfl)]
            go_wp2_with fail
            have NK := HKV wM2
            have EM3 : Below wM2.heap.size wM2 (wM2.alloc (.cells (madeCells #[.slice none 0 0] L) 55)) := (Below.refl _ _).alloc (Nat.le_refl _) _
            have zwM3 : wM2.heap.size < (wM2.alloc (.cells (madeCells #[.slice none 0 0] L) 55)).heap.size := by simp
            generalize hn3 : wM2.alloc (.cells (madeCells #[.slice none 0 0] L) 55) = wM3 at *
            replace Y0 := Y0.below EM3
            replace Y1 := Y1.below EM3
            replace Y2 := Y2.below EM3
            replace KP := below_then KP EM3
            replace G0 := G0.below EM3
            replace XC := XC.below EM3
            replace NV := fun p => (NV p).below EM3
            refine hKc.out _ _ Y1 (fun hHeld => ?_)
            clear hKc Kc hn3
            refine wpAnyH_take (i := 8) (v := (.agg #[.slice (some ⟨wM2.heap.size, 0, none⟩) L L, .slice (some ⟨wM1.heap.size, 0, none⟩) L L])) rfl (by kernel_rfl) (by kernel_rfl) (by kernel_rfl) (fun _ _ _ h => h) (Or.inl ⟨by rfl, ?_⟩) (by assumption) ?_
            · intro w' hSw
              go_simp
            simp only [List.getElem_toArray, List.getElem_cons_succ, List.getElem_cons_zero, Act.put, List.setIfInBounds_toArray, List.set_cons_zero, List.set_cons_succ]
            refine wpAnyH_ready (rs := [10]) (by kernel_rfl) (by simp) ?_
            refine AllReadyH.cons rfl (fun Kc hKc => ?_) AllReadyH.nil
            simp only [List.getElem_toArray, List.getElem_cons_succ, List.getElem_cons_zero]
            rw [if_pos (by rfl)]
            have hall : Array.all (#[.slice (some ⟨wM2.heap.size, 0, none⟩) L L, .slice (some ⟨wM1.heap.size, 0, none⟩) L L] : Array Value) (fun v => v.oneCell') = true := by simp [Value.oneCell']
            refine wp_store_row 40 _ _ rfl (wA.heap.size) #[.slice (some ⟨wM2.heap.size, 0, none⟩) L L, .slice (some ⟨wM1.heap.size, 0, none⟩) L L] rfl rfl 40 _ XC Tryd.infoCa rfl hall ?_
            have so : ∀ b, b ≠ wA.heap.size → (wM3.setRow (wA.heap.size) #[.slice (some ⟨wM2.heap.size, 0, none⟩) L L, .slice (some ⟨wM1.heap.size, 0, none⟩) L L]).heap[b]? = wM3.heap[b]? := fun b hb => setRow_other _ _ _ _ hb
            have y0 := Y0.lt
            refine hKc.out _ _ (Blk.of_block Y1 (so _ (by omega))) (fun hHeld => ?_)
            clear hKc Kc
            refine wpAnyH_done (by kernel_rfl) ?_ _
            go_wp2_with fail
            go_meet
            case rel =>
              refine ⟨wA.heap.size, wM2.heap.size, wM1.heap.size, rfl, ?_, ⟨Blk.of_block Y0 (so _ (by omega)), Blk.of_block Y1 (so _ (by omega)), Blk.of_block Y2 (so _ (by omega)), XC.row _, ?_, ?_, by omega, below_setRow KP (by omega) _⟩⟩
              · exact (G0.row (g := wA.heap.size) (by show ¬ (_ < _); omega) _).now
              · exact (NK _).put (by omega) (fun h => h.2.2.2 rfl) _
              · exact (NV _).put (by omega) (fun h => h.2.2.2 rfl) _
      case rest =>
        obtain ⟨gC, gK, gV, rfl, GR, FF⟩ := hcut
        clear XX0 Y0 Y1 Y2 KP G0 hmk2
        have X1 := FF.x1
        have c3 : wc.cell? ⟨w.heap.size + 1, 3, none⟩ = some (.slice ba L bz) := X1.cell 3 wb
        go_wp2_with fail
        clear c3 X1
        go_loopg [61, 11] L (fun r i s wr => ∃ (t gr : Nat), t ≤ L ∧ r = L - t ∧ i = .int .i64 t ∧ s = .slice (some ⟨gr, 0, none⟩) k k ∧ GridAt wr (some ⟨gr, 0, none⟩) k (rowsL M D H Hd A t) ∧ FI w wr #[.int .i64 (V : Int), .int .i64 (D : Int), .int .i64 (Hd : Int), .int .i64 (H : Int), .int .i64 (L : Int)] ws gC gK gV L t (fullK M D H Hd L A) (fullV M D H Hd L A))
        case atStart => exact ⟨0, w4.heap.size, by omega, by omega, rfl, rfl, GR, FF⟩
        case round =>
          obtain ⟨t, gr, htl, rfl, rfl, rfl, GR, FF⟩ := hrel
          by_cases hlt : t < L
          · obtain ⟨x, hx⟩ : ∃ x, bs[t]? = some x := ⟨_, List.getElem?_eq_getElem (by omega)⟩
            have WW := (HG.out wr FF.kp).wt
            obtain ⟨Lx, hLx, BK⟩ := WW.ls t x hx
            have HLx : Hid (layAt M t = Lx) := by show _ = _; unfold layAt; rw [List.getD_eq_getElem?_getD, hLx]; rfl
            obtain ⟨g, o, e0, hc⟩ := WW.b.cells (by show 0 < L; omega)
            simp only at e0
            subst e0
            have r0 := hc t x hx
            clear hc hLx WW
            have HO := fun (ro : Option Addr) (nn cc : Nat) (R : List (List Int)) (wv : World) h1' (hb : BkAt wv D H x Lx) h3' h4' h5' => layer_any V D Hd H H L x Lx ro nn cc R wv h1' hb h3' h4' h5' (by omega) (by omega) (by omega) (by omega) hmod (by omega)
            unfold cfgC at HO
            have one := bk_one x
            have siz2 := bk_size x
            generalize x.cells = cs at *
            have XZ := blk_new wr 59 #[.slice none 0 0, .int .i64 0, .int .i64 0, .slice none 0 0, .int .i64 0, .int .i64 0, .slice none 0 0, .int .i64 0, .int .i64 0, .slice none 0 0, .int .i64 0, .int .i64 0, .slice none 0 0, .slice none 0 0, .int .i64 0, .int .i64 0, .slice none 0 0, .int .i64 0, .int .i64 0, .slice none 0 0]
            have BZ : Below wr.heap.size wr (wr.alloc (.cells #[.slice none 0 0, .int .i64 0, .int .i64 0, .slice none 0 0, .int .i64 0, .int .i64 0, .slice none 0 0, .int .i64 0, .int .i64 0, .slice none 0 0, .int .i64 0, .int .i64 0, .slice none 0 0, .slice none 0 0, .int .i64 0, .int .i64 0, .slice none 0 0, .int .i64 0, .int .i64 0, .slice none 0 0] 59)) := (Below.refl _ _).alloc (Nat.le_refl _) _
            generalize hwz : wr.alloc (.cells #[.slice none 0 0, .int .i64 0, .int .i64 0, .slice none 0 0, .int .i64 0, .int .i64 0, .slice none 0 0, .int .i64 0, .int .i64 0, .slice none 0 0, .int .i64 0, .int .i64 0, .slice none 0 0, .slice none 0 0, .int .i64 0, .int .i64 0, .slice none 0 0, .int .i64 0, .int .i64 0, .slice none 0 0] 59) = wz at *
            have XR := XZ.row cs
            have BR := below_setRow BZ (Nat.le_refl _) cs
            generalize hwy : wz.setRow wr.heap.size cs = wy at *
            have HL : Hid (cs.toList.toArray = cs) := by show _ = _; simp
            have ltk := FF.k.lt
            have ltv := FF.v.lt
            have ltc := FF.xc.lt
            have ne := FF.ne
            have FY := (FF.below BR).below ((Below.refl _ _).drew)
            have GY := (GR.below BR).below ((Below.refl _ _).drew)
            have XY := XR.below ((Below.refl _ _).drew)
            have BY := (BK.below BR).below ((Below.refl _ _).drew)
            have sY : wr.heap.size ≤ wy.drew.heap.size := BR.size
            have rl : ∀ s, s < k → (rowOf (rowsL M D H Hd A t) s).length = D := fun s hs => rowsL_row M D H Hd A t s (by rw [HLN.out]; exact hs)
            have E1 : Hid ((fullK M D H Hd L A).getD t [] = keysR Lx D (rowsL M D H Hd A t)) := by show _ = _; rw [fullK_at _ _ _ _ _ _ hlt, HLx.out]
            have E2 : Hid ((fullV M D H Hd L A).getD t [] = valsR Lx D (rowsL M D H Hd A t)) := by show _ = _; rw [fullV_at _ _ _ _ _ _ hlt, HLx.out]
            have E3 : Hid (rowsL M D H Hd A (t + 1) = madeR Lx D H Hd (rowsL M D H Hd A t)) := by show _ = _; rw [← HLx.out]; rfl
            clear FF GR BK BZ
            go_wp2_with (first | (refine wpList_load_mid rfl 59 _ rfl g (o + t * 20) rfl cs.toList _ r0 Tryd.underlying59 rfl (by rw [Array.length_toList, siz2]; exact Tryd.infoB) ?_; rw [HL.out]) | (refine wpList_store_row rfl 59 _ _ rfl wr.heap.size cs rfl rfl 59 _ XZ (by rw [siz2]; exact Tryd.infoB) siz2.symm one ?_; rw [hwy]))
            clear hwz hwy XZ XR r0 HL
            refine wp_region_held_drew (S := fun w' => Blk w' w.heap.size 23 #[.int .i64 (V : Int), .int .i64 (D : Int), .int .i64 (Hd : Int), .int .i64 (H : Int), .int .i64 (L : Int)] ∧ Blk w' wr.heap.size 59 cs ∧ Blk w' gC 40 #[.slice (some ⟨gK, 0, none⟩) L L, .slice (some ⟨gV, 0, none⟩) L L]) (by kernel_rfl) (⟨FY.x0, XY, FY.xc⟩) (fun hHeld => ?_)
            refine wpAnyH_take (i := 0) (v := (.pointer (some ⟨gC, 0, none⟩))) rfl (by kernel_rfl) (by kernel_rfl) (by kernel_rfl) (fun _ _ _ h => h) (Or.inl ⟨by rfl, ?_⟩) (by assumption) ?_
            · intro w' hSw
              go_simp
            simp only [List.getElem_toArray, List.getElem_cons_zero, Act.put, List.setIfInBounds_toArray, List.set_cons_zero, List.set_cons_succ]
            refine wpAnyH_take (i := 1) (v := (.slice (some ⟨gK, 0, none⟩) L L)) rfl (by kernel_rfl) (by kernel_rfl) (by kernel_rfl) (fun _ _ _ h => h) (Or.inl ⟨by rfl, ?_⟩) (by assumption) ?_
            · intro w' hSw
              have ck : w'.cell? ⟨gC, 0, none⟩ = some (.slice (some ⟨gK, 0, none⟩) L L) := hSw.2.2.cell 0 rfl
              go_simp
            simp only [List.getElem_toArray, List.getElem_cons_succ, List.getElem_cons_zero, Act.put, List.setIfInBounds_toArray, List.set_cons_zero, List.set_cons_succ]
            refine wpAnyH_take (i := 2) (v := (.int .i64 (t : Int))) rfl (by kernel_rfl) (by kernel_rfl) (by kernel_rfl) (fun _ _ _ h => h) (Or.inl ⟨by rfl, ?_⟩) (by assumption) ?_
            · intro w' hSw
              go_simp
            simp only [List.getElem_toArray, List.getElem_cons_succ, List.getElem_cons_zero, Act.put, List.setIfInBounds_toArray, List.set_cons_zero, List.set_cons_succ]
            refine wpAnyH_take (i := 3) (v := (.pointer (some ⟨gC, 1, none⟩))) rfl (by kernel_rfl) (by kernel_rfl) (by kernel_rfl) (fun _ _ _ h => h) (Or.inl ⟨by rfl, ?_⟩) (by assumption) ?_
            · intro w' hSw
              go_simp
            simp only [List.getElem_toArray, List.getElem_cons_succ, List.getElem_cons_zero, Act.put, List.setIfInBounds_toArray, List.set_cons_zero, List.set_cons_succ]
            refine wpAnyH_take (i := 4) (v := (.slice (some ⟨gV, 0, none⟩) L L)) rfl (by kernel_rfl) (by kernel_rfl) (by kernel_rfl) (fun _ _ _ h => h) (Or.inl ⟨by rfl, ?_⟩) (by assumption) ?_
            · intro w' hSw
              have cv : w'.cell? ⟨gC, 1, none⟩ = some (.slice (some ⟨gV, 0, none⟩) L L) := hSw.2.2.cell 1 rfl
              go_simp
            simp only [List.getElem_toArray, List.getElem_cons_succ, List.getElem_cons_zero, Act.put, List.setIfInBounds_toArray, List.set_cons_zero, List.set_cons_succ]
            refine wpAnyH_take (i := 5) (v := (.int .i64 (t : Int))) rfl (by kernel_rfl) (by kernel_rfl) (by kernel_rfl) (fun _ _ _ h => h) (Or.inl ⟨by rfl, ?_⟩) (by assumption) ?_
            · intro w' hSw
              go_simp
            simp only [List.getElem_toArray, List.getElem_cons_succ, List.getElem_cons_zero, Act.put, List.setIfInBounds_toArray, List.set_cons_zero, List.set_cons_succ]
            refine wpAnyH_take (i := 6) (v := (.agg #[.int .i64 (V : Int), .int .i64 (D : Int), .int .i64 (Hd : Int), .int .i64 (H : Int), .int .i64 (L : Int)])) rfl (by kernel_rfl) (by kernel_rfl) (by kernel_rfl) (fun _ _ _ h => h) (Or.inl ⟨by rfl, ?_⟩) (by assumption) ?_
            · intro w' hSw
              have cc0 : w'.cell? ⟨w.heap.size, 0, none⟩ = some (.int .i64 (V : Int)) := hSw.1.cell 0 rfl
              have cc1 : w'.cell? ⟨w.heap.size, 1, none⟩ = some (.int .i64 (D : Int)) := hSw.1.cell 1 rfl
              have cc2 : w'.cell? ⟨w.heap.size, 2, none⟩ = some (.int .i64 (Hd : Int)) := hSw.1.cell 2 rfl
              have cc3 : w'.cell? ⟨w.heap.size, 3, none⟩ = some (.int .i64 (H : Int)) := hSw.1.cell 3 rfl
              have cc4 : w'.cell? ⟨w.heap.size, 4, none⟩ = some (.int .i64 (L : Int)) := hSw.1.cell 4 rfl
              go_simp
            simp only [List.getElem_toArray, List.getElem_cons_succ, List.getElem_cons_zero, Act.put, List.setIfInBounds_toArray, List.set_cons_zero, List.set_cons_succ]
            refine wpAnyH_take (i := 7) (v := (.agg cs)) rfl (by kernel_rfl) (by kernel_rfl) (by kernel_rfl) (fun _ _ _ h => h) (Or.inl ⟨by rfl, ?_⟩) (by assumption) ?_
            · intro w' hSw
              exact yield_row 59 _ rfl wr.heap.size rfl cs (load_b hSw.2.1 siz2)
            simp only [List.getElem_toArray, List.getElem_cons_succ, List.getElem_cons_zero, Act.put, List.setIfInBounds_toArray, List.set_cons_zero, List.set_cons_succ]
            refine wpAnyH_take (i := 8) (v := (.slice (some ⟨gr, 0, none⟩) k k)) rfl (by kernel_rfl) (by kernel_rfl) (by kernel_rfl) (fun _ _ _ h => h) (Or.inl ⟨by rfl, ?_⟩) (by assumption) ?_
            · intro w' hSw
              go_simp
            simp only [List.getElem_toArray, List.getElem_cons_succ, List.getElem_cons_zero, Act.put, List.setIfInBounds_toArray, List.set_cons_zero, List.set_cons_succ]
            refine wpAnyH_ready (rs := [9]) (by kernel_rfl) (by simp) ?_
            refine AllReadyH.cons rfl (fun Kc hKc => ?_) AllReadyH.nil
            simp only [List.getElem_toArray, List.getElem_cons_succ, List.getElem_cons_zero]
            rw [if_pos (by rfl)]
            go_wp2_with fail
            refine (HO _ _ _ (rowsL M D H Hd A t) _ (HT.out _ FY.kp) BY GY rl (by omega)).mono ?_
            rintro e w9 ⟨gm, gk, gv, vm, vk, vv, rfl, NM, NK, NV, B9⟩
            have FZ := FY.below B9
            go_wp2_with fail
            refine hKc.out _ _ (⟨FZ.x0, XY.below B9, FZ.xc⟩) (fun hHeld => ?_)
            clear hKc Kc
            refine wpAnyH_take (i := 10) (v := (.tuple #[.slice (some ⟨gm, 0, none⟩) k k, .slice (some ⟨gk, 0, none⟩) k k, .slice (some ⟨gv, 0, none⟩) k k])) rfl (by kernel_rfl) (by kernel_rfl) (by kernel_rfl) (fun _ _ _ h => h) (Or.inl ⟨by rfl, ?_⟩) (by assumption) ?_
            · intro w' hSw
              go_simp
            simp only [List.getElem_toArray, List.getElem_cons_succ, List.getElem_cons_zero, Act.put, List.setIfInBounds_toArray, List.set_cons_zero, List.set_cons_succ]
            refine wpAnyH_take (i := 11) (v := (.slice (some ⟨gm, 0, none⟩) k k)) rfl (by kernel_rfl) (by kernel_rfl) (by kernel_rfl) (fun _ _ _ h => h) (Or.inl ⟨by rfl, ?_⟩) (by assumption) ?_
            · intro w' hSw
              go_simp
            simp only [List.getElem_toArray, List.getElem_cons_succ, List.getElem_cons_zero, Act.put, List.setIfInBounds_toArray, List.set_cons_zero, List.set_cons_succ]
            refine wpAnyH_take (i := 12) (v := (.slice (some ⟨gk, 0, none⟩) k k)) rfl (by kernel_rfl) (by kernel_rfl) (by kernel_rfl) (fun _ _ _ h => h) (Or.inl ⟨by rfl, ?_⟩) (by assumption) ?_
            · intro w' hSw
              go_simp
            simp only [List.getElem_toArray, List.getElem_cons_succ, List.getElem_cons_zero, Act.put, List.setIfInBounds_toArray, List.set_cons_zero, List.set_cons_succ]
            refine wpAnyH_take (i := 13) (v := (.slice (some ⟨gv, 0, none⟩) k k)) rfl (by kernel_rfl) (by kernel_rfl) (by kernel_rfl) (fun _ _ _ h => h) (Or.inl ⟨by rfl, ?_⟩) (by assumption) ?_
            · intro w' hSw
              go_simp
            simp only [List.getElem_toArray, List.getElem_cons_succ, List.getElem_cons_zero, Act.put, List.setIfInBounds_toArray, List.set_cons_zero, List.set_cons_succ]
            refine wpAnyH_take (i := 14) (v := (.slice (some ⟨gm, 0, none⟩) k k)) rfl (by kernel_rfl) (by kernel_rfl) (by kernel_rfl) (fun _ _ _ h => h) (Or.inl ⟨by rfl, ?_⟩) (by assumption) ?_
            · intro w' hSw
              go_simp
            simp only [List.getElem_toArray, List.getElem_cons_succ, List.getElem_cons_zero, Act.put, List.setIfInBounds_toArray, List.set_cons_zero, List.set_cons_succ]
            refine wpAnyH_take (i := 15) (v := (.pointer (some ⟨gK, t, none⟩))) rfl (by kernel_rfl) (by kernel_rfl) (by kernel_rfl) (fun _ _ _ h => h) (Or.inl ⟨by rfl, ?_⟩) (by assumption) ?_
            · intro w' hSw
              go_simp
            simp only [List.getElem_toArray, List.getElem_cons_succ, List.getElem_cons_zero, Act.put, List.setIfInBounds_toArray, List.set_cons_zero, List.set_cons_succ]
            clear hHeld HO one siz2 GY BY
            have N1 : Hangs (offF w gK gV gC) w9 fun w => GridV w (some ⟨gk, 0, none⟩) k vk ((fullK M D H Hd L A).getD t []) := by
              rw [E1.out]
              exact Hangs.mono NK fun b _ hb => ⟨by omega, by omega, by omega, by omega⟩
            have N2 : Hangs (offF w gK gV gC) w9 fun w => GridV w (some ⟨gv, 0, none⟩) k vv ((fullV M D H Hd L A).getD t []) := by
              rw [E2.out]
              exact Hangs.mono NV fun b _ hb => ⟨by omega, by omega, by omega, by omega⟩
            have FN := FZ.next hlt (by omega) N1 N2
            have s9 := B9.size
            have GN : GridAt ((w9.setCell ⟨gK, t, none⟩ (.slice (some ⟨gk, 0, none⟩) k k)).setCell ⟨gV, t, none⟩ (.slice (some ⟨gv, 0, none⟩) k k)) (some ⟨gm, 0, none⟩) k (rowsL M D H Hd A (t + 1)) := by
              rw [E3.out]
              exact ((NM.set (a := ⟨gK, t, none⟩) (by show gK < _; omega) _).set (a := ⟨gV, t, none⟩) (by show gV < _; omega) _).now.grid
            have pk : ¬ offF w gK gV gC gK := fun h => h.2.1 rfl
            have V1 := FZ.v.far (a := ⟨gK, t, none⟩) (by show gK ≠ gV; omega) pk (.slice (some ⟨gk, 0, none⟩) k k)
            have fz1 := FZ.k.frozen t
            obtain ⟨r1, m1, v1, cu1, _, _⟩ := FZ.k.at hlt
            have fz2 := V1.frozen t
            obtain ⟨r2, m2, v2, cu2, _, _⟩ := V1.at hlt
            have Q1 : Blk (w9.setCell ⟨gK, t, none⟩ (.slice (some ⟨gk, 0, none⟩) k k)) w.heap.size 23 #[.int .i64 (V : Int), .int .i64 (D : Int), .int .i64 (Hd : Int), .int .i64 (H : Int), .int .i64 (L : Int)] ∧ Blk (w9.setCell ⟨gK, t, none⟩ (.slice (some ⟨gk, 0, none⟩) k k)) wr.heap.size 59 cs ∧ Blk (w9.setCell ⟨gK, t, none⟩ (.slice (some ⟨gk, 0, none⟩) k k)) gC 40 #[.slice (some ⟨gK, 0, none⟩) L L, .slice (some ⟨gV, 0, none⟩) L L] := ⟨FZ.x0.other (by show _ ≠ gK; omega) _, (XY.below B9).other (by show _ ≠ gK; omega) _, FZ.xc.other (by show _ ≠ gK; omega) _⟩
            have Q2 := Q1.2.1.other (a := ⟨gV, t, none⟩) (by show _ ≠ gV; omega) (.slice (some ⟨gv, 0, none⟩) k k)
            clear V1 N1 N2 NM NK NV XY FY
            refine wpAnyH_ready (rs := [16]) (by kernel_rfl) (by simp) ?_
            refine AllReadyH.cons rfl (fun Kc hKc => ?_) AllReadyH.nil
            simp only [List.getElem_toArray, List.getElem_cons_succ, List.getElem_cons_zero]
            rw [if_pos (by rfl)]
            go_wp2_with fail
            refine hKc.out _ _ Q1 (fun hHeld => ?_)
            clear hKc Kc
            generalize hS1 : w9.setCell ⟨gK, t, none⟩ (.slice (some ⟨gk, 0, none⟩) k k) = wS1 at *
            refine wpAnyH_take (i := 17) (v := (.pointer (some ⟨gV, t, none⟩))) rfl (by kernel_rfl) (by kernel_rfl) (by kernel_rfl) (fun _ _ _ h => h) (Or.inl ⟨by rfl, ?_⟩) (by assumption) ?_
            · intro w' hSw
              go_simp
            simp only [List.getElem_toArray, List.getElem_cons_succ, List.getElem_cons_zero, Act.put, List.setIfInBounds_toArray, List.set_cons_zero, List.set_cons_succ]
            refine wpAnyH_ready (rs := [18]) (by kernel_rfl) (by simp) ?_
            refine AllReadyH.cons rfl (fun Kc hKc => ?_) AllReadyH.nil
            simp only [List.getElem_toArray, List.getElem_cons_succ, List.getElem_cons_zero]
            rw [if_pos (by rfl)]
            go_wp2_with fail
            refine hKc.out _ _ ⟨FN.x0, Q2, FN.xc⟩ (fun hHeld => ?_)
            clear hKc Kc
            refine wpAnyH_done (by kernel_rfl) ?_ _
            go_wp2_with fail
            go_roundg (L - (t + 1))
            case measure => omega
            case rel => exact ⟨t + 1, gm, by omega, rfl, by go_num, rfl, GN, FN⟩
          · obtain rfl : t = L := by omega
            obtain ⟨rb, ro, er, hc⟩ := GR.cells (by omega)
            simp only [Option.some.injEq, Addr.mk.injEq, and_true] at er
            obtain ⟨rfl, rfl⟩ := er
            obtain ⟨ko, km, kc, cr, AR⟩ := hc (k - 1) (by omega)
            obtain rfl : km = D := by rw [← rowsL_row M D H Hd A t (k - 1) (by rw [HLN.out]; omega), AR.row.len]
            rw [Nat.zero_add] at cr
            clear hc GR
            obtain ⟨m, rfl⟩ : ∃ m, k = m + 1 := ⟨k - 1, by omega⟩
            rw [Nat.add_sub_cancel] at cr AR
            have e1 : IntKind.i64.wrap (((m : Int) + 1) - 1) = (m : Int) := by rw [show ((m : Int) + 1) - 1 = m by omega]; exact wrap_in (by omega)
            have e0 : IntKind.i64.wrap (m : Int) = (m : Int) := wrap_in (by omega)
            have hnm : ¬ ((m : Int) + 1 ≤ (m : Int)) := by omega
            have FY := FF.below ((Below.refl _ _).drew)
            have AY := AR.below ((Below.refl _ _).drew)
            have cY : wr.drew.cell? ⟨gr, m, none⟩ = some (.slice ko km kc) := cr
            have ne := FF.ne
            have HX : Hid (fullX M V km H Hd t A = likR M V km (rowOf (rowsL M km H Hd A t) m)) := by show _ = _; unfold fullX; rw [HLN.out, Nat.add_sub_cancel]
            clear FF AR cr
            go_wp2_with fail
            refine wp_region_held_drew (S := fun w' => Blk w' (w.heap.size + 1) 29 ws ∧ Blk w' gC 40 #[.slice (some ⟨gK, 0, none⟩) t t, .slice (some ⟨gV, 0, none⟩) t t] ∧ w'.cell? ⟨gr, m, none⟩ = some (.slice ko km kc)) (by kernel_rfl) (⟨FY.x1, FY.xc, cY⟩) (fun hHeld => ?_)
            refine wpAnyH_take (i := 0) (v := (.agg ws)) rfl (by kernel_rfl) (by kernel_rfl) (by kernel_rfl) (fun _ _ _ h => h) (Or.inl ⟨by rfl, ?_⟩) (by assumption) ?_
            · intro w' hSw
              exact yield_row 29 _ rfl (w.heap.size + 1) rfl ws (load_w hSw.1 siz)
            simp only [List.getElem_toArray, List.getElem_cons_zero, Act.put, List.setIfInBounds_toArray, List.set_cons_zero, List.set_cons_succ]
            refine wpAnyH_take (i := 1) (v := (.slice (some ⟨gr, 0, none⟩) (m + 1) (m + 1))) rfl (by kernel_rfl) (by kernel_rfl) (by kernel_rfl) (fun _ _ _ h => h) (Or.inl ⟨by rfl, ?_⟩) (by assumption) ?_
            · intro w' hSw
              go_simp
            simp only [List.getElem_toArray, List.getElem_cons_succ, List.getElem_cons_zero, Act.put, List.setIfInBounds_toArray, List.set_cons_zero, List.set_cons_succ]
            refine wpAnyH_take (i := 2) (v := (.slice (some ⟨gr, 0, none⟩) (m + 1) (m + 1))) rfl (by kernel_rfl) (by kernel_rfl) (by kernel_rfl) (fun _ _ _ h => h) (Or.inl ⟨by rfl, ?_⟩) (by assumption) ?_
            · intro w' hSw
              go_simp
            simp only [List.getElem_toArray, List.getElem_cons_succ, List.getElem_cons_zero, Act.put, List.setIfInBounds_toArray, List.set_cons_zero, List.set_cons_succ]
            refine wpAnyH_take (i := 3) (v := (.int .i64 ((m : Int) + 1))) rfl (by kernel_rfl) (by kernel_rfl) (by kernel_rfl) (fun _ _ _ h => h) (Or.inl ⟨by rfl, ?_⟩) (by assumption) ?_
            · intro w' hSw
              go_simp
            simp only [List.getElem_toArray, List.getElem_cons_succ, List.getElem_cons_zero, Act.put, List.setIfInBounds_toArray, List.set_cons_zero, List.set_cons_succ]
            refine wpAnyH_take (i := 4) (v := (.int .i64 (m : Int))) rfl (by kernel_rfl) (by kernel_rfl) (by kernel_rfl) (fun _ _ _ h => h) (Or.inl ⟨by rfl, ?_⟩) (by assumption) ?_
            · intro w' hSw
              go_simp
            simp only [List.getElem_toArray, List.getElem_cons_succ, List.getElem_cons_zero, Act.put, List.setIfInBounds_toArray, List.set_cons_zero, List.set_cons_succ]
            refine wpAnyH_take (i := 5) (v := (.pointer (some ⟨gr, m, none⟩))) rfl (by kernel_rfl) (by kernel_rfl) (by kernel_rfl) (fun _ _ _ h => h) (Or.inl ⟨by rfl, ?_⟩) (by assumption) ?_
            · intro w' hSw
              go_simp
            simp only [List.getElem_toArray, List.getElem_cons_succ, List.getElem_cons_zero, Act.put, List.setIfInBounds_toArray, List.set_cons_zero, List.set_cons_succ]
            refine wpAnyH_take (i := 6) (v := (.slice ko km kc)) rfl (by kernel_rfl) (by kernel_rfl) (by kernel_rfl) (fun _ _ _ h => h) (Or.inl ⟨by rfl, ?_⟩) (by assumption) ?_
            · intro w' hSw
              have cm := hSw.2.2
              go_simp
            simp only [List.getElem_toArray, List.getElem_cons_succ, List.getElem_cons_zero, Act.put, List.setIfInBounds_toArray, List.set_cons_zero, List.set_cons_succ]
            refine wpAnyH_take (i := 8) (v := (.agg #[.slice (some ⟨gK, 0, none⟩) t t, .slice (some ⟨gV, 0, none⟩) t t])) rfl (by kernel_rfl) (by kernel_rfl) (by kernel_rfl) (fun _ _ _ h => h) (Or.inl ⟨by rfl, ?_⟩) (by assumption) ?_
            · intro w' hSw
              exact yield_row 40 _ rfl gC rfl _ (load_ca hSw.2.1 rfl)
            simp only [List.getElem_toArray, List.getElem_cons_succ, List.getElem_cons_zero, Act.put, List.setIfInBounds_toArray, List.set_cons_zero, List.set_cons_succ]
            refine wpAnyH_ready (rs := [7]) (by kernel_rfl) (by simp) ?_
            refine AllReadyH.cons rfl (fun Kc hKc => ?_) AllReadyH.nil
            simp only [List.getElem_toArray, List.getElem_cons_succ, List.getElem_cons_zero]
            rw [if_pos (by rfl)]
            go_wp2_with fail
            refine (CL _ FY.kp _ _ _ AY.row).mono ?_
            rintro e w9 ⟨gl, rfl, FL, B9⟩
            have FZ := FY.below B9
            have cZ := cell_keep cY B9
            go_wp2_with fail
            refine hKc.out _ _ (⟨FZ.x1, FZ.xc, cZ⟩) (fun hHeld => ?_)
            clear hKc Kc
            refine wpAnyH_take (i := 9) (v := (.slice (some ⟨gl, 0, none⟩) V V)) rfl (by kernel_rfl) (by kernel_rfl) (by kernel_rfl) (fun _ _ _ h => h) (Or.inl ⟨by rfl, ?_⟩) (by assumption) ?_
            · intro w' hSw
              go_simp
            simp only [List.getElem_toArray, List.getElem_cons_succ, List.getElem_cons_zero, Act.put, List.setIfInBounds_toArray, List.set_cons_zero, List.set_cons_succ]
            refine wpAnyH_ready (rs := [10]) (by kernel_rfl) (by simp) ?_
            refine AllReadyH.cons rfl (fun Kc hKc => ?_) AllReadyH.nil
            simp only [List.getElem_toArray, List.getElem_cons_succ, List.getElem_cons_zero]
            rw [if_pos (by rfl)]
            have hall : Array.all (#[.slice (some ⟨gK, 0, none⟩) t t, .slice (some ⟨gV, 0, none⟩) t t] : Array Value) (fun v => v.oneCell') = true := by simp [Value.oneCell']
            refine wp_store_row 40 _ _ rfl (w.heap.size + 1 + 1) #[.slice (some ⟨gK, 0, none⟩) t t, .slice (some ⟨gV, 0, none⟩) t t] rfl rfl 40 _ FZ.x2 Tryd.infoCa rfl hall ?_
            have so : ∀ b, b ≠ w.heap.size + 1 + 1 → (w9.setRow (w.heap.size + 1 + 1) #[.slice (some ⟨gK, 0, none⟩) t t, .slice (some ⟨gV, 0, none⟩) t t]).heap[b]? = w9.heap[b]? := fun b hb => setRow_other _ _ _ _ hb
            have cN : (w9.setRow (w.heap.size + 1 + 1) #[.slice (some ⟨gK, 0, none⟩) t t, .slice (some ⟨gV, 0, none⟩) t t]).cell? ⟨gr, m, none⟩ = some (.slice ko km kc) := by
              rw [World.cell?_of_block (so gr (by
                rintro rfl
                have h9 := FZ.x2
                unfold Blk at h9
                unfold World.cell? at cZ
                simp only [h9] at cZ
                rcases m with _ | _ | m
                · simp at cZ; have := AY.row.cells (by omega); obtain ⟨_, _, e, _⟩ := this; rw [← cZ.1] at e; cases e
                · simp at cZ; have := AY.row.cells (by omega); obtain ⟨_, _, e, _⟩ := this; rw [← cZ.1] at e; cases e
                · simp at cZ))]
              exact cZ
            refine hKc.out _ _ ⟨Blk.of_block FZ.x1 (so _ (by omega)), Blk.of_block FZ.xc (so _ (by omega)), cN⟩ (fun hHeld => ?_)
            clear hKc Kc
            refine wpAnyH_take (i := 11) (v := (.int .i64 0)) rfl (by kernel_rfl) (by kernel_rfl) (by kernel_rfl) (fun _ _ _ h => h) (Or.inl ⟨by rfl, ?_⟩) (by assumption) ?_
            · intro w' hSw
              go_simp
            simp only [List.getElem_toArray, List.getElem_cons_succ, List.getElem_cons_zero, Act.put, List.setIfInBounds_toArray, List.set_cons_zero, List.set_cons_succ]
            refine wpAnyH_done (by kernel_rfl) ?_ _
            go_wp2
            refine bodyPost_ret (results_mid rfl _ _ (w.heap.size + 1 + 1) _ rfl (load_ca (FZ.x2.row _) rfl)) rfl ?_
            rw [HX.out]
            have sF := FY.kp.size
            refine ⟨gl, gK, gV, rfl, (FL.of_block (so gl (FL.ne FZ.x2 (by decide)))).mono sF, ?_, ?_, below_setRow FZ.kp (by omega) _⟩
            · exact (FZ.k.put (g2 := w.heap.size + 1 + 1) (by omega) (fun h => by have := h.1; omega) _).cube LF.out.1 (by omega) (fun b hb => by have := hb.1; omega) (by omega)
            · exact (FZ.v.put (g2 := w.heap.size + 1 + 1) (by omega) (fun h => by have := h.1; omega) _).cube LF.out.2 (by omega) (fun b hb => by have := hb.1; omega) (by omega)
end Go.Proofs.YtoofbjpekdlfiaaDoor

/- Numbers that were told, and are sound: they are what the passes ask for; pass.Full of numbers that aren't. Laid by program out of ModelCopiesWalk and Full2. -/
namespace Go.Proofs.YtoofbjpekdlfiaaDoor
open Go.ChangeShapes Go.WideShapes Go.ChangeAt Go.RowKit
structure Sides (x0 x : Bk) : Prop where
  q : x.q.r = x0.q.r ∧ x.q.c = x0.q.c
  k : x.k.r = x0.k.r ∧ x.k.c = x0.k.c
  v : x.v.r = x0.v.r ∧ x.v.c = x0.v.c
  o : x.o.r = x0.o.r ∧ x.o.c = x0.o.c
  u : x.u.r = x0.u.r ∧ x.u.c = x0.u.c
  d : x.d.r = x0.d.r ∧ x.d.c = x0.d.c
theorem BT.sides {w : World} {B : Nat} {x x' : Bk} {y : Lay} (h : BT w B x x' y) : Sides x x' := ⟨h.qs, h.ks, h.vs, h.os, h.us, h.ds⟩
theorem BT.self {w : World} {B : Nat} {x x' : Bk} {y : Lay} (h : BT w B x x' y) : BT w B x' x' y := ⟨h.f, h.q, h.k, h.v, h.o, h.s, h.u, h.d, ⟨rfl, rfl⟩, ⟨rfl, rfl⟩, ⟨rfl, rfl⟩, ⟨rfl, rfl⟩, ⟨rfl, rfl⟩, ⟨rfl, rfl⟩⟩
theorem sd_tr {a b c d e f : Int} (h : a = b ∧ c = d) (g : e = b ∧ f = d) : a = e ∧ c = f := ⟨h.1.trans g.1.symm, h.2.trans g.2.symm⟩
theorem Sides.meet {x0 x y : Bk} (h : Sides x0 x) (g : Sides x0 y) : Sides x y := ⟨sd_tr g.q h.q, sd_tr g.k h.k, sd_tr g.v h.v, sd_tr g.o h.o, sd_tr g.u h.u, sd_tr g.d h.d⟩
theorem Sides.trans {x y z : Bk} (h : Sides x y) (g : Sides y z) : Sides x z := ⟨⟨g.q.1.trans h.q.1, g.q.2.trans h.q.2⟩, ⟨g.k.1.trans h.k.1, g.k.2.trans h.k.2⟩, ⟨g.v.1.trans h.v.1, g.v.2.trans h.v.2⟩, ⟨g.o.1.trans h.o.1, g.o.2.trans h.o.2⟩, ⟨g.u.1.trans h.u.1, g.u.2.trans h.u.2⟩, ⟨g.d.1.trans h.d.1, g.d.2.trans h.d.2⟩⟩
/-- What Of hands out of what Told told of V. -/
structure WIn (w : World) (B k : Nat) (V : Wt) (bs : List Bk) (MM : Mdl) (W : Wt) (ys : List Bk) : Prop where
  own : WOwn w B W ys (cutM 5000 k (cutM 100 k MM))
  es : W.e.r = V.e.r ∧ W.e.c = V.e.c
  os : W.o.r = V.o.r ∧ W.o.c = V.o.c
  len : ys.length = k
  ss : ∀ (t : Nat) (x : Bk), ys[t]? = some x → ∃ x0, bs[t]? = some x0 ∧ Sides x0 x
theorem WIn.below {w w' : World} {B k : Nat} {V : Wt} {bs : List Bk} {MM : Mdl} {W : Wt} {ys : List Bk} (h : WIn w B k V bs MM W ys) (hb : Below w.heap.size w w') : WIn w' B k V bs MM W ys := ⟨h.own.below hb, h.es, h.os, h.len, h.ss⟩
theorem take_le (A : List Int) {n : Nat} (hn : n ≤ 5000) : (A.take n).length ≤ 5000 := by rw [List.length_take]; omega
theorem win_of {w1 w2 : World} {B1 B2 k : Nat} {V W3 W5 : Wt} {bs xs ys : List Bk} {MM : Mdl} (hV : V.Ok) (T1 : WTold w1 B1 100 k V W3 bs xs MM) (T3 : WTold w2 B2 5000 W3.b.n W3 W5 xs ys (cutM 100 k MM)) : WIn w2 B2 k V bs MM W5 ys := by
  have hk : W3.b.n = k := by rw [← T1.b.len, T1.ls.len]
  have hW3 := (T1.raw hV).ok
  have hW5 := (T3.raw hW3).ok
  have hR := T3.raw hW3
  rw [hk] at T3 hR
  refine ⟨⟨hW5, T3.e, T3.l, T3.o, T3.b, fun t x hx => ?_, take_le _ (by omega), take_le _ (by omega), take_le _ (by omega)⟩, ⟨T3.es.1.trans T1.es.1, T3.es.2.trans T1.es.2⟩, ⟨T3.os.1.trans T1.os.1, T3.os.2.trans T1.os.2⟩, T3.ls.len, fun t x hx => ?_⟩
  · obtain ⟨x1, y1, h1, h2, h3⟩ := T3.ls.at_ t x hx
    have ht : t < k := by have := (List.getElem?_eq_some_iff.1 hx).1; have := T3.ls.len; omega
    exact ⟨cutL 5000 y1, cutLs_at ht h2, ⟨take_le _ (by omega), take_le _ (by omega), take_le _ (by omega), take_le _ (by omega), take_le _ (by omega), take_le _ (by omega), take_le _ (by omega), take_le _ (by omega)⟩, h3.self⟩
  · obtain ⟨x1, y1, h1, h2, h3⟩ := T3.ls.at_ t x hx
    obtain ⟨x0, y0, g1, g2, g3⟩ := T1.ls.at_ t x1 h1
    exact ⟨x0, g1, g3.sides.trans h3.sides⟩
theorem FR.arg {w : World} {B : Nat} {s : Sl} {n : Nat} {A : List Int} (h : FR w B s n A) : Arg w s.ao s.n s.c A := by
  have R := h.raw
  obtain ⟨g, e1, e2, F⟩ := h
  exact ⟨R.row, R.fit, R.max, R.nil, fun b o e t ht => by
    rw [e1] at e
    simp only [Option.some.injEq, Addr.mk.injEq, and_true] at e
    obtain ⟨rfl, rfl⟩ := e
    exact F.frozen _⟩
theorem mt_at {w : World} {B r c : Nat} {m : Mt} {A : List Int} (h : FR w B m.d m.d.n A) (hs : sidesB m r c = true) : MtAt w m r c A := by
  unfold sidesB at hs
  obtain ⟨h1, h2, h3⟩ := of_decide_eq_true hs
  obtain ⟨r', c', e1, e2, q1, q2, q3, q4, q5⟩ := chk_zero h1
  have R := h.raw
  obtain ⟨g, e3, e4, F⟩ := h
  obtain ⟨mr, mc, ⟨ma, mn, mz⟩⟩ := m
  simp only at h2 h3 e1 e2 e3 q5 R
  subst e3 h2 h3
  obtain rfl : r' = r := by omega
  obtain rfl : c' = c := by omega
  exact ⟨g, 0, mn, mz, rfl, q1, q2, q3, q4, q5, R.fit, R.max, R.row⟩
theorem sl_at {w : World} {B n : Nat} {s : Sl} {A : List Int} (h : FR w B s s.n A) (hn : s.n = n) : SlAt w s n A := ⟨hn, by have := h.arg; rw [hn] at this; exact this⟩
theorem own_told {w : World} {B n k : Nat} {V W : Wt} {bs xs : List Bk} {MM : Mdl} (hV : V.Ok) (hn : n ≤ 5000) (T : WTold w B n k V W bs xs MM) : WOwn w B W xs (cutM n k MM) ∧ xs.length = (cutM n k MM).Ls.length := by
  have R := T.raw hV
  refine ⟨⟨R.ok, T.e, T.l, T.o, T.b, fun t x hx => ?_, take_le _ (by omega), take_le _ hn, take_le _ (by omega)⟩, R.len⟩
  obtain ⟨x1, y1, h1, h2, h3⟩ := T.ls.at_ t x hx
  have ht : t < k := by have := (List.getElem?_eq_some_iff.1 hx).1; have := T.ls.len; omega
  exact ⟨cutL n y1, cutLs_at ht h2, ⟨take_le _ hn, take_le _ (by omega), take_le _ (by omega), take_le _ (by omega), take_le _ (by omega), take_le _ hn, take_le _ (by omega), take_le _ (by omega)⟩, h3.self⟩
theorem check_shape {V D Hd H L : Int} {W : Wt} {bs : List Bk} (h : checkN V D Hd H L W bs = 0) : shapeN V D Hd H L = 0 ∧ fitsB V D H L W bs = true := by
  unfold checkN at h
  by_cases h1 : shapeN V D Hd H L = 0
  · rw [if_neg (by omega)] at h
    by_cases h2 : fitsB V D H L W bs = true
    · exact ⟨h1, h2⟩
    · rw [if_neg h2] at h; omega
  · rw [if_pos h1] at h; omega
theorem own_wt {w : World} {B V D Hd H L : Nat} {W : Wt} {bs : List Bk} {M : Mdl} (h : WOwn w B W bs M) (hl : bs.length = M.Ls.length) (hc : checkN V D Hd H L W bs = 0) : WtAt w V D H W bs M ∧ bs.length = L := by
  obtain ⟨h1, h2⟩ := check_shape hc
  unfold fitsB at h2
  simp only [Bool.and_eq_true, decide_eq_true_eq] at h2
  obtain ⟨⟨⟨⟨h3, h4⟩, h5⟩, h6⟩, h7⟩ := h2
  refine ⟨⟨mt_at h.e h3, h.b, hl, fun t x hx => ?_, sl_at h.l (by omega), mt_at h.o h4⟩, by have := h.b.len; omega⟩
  obtain ⟨y, g1, _, g2⟩ := h.ls t x hx
  have hb := List.all_eq_true.1 h7 x (List.mem_of_getElem? hx)
  unfold bkB at hb
  simp only [Bool.and_eq_true, decide_eq_true_eq] at hb
  obtain ⟨⟨⟨⟨⟨⟨⟨f1, f2⟩, f3⟩, f4⟩, f5⟩, f6⟩, f7⟩, f8⟩ := hb
  exact ⟨y, g1, sl_at g2.f (by omega), mt_at g2.q f3, mt_at g2.k f4, mt_at g2.v f5, mt_at g2.o f6, sl_at g2.s (by omega), mt_at g2.u f7, mt_at g2.d f8⟩
theorem own_good {w : World} {B V D Hd H L : Nat} {W : Wt} {bs : List Bk} {M : Mdl} (h : WOwn w B W bs M) (hl : bs.length = M.Ls.length) (hc : checkN V D Hd H L W bs = 0) : Good w V D Hd H L W bs M := by
  obtain ⟨h1, h2⟩ := own_wt h hl hc
  exact ⟨h1, h.ok, h2, (check_shape hc).1, hc⟩
theorem cutM_twice (k : Nat) (M : Mdl) : cutM 5000 k (cutM 100 k M) = cutM 100 k M := by
  have t2 : ∀ A : List Int, (A.take 2000).take 2000 = A.take 2000 := fun A => by rw [List.take_take]; rfl
  have t1 : ∀ A : List Int, (A.take 100).take 5000 = A.take 100 := fun A => by rw [List.take_take]; rfl
  have tl : ∀ y : Lay, cutL 5000 (cutL 100 y) = cutL 100 y := fun y => by unfold cutL; simp only [t1, t2]
  unfold cutM
  simp only [t1, t2, Mdl.mk.injEq, true_and, and_true]
  rw [List.take_of_length_le (by simp; omega), List.map_map]
  exact List.map_congr_left fun y _ => tl y
set_option maxRecDepth 100000 in
set_option maxHeartbeats 1600000 in
theorem full_no (C : Cfg) (hC : C.Ok) (W : Wt) (bs : List Bk) (ao : Option Addr) (n ca : Nat) (w : World) (hok : W.Ok) (hb0 : BlocksAt w W.b bs) (hq : checkN C.V C.D C.Hd C.H C.L W bs ≠ 0) :
   Calls Tryd.prog 9 #[.agg (cfgC C.V C.D C.Hd C.H C.L), .agg W.cells, .slice ao n ca] w fun e w' => e = .returned (.tuple #[.slice none 0 0, .agg #[.slice none 0 0, .slice none 0 0], .int .i64 (checkN C.V C.D C.Hd C.H C.L W bs)]) ∧ Below w.heap.size w w' := by
  have CK := fun (wv : World) (hb : Below w.heap.size w wv) => mcheck_any C hC W bs wv hok (hb0.below hb)
  have siz : W.cells.size = 8 := rfl
  have hq' : (checkN C.V C.D C.Hd C.H C.L W bs == 0) = false := by simpa using hq
  generalize checkN C.V C.D C.Hd C.H C.L W bs = q at *
  generalize hws : W.cells = ws at *
  unfold Cfg.val cfgC at CK
  unfold cfgC
  have X0 := blk_new w 23 #[.int .i64 C.V, .int .i64 C.D, .int .i64 C.Hd, .int .i64 C.H, .int .i64 C.L]
  have B0 : Below w.heap.size w (w.alloc (.cells #[.int .i64 C.V, .int .i64 C.D, .int .i64 C.Hd, .int .i64 C.H, .int .i64 C.L] 23)) := (Below.refl _ _).alloc (Nat.le_refl _) _
  have s0 : (w.alloc (.cells #[.int .i64 C.V, .int .i64 C.D, .int .i64 C.Hd, .int .i64 C.H, .int .i64 C.L] 23)).heap.size = w.heap.size + 1 := by simp
  generalize hw0 : w.alloc (.cells #[.int .i64 C.V, .int .i64 C.D, .int .i64 C.Hd, .int .i64 C.H, .int .i64 C.L] 23) = w0 at *
  have X1 := blk_new w0 29 ws
  have B1 : Below w0.heap.size w0 (w0.alloc (.cells ws 29)) := (Below.refl _ _).alloc (Nat.le_refl _) _
  have s1 : (w0.alloc (.cells ws 29)).heap.size = w0.heap.size + 1 := by simp
  rw [s0] at X1 s1
  generalize hw1 : w0.alloc (.cells ws 29) = w1 at *
  have X2 := blk_new w1 40 #[.slice none 0 0, .slice none 0 0]
  have B2 : Below w1.heap.size w1 (w1.alloc (.cells #[.slice none 0 0, .slice none 0 0] 40)) := (Below.refl _ _).alloc (Nat.le_refl _) _
  have s2 : (w1.alloc (.cells #[.slice none 0 0, .slice none 0 0] 40)).heap.size = w1.heap.size + 1 := by simp
  rw [s1] at X2 s2
  generalize hw2 : w1.alloc (.cells #[.slice none 0 0, .slice none 0 0] 40) = w2 at *
  replace X0 := (X0.below B1).below B2
  replace X1 := X1.below B2
  replace B2 := below_then (below_then B0 B1) B2
  have a0 : w2.cell? ⟨w.heap.size, 0, none⟩ = some (.int .i64 C.V) := X0.cell 0 rfl
  have a1 : w2.cell? ⟨w.heap.size, 1, none⟩ = some (.int .i64 C.D) := X0.cell 1 rfl
  have a2 : w2.cell? ⟨w.heap.size, 2, none⟩ = some (.int .i64 C.Hd) := X0.cell 2 rfl
  have a3 : w2.cell? ⟨w.heap.size, 3, none⟩ = some (.int .i64 C.H) := X0.cell 3 rfl
  have a4 : w2.cell? ⟨w.heap.size, 4, none⟩ = some (.int .i64 C.L) := X0.cell 4 rfl
  go_enter Tryd.func9, Tryd.ntmps9
  go_wp2_with (refine wpList_load_row rfl 29 _ rfl (w.heap.size + 1) rfl 29 ws (0, 0) _ X1 Tryd.underlying29 rfl (by rw [siz]; exact Tryd.infoW) ?_)
  refine (CK _ B2).mono ?_
  rintro e w3 ⟨rfl, B3⟩
  replace X0 := X0.below B3
  replace X1 := X1.below B3
  replace X2 := X2.below B3
  have D3 := below_then B2 B3
  clear a0 a1 a2 a3 a4 hw0 hw1 hw2 B0 B1 B2 B3 CK s0 s1 s2
  have hall : Array.all (#[.slice none 0 0, .slice none 0 0] : Array Value) (fun v => v.oneCell') = true := by simp [Value.oneCell']
  go_wp2_with (refine wpList_store_row rfl 40 _ _ rfl (w.heap.size + 1 + 1) #[.slice none 0 0, .slice none 0 0] rfl rfl 40 _ X2 Tryd.infoCa rfl hall ?_)
  refine bodyPost_ret (results_mid rfl _ _ (w.heap.size + 1 + 1) _ rfl (load_ca (X2.row _) rfl)) rfl ?_
  exact ⟨rfl, below_setRow D3 (by omega) _⟩
end Go.Proofs.YtoofbjpekdlfiaaDoor

/- spoil: only memory of the numbers' own is turned. Laid by tools/genspoil6.py. -/
namespace Go.Proofs.YtoofbjpekdlfiaaDoor
open Go.ChangeShapes Go.WideShapes Go.ChangeAt Go.RowKit Go.Deep
theorem Tryd.infoRowS : (Tryd.prog.info? 24).map (fun i => (i.zero, i.size, i.bytes)) = some (some (.slice none 0 0), 1, 24) := by kernel_rfl
theorem owns4 {w w' : World} {B n : Nat} {u : Value} {xs : List Value} {e : TypeId} {z : Nat} (h : w.ownsRow B e z u n xs) (hb : ∀ b, u.ownBlock = some b → w'.heap[b]? = w.heap[b]?) : w'.ownsRow B e z u n xs := by
  obtain ⟨h1, h2⟩ := h
  refine ⟨h1, ?_⟩
  rcases h2 with h2 | ⟨g, cap, cur, hv, hg, hh, r⟩
  · exact Or.inl h2
  · exact Or.inr ⟨g, cap, cur, hv, hg, by rw [hb g (by rw [hv]; rfl)]; exact hh, r⟩
theorem owns4_lt {w : World} {B n : Nat} {u : Value} {xs : List Value} {e : TypeId} {z : Nat} (h : w.ownsRow B e z u n xs) {b : Nat} (hb : u.ownBlock = some b) : B ≤ b ∧ b < w.heap.size := by
  rcases h.2 with ⟨h1, _⟩ | ⟨g, cap, cur, hv, hg, hh, _⟩
  · rw [h1] at hb; cases hb
  · rw [hv] at hb
    simp only [Value.ownBlock, Option.some.injEq] at hb
    subst hb
    exact ⟨hg, (Array.getElem?_eq_some_iff.1 hh).1⟩
/-- A row of numbers in memory from B on, whatever it reads as. -/
def AnyR (w : World) (B : Nat) (s : Sl) : Prop := ∃ A, FR w B s s.n A
structure BkO (w : World) (B : Nat) (x : Bk) : Prop where
  f : AnyR w B x.f
  q : AnyR w B x.q.d
  k : AnyR w B x.k.d
  v : AnyR w B x.v.d
  o : AnyR w B x.o.d
  s : AnyR w B x.s
  u : AnyR w B x.u.d
  d : AnyR w B x.d.d
theorem AnyR.below {w w' : World} {B : Nat} {s : Sl} (h : AnyR w B s) (hb : Below w.heap.size w w') : AnyR w' B s := let ⟨A, h⟩ := h; ⟨A, h.below hb⟩
theorem AnyR.poke {w : World} {B g t : Nat} {s : Sl} {v : Int} (h : AnyR w B s) (hv : -2147483648 ≤ v ∧ v ≤ 2147483647) : AnyR (w.setCell ⟨g, t, none⟩ (.int .i32 v)) B s := by
  obtain ⟨A, g', e1, e2, F⟩ := h
  by_cases hg : g' = g
  · subst hg
    by_cases ht : t < s.n
    · exact ⟨A.set t v, g', e1, rfl, F.set t v ht hv⟩
    · obtain ⟨c, hb, hs, hc⟩ := F.row
      refine ⟨A, g', e1, rfl, F.base, F.len, F.fit, F.max, F.small, c.setIfInBounds t (.int .i32 v), ?_, by simpa using hs, fun k hk => ?_⟩
      · simp [World.setCell, Array.getElem?_modify, hb]
      · rw [Array.getElem?_setIfInBounds, if_neg (by omega)]; exact hc k hk
  · exact ⟨A, g', e1, rfl, F.setOther (a := ⟨g, t, none⟩) hg _⟩
theorem own_cell {w : World} {B g n c : Nat} {e : TypeId} {vs : List Value} (h : w.ownsRow B e 1 (.slice (some ⟨g, 0, none⟩) n c) n vs) {k : Nat} {v : Value} (hk : vs[k]? = some v) : w.cell? ⟨g, k, none⟩ = some v := by
  have := h.cells (g := g) rfl k v hk
  rw [Addr.add_mid, Nat.zero_add] at this
  exact this
set_option maxHeartbeats 1600000 in
theorem wpList_append_sls {w : World} {ops : Array Oper} {rest : List Oper} {o : Oper} {a : Act} {Q : Exit → Act → World → Prop} (hgd : o.guard = none) (s x : Operand)
    (ho : o.op = .call { callee := .builtin .append, args := #[s, x], argTypes := #[55, 55] })
    (B : Nat) (v : Value) (n : Nat) (Ss : List Sl) (hs : a.eval s = v) (hO : w.ownsRow B 24 1 v n (Ss.map Sl.v)) (b : Nat) (N : List Sl) (m : Nat) (hx : a.eval x = .slice (some ⟨b, 0, none⟩) m m) (hm : N.length = m) (hm0 : 0 < m)
    (hX : ∀ j u, (N.map Sl.v)[j]? = some u → w.cell? ⟨b, j, none⟩ = some u) (hn : n + m ≤ 100000) (hB : B ≤ w.heap.size)
    (hK : ∀ g' c' w', w'.ownsRow B 24 1 (.slice (some ⟨g', 0, none⟩) (n + m) c') (n + m) ((Ss ++ N).map Sl.v) → Below B w w' → wpList Tryd.prog ops Q rest (a.put o.dst (.slice (some ⟨g', 0, none⟩) (n + m) c')) w') : wpList Tryd.prog ops Q (o :: rest) a w := by
  obtain ⟨i0, hi, hz0, hz1, hz2⟩ := info_parts Tryd.infoRowS
  refine wpList_append_own w hgd s x 55 ho B 24 i0 (.slice none 0 0) 1 24 Tryd.underlying55 hi hz0 hz1 hz2 rfl (by decide) v n _ hs hO ⟨b, 0, none⟩ m m (N.map Sl.v) hx (by simp; omega) ?_ ?_ (by unfold maxLen; omega) (by omega) hB ?_
  · intro j u hj
    rw [Addr.add_mid, Nat.zero_add]
    exact hX j u hj
  · intro u hu
    obtain ⟨s', _, rfl⟩ := List.mem_map.1 hu
    rfl
  · intro v' w' hown hg hnil
    have hb : Below B w w' := (Below.refl _ _).grown hg hB (fun k hk => (hO.lt k hk).1)
    rw [← List.map_append] at hown
    obtain ⟨h1, h2⟩ := hown
    rcases h2 with ⟨h3, h4⟩ | ⟨g', c', cur, hv, hr⟩
    · omega
    · subst hv
      exact hK g' c' w' ⟨h1, Or.inr ⟨g', c', cur, rfl, hr⟩⟩ hb
theorem own_lit {w : World} {B b n : Nat} {e : TypeId} {vs : List Value} (h : w.heap[b]? = some (.cells vs.toArray e (0, 0))) (hn : vs.length = n) (hB : B ≤ b) (hm : n ≤ 100000) : w.ownsRow B e 1 (.slice (some ⟨b, 0, none⟩) n n) n vs :=
  ⟨by omega, Or.inr ⟨b, n, vs.toArray, rfl, hB, h, Nat.le_refl _, by unfold maxLen; omega, by simpa using hn, by simp [← hn]⟩⟩
end Go.Proofs.YtoofbjpekdlfiaaDoor
