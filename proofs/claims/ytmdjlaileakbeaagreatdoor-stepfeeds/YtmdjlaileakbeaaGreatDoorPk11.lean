/- Contracts of the program's functions, part 11 of 19: what each call returns and leaves of memory. -/
import Derived.Test.YtmdjlaileakbeaaGreatDoorPk10
import Derived.Test.YtmdjlaileakbeaaGreatDoorPk9
import Derived.Test.YtmdjlaileakbeaaGreatDoorPk6
/- Package pass: Full: how much a model likes each token behind a row of them, from the beginning. -/
namespace Go.Proofs.YtmdjlaileakbeaaGreatDoor
open Go.ChangeShapes Go.WideShapes Go.ChangeAt Go.RowKit
/-- The first rows of tokens; what l layers make of them. -/
def begL (E : List Int) (D : Nat) (A : List Int) : List (List Int) := (List.range A.length).map fun t => begR E D (el A t).toNat t
def rowsL (M : Mdl) (D H Hd : Nat) (A : List Int) : Nat → List (List Int)
  | 0 => begL M.E D A
  | l + 1 => madeR (layAt M l) D H Hd (rowsL M D H Hd A l)
def fullK (M : Mdl) (D H Hd L : Nat) (A : List Int) : List (List (List Int)) := (List.range L).map fun l => keysR (layAt M l) D (rowsL M D H Hd A l)
def fullV (M : Mdl) (D H Hd L : Nat) (A : List Int) : List (List (List Int)) := (List.range L).map fun l => valsR (layAt M l) D (rowsL M D H Hd A l)
def fullX (M : Mdl) (V D H Hd L : Nat) (A : List Int) : List Int := likR M V D (rowOf (rowsL M D H Hd A L) (A.length - 1))
theorem rowsL_len (M : Mdl) (D H Hd : Nat) (A : List Int) : ∀ l, (rowsL M D H Hd A l).length = A.length
  | 0 => by show (begL M.E D A).length = _; unfold begL; simp
  | l + 1 => by show (madeR _ _ _ _ (rowsL M D H Hd A l)).length = _; unfold madeR; simp [rowsL_len M D H Hd A l]
theorem rowsL_row (M : Mdl) (D H Hd : Nat) (A : List Int) : ∀ l t, t < A.length → (rowOf (rowsL M D H Hd A l) t).length = D
  | 0, t, h => by
    show (rowOf (begL M.E D A) t).length = D
    unfold rowOf begL
    rw [List.getD_eq_getElem?_getD, List.getElem?_map, List.getElem?_range h]
    exact tab_len _ _
  | l + 1, t, h => by
    show (rowOf (madeR _ _ _ _ (rowsL M D H Hd A l)) t).length = D
    rw [madeR_at _ _ _ _ (by rw [rowsL_len]; exact h)]
    exact tab_len _ _
theorem begL_at (E : List Int) (D : Nat) {A : List Int} {t : Nat} (h : t < A.length) : rowOf (begL E D A) t = begR E D (el A t).toNat t := by
  unfold rowOf begL
  rw [List.getD_eq_getElem?_getD, List.getElem?_map, List.getElem?_range h]
  rfl
theorem fullK_at (M : Mdl) (D H Hd L : Nat) (A : List Int) {l : Nat} (h : l < L) : (fullK M D H Hd L A).getD l [] = keysR (layAt M l) D (rowsL M D H Hd A l) := by
  unfold fullK
  rw [List.getD_eq_getElem?_getD, List.getElem?_map, List.getElem?_range h]
  rfl
theorem fullV_at (M : Mdl) (D H Hd L : Nat) (A : List Int) {l : Nat} (h : l < L) : (fullV M D H Hd L A).getD l [] = valsR (layAt M l) D (rowsL M D H Hd A l) := by
  unfold fullV
  rw [List.getD_eq_getElem?_getD, List.getElem?_map, List.getElem?_range h]
  rfl
theorem Tryz.infoCa : (Tryz.prog.info? 33).map (·.size) = some 2 := by kernel_rfl
theorem load_ca {w : World} {g : Nat} {cs : Array Value} (h : Blk w g 33 cs) (hs : cs.size = 2) : (loadVar 33 ⟨g, 0, none⟩).run Tryz.prog w = .ok (.agg cs) w :=
  run_loadVar_row w g _ _ cs _ _ h Tryz.underlying33 rfl (by rw [hs]; exact Tryz.infoCa)
theorem results_mid {fn : Func} {p u v : Tmp} {ty : TypeId} (h : fn.results = #[.tmp u, .cell p ty, .tmp v]) (tmps : Array Value) (w : World) (g : Nat) (cs : Array Value)
    (hp : tmps.getD p undef = .pointer (some ⟨g, 0, none⟩)) (hl : (loadVar ty ⟨g, 0, none⟩).run Tryz.prog w = .ok (.agg cs) w) :
    (results fn tmps).run Tryz.prog w = .ok (.tuple #[tmps.getD u undef, .agg cs, tmps.getD v undef]) w := by
  have hp' : tmps[p]?.getD undef = .pointer (some ⟨g, 0, none⟩) := by simpa using hp
  simp [results, h, hp', asAddr, hl]
def offF (w : World) (gK gV gC b : Nat) : Prop := w.heap.size + 2 < b ∧ b ≠ gK ∧ b ≠ gV ∧ b ≠ gC
/-- Within Full: boxes, the cache, and its lists up to layer t. -/
structure FI (w wr : World) (cfg ws : Array Value) (gC gK gV L t : Nat) (A1 A2 : List (List (List Int))) : Prop where
  x0 : Blk wr w.heap.size 23 cfg
  x1 : Blk wr (w.heap.size + 1) 29 ws
  x2 : Blk wr (w.heap.size + 2) 33 #[.slice none 0 0, .slice none 0 0]
  xc : Blk wr gC 33 #[.slice (some ⟨gK, 0, none⟩) L L, .slice (some ⟨gV, 0, none⟩) L L]
  k : KV wr gK L t (offF w gK gV gC) A1 []
  v : KV wr gV L t (offF w gK gV gC) A2 []
  ne : w.heap.size + 2 < gK ∧ w.heap.size + 2 < gV ∧ w.heap.size + 2 < gC ∧ gK ≠ gV ∧ gK ≠ gC ∧ gV ≠ gC
  kp : Below w.heap.size w wr
theorem FI.below {w wr w' : World} {cfg ws : Array Value} {gC gK gV L t : Nat} {A1 A2 : List (List (List Int))} (h : FI w wr cfg ws gC gK gV L t A1 A2) (hb : Below wr.heap.size wr w') : FI w w' cfg ws gC gK gV L t A1 A2 :=
  ⟨h.x0.below hb, h.x1.below hb, h.x2.below hb, h.xc.below hb, h.k.below hb, h.v.below hb, h.ne, below_then h.kp hb⟩
theorem FI.next {w wr : World} {cfg ws : Array Value} {gC gK gV L t : Nat} {A1 A2 : List (List (List Int))} (h : FI w wr cfg ws gC gK gV L t A1 A2) (ht : t < L) {r1 r2 n : Nat} {vs1 vs2 : List Value} (hn : n ≤ 9223372036854775807) (N1 : Hangs (offF w gK gV gC) wr fun w => GridV w (some ⟨r1, 0, none⟩) n vs1 (A1.getD t [])) (N2 : Hangs (offF w gK gV gC) wr fun w => GridV w (some ⟨r2, 0, none⟩) n vs2 (A2.getD t [])) :
    FI w ((wr.setCell ⟨gK, t, none⟩ (.slice (some ⟨r1, 0, none⟩) n n)).setCell ⟨gV, t, none⟩ (.slice (some ⟨r2, 0, none⟩) n n)) cfg ws gC gK gV L (t + 1) A1 A2 := by
  obtain ⟨e1, e2, e3, e4, e5, e6⟩ := h.ne
  have pk : ¬ offF w gK gV gC gK := fun h => h.2.1 rfl
  have pv : ¬ offF w gK gV gC gV := fun h => h.2.2.1 rfl
  refine ⟨(h.x0.other (by show _ ≠ gK; omega) _).other (by show _ ≠ gV; omega) _, (h.x1.other (by show _ ≠ gK; omega) _).other (by show _ ≠ gV; omega) _, (h.x2.other (by show _ ≠ gK; omega) _).other (by show _ ≠ gV; omega) _, (h.xc.other (by show _ ≠ gK; omega) _).other (by show _ ≠ gV; omega) _, ?_, ?_, h.ne, ?_⟩
  · exact (h.k.step ht pk (fun h => by cases h) (Nat.le_refl _) hn N1).far (by show gV ≠ gK; omega) pv _
  · exact (h.v.far (by show gK ≠ gV; omega) pk _).step ht pv (fun h => by cases h) (Nat.le_refl _) hn (N2.set pk _)
  · exact (h.kp.setCell (p := ⟨gK, t, none⟩) (by show w.heap.size ≤ gK; omega) _).setCell (p := ⟨gV, t, none⟩) (by show w.heap.size ≤ gV; omega) _
theorem Hangs.setRowFar {p : Nat → Prop} {w : World} {Φ : World → Prop} (h : Hangs p w Φ) {g : Nat} (hg : ¬ p g) (cs : Array Value) : Hangs p (w.setRow g cs) Φ := h.row hg cs
set_option maxRecDepth 100000 in
set_option maxHeartbeats 1600000 in
theorem full_bad (V D Hd H L : Nat) (W : Wt) (bs : List Bk) (M : Mdl) (ao : Option Addr) (n ca : Nat) (A : List Int) (w : World) (hG : Good w V D Hd H L W bs M) (hA : IArg w ao n ca A) (hq : promptN V A ≠ 0) :
   Calls Tryz.prog 26 #[.agg (cfgC V D Hd H L), .agg W.cells, .slice ao n ca] w fun e w' => e = .returned (.tuple #[.slice none 0 0, .agg #[.slice none 0 0, .slice none 0 0], .int .i64 (promptN V A)]) ∧ Below w.heap.size w w' := by
  obtain ⟨q1, q2, q3, q4, q5, q6, q7, q8, q9, q10⟩ := shape_ok hG.shape
  have CK := fun (wv : World) (hb : Below w.heap.size w wv) => check_good (hG.below hb)
  have CP := fun (wv : World) (hb : Below w.heap.size w wv) => prompt_any V D Hd H L ao n ca A wv (hA.below hb)
  have siz : W.cells.size = 8 := rfl
  have hq' : (promptN V A == 0) = false := by simpa using hq
  generalize promptN V A = q at *
  generalize hws : W.cells = ws at *
  unfold cfgC at CK CP ⊢
  have X0 := blk_new w 23 #[.int .i64 (V : Int), .int .i64 (D : Int), .int .i64 (Hd : Int), .int .i64 (H : Int), .int .i64 (L : Int)]
  have B0 : Below w.heap.size w (w.alloc (.cells #[.int .i64 (V : Int), .int .i64 (D : Int), .int .i64 (Hd : Int), .int .i64 (H : Int), .int .i64 (L : Int)] 23)) := (Below.refl _ _).alloc (Nat.le_refl _) _
  have s0 : (w.alloc (.cells #[.int .i64 (V : Int), .int .i64 (D : Int), .int .i64 (Hd : Int), .int .i64 (H : Int), .int .i64 (L : Int)] 23)).heap.size = w.heap.size + 1 := by simp
  generalize hw0 : w.alloc (.cells #[.int .i64 (V : Int), .int .i64 (D : Int), .int .i64 (Hd : Int), .int .i64 (H : Int), .int .i64 (L : Int)] 23) = w0 at *
  have X1 := blk_new w0 29 ws
  have B1 : Below w0.heap.size w0 (w0.alloc (.cells ws 29)) := (Below.refl _ _).alloc (Nat.le_refl _) _
  have s1 : (w0.alloc (.cells ws 29)).heap.size = w0.heap.size + 1 := by simp
  rw [s0] at X1 s1
  generalize hw1 : w0.alloc (.cells ws 29) = w1 at *
  have X2 := blk_new w1 33 #[.slice none 0 0, .slice none 0 0]
  have B2 : Below w1.heap.size w1 (w1.alloc (.cells #[.slice none 0 0, .slice none 0 0] 33)) := (Below.refl _ _).alloc (Nat.le_refl _) _
  have s2 : (w1.alloc (.cells #[.slice none 0 0, .slice none 0 0] 33)).heap.size = w1.heap.size + 1 := by simp
  rw [s1] at X2 s2
  generalize hw2 : w1.alloc (.cells #[.slice none 0 0, .slice none 0 0] 33) = w2 at *
  replace X0 := (X0.below B1).below B2
  replace X1 := X1.below B2
  replace B2 := below_then (below_then B0 B1) B2
  have a0 : w2.cell? ⟨w.heap.size, 0, none⟩ = some (.int .i64 (V : Int)) := X0.cell 0 rfl
  have a1 : w2.cell? ⟨w.heap.size, 1, none⟩ = some (.int .i64 (D : Int)) := X0.cell 1 rfl
  have a2 : w2.cell? ⟨w.heap.size, 2, none⟩ = some (.int .i64 (Hd : Int)) := X0.cell 2 rfl
  have a3 : w2.cell? ⟨w.heap.size, 3, none⟩ = some (.int .i64 (H : Int)) := X0.cell 3 rfl
  have a4 : w2.cell? ⟨w.heap.size, 4, none⟩ = some (.int .i64 (L : Int)) := X0.cell 4 rfl
  go_enter Tryz.func26, Tryz.ntmps26
  go_wp2_with (refine wpList_load_row rfl 29 _ rfl (w.heap.size + 1) rfl 29 ws (0, 0) _ X1 Tryz.underlying29 rfl (by rw [siz]; exact Tryz.infoW) ?_)
  refine (CK _ B2).mono ?_
  rintro e w3 ⟨rfl, B3⟩
  replace X0 := X0.below B3
  replace X1 := X1.below B3
  replace X2 := X2.below B3
  have D3 := below_then B2 B3
  clear a0 a1 a2 a3 a4 hw0 hw1 hw2 B0 B1 B2 B3 CK
  have a0 : w3.cell? ⟨w.heap.size, 0, none⟩ = some (.int .i64 (V : Int)) := X0.cell 0 rfl
  have a1 : w3.cell? ⟨w.heap.size, 1, none⟩ = some (.int .i64 (D : Int)) := X0.cell 1 rfl
  have a2 : w3.cell? ⟨w.heap.size, 2, none⟩ = some (.int .i64 (Hd : Int)) := X0.cell 2 rfl
  have a3 : w3.cell? ⟨w.heap.size, 3, none⟩ = some (.int .i64 (H : Int)) := X0.cell 3 rfl
  have a4 : w3.cell? ⟨w.heap.size, 4, none⟩ = some (.int .i64 (L : Int)) := X0.cell 4 rfl
  go_wp2_with fail
  refine (CP _ D3).mono ?_
  rintro e w4 ⟨rfl, B4⟩
  replace X0 := X0.below B4
  replace X1 := X1.below B4
  replace X2 := X2.below B4
  have D4 := below_then D3 B4
  clear a0 a1 a2 a3 a4 B4 D3 CP s0 s1 s2
  have hall : Array.all (#[.slice none 0 0, .slice none 0 0] : Array Value) (fun v => v.oneCell') = true := by simp [Value.oneCell']
  go_wp2_with (refine wpList_store_row rfl 33 _ _ rfl (w.heap.size + 1 + 1) #[.slice none 0 0, .slice none 0 0] rfl rfl 33 _ X2 Tryz.infoCa rfl hall ?_)
  refine bodyPost_ret (results_mid rfl _ _ (w.heap.size + 1 + 1) _ rfl (load_ca (X2.row _) rfl)) rfl ?_
  exact ⟨rfl, below_setRow D4 (by omega) _⟩
set_option maxRecDepth 100000 in
set_option maxHeartbeats 1600000 in
theorem full_ok (V D Hd H L : Nat) (W : Wt) (bs : List Bk) (M : Mdl) (ao : Option Addr) (n ca : Nat) (A : List Int) (w : World) (hG : Good w V D Hd H L W bs M) (hA : IArg w ao n ca A) (hT : Tab w) (hq : promptN V A = 0) :
   Calls Tryz.prog 26 #[.agg (cfgC V D Hd H L), .agg W.cells, .slice ao n ca] w fun e w' => ∃ g gK gV, e = .returned (.tuple #[.slice (some ⟨g, 0, none⟩) V V, .agg #[.slice (some ⟨gK, 0, none⟩) L L, .slice (some ⟨gV, 0, none⟩) L L], .int .i64 0]) ∧ Fresh w' w.heap.size g V V (fullX M V D H Hd L A) ∧ New w.heap.size w' (fun w => CubeAt w (some ⟨gK, 0, none⟩) L (fullK M D H Hd L A)) ∧ New w.heap.size w' (fun w => CubeAt w (some ⟨gV, 0, none⟩) L (fullV M D H Hd L A)) ∧ Below w.heap.size w w' := by
  obtain ⟨q1, q2, q3, q4, q5, q6, q7, q8, q9, q10⟩ := shape_ok hG.shape
  have CK := fun (wv : World) (hb : Below w.heap.size w wv) => check_good (hG.below hb)
  have CP := fun (wv : World) (hb : Below w.heap.size w wv) => prompt_any V D Hd H L ao n ca A wv (hA.below hb)
  have siz : W.cells.size = 8 := rfl
  obtain ⟨p1, p2, p3⟩ := prompt_ok hq
  rw [hq] at CP
  have hl := hA.row.len
  have HT : Hid (∀ wv, Below w.heap.size w wv → Tab wv) := fun wv hb => hT.next hb
  have HG : Hid (∀ wv, Below w.heap.size w wv → Good wv V D Hd H L W bs M) := fun wv hb => hG.below hb
  have HA : Hid (∀ wv, Below w.heap.size w wv → IRowAt wv ao n A) := fun wv hb => hA.row.below hb
  have HK : Hid (∀ k, k < A.length → 0 ≤ el A k ∧ el A k < V) := fun k hk => by have := all_el hk p3; unfold tokB at this; simpa using this
  have HLN : Hid (A.length = n) := hl
  have CB := fun (wv : World) (hb : Below w.heap.size w wv) (tok at' : Nat) (h1 : tok < V) (h2 : at' ≤ 4096) => begin_any V D H W bs M tok at' wv (hG.wt.below hb) h1 h2
  have CL := fun (wv : World) (hb : Below w.heap.size w wv) (xo : Option Addr) (cx : Nat) (Xr : List Int) (hX : RowAt wv xo D Xr) => likes_any V D H W bs M xo cx Xr wv (hG.wt.below hb) hX (by omega) (by omega)
  have blen := hG.wt.b.len
  have hbl := hG.len
  have hmod := shape_mod hG.shape
  clear hT hG hA
  have LF : Hid ((fullK M D H Hd L A).length = L ∧ (fullV M D H Hd L A).length = L) := ⟨by unfold fullK; simp, by unfold fullV; simp⟩
  obtain ⟨we, ⟨ba, bn, bz⟩, wl, wo⟩ := W
  simp only at blen
  have hbn : L = bn := by rw [← hbl, blen]
  subst hbn
  have wb : (Wt.cells ⟨we, ⟨ba, L, bz⟩, wl, wo⟩)[3]? = some (.slice ba L bz) := rfl
  generalize hws : Wt.cells ⟨we, ⟨ba, L, bz⟩, wl, wo⟩ = ws at *
  unfold cfgC at CK CP ⊢
  have X0 := blk_new w 23 #[.int .i64 (V : Int), .int .i64 (D : Int), .int .i64 (Hd : Int), .int .i64 (H : Int), .int .i64 (L : Int)]
  have B0 : Below w.heap.size w (w.alloc (.cells #[.int .i64 (V : Int), .int .i64 (D : Int), .int .i64 (Hd : Int), .int .i64 (H : Int), .int .i64 (L : Int)] 23)) := (Below.refl _ _).alloc (Nat.le_refl _) _
  have s0 : (w.alloc (.cells #[.int .i64 (V : Int), .int .i64 (D : Int), .int .i64 (Hd : Int), .int .i64 (H : Int), .int .i64 (L : Int)] 23)).heap.size = w.heap.size + 1 := by simp
  generalize hw0 : w.alloc (.cells #[.int .i64 (V : Int), .int .i64 (D : Int), .int .i64 (Hd : Int), .int .i64 (H : Int), .int .i64 (L : Int)] 23) = w0 at *
  have X1 := blk_new w0 29 ws
  have B1 : Below w0.heap.size w0 (w0.alloc (.cells ws 29)) := (Below.refl _ _).alloc (Nat.le_refl _) _
  have s1 : (w0.alloc (.cells ws 29)).heap.size = w0.heap.size + 1 := by simp
  rw [s0] at X1 s1
  generalize hw1 : w0.alloc (.cells ws 29) = w1 at *
  have X2 := blk_new w1 33 #[.slice none 0 0, .slice none 0 0]
  have B2 : Below w1.heap.size w1 (w1.alloc (.cells #[.slice none 0 0, .slice none 0 0] 33)) := (Below.refl _ _).alloc (Nat.le_refl _) _
  have s2 : (w1.alloc (.cells #[.slice none 0 0, .slice none 0 0] 33)).heap.size = w1.heap.size + 1 := by simp
  rw [s1] at X2 s2
  generalize hw2 : w1.alloc (.cells #[.slice none 0 0, .slice none 0 0] 33) = w2 at *
  replace X0 := (X0.below B1).below B2
  replace X1 := X1.below B2
  replace B2 := below_then (below_then B0 B1) B2
  have a0 : w2.cell? ⟨w.heap.size, 0, none⟩ = some (.int .i64 (V : Int)) := X0.cell 0 rfl
  have a1 : w2.cell? ⟨w.heap.size, 1, none⟩ = some (.int .i64 (D : Int)) := X0.cell 1 rfl
  have a2 : w2.cell? ⟨w.heap.size, 2, none⟩ = some (.int .i64 (Hd : Int)) := X0.cell 2 rfl
  have a3 : w2.cell? ⟨w.heap.size, 3, none⟩ = some (.int .i64 (H : Int)) := X0.cell 3 rfl
  have a4 : w2.cell? ⟨w.heap.size, 4, none⟩ = some (.int .i64 (L : Int)) := X0.cell 4 rfl
  go_enter Tryz.func26, Tryz.ntmps26
  go_wp2_with (refine wpList_load_row rfl 29 _ rfl (w.heap.size + 1) rfl 29 ws (0, 0) _ X1 Tryz.underlying29 rfl (by rw [siz]; exact Tryz.infoW) ?_)
  refine (CK _ B2).mono ?_
  rintro e w3 ⟨rfl, B3⟩
  replace X0 := X0.below B3
  replace X1 := X1.below B3
  replace X2 := X2.below B3
  have D3 := below_then B2 B3
  clear a0 a1 a2 a3 a4 hw0 hw1 hw2 B0 B1 B2 B3 CK
  have a0 : w3.cell? ⟨w.heap.size, 0, none⟩ = some (.int .i64 (V : Int)) := X0.cell 0 rfl
  have a1 : w3.cell? ⟨w.heap.size, 1, none⟩ = some (.int .i64 (D : Int)) := X0.cell 1 rfl
  have a2 : w3.cell? ⟨w.heap.size, 2, none⟩ = some (.int .i64 (Hd : Int)) := X0.cell 2 rfl
  have a3 : w3.cell? ⟨w.heap.size, 3, none⟩ = some (.int .i64 (H : Int)) := X0.cell 3 rfl
  have a4 : w3.cell? ⟨w.heap.size, 4, none⟩ = some (.int .i64 (L : Int)) := X0.cell 4 rfl
  go_wp2_with fail
  refine (CP _ D3).mono ?_
  rintro e w4 ⟨rfl, B4⟩
  replace X0 := X0.below B4
  replace X1 := X1.below B4
  replace X2 := X2.below B4
  have D4 := below_then D3 B4
  clear a0 a1 a2 a3 a4 B4 D3 CP s0 s1 s2
  have hmk := run_make_row' (P := Tryz.prog) 77 24 (.slice none 0 0) 24 Tryz.underlying77 Tryz.infoRow rfl .i64 .i64 n (by omega) (by omega)
  have hmk2 := run_make_row' (P := Tryz.prog) 31 77 (.slice none 0 0) 24 Tryz.underlying31 Tryz.infoList rfl .i64 .i64 L (by omega) (by omega)
  have F0 := fillTo_made w4 n (begL M.E D A)
  have B5 : Below w4.heap.size w4 (w4.alloc (.cells (madeCells #[.slice none 0 0] n) 24)) := (Below.refl _ _).alloc (Nat.le_refl _) _
  generalize hw5 : w4.alloc (.cells (madeCells #[.slice none 0 0] n) 24) = w5 at *
  have z4 := X2.lt
  replace X0 := X0.below B5
  replace X1 := X1.below B5
  replace X2 := X2.below B5
  have D5 := below_then D4 B5
  go_wp2_with fail
  clear hw5
  go_loopg [36] n (fun r i wr => ∃ k : Nat, k ≤ n ∧ r = n - k ∧ i = .int .i64 k ∧ FillTo wr w4.heap.size n k (begL M.E D A) ∧ Blk wr w.heap.size 23 #[.int .i64 (V : Int), .int .i64 (D : Int), .int .i64 (Hd : Int), .int .i64 (H : Int), .int .i64 (L : Int)] ∧ Blk wr (w.heap.size + 1) 29 ws ∧ Blk wr (w.heap.size + 2) 33 #[.slice none 0 0, .slice none 0 0] ∧ Below w.heap.size w wr)
  case atStart => exact ⟨0, by omega, by omega, rfl, F0, X0, X1, X2, D5⟩
  case round =>
    obtain ⟨k, hk, rfl, rfl, F1, Y0, Y1, Y2, KP⟩ := hrel
    clear F0 X0 X1 X2 D5 B5
    by_cases hlt : k < n
    · obtain ⟨b, o, rfl, hc⟩ := (HA.out wr KP).cells (by omega)
      have ck := hc k hlt
      clear hc
      obtain ⟨t1, t2⟩ := HK.out k (by omega)
      have HBG : Hid (rowOf (begL M.E D A) k = begR M.E D (el A k).toNat k) := begL_at M.E D (by omega)
      obtain ⟨tk, htk⟩ : ∃ tk : Nat, el A k = tk := ⟨(el A k).toNat, by omega⟩
      rw [htk] at ck t2 HBG
      rw [Int.toNat_natCast] at HBG
      clear htk t1
      have CC := CB wr KP tk k (by omega) (by omega)
      have X1 := Y1
      go_wp2_with (refine wpList_load_row rfl 29 _ rfl (w.heap.size + 1) rfl 29 ws (0, 0) _ X1 Tryz.underlying29 rfl (by rw [siz]; exact Tryz.infoW) ?_)
      refine CC.mono ?_
      rintro e w7 ⟨g, cap, rfl, F7, B7⟩
      have sF := F1.lt
      have F2 := F1.below B7
      have N7 : New (w4.heap.size + 1) w7 fun w => Arg w (some ⟨g, 0, none⟩) D cap (rowOf (begL M.E D A) k) := by
        rw [HBG.out]
        exact (F7.new.mono (by omega)).imp fun _ h => h.arg
      have F3 := F2.step hlt N7
      have ff := F2.frozen k
      obtain ⟨v, hv⟩ := F2.cell hlt
      have KQ := below_then KP B7
      replace Y0 := Y0.below B7
      replace Y1 := Y1.below B7
      replace Y2 := Y2.below B7
      clear N7 F1 X1 CC ck
      go_wp2
      go_roundg (n - (k + 1))
      case measure => omega
      case rel => exact ⟨k + 1, by omega, rfl, by go_num, F3, Y0.other (by show _ ≠ w4.heap.size; omega) _, Y1.other (by show _ ≠ w4.heap.size; omega) _, Y2.other (by show _ ≠ w4.heap.size; omega) _, KQ.setCell (p := ⟨w4.heap.size, k, none⟩) (by show w.heap.size ≤ w4.heap.size; omega) _⟩
    · obtain rfl : k = n := by omega
      obtain ⟨vs0, N0⟩ := F1.grid (by unfold begL; simp [HLN.out]) (by omega) (Nat.le_refl w4.heap.size)
      have G0 : Hangs (fun b => b < wr.heap.size) wr (fun w => GridAt w (some ⟨w4.heap.size, 0, none⟩) k (rowsL M D H Hd A 0)) := (Hangs.mono N0 fun b hb _ => hb).imp fun _ h => h.grid
      have y2 := Y2.lt
      clear F1 N0 CB hmk
      have XX0 := Y0
      go_upto_region 13 with fail
      go_cut [14] from 49 (fun s14 wc => ∃ gC gK gV, s14 = .pointer (some ⟨gC, 0, none⟩) ∧ GridAt wc (some ⟨w4.heap.size, 0, none⟩) k (rowsL M D H Hd A 0) ∧ FI w wc #[.int .i64 (V : Int), .int .i64 (D : Int), .int .i64 (Hd : Int), .int .i64 (H : Int), .int .i64 (L : Int)] ws gC gK gV L 0 (fullK M D H Hd L A) (fullV M D H Hd L A))
      case first =>
        clear XX0
        replace Y0 := Y0.below ((Below.refl _ _).drew)
        replace Y1 := Y1.below ((Below.refl _ _).drew)
        replace Y2 := Y2.below ((Below.refl _ _).drew)
        replace KP := KP.drew
        replace G0 := G0.below ((Below.refl _ _).drew)
        have HKV := fun (wv : World) (p : Nat → Prop) => kv_made wv L p (fullK M D H Hd L A) [] rfl
        have HVV := fun (wv : World) (p : Nat → Prop) => kv_made wv L p (fullV M D H Hd L A) [] rfl
        refine wp_region_held_drew (S := fun w' => Blk w' (w.heap.size + 1) 29 ws) (by kernel_rfl) (Y1) (fun hHeld => ?_)
        have zA : wr.heap.size ≤ wr.drew.heap.size := Nat.le_refl _
        generalize hA : wr.drew = wA at *
        clear hA
        refine wpAnyH_take (i := 0) (v := (.pointer (some ⟨w.heap.size + 1, 3, none⟩))) rfl (by kernel_rfl) (by kernel_rfl) (by kernel_rfl) (fun _ _ _ h => h) (Or.inl ⟨by rfl, ?_⟩) (by assumption) ?_
        · intro w' hSw
          go_simp
        simp only [List.getElem_toArray, List.getElem_cons_zero, Act.put, List.setIfInBounds_toArray, List.set_cons_zero, List.set_cons_succ]
        refine wpAnyH_take (i := 1) (v := (.slice ba L bz)) rfl (by kernel_rfl) (by kernel_rfl) (by kernel_rfl) (fun _ _ _ h => h) (Or.inl ⟨by rfl, ?_⟩) (by assumption) ?_
        · intro w' hSw
          have c3 : w'.cell? ⟨w.heap.size + 1, 3, none⟩ = some (.slice ba L bz) := hSw.cell 3 wb
          go_simp
        simp only [List.getElem_toArray, List.getElem_cons_succ, List.getElem_cons_zero, Act.put, List.setIfInBounds_toArray, List.set_cons_zero, List.set_cons_succ]
        refine wpAnyH_take (i := 2) (v := (.int .i64 (L : Int))) rfl (by kernel_rfl) (by kernel_rfl) (by kernel_rfl) (fun _ _ _ h => h) (Or.inl ⟨by rfl, ?_⟩) (by assumption) ?_
        · intro w' hSw
          go_simp
        simp only [List.getElem_toArray, List.getElem_cons_succ, List.getElem_cons_zero, Act.put, List.setIfInBounds_toArray, List.set_cons_zero, List.set_cons_succ]
        refine wpAnyH_take (i := 4) (v := (.pointer (some ⟨w.heap.size + 1, 3, none⟩))) rfl (by kernel_rfl) (by kernel_rfl) (by kernel_rfl) (fun _ _ _ h => h) (Or.inl ⟨by rfl, ?_⟩) (by assumption) ?_
        · intro w' hSw
          go_simp
        simp only [List.getElem_toArray, List.getElem_cons_succ, List.getElem_cons_zero, Act.put, List.setIfInBounds_toArray, List.set_cons_zero, List.set_cons_succ]
        refine wpAnyH_take (i := 5) (v := (.slice ba L bz)) rfl (by kernel_rfl) (by kernel_rfl) (by kernel_rfl) (fun _ _ _ h => h) (Or.inl ⟨by rfl, ?_⟩) (by assumption) ?_
        · intro w' hSw
          have c3 : w'.cell? ⟨w.heap.size + 1, 3, none⟩ = some (.slice ba L bz) := hSw.cell 3 wb
          go_simp
        simp only [List.getElem_toArray, List.getElem_cons_succ, List.getElem_cons_zero, Act.put, List.setIfInBounds_toArray, List.set_cons_zero, List.set_cons_succ]
        refine wpAnyH_take (i := 6) (v := (.int .i64 (L : Int))) rfl (by kernel_rfl) (by kernel_rfl) (by kernel_rfl) (fun _ _ _ h => h) (Or.inl ⟨by rfl, ?_⟩) (by assumption) ?_
        · intro w' hSw
          go_simp
        simp only [List.getElem_toArray, List.getElem_cons_succ, List.getElem_cons_zero, Act.put, List.setIfInBounds_toArray, List.set_cons_zero, List.set_cons_succ]
        refine wpAnyH_ready (rs := [3, 7, 9]) (by kernel_rfl) (by simp) ?_
        refine AllReadyH.cons rfl (fun Kc hKc => ?_) (AllReadyH.cons rfl (fun Kc hKc => ?_) (AllReadyH.cons rfl (fun Kc hKc => ?_) AllReadyH.nil))
        · simp only [List.getElem_toArray, List.getElem_cons_succ, List.getElem_cons_zero]
          rw [if_pos (by rfl)]
          go_wp2_with fail
          have NK := HKV wA
          have EM1 : Below wA.heap.size wA (wA.alloc (.cells (madeCells #[.slice none 0 0] L) 77)) := (Below.refl _ _).alloc (Nat.le_refl _) _
          have zwM1 : wA.heap.size < (wA.alloc (.cells (madeCells #[.slice none 0 0] L) 77)).heap.size := by simp
          generalize hn1 : wA.alloc (.cells (madeCells #[.slice none 0 0] L) 77) = wM1 at *
          replace Y0 := Y0.below EM1
          replace Y1 := Y1.below EM1
          replace Y2 := Y2.below EM1
          replace KP := below_then KP EM1
          replace G0 := G0.below EM1
          refine hKc.out _ _ Y1 (fun hHeld => ?_)
          clear hKc Kc hn1
          refine wpAnyH_ready (rs := [7, 9]) (by kernel_rfl) (by simp) ?_
          refine AllReadyH.cons rfl (fun Kc hKc => ?_) (AllReadyH.cons rfl (fun Kc hKc => ?_) AllReadyH.nil)
          · simp only [List.getElem_toArray, List.getElem_cons_succ, List.getElem_cons_zero]
            rw [if_pos (by rfl)]
            go_wp2_with fail
            have NV := HVV wM1
            have EM2 : Below wM1.heap.size wM1 (wM1.alloc (.cells (madeCells #[.slice none 0 0] L) 77)) := (Below.refl _ _).alloc (Nat.le_refl _) _
            have zwM2 : wM1.heap.size < (wM1.alloc (.cells (madeCells #[.slice none 0 0] L) 77)).heap.size := by simp
            generalize hn2 : wM1.alloc (.cells (madeCells #[.slice none 0 0] L) 77) = wM2 at *
            replace Y0 := Y0.below EM2
            replace Y1 := Y1.below EM2
            replace Y2 := Y2.below EM2
            replace KP := below_then KP EM2
            replace G0 := G0.below EM2
            replace NK := fun p => (NK p).below EM2
            refine hKc.out _ _ Y1 (fun hHeld => ?_)
            clear hKc Kc hn2
            refine wpAnyH_take (i := 8) (v := (.agg #[.slice (some ⟨wA.heap.size, 0, none⟩) L L, .slice (some ⟨wM1.heap.size, 0, none⟩) L L])) rfl (by kernel_rfl) (by kernel_rfl) (by kernel_rfl) (fun _ _ _ h => h) (Or.inl ⟨by rfl, ?_⟩) (by assumption) ?_
            · intro w' hSw
              go_simp
            simp only [List.getElem_toArray, List.getElem_cons_succ, List.getElem_cons_zero, Act.put, List.setIfInBounds_toArray, List.set_cons_zero, List.set_cons_succ]
            refine wpAnyH_ready (rs := [9]) (by kernel_rfl) (by simp) ?_
            refine AllReadyH.cons rfl (fun Kc hKc => ?_) AllReadyH.nil
            simp only [List.getElem_toArray, List.getElem_cons_succ, List.getElem_cons_zero]
            rw [if_pos (by rfl)]
            go_wp2_with fail
            have XC := blk_new wM2 33 #[.slice none 0 0, .slice none 0 0]
            have EM3 : Below wM2.heap.size wM2 (wM2.alloc (.cells #[.slice none 0 0, .slice none 0 0] 33)) := (Below.refl _ _).alloc (Nat.le_refl _) _
            have zwM3 : wM2.heap.size < (wM2.alloc (.cells #[.slice none 0 0, .slice none 0 0] 33)).heap.size := by simp
            generalize hn3 : wM2.alloc (.cells #[.slice none 0 0, .slice none 0 0] 33) = wM3 at *
            replace Y0 := Y0.below EM3
            replace Y1 := Y1.below EM3
            replace Y2 := Y2.below EM3
            replace KP := below_then KP EM3
            replace G0 := G0.below EM3
            replace NK := fun p => (NK p).below EM3
            replace NV := fun p => (NV p).below EM3
            refine hKc.out _ _ Y1 (fun hHeld => ?_)
            clear hKc Kc hn3
            refine wpAnyH_ready (rs := [10]) (by kernel_rfl) (by simp) ?_
            refine AllReadyH.cons rfl (fun Kc hKc => ?_) AllReadyH.nil
            simp only [List.getElem_toArray, List.getElem_cons_succ, List.getElem_cons_zero]
            rw [if_pos (by rfl)]
            have hall : Array.all (#[.slice (some ⟨wA.heap.size, 0, none⟩) L L, .slice (some ⟨wM1.heap.size, 0, none⟩) L L] : Array Value) (fun v => v.oneCell') = true := by simp [Value.oneCell']
            refine wp_store_row 33 _ _ rfl (wM2.heap.size) #[.slice (some ⟨wA.heap.size, 0, none⟩) L L, .slice (some ⟨wM1.heap.size, 0, none⟩) L L] rfl rfl 33 _ XC Tryz.infoCa rfl hall ?_
            have so : ∀ b, b ≠ wM2.heap.size → (wM3.setRow (wM2.heap.size) #[.slice (some ⟨wA.heap.size, 0, none⟩) L L, .slice (some ⟨wM1.heap.size, 0, none⟩) L L]).heap[b]? = wM3.heap[b]? := fun b hb => setRow_other _ _ _ _ hb
            have y0 := Y0.lt
            refine hKc.out _ _ (Blk.of_block Y1 (so _ (by omega))) (fun hHeld => ?_)
            clear hKc Kc
            refine wpAnyH_done (by kernel_rfl) ?_ _
            go_wp2_with fail
            go_meet
            case rel =>
              refine ⟨wM2.heap.size, wA.heap.size, wM1.heap.size, rfl, ?_, ⟨Blk.of_block Y0 (so _ (by omega)), Blk.of_block Y1 (so _ (by omega)), Blk.of_block Y2 (so _ (by omega)), XC.row _, ?_, ?_, by omega, below_setRow KP (by omega) _⟩⟩
              · exact (G0.row (g := wM2.heap.size) (by show ¬ (_ < _); omega) _).now
              · exact (NK _).put (by omega) (fun h => h.2.2.2 rfl) _
              · exact (NV _).put (by omega) (fun h => h.2.2.2 rfl) _
          · simp only [List.getElem_toArray, List.getElem_cons_succ, List.getElem_cons_zero]
            rw [if_pos (by rfl)]
            go_wp2_with fail
            have XC := blk_new wM1 33 #[.slice none 0 0, .slice none 0 0]
            have EM2 : Below wM1.heap.size wM1 (wM1.alloc (.cells #[.slice none 0 0, .slice none 0 0] 33)) := (Below.refl _ _).alloc (Nat.le_refl _) _
            have zwM2 : wM1.heap.size < (wM1.alloc (.cells #[.slice none 0 0, .slice none 0 0] 33)).heap.size := by simp
            generalize hn2 : wM1.alloc (.cells #[.slice none 0 0, .slice none 0 0] 33) = wM2 at *
            replace Y0 := Y0.below EM2
            replace Y1 := Y1.below EM2
            replace Y2 := Y2.below EM2
            replace KP := below_then KP EM2
            replace G0 := G0.below EM2
            replace NK := fun p => (NK p).below EM2
            refine hKc.out _ _ Y1 (fun hHeld => ?_)
            clear hKc Kc hn2
            refine wpAnyH_ready (rs := [7]) (by kernel_rfl) (by simp) ?_
            refine AllReadyH.cons rfl (fun Kc hKc => ?_) AllReadyH.nil
            simp only [List.getElem_toArray, List.getElem_cons_succ, List.getElem_cons_zero]
            rw [if_pos (by rfl)]
            go_wp2_with fail
            have NV := HVV wM2
            have EM3 : Below wM2.heap.size wM2 (wM2.alloc (.cells (madeCells #[.slice none 0 0] L) 77)) := (Below.refl _ _).alloc (Nat.le_refl _) _
            have zwM3 : wM2.heap.size < (wM2.alloc (.cells (madeCells #[.slice none 0 0] L) 77)).heap.size := by simp
            generalize hn3 : wM2.alloc (.cells (madeCells #[.slice none 0 0] L) 77) = wM3 at *
            replace Y0 := Y0.below EM3
            replace Y1 := Y1.below EM3
            replace Y2 := Y2.below EM3
            replace KP := below_then KP EM3
            replace G0 := G0.below EM3
            replace NK := fun p => (NK p).below EM3
            replace XC := XC.below EM3
            refine hKc.out _ _ Y1 (fun hHeld => ?_)
            clear hKc Kc hn3
            refine wpAnyH_take (i := 8) (v := (.agg #[.slice (some ⟨wA.heap.size, 0, none⟩) L L, .slice (some ⟨wM2.heap.size, 0, none⟩) L L])) rfl (by kernel_rfl) (by kernel_rfl) (by kernel_rfl) (fun _ _ _ h => h) (Or.inl ⟨by rfl, ?_⟩) (by assumption) ?_
            · intro w' hSw
              go_simp
            simp only [List.getElem_toArray, List.getElem_cons_succ, List.getElem_cons_zero, Act.put, List.setIfInBounds_toArray, List.set_cons_zero, List.set_cons_succ]
            refine wpAnyH_ready (rs := [10]) (by kernel_rfl) (by simp) ?_
            refine AllReadyH.cons rfl (fun Kc hKc => ?_) AllReadyH.nil
            simp only [List.getElem_toArray, List.getElem_cons_succ, List.getElem_cons_zero]
            rw [if_pos (by rfl)]
            have hall : Array.all (#[.slice (some ⟨wA.heap.size, 0, none⟩) L L, .slice (some ⟨wM2.heap.size, 0, none⟩) L L] : Array Value) (fun v => v.oneCell') = true := by simp [Value.oneCell']
            refine wp_store_row 33 _ _ rfl (wM1.heap.size) #[.slice (some ⟨wA.heap.size, 0, none⟩) L L, .slice (some ⟨wM2.heap.size, 0, none⟩) L L] rfl rfl 33 _ XC Tryz.infoCa rfl hall ?_
            have so : ∀ b, b ≠ wM1.heap.size → (wM3.setRow (wM1.heap.size) #[.slice (some ⟨wA.heap.size, 0, none⟩) L L, .slice (some ⟨wM2.heap.size, 0, none⟩) L L]).heap[b]? = wM3.heap[b]? := fun b hb => setRow_other _ _ _ _ hb
            have y0 := Y0.lt
            refine hKc.out _ _ (Blk.of_block Y1 (so _ (by omega))) (fun hHeld => ?_)
            clear hKc Kc
            refine wpAnyH_done (by kernel_rfl) ?_ _
            go_wp2_with fail
            go_meet
            case rel =>
              refine ⟨wM1.heap.size, wA.heap.size, wM2.heap.size, rfl, ?_, ⟨Blk.of_block Y0 (so _ (by omega)), Blk.of_block Y1 (so _ (by omega)), Blk.of_block Y2 (so _ (by omega)), XC.row _, ?_, ?_, by omega, below_setRow KP (by omega) _⟩⟩
              · exact (G0.row (g := wM1.heap.size) (by show ¬ (_ < _); omega) _).now
              · exact (NK _).put (by omega) (fun h => h.2.2.2 rfl) _
              · exact (NV _).put (by omega) (fun h => h.2.2.2 rfl) _
        · simp only [List.getElem_toArray, List.getElem_cons_succ, List.getElem_cons_zero]
          rw [if_pos (by rfl)]
          go_wp2_with fail
          have NV := HVV wA
          have EM1 : Below wA.heap.size wA (wA.alloc (.cells (madeCells #[.slice none 0 0] L) 77)) := (Below.refl _ _).alloc (Nat.le_refl _) _
          have zwM1 : wA.heap.size < (wA.alloc (.cells (madeCells #[.slice none 0 0] L) 77)).heap.size := by simp
          generalize hn1 : wA.alloc (.cells (madeCells #[.slice none 0 0] L) 77) = wM1 at *
          replace Y0 := Y0.below EM1
          replace Y1 := Y1.below EM1
          replace Y2 := Y2.below EM1
          replace KP := below_then KP EM1
          replace G0 := G0.below EM1
          refine hKc.out _ _ Y1 (fun hHeld => ?_)
          clear hKc Kc hn1
          refine wpAnyH_ready (rs := [3, 9]) (by kernel_rfl) (by simp) ?_
          refine AllReadyH.cons rfl (fun Kc hKc => ?_) (AllReadyH.cons rfl (fun Kc hKc => ?_) AllReadyH.nil)
          · simp only [List.getElem_toArray, List.getElem_cons_succ, List.getElem_cons_zero]
            rw [if_pos (by rfl)]
            go_wp2_with fail
            have NK := HKV wM1
            have EM2 : Below wM1.heap.size wM1 (wM1.alloc (.cells (madeCells #[.slice none 0 0] L) 77)) := (Below.refl _ _).alloc (Nat.le_refl _) _
            have zwM2 : wM1.heap.size < (wM1.alloc (.cells (madeCells #[.slice none 0 0] L) 77)).heap.size := by simp
            generalize hn2 : wM1.alloc (.cells (madeCells #[.slice none 0 0] L) 77) = wM2 at *
            replace Y0 := Y0.below EM2
            replace Y1 := Y1.below EM2
            replace Y2 := Y2.below EM2
            replace KP := below_then KP EM2
            replace G0 := G0.below EM2
            replace NV := fun p => (NV p).below EM2
            refine hKc.out _ _ Y1 (fun hHeld => ?_)
            clear hKc Kc hn2
            refine wpAnyH_take (i := 8) (v := (.agg #[.slice (some ⟨wM1.heap.size, 0, none⟩) L L, .slice (some ⟨wA.heap.size, 0, none⟩) L L])) rfl (by kernel_rfl) (by kernel_rfl) (by kernel_rfl) (fun _ _ _ h => h) (Or.inl ⟨by rfl, ?_⟩) (by assumption) ?_
            · intro w' hSw
              go_simp
            simp only [List.getElem_toArray, List.getElem_cons_succ, List.getElem_cons_zero, Act.put, List.setIfInBounds_toArray, List.set_cons_zero, List.set_cons_succ]
            refine wpAnyH_ready (rs := [9]) (by kernel_rfl) (by simp) ?_
            refine AllReadyH.cons rfl (fun Kc hKc => ?_) AllReadyH.nil
            simp only [List.getElem_toArray, List.getElem_cons_succ, List.getElem_cons_zero]
            rw [if_pos (by rfl)]
            go_wp2_with fail
            have XC := blk_new wM2 33 #[.slice none 0 0, .slice none 0 0]
            have EM3 : Below wM2.heap.size wM2 (wM2.alloc (.cells #[.slice none 0 0, .slice none 0 0] 33)) := (Below.refl _ _).alloc (Nat.le_refl _) _
            have zwM3 : wM2.heap.size < (wM2.alloc (.cells #[.slice none 0 0, .slice none 0 0] 33)).heap.size := by simp
            generalize hn3 : wM2.alloc (.cells #[.slice none 0 0, .slice none 0 0] 33) = wM3 at *
            replace Y0 := Y0.below EM3
            replace Y1 := Y1.below EM3
            replace Y2 := Y2.below EM3
            replace KP := below_then KP EM3
            replace G0 := G0.below EM3
            replace NV := fun p => (NV p).below EM3
            replace NK := fun p => (NK p).below EM3
            refine hKc.out _ _ Y1 (fun hHeld => ?_)
            clear hKc Kc hn3
            refine wpAnyH_ready (rs := [10]) (by kernel_rfl) (by simp) ?_
            refine AllReadyH.cons rfl (fun Kc hKc => ?_) AllReadyH.nil
            simp only [List.getElem_toArray, List.getElem_cons_succ, List.getElem_cons_zero]
            rw [if_pos (by rfl)]
            have hall : Array.all (#[.slice (some ⟨wM1.heap.size, 0, none⟩) L L, .slice (some ⟨wA.heap.size, 0, none⟩) L L] : Array Value) (fun v => v.oneCell') = true := by simp [Value.oneCell']
            refine wp_store_row 33 _ _ rfl (wM2.heap.size) #[.slice (some ⟨wM1.heap.size, 0, none⟩) L L, .slice (some ⟨wA.heap.size, 0, none⟩) L L] rfl rfl 33 _ XC Tryz.infoCa rfl hall ?_
            have so : ∀ b, b ≠ wM2.heap.size → (wM3.setRow (wM2.heap.size) #[.slice (some ⟨wM1.heap.size, 0, none⟩) L L, .slice (some ⟨wA.heap.size, 0, none⟩) L L]).heap[b]? = wM3.heap[b]? := fun b hb => setRow_other _ _ _ _ hb
            have y0 := Y0.lt
            refine hKc.out _ _ (Blk.of_block Y1 (so _ (by omega))) (fun hHeld => ?_)
            clear hKc Kc
            refine wpAnyH_done (by kernel_rfl) ?_ _
            go_wp2_with fail
            go_meet
            case rel =>
              refine ⟨wM2.heap.size, wM1.heap.size, wA.heap.size, rfl, ?_, ⟨Blk.of_block Y0 (so _ (by omega)), Blk.of_block Y1 (so _ (by omega)), Blk.of_block Y2 (so _ (by omega)), XC.row _, ?_, ?_, by omega, below_setRow KP (by omega) _⟩⟩
              · exact (G0.row (g := wM2.heap.size) (by show ¬ (_ < _); omega) _).now
              · exact (NK _).put (by omega) (fun h => h.2.2.2 rfl) _
              · exact (NV _).put (by omega) (fun h => h.2.2.2 rfl) _
          · simp only [List.getElem_toArray, List.getElem_cons_succ, List.getElem_cons_zero]
            rw [if_pos (by rfl)]
            go_wp2_with fail
            have XC := blk_new wM1 33 #[.slice none 0 0, .slice none 0 0]
            have EM2 : Below wM1.heap.size wM1 (wM1.alloc (.cells #[.slice none 0 0, .slice none 0 0] 33)) := (Below.refl _ _).alloc (Nat.le_refl _) _
            have zwM2 : wM1.heap.size < (wM1.alloc (.cells #[.slice none 0 0, .slice none 0 0] 33)).heap.size := by simp
            generalize hn2 : wM1.alloc (.cells #[.slice none 0 0, .slice none 0 0] 33) = wM2 at *
            replace Y0 := Y0.below EM2
            replace Y1 := Y1.below EM2
            replace Y2 := Y2.below EM2
            replace KP := below_then KP EM2
            replace G0 := G0.below EM2
            replace NV := fun p => (NV p).below EM2
            refine hKc.out _ _ Y1 (fun hHeld => ?_)
            clear hKc Kc hn2
            refine wpAnyH_ready (rs := [3]) (by kernel_rfl) (by simp) ?_
            refine AllReadyH.cons rfl (fun Kc hKc => ?_) AllReadyH.nil
            simp only [List.getElem_toArray, List.getElem_cons_succ, List.getElem_cons_zero]
            rw [if_pos (by rfl)]
            go_wp2_with fail
            have NK := HKV wM2
            have EM3 : Below wM2.heap.size wM2 (wM2.alloc (.cells (madeCells #[.slice none 0 0] L) 77)) := (Below.refl _ _).alloc (Nat.le_refl _) _
            have zwM3 : wM2.heap.size < (wM2.alloc (.cells (madeCells #[.slice none 0 0] L) 77)).heap.size := by simp
            generalize hn3 : wM2.alloc (.cells (madeCells #[.slice none 0 0] L) 77) = wM3 at *
            replace Y0 := Y0.below EM3
            replace Y1 := Y1.below EM3
            replace Y2 := Y2.below EM3
            replace KP := below_then KP EM3
            replace G0 := G0.below EM3
            replace NV := fun p => (NV p).below EM3
            replace XC := XC.below EM3
            refine hKc.out _ _ Y1 (fun hHeld => ?_)
            clear hKc Kc hn3
            refine wpAnyH_take (i := 8) (v := (.agg #[.slice (some ⟨wM2.heap.size, 0, none⟩) L L, .slice (some ⟨wA.heap.size, 0, none⟩) L L])) rfl (by kernel_rfl) (by kernel_rfl) (by kernel_rfl) (fun _ _ _ h => h) (Or.inl ⟨by rfl, ?_⟩) (by assumption) ?_
            · intro w' hSw
              go_simp
            simp only [List.getElem_toArray, List.getElem_cons_succ, List.getElem_cons_zero, Act.put, List.setIfInBounds_toArray, List.set_cons_zero, List.set_cons_succ]
            refine wpAnyH_ready (rs := [10]) (by kernel_rfl) (by simp) ?_
            refine AllReadyH.cons rfl (fun Kc hKc => ?_) AllReadyH.nil
            simp only [List.getElem_toArray, List.getElem_cons_succ, List.getElem_cons_zero]
            rw [if_pos (by rfl)]
            have hall : Array.all (#[.slice (some ⟨wM2.heap.size, 0, none⟩) L L, .slice (some ⟨wA.heap.size, 0, none⟩) L L] : Array Value) (fun v => v.oneCell') = true := by simp [Value.oneCell']
            refine wp_store_row 33 _ _ rfl (wM1.heap.size) #[.slice (some ⟨wM2.heap.size, 0, none⟩) L L, .slice (some ⟨wA.heap.size, 0, none⟩) L L] rfl rfl 33 _ XC Tryz.infoCa rfl hall ?_
            have so : ∀ b, b ≠ wM1.heap.size → (wM3.setRow (wM1.heap.size) #[.slice (some ⟨wM2.heap.size, 0, none⟩) L L, .slice (some ⟨wA.heap.size, 0, none⟩) L L]).heap[b]? = wM3.heap[b]? := fun b hb => setRow_other _ _ _ _ hb
            have y0 := Y0.lt
            refine hKc.out _ _ (Blk.of_block Y1 (so _ (by omega))) (fun hHeld => ?_)
            clear hKc Kc
            refine wpAnyH_done (by kernel_rfl) ?_ _
            go_wp2_with fail
            go_meet
            case rel =>
              refine ⟨wM1.heap.size, wM2.heap.size, wA.heap.size, rfl, ?_, ⟨Blk.of_block Y0 (so _ (by omega)), Blk.of_block Y1 (so _ (by omega)), Blk.of_block Y2 (so _ (by omega)), XC.row _, ?_, ?_, by omega, below_setRow KP (by omega) _⟩⟩
              · exact (G0.row (g := wM1.heap.size) (by show ¬ (_ < _); omega) _).now
              · exact (NK _).put (by omega) (fun h => h.2.2.2 rfl) _
              · exact (NV _).put (by omega) (fun h => h.2.2.2 rfl) _
        · simp only [List.getElem_toArray, List.getElem_cons_succ, List.getElem_cons_zero]
          rw [if_pos (by rfl)]
          go_wp2_with fail
          have XC := blk_new wA 33 #[.slice none 0 0, .slice none 0 0]
          have EM1 : Below wA.heap.size wA (wA.alloc (.cells #[.slice none 0 0, .slice none 0 0] 33)) := (Below.refl _ _).alloc (Nat.le_refl _) _
          have zwM1 : wA.heap.size < (wA.alloc (.cells #[.slice none 0 0, .slice none 0 0] 33)).heap.size := by simp
          generalize hn1 : wA.alloc (.cells #[.slice none 0 0, .slice none 0 0] 33) = wM1 at *
          replace Y0 := Y0.below EM1
          replace Y1 := Y1.below EM1
          replace Y2 := Y2.below EM1
          replace KP := below_then KP EM1
          replace G0 := G0.below EM1
          refine hKc.out _ _ Y1 (fun hHeld => ?_)
          clear hKc Kc hn1
          refine wpAnyH_ready (rs := [3, 7]) (by kernel_rfl) (by simp) ?_
          refine AllReadyH.cons rfl (fun Kc hKc => ?_) (AllReadyH.cons rfl (fun Kc hKc => ?_) AllReadyH.nil)
          · simp only [List.getElem_toArray, List.getElem_cons_succ, List.getElem_cons_zero]
            rw [if_pos (by rfl)]
            go_wp2_with fail
            have NK := HKV wM1
            have EM2 : Below wM1.heap.size wM1 (wM1.alloc (.cells (madeCells #[.slice none 0 0] L) 77)) := (Below.refl _ _).alloc (Nat.le_refl _) _
            have zwM2 : wM1.heap.size < (wM1.alloc (.cells (madeCells #[.slice none 0 0] L) 77)).heap.size := by simp
            generalize hn2 : wM1.alloc (.cells (madeCells #[.slice none 0 0] L) 77) = wM2 at *
            replace Y0 := Y0.below EM2
            replace Y1 := Y1.below EM2
            replace Y2 := Y2.below EM2
            replace KP := below_then KP EM2
            replace G0 := G0.below EM2
            replace XC := XC.below EM2
            refine hKc.out _ _ Y1 (fun hHeld => ?_)
            clear hKc Kc hn2
            refine wpAnyH_ready (rs := [7]) (by kernel_rfl) (by simp) ?_
            refine AllReadyH.cons rfl (fun Kc hKc => ?_) AllReadyH.nil
            simp only [List.getElem_toArray, List.getElem_cons_succ, List.getElem_cons_zero]
            rw [if_pos (by rfl)]
            go_wp2_with fail
            have NV := HVV wM2
            have EM3 : Below wM2.heap.size wM2 (wM2.alloc (.cells (madeCells #[.slice none 0 0] L) 77)) := (Below.refl _ _).alloc (Nat.le_refl _) _
            have zwM3 : wM2.heap.size < (wM2.alloc (.cells (madeCells #[.slice none 0 0] L) 77)).heap.size := by simp
            generalize hn3 : wM2.alloc (.cells (madeCells #[.slice none 0 0] L) 77) = wM3 at *
            replace Y0 := Y0.below EM3
            replace Y1 := Y1.below EM3
            replace Y2 := Y2.below EM3
            replace KP := below_then KP EM3
            replace G0 := G0.below EM3
            replace XC := XC.below EM3
            replace NK := fun p => (NK p).below EM3
            refine hKc.out _ _ Y1 (fun hHeld => ?_)
            clear hKc Kc hn3
            refine wpAnyH_take (i := 8) (v := (.agg #[.slice (some ⟨wM1.heap.size, 0, none⟩) L L, .slice (some ⟨wM2.heap.size, 0, none⟩) L L])) rfl (by kernel_rfl) (by kernel_rfl) (by kernel_rfl) (fun _ _ _ h => h) (Or.inl ⟨by rfl, ?_⟩) (by assumption) ?_
            · intro w' hSw
              go_simp
            simp only [List.getElem_toArray, List.getElem_cons_succ, List.getElem_cons_zero, Act.put, List.setIfInBounds_toArray, List.set_cons_zero, List.set_cons_succ]
            refine wpAnyH_ready (rs := [10]) (by kernel_rfl) (by simp) ?_
            refine AllReadyH.cons rfl (fun Kc hKc => ?_) AllReadyH.nil
            simp only [List.getElem_toArray, List.getElem_cons_succ, List.getElem_cons_zero]
            rw [if_pos (by rfl)]
            have hall : Array.all (#[.slice (some ⟨wM1.heap.size, 0, none⟩) L L, .slice (some ⟨wM2.heap.size, 0, none⟩) L L] : Array Value) (fun v => v.oneCell') = true := by simp [Value.oneCell']
            refine wp_store_row 33 _ _ rfl (wA.heap.size) #[.slice (some ⟨wM1.heap.size, 0, none⟩) L L, .slice (some ⟨wM2.heap.size, 0, none⟩) L L] rfl rfl 33 _ XC Tryz.infoCa rfl hall ?_
            have so : ∀ b, b ≠ wA.heap.size → (wM3.setRow (wA.heap.size) #[.slice (some ⟨wM1.heap.size, 0, none⟩) L L, .slice (some ⟨wM2.heap.size, 0, none⟩) L L]).heap[b]? = wM3.heap[b]? := fun b hb => setRow_other _ _ _ _ hb
            have y0 := Y0.lt
            refine hKc.out _ _ (Blk.of_block Y1 (so _ (by omega))) (fun hHeld => ?_)
            clear hKc Kc
            refine wpAnyH_done (by kernel_rfl) ?_ _
            go_wp2_with fail
            go_meet
            case rel =>
              refine ⟨wA.heap.size, wM1.heap.size, wM2.heap.size, rfl, ?_, ⟨Blk.of_block Y0 (so _ (by omega)), Blk.of_block Y1 (so _ (by omega)), Blk.of_block Y2 (so _ (by omega)), XC.row _, ?_, ?_, by omega, below_setRow KP (by omega) _⟩⟩
              · exact (G0.row (g := wA.heap.size) (by show ¬ (_ < _); omega) _).now
              · exact (NK _).put (by omega) (fun h => h.2.2.2 rfl) _
              · exact (NV _).put (by omega) (fun h => h.2.2.2 rfl) _
          · simp only [List.getElem_toArray, List.getElem_cons_succ, List.getElem_cons_zero]
            rw [if_pos (by rfl)]
            go_wp2_with fail
            have NV := HVV wM1
            have EM2 : Below wM1.heap.size wM1 (wM1.alloc (.cells (madeCells #[.slice none 0 0] L) 77)) := (Below.refl _ _).alloc (Nat.le_refl _) _
            have zwM2 : wM1.heap.size < (wM1.alloc (.cells (madeCells #[.slice none 0 0] L) 77)).heap.size := by simp
            generalize hn2 : wM1.alloc (.cells (madeCells #[.slice none 0 0] L) 77) = wM2 at *
            replace Y0 := Y0.below EM2
            replace Y1 := Y1.below EM2
            replace Y2 := Y2.below EM2
            replace KP := below_then KP EM2
            replace G0 := G0.below EM2
            replace XC := XC.below EM2
            refine hKc.out _ _ Y1 (fun hHeld => ?_)
            clear hKc Kc hn2
            refine wpAnyH_ready (rs := [3]) (by kernel_rfl) (by simp) ?_
            refine AllReadyH.cons rfl (fun Kc hKc => ?_) AllReadyH.nil
            simp only [List.getElem_toArray, List.getElem_cons_succ, List.getElem_cons_zero]
            rw [if_pos (by rfl)]
            go_wp2_with fail
            have NK := HKV wM2
            have EM3 : Below wM2.heap.size wM2 (wM2.alloc (.cells (madeCells #[.slice none 0 0] L) 77)) := (Below.refl _ _).alloc (Nat.le_refl _) _
            have zwM3 : wM2.heap.size < (wM2.alloc (.cells (madeCells #[.slice none 0 0] L) 77)).heap.size := by simp
            generalize hn3 : wM2.alloc (.cells (madeCells #[.slice none 0 0] L) 77) = wM3 at *
            replace Y0 := Y0.below EM3
            replace Y1 := Y1.below EM3
            replace Y2 := Y2.below EM3
            replace KP := below_then KP EM3
            replace G0 := G0.below EM3
            replace XC := XC.below EM3
            replace NV := fun p => (NV p).below EM3
            refine hKc.out _ _ Y1 (fun hHeld => ?_)
            clear hKc Kc hn3
            refine wpAnyH_take (i := 8) (v := (.agg #[.slice (some ⟨wM2.heap.size, 0, none⟩) L L, .slice (some ⟨wM1.heap.size, 0, none⟩) L L])) rfl (by kernel_rfl) (by kernel_rfl) (by kernel_rfl) (fun _ _ _ h => h) (Or.inl ⟨by rfl, ?_⟩) (by assumption) ?_
            · intro w' hSw
              go_simp
            simp only [List.getElem_toArray, List.getElem_cons_succ, List.getElem_cons_zero, Act.put, List.setIfInBounds_toArray, List.set_cons_zero, List.set_cons_succ]
            refine wpAnyH_ready (rs := [10]) (by kernel_rfl) (by simp) ?_
            refine AllReadyH.cons rfl (fun Kc hKc => ?_) AllReadyH.nil
            simp only [List.getElem_toArray, List.getElem_cons_succ, List.getElem_cons_zero]
            rw [if_pos (by rfl)]
            have hall : Array.all (#[.slice (some ⟨wM2.heap.size, 0, none⟩) L L, .slice (some ⟨wM1.heap.size, 0, none⟩) L L] : Array Value) (fun v => v.oneCell') = true := by simp [Value.oneCell']
            refine wp_store_row 33 _ _ rfl (wA.heap.size) #[.slice (some ⟨wM2.heap.size, 0, none⟩) L L, .slice (some ⟨wM1.heap.size, 0, none⟩) L L] rfl rfl 33 _ XC Tryz.infoCa rfl hall ?_
            have so : ∀ b, b ≠ wA.heap.size → (wM3.setRow (wA.heap.size) #[.slice (some ⟨wM2.heap.size, 0, none⟩) L L, .slice (some ⟨wM1.heap.size, 0, none⟩) L L]).heap[b]? = wM3.heap[b]? := fun b hb => setRow_other _ _ _ _ hb
            have y0 := Y0.lt
            refine hKc.out _ _ (Blk.of_block Y1 (so _ (by omega))) (fun hHeld => ?_)
            clear hKc Kc
            refine wpAnyH_done (by kernel_rfl) ?_ _
            go_wp2_with fail
            go_meet
            case rel =>
              refine ⟨wA.heap.size, wM2.heap.size, wM1.heap.size, rfl, ?_, ⟨Blk.of_block Y0 (so _ (by omega)), Blk.of_block Y1 (so _ (by omega)), Blk.of_block Y2 (so _ (by omega)), XC.row _, ?_, ?_, by omega, below_setRow KP (by omega) _⟩⟩
              · exact (G0.row (g := wA.heap.size) (by show ¬ (_ < _); omega) _).now
              · exact (NK _).put (by omega) (fun h => h.2.2.2 rfl) _
              · exact (NV _).put (by omega) (fun h => h.2.2.2 rfl) _
      case rest =>
        obtain ⟨gC, gK, gV, rfl, GR, FF⟩ := hcut
        clear XX0 Y0 Y1 Y2 KP G0 hmk2
        have X1 := FF.x1
        have c3 : wc.cell? ⟨w.heap.size + 1, 3, none⟩ = some (.slice ba L bz) := X1.cell 3 wb
        go_wp2_with fail
        clear c3 X1
        go_loopg [61, 11] L (fun r i s wr => ∃ (t gr : Nat), t ≤ L ∧ r = L - t ∧ i = .int .i64 t ∧ s = .slice (some ⟨gr, 0, none⟩) k k ∧ GridAt wr (some ⟨gr, 0, none⟩) k (rowsL M D H Hd A t) ∧ FI w wr #[.int .i64 (V : Int), .int .i64 (D : Int), .int .i64 (Hd : Int), .int .i64 (H : Int), .int .i64 (L : Int)] ws gC gK gV L t (fullK M D H Hd L A) (fullV M D H Hd L A))
        case atStart => exact ⟨0, w4.heap.size, by omega, by omega, rfl, rfl, GR, FF⟩
        case round =>
          obtain ⟨t, gr, htl, rfl, rfl, rfl, GR, FF⟩ := hrel
          by_cases hlt : t < L
          · obtain ⟨x, hx⟩ : ∃ x, bs[t]? = some x := ⟨_, List.getElem?_eq_getElem (by omega)⟩
            have WW := (HG.out wr FF.kp).wt
            obtain ⟨Lx, hLx, BK⟩ := WW.ls t x hx
            have HLx : Hid (layAt M t = Lx) := by show _ = _; unfold layAt; rw [List.getD_eq_getElem?_getD, hLx]; rfl
            obtain ⟨g, o, e0, hc⟩ := WW.b.cells (by show 0 < L; omega)
            simp only at e0
            subst e0
            have r0 := hc t x hx
            clear hc hLx WW
            have HO := fun (ro : Option Addr) (nn cc : Nat) (R : List (List Int)) (wv : World) h1' (hb : BkAt wv D H x Lx) h3' h4' h5' => layer_any V D Hd H H L x Lx ro nn cc R wv h1' hb h3' h4' h5' (by omega) (by omega) (by omega) (by omega) hmod (by omega)
            unfold cfgC at HO
            have one := bk_one x
            have siz2 := bk_size x
            generalize x.cells = cs at *
            have XZ := blk_new wr 60 #[.slice none 0 0, .int .i64 0, .int .i64 0, .slice none 0 0, .int .i64 0, .int .i64 0, .slice none 0 0, .int .i64 0, .int .i64 0, .slice none 0 0, .int .i64 0, .int .i64 0, .slice none 0 0, .slice none 0 0, .int .i64 0, .int .i64 0, .slice none 0 0, .int .i64 0, .int .i64 0, .slice none 0 0]
            have BZ : Below wr.heap.size wr (wr.alloc (.cells #[.slice none 0 0, .int .i64 0, .int .i64 0, .slice none 0 0, .int .i64 0, .int .i64 0, .slice none 0 0, .int .i64 0, .int .i64 0, .slice none 0 0, .int .i64 0, .int .i64 0, .slice none 0 0, .slice none 0 0, .int .i64 0, .int .i64 0, .slice none 0 0, .int .i64 0, .int .i64 0, .slice none 0 0] 60)) := (Below.refl _ _).alloc (Nat.le_refl _) _
            generalize hwz : wr.alloc (.cells #[.slice none 0 0, .int .i64 0, .int .i64 0, .slice none 0 0, .int .i64 0, .int .i64 0, .slice none 0 0, .int .i64 0, .int .i64 0, .slice none 0 0, .int .i64 0, .int .i64 0, .slice none 0 0, .slice none 0 0, .int .i64 0, .int .i64 0, .slice none 0 0, .int .i64 0, .int .i64 0, .slice none 0 0] 60) = wz at *
            have XR := XZ.row cs
            have BR := below_setRow BZ (Nat.le_refl _) cs
            generalize hwy : wz.setRow wr.heap.size cs = wy at *
            have HL : Hid (cs.toList.toArray = cs) := by show _ = _; simp
            have ltk := FF.k.lt
            have ltv := FF.v.lt
            have ltc := FF.xc.lt
            have ne := FF.ne
            have FY := (FF.below BR).below ((Below.refl _ _).drew)
            have GY := (GR.below BR).below ((Below.refl _ _).drew)
            have XY := XR.below ((Below.refl _ _).drew)
            have BY := (BK.below BR).below ((Below.refl _ _).drew)
            have sY : wr.heap.size ≤ wy.drew.heap.size := BR.size
            have rl : ∀ s, s < k → (rowOf (rowsL M D H Hd A t) s).length = D := fun s hs => rowsL_row M D H Hd A t s (by rw [HLN.out]; exact hs)
            have E1 : Hid ((fullK M D H Hd L A).getD t [] = keysR Lx D (rowsL M D H Hd A t)) := by show _ = _; rw [fullK_at _ _ _ _ _ _ hlt, HLx.out]
            have E2 : Hid ((fullV M D H Hd L A).getD t [] = valsR Lx D (rowsL M D H Hd A t)) := by show _ = _; rw [fullV_at _ _ _ _ _ _ hlt, HLx.out]
            have E3 : Hid (rowsL M D H Hd A (t + 1) = madeR Lx D H Hd (rowsL M D H Hd A t)) := by show _ = _; rw [← HLx.out]; rfl
            clear FF GR BK BZ
            go_wp2_with (first | (refine wpList_load_mid rfl 60 _ rfl g (o + t * 20) rfl cs.toList _ r0 Tryz.underlying60 rfl (by rw [Array.length_toList, siz2]; exact Tryz.infoB) ?_; rw [HL.out]) | (refine wpList_store_row rfl 60 _ _ rfl wr.heap.size cs rfl rfl 60 _ XZ (by rw [siz2]; exact Tryz.infoB) siz2.symm one ?_; rw [hwy]))
            clear hwz hwy XZ XR r0 HL
            refine wp_region_held_drew (S := fun w' => Blk w' w.heap.size 23 #[.int .i64 (V : Int), .int .i64 (D : Int), .int .i64 (Hd : Int), .int .i64 (H : Int), .int .i64 (L : Int)] ∧ Blk w' wr.heap.size 60 cs ∧ Blk w' gC 33 #[.slice (some ⟨gK, 0, none⟩) L L, .slice (some ⟨gV, 0, none⟩) L L]) (by kernel_rfl) (⟨FY.x0, XY, FY.xc⟩) (fun hHeld => ?_)
            refine wpAnyH_take (i := 0) (v := (.pointer (some ⟨gC, 0, none⟩))) rfl (by kernel_rfl) (by kernel_rfl) (by kernel_rfl) (fun _ _ _ h => h) (Or.inl ⟨by rfl, ?_⟩) (by assumption) ?_
            · intro w' hSw
              go_simp
            simp only [List.getElem_toArray, List.getElem_cons_zero, Act.put, List.setIfInBounds_toArray, List.set_cons_zero, List.set_cons_succ]
            refine wpAnyH_take (i := 1) (v := (.slice (some ⟨gK, 0, none⟩) L L)) rfl (by kernel_rfl) (by kernel_rfl) (by kernel_rfl) (fun _ _ _ h => h) (Or.inl ⟨by rfl, ?_⟩) (by assumption) ?_
            · intro w' hSw
              have ck : w'.cell? ⟨gC, 0, none⟩ = some (.slice (some ⟨gK, 0, none⟩) L L) := hSw.2.2.cell 0 rfl
              go_simp
            simp only [List.getElem_toArray, List.getElem_cons_succ, List.getElem_cons_zero, Act.put, List.setIfInBounds_toArray, List.set_cons_zero, List.set_cons_succ]
            refine wpAnyH_take (i := 2) (v := (.int .i64 (t : Int))) rfl (by kernel_rfl) (by kernel_rfl) (by kernel_rfl) (fun _ _ _ h => h) (Or.inl ⟨by rfl, ?_⟩) (by assumption) ?_
            · intro w' hSw
              go_simp
            simp only [List.getElem_toArray, List.getElem_cons_succ, List.getElem_cons_zero, Act.put, List.setIfInBounds_toArray, List.set_cons_zero, List.set_cons_succ]
            refine wpAnyH_take (i := 3) (v := (.pointer (some ⟨gC, 1, none⟩))) rfl (by kernel_rfl) (by kernel_rfl) (by kernel_rfl) (fun _ _ _ h => h) (Or.inl ⟨by rfl, ?_⟩) (by assumption) ?_
            · intro w' hSw
              go_simp
            simp only [List.getElem_toArray, List.getElem_cons_succ, List.getElem_cons_zero, Act.put, List.setIfInBounds_toArray, List.set_cons_zero, List.set_cons_succ]
            refine wpAnyH_take (i := 4) (v := (.slice (some ⟨gV, 0, none⟩) L L)) rfl (by kernel_rfl) (by kernel_rfl) (by kernel_rfl) (fun _ _ _ h => h) (Or.inl ⟨by rfl, ?_⟩) (by assumption) ?_
            · intro w' hSw
              have cv : w'.cell? ⟨gC, 1, none⟩ = some (.slice (some ⟨gV, 0, none⟩) L L) := hSw.2.2.cell 1 rfl
              go_simp
            simp only [List.getElem_toArray, List.getElem_cons_succ, List.getElem_cons_zero, Act.put, List.setIfInBounds_toArray, List.set_cons_zero, List.set_cons_succ]
            refine wpAnyH_take (i := 5) (v := (.int .i64 (t : Int))) rfl (by kernel_rfl) (by kernel_rfl) (by kernel_rfl) (fun _ _ _ h => h) (Or.inl ⟨by rfl, ?_⟩) (by assumption) ?_
            · intro w' hSw
              go_simp
            simp only [List.getElem_toArray, List.getElem_cons_succ, List.getElem_cons_zero, Act.put, List.setIfInBounds_toArray, List.set_cons_zero, List.set_cons_succ]
            refine wpAnyH_take (i := 6) (v := (.agg #[.int .i64 (V : Int), .int .i64 (D : Int), .int .i64 (Hd : Int), .int .i64 (H : Int), .int .i64 (L : Int)])) rfl (by kernel_rfl) (by kernel_rfl) (by kernel_rfl) (fun _ _ _ h => h) (Or.inl ⟨by rfl, ?_⟩) (by assumption) ?_
            · intro w' hSw
              have cc0 : w'.cell? ⟨w.heap.size, 0, none⟩ = some (.int .i64 (V : Int)) := hSw.1.cell 0 rfl
              have cc1 : w'.cell? ⟨w.heap.size, 1, none⟩ = some (.int .i64 (D : Int)) := hSw.1.cell 1 rfl
              have cc2 : w'.cell? ⟨w.heap.size, 2, none⟩ = some (.int .i64 (Hd : Int)) := hSw.1.cell 2 rfl
              have cc3 : w'.cell? ⟨w.heap.size, 3, none⟩ = some (.int .i64 (H : Int)) := hSw.1.cell 3 rfl
              have cc4 : w'.cell? ⟨w.heap.size, 4, none⟩ = some (.int .i64 (L : Int)) := hSw.1.cell 4 rfl
              go_simp
            simp only [List.getElem_toArray, List.getElem_cons_succ, List.getElem_cons_zero, Act.put, List.setIfInBounds_toArray, List.set_cons_zero, List.set_cons_succ]
            refine wpAnyH_take (i := 7) (v := (.agg cs)) rfl (by kernel_rfl) (by kernel_rfl) (by kernel_rfl) (fun _ _ _ h => h) (Or.inl ⟨by rfl, ?_⟩) (by assumption) ?_
            · intro w' hSw
              exact yield_row 60 _ rfl wr.heap.size rfl cs (load_b hSw.2.1 siz2)
            simp only [List.getElem_toArray, List.getElem_cons_succ, List.getElem_cons_zero, Act.put, List.setIfInBounds_toArray, List.set_cons_zero, List.set_cons_succ]
            refine wpAnyH_take (i := 8) (v := (.slice (some ⟨gr, 0, none⟩) k k)) rfl (by kernel_rfl) (by kernel_rfl) (by kernel_rfl) (fun _ _ _ h => h) (Or.inl ⟨by rfl, ?_⟩) (by assumption) ?_
            · intro w' hSw
              go_simp
            simp only [List.getElem_toArray, List.getElem_cons_succ, List.getElem_cons_zero, Act.put, List.setIfInBounds_toArray, List.set_cons_zero, List.set_cons_succ]
            refine wpAnyH_ready (rs := [9]) (by kernel_rfl) (by simp) ?_
            refine AllReadyH.cons rfl (fun Kc hKc => ?_) AllReadyH.nil
            simp only [List.getElem_toArray, List.getElem_cons_succ, List.getElem_cons_zero]
            rw [if_pos (by rfl)]
            go_wp2_with fail
            refine (HO _ _ _ (rowsL M D H Hd A t) _ (HT.out _ FY.kp) BY GY rl (by omega)).mono ?_
            rintro e w9 ⟨gm, gk, gv, vm, vk, vv, rfl, NM, NK, NV, B9⟩
            have FZ := FY.below B9
            go_wp2_with fail
            refine hKc.out _ _ (⟨FZ.x0, XY.below B9, FZ.xc⟩) (fun hHeld => ?_)
            clear hKc Kc
            refine wpAnyH_take (i := 10) (v := (.tuple #[.slice (some ⟨gm, 0, none⟩) k k, .slice (some ⟨gk, 0, none⟩) k k, .slice (some ⟨gv, 0, none⟩) k k])) rfl (by kernel_rfl) (by kernel_rfl) (by kernel_rfl) (fun _ _ _ h => h) (Or.inl ⟨by rfl, ?_⟩) (by assumption) ?_
            · intro w' hSw
              go_simp
            simp only [List.getElem_toArray, List.getElem_cons_succ, List.getElem_cons_zero, Act.put, List.setIfInBounds_toArray, List.set_cons_zero, List.set_cons_succ]
            refine wpAnyH_take (i := 11) (v := (.slice (some ⟨gm, 0, none⟩) k k)) rfl (by kernel_rfl) (by kernel_rfl) (by kernel_rfl) (fun _ _ _ h => h) (Or.inl ⟨by rfl, ?_⟩) (by assumption) ?_
            · intro w' hSw
              go_simp
            simp only [List.getElem_toArray, List.getElem_cons_succ, List.getElem_cons_zero, Act.put, List.setIfInBounds_toArray, List.set_cons_zero, List.set_cons_succ]
            refine wpAnyH_take (i := 12) (v := (.slice (some ⟨gk, 0, none⟩) k k)) rfl (by kernel_rfl) (by kernel_rfl) (by kernel_rfl) (fun _ _ _ h => h) (Or.inl ⟨by rfl, ?_⟩) (by assumption) ?_
            · intro w' hSw
              go_simp
            simp only [List.getElem_toArray, List.getElem_cons_succ, List.getElem_cons_zero, Act.put, List.setIfInBounds_toArray, List.set_cons_zero, List.set_cons_succ]
            refine wpAnyH_take (i := 13) (v := (.slice (some ⟨gv, 0, none⟩) k k)) rfl (by kernel_rfl) (by kernel_rfl) (by kernel_rfl) (fun _ _ _ h => h) (Or.inl ⟨by rfl, ?_⟩) (by assumption) ?_
            · intro w' hSw
              go_simp
            simp only [List.getElem_toArray, List.getElem_cons_succ, List.getElem_cons_zero, Act.put, List.setIfInBounds_toArray, List.set_cons_zero, List.set_cons_succ]
            refine wpAnyH_take (i := 14) (v := (.slice (some ⟨gm, 0, none⟩) k k)) rfl (by kernel_rfl) (by kernel_rfl) (by kernel_rfl) (fun _ _ _ h => h) (Or.inl ⟨by rfl, ?_⟩) (by assumption) ?_
            · intro w' hSw
              go_simp
            simp only [List.getElem_toArray, List.getElem_cons_succ, List.getElem_cons_zero, Act.put, List.setIfInBounds_toArray, List.set_cons_zero, List.set_cons_succ]
            refine wpAnyH_take (i := 15) (v := (.pointer (some ⟨gK, t, none⟩))) rfl (by kernel_rfl) (by kernel_rfl) (by kernel_rfl) (fun _ _ _ h => h) (Or.inl ⟨by rfl, ?_⟩) (by assumption) ?_
            · intro w' hSw
              go_simp
            simp only [List.getElem_toArray, List.getElem_cons_succ, List.getElem_cons_zero, Act.put, List.setIfInBounds_toArray, List.set_cons_zero, List.set_cons_succ]
            clear hHeld HO one siz2 GY BY
            have N1 : Hangs (offF w gK gV gC) w9 fun w => GridV w (some ⟨gk, 0, none⟩) k vk ((fullK M D H Hd L A).getD t []) := by
              rw [E1.out]
              exact Hangs.mono NK fun b _ hb => ⟨by omega, by omega, by omega, by omega⟩
            have N2 : Hangs (offF w gK gV gC) w9 fun w => GridV w (some ⟨gv, 0, none⟩) k vv ((fullV M D H Hd L A).getD t []) := by
              rw [E2.out]
              exact Hangs.mono NV fun b _ hb => ⟨by omega, by omega, by omega, by omega⟩
            have FN := FZ.next hlt (by omega) N1 N2
            have s9 := B9.size
            have GN : GridAt ((w9.setCell ⟨gK, t, none⟩ (.slice (some ⟨gk, 0, none⟩) k k)).setCell ⟨gV, t, none⟩ (.slice (some ⟨gv, 0, none⟩) k k)) (some ⟨gm, 0, none⟩) k (rowsL M D H Hd A (t + 1)) := by
              rw [E3.out]
              exact ((NM.set (a := ⟨gK, t, none⟩) (by show gK < _; omega) _).set (a := ⟨gV, t, none⟩) (by show gV < _; omega) _).now.grid
            have pk : ¬ offF w gK gV gC gK := fun h => h.2.1 rfl
            have V1 := FZ.v.far (a := ⟨gK, t, none⟩) (by show gK ≠ gV; omega) pk (.slice (some ⟨gk, 0, none⟩) k k)
            have fz1 := FZ.k.frozen t
            obtain ⟨r1, m1, v1, cu1, _, _⟩ := FZ.k.at hlt
            have fz2 := V1.frozen t
            obtain ⟨r2, m2, v2, cu2, _, _⟩ := V1.at hlt
            have Q1 : Blk (w9.setCell ⟨gK, t, none⟩ (.slice (some ⟨gk, 0, none⟩) k k)) w.heap.size 23 #[.int .i64 (V : Int), .int .i64 (D : Int), .int .i64 (Hd : Int), .int .i64 (H : Int), .int .i64 (L : Int)] ∧ Blk (w9.setCell ⟨gK, t, none⟩ (.slice (some ⟨gk, 0, none⟩) k k)) wr.heap.size 60 cs ∧ Blk (w9.setCell ⟨gK, t, none⟩ (.slice (some ⟨gk, 0, none⟩) k k)) gC 33 #[.slice (some ⟨gK, 0, none⟩) L L, .slice (some ⟨gV, 0, none⟩) L L] := ⟨FZ.x0.other (by show _ ≠ gK; omega) _, (XY.below B9).other (by show _ ≠ gK; omega) _, FZ.xc.other (by show _ ≠ gK; omega) _⟩
            have Q2 := Q1.2.1.other (a := ⟨gV, t, none⟩) (by show _ ≠ gV; omega) (.slice (some ⟨gv, 0, none⟩) k k)
            clear V1 N1 N2 NM NK NV XY FY
            refine wpAnyH_ready (rs := [16]) (by kernel_rfl) (by simp) ?_
            refine AllReadyH.cons rfl (fun Kc hKc => ?_) AllReadyH.nil
            simp only [List.getElem_toArray, List.getElem_cons_succ, List.getElem_cons_zero]
            rw [if_pos (by rfl)]
            go_wp2_with fail
            refine hKc.out _ _ Q1 (fun hHeld => ?_)
            clear hKc Kc
            generalize hS1 : w9.setCell ⟨gK, t, none⟩ (.slice (some ⟨gk, 0, none⟩) k k) = wS1 at *
            refine wpAnyH_take (i := 17) (v := (.pointer (some ⟨gV, t, none⟩))) rfl (by kernel_rfl) (by kernel_rfl) (by kernel_rfl) (fun _ _ _ h => h) (Or.inl ⟨by rfl, ?_⟩) (by assumption) ?_
            · intro w' hSw
              go_simp
            simp only [List.getElem_toArray, List.getElem_cons_succ, List.getElem_cons_zero, Act.put, List.setIfInBounds_toArray, List.set_cons_zero, List.set_cons_succ]
            refine wpAnyH_ready (rs := [18]) (by kernel_rfl) (by simp) ?_
            refine AllReadyH.cons rfl (fun Kc hKc => ?_) AllReadyH.nil
            simp only [List.getElem_toArray, List.getElem_cons_succ, List.getElem_cons_zero]
            rw [if_pos (by rfl)]
            go_wp2_with fail
            refine hKc.out _ _ ⟨FN.x0, Q2, FN.xc⟩ (fun hHeld => ?_)
            clear hKc Kc
            refine wpAnyH_done (by kernel_rfl) ?_ _
            go_wp2_with fail
            go_roundg (L - (t + 1))
            case measure => omega
            case rel => exact ⟨t + 1, gm, by omega, rfl, by go_num, rfl, GN, FN⟩
          · obtain rfl : t = L := by omega
            obtain ⟨rb, ro, er, hc⟩ := GR.cells (by omega)
            simp only [Option.some.injEq, Addr.mk.injEq, and_true] at er
            obtain ⟨rfl, rfl⟩ := er
            obtain ⟨ko, km, kc, cr, AR⟩ := hc (k - 1) (by omega)
            obtain rfl : km = D := by rw [← rowsL_row M D H Hd A t (k - 1) (by rw [HLN.out]; omega), AR.row.len]
            rw [Nat.zero_add] at cr
            clear hc GR
            obtain ⟨m, rfl⟩ : ∃ m, k = m + 1 := ⟨k - 1, by omega⟩
            rw [Nat.add_sub_cancel] at cr AR
            have e1 : IntKind.i64.wrap (((m : Int) + 1) - 1) = (m : Int) := by rw [show ((m : Int) + 1) - 1 = m by omega]; exact wrap_in (by omega)
            have e0 : IntKind.i64.wrap (m : Int) = (m : Int) := wrap_in (by omega)
            have hnm : ¬ ((m : Int) + 1 ≤ (m : Int)) := by omega
            have FY := FF.below ((Below.refl _ _).drew)
            have AY := AR.below ((Below.refl _ _).drew)
            have cY : wr.drew.cell? ⟨gr, m, none⟩ = some (.slice ko km kc) := cr
            have ne := FF.ne
            have HX : Hid (fullX M V km H Hd t A = likR M V km (rowOf (rowsL M km H Hd A t) m)) := by show _ = _; unfold fullX; rw [HLN.out, Nat.add_sub_cancel]
            clear FF AR cr
            go_wp2_with fail
            refine wp_region_held_drew (S := fun w' => Blk w' (w.heap.size + 1) 29 ws ∧ Blk w' gC 33 #[.slice (some ⟨gK, 0, none⟩) t t, .slice (some ⟨gV, 0, none⟩) t t] ∧ w'.cell? ⟨gr, m, none⟩ = some (.slice ko km kc)) (by kernel_rfl) (⟨FY.x1, FY.xc, cY⟩) (fun hHeld => ?_)
            refine wpAnyH_take (i := 0) (v := (.agg ws)) rfl (by kernel_rfl) (by kernel_rfl) (by kernel_rfl) (fun _ _ _ h => h) (Or.inl ⟨by rfl, ?_⟩) (by assumption) ?_
            · intro w' hSw
              exact yield_row 29 _ rfl (w.heap.size + 1) rfl ws (load_w hSw.1 siz)
            simp only [List.getElem_toArray, List.getElem_cons_zero, Act.put, List.setIfInBounds_toArray, List.set_cons_zero, List.set_cons_succ]
            refine wpAnyH_take (i := 1) (v := (.slice (some ⟨gr, 0, none⟩) (m + 1) (m + 1))) rfl (by kernel_rfl) (by kernel_rfl) (by kernel_rfl) (fun _ _ _ h => h) (Or.inl ⟨by rfl, ?_⟩) (by assumption) ?_
            · intro w' hSw
              go_simp
            simp only [List.getElem_toArray, List.getElem_cons_succ, List.getElem_cons_zero, Act.put, List.setIfInBounds_toArray, List.set_cons_zero, List.set_cons_succ]
            refine wpAnyH_take (i := 2) (v := (.slice (some ⟨gr, 0, none⟩) (m + 1) (m + 1))) rfl (by kernel_rfl) (by kernel_rfl) (by kernel_rfl) (fun _ _ _ h => h) (Or.inl ⟨by rfl, ?_⟩) (by assumption) ?_
            · intro w' hSw
              go_simp
            simp only [List.getElem_toArray, List.getElem_cons_succ, List.getElem_cons_zero, Act.put, List.setIfInBounds_toArray, List.set_cons_zero, List.set_cons_succ]
            refine wpAnyH_take (i := 3) (v := (.int .i64 ((m : Int) + 1))) rfl (by kernel_rfl) (by kernel_rfl) (by kernel_rfl) (fun _ _ _ h => h) (Or.inl ⟨by rfl, ?_⟩) (by assumption) ?_
            · intro w' hSw
              go_simp
            simp only [List.getElem_toArray, List.getElem_cons_succ, List.getElem_cons_zero, Act.put, List.setIfInBounds_toArray, List.set_cons_zero, List.set_cons_succ]
            refine wpAnyH_take (i := 4) (v := (.int .i64 (m : Int))) rfl (by kernel_rfl) (by kernel_rfl) (by kernel_rfl) (fun _ _ _ h => h) (Or.inl ⟨by rfl, ?_⟩) (by assumption) ?_
            · intro w' hSw
              go_simp
            simp only [List.getElem_toArray, List.getElem_cons_succ, List.getElem_cons_zero, Act.put, List.setIfInBounds_toArray, List.set_cons_zero, List.set_cons_succ]
            refine wpAnyH_take (i := 5) (v := (.pointer (some ⟨gr, m, none⟩))) rfl (by kernel_rfl) (by kernel_rfl) (by kernel_rfl) (fun _ _ _ h => h) (Or.inl ⟨by rfl, ?_⟩) (by assumption) ?_
            · intro w' hSw
              go_simp
            simp only [List.getElem_toArray, List.getElem_cons_succ, List.getElem_cons_zero, Act.put, List.setIfInBounds_toArray, List.set_cons_zero, List.set_cons_succ]
            refine wpAnyH_take (i := 6) (v := (.slice ko km kc)) rfl (by kernel_rfl) (by kernel_rfl) (by kernel_rfl) (fun _ _ _ h => h) (Or.inl ⟨by rfl, ?_⟩) (by assumption) ?_
            · intro w' hSw
              have cm := hSw.2.2
              go_simp
            simp only [List.getElem_toArray, List.getElem_cons_succ, List.getElem_cons_zero, Act.put, List.setIfInBounds_toArray, List.set_cons_zero, List.set_cons_succ]
            refine wpAnyH_take (i := 8) (v := (.agg #[.slice (some ⟨gK, 0, none⟩) t t, .slice (some ⟨gV, 0, none⟩) t t])) rfl (by kernel_rfl) (by kernel_rfl) (by kernel_rfl) (fun _ _ _ h => h) (Or.inl ⟨by rfl, ?_⟩) (by assumption) ?_
            · intro w' hSw
              exact yield_row 33 _ rfl gC rfl _ (load_ca hSw.2.1 rfl)
            simp only [List.getElem_toArray, List.getElem_cons_succ, List.getElem_cons_zero, Act.put, List.setIfInBounds_toArray, List.set_cons_zero, List.set_cons_succ]
            refine wpAnyH_ready (rs := [7]) (by kernel_rfl) (by simp) ?_
            refine AllReadyH.cons rfl (fun Kc hKc => ?_) AllReadyH.nil
            simp only [List.getElem_toArray, List.getElem_cons_succ, List.getElem_cons_zero]
            rw [if_pos (by rfl)]
            go_wp2_with fail
            refine (CL _ FY.kp _ _ _ AY.row).mono ?_
            rintro e w9 ⟨gl, rfl, FL, B9⟩
            have FZ := FY.below B9
            have cZ := cell_keep cY B9
            go_wp2_with fail
            refine hKc.out _ _ (⟨FZ.x1, FZ.xc, cZ⟩) (fun hHeld => ?_)
            clear hKc Kc
            refine wpAnyH_take (i := 9) (v := (.slice (some ⟨gl, 0, none⟩) V V)) rfl (by kernel_rfl) (by kernel_rfl) (by kernel_rfl) (fun _ _ _ h => h) (Or.inl ⟨by rfl, ?_⟩) (by assumption) ?_
            · intro w' hSw
              go_simp
            simp only [List.getElem_toArray, List.getElem_cons_succ, List.getElem_cons_zero, Act.put, List.setIfInBounds_toArray, List.set_cons_zero, List.set_cons_succ]
            refine wpAnyH_ready (rs := [10]) (by kernel_rfl) (by simp) ?_
            refine AllReadyH.cons rfl (fun Kc hKc => ?_) AllReadyH.nil
            simp only [List.getElem_toArray, List.getElem_cons_succ, List.getElem_cons_zero]
            rw [if_pos (by rfl)]
            have hall : Array.all (#[.slice (some ⟨gK, 0, none⟩) t t, .slice (some ⟨gV, 0, none⟩) t t] : Array Value) (fun v => v.oneCell') = true := by simp [Value.oneCell']
            refine wp_store_row 33 _ _ rfl (w.heap.size + 1 + 1) #[.slice (some ⟨gK, 0, none⟩) t t, .slice (some ⟨gV, 0, none⟩) t t] rfl rfl 33 _ FZ.x2 Tryz.infoCa rfl hall ?_
            have so : ∀ b, b ≠ w.heap.size + 1 + 1 → (w9.setRow (w.heap.size + 1 + 1) #[.slice (some ⟨gK, 0, none⟩) t t, .slice (some ⟨gV, 0, none⟩) t t]).heap[b]? = w9.heap[b]? := fun b hb => setRow_other _ _ _ _ hb
            have cN : (w9.setRow (w.heap.size + 1 + 1) #[.slice (some ⟨gK, 0, none⟩) t t, .slice (some ⟨gV, 0, none⟩) t t]).cell? ⟨gr, m, none⟩ = some (.slice ko km kc) := by
              rw [World.cell?_of_block (so gr (by
                rintro rfl
                have h9 := FZ.x2
                unfold Blk at h9
                unfold World.cell? at cZ
                simp only [h9] at cZ
                rcases m with _ | _ | m
                · simp at cZ; have := AY.row.cells (by omega); obtain ⟨_, _, e, _⟩ := this; rw [← cZ.1] at e; cases e
                · simp at cZ; have := AY.row.cells (by omega); obtain ⟨_, _, e, _⟩ := this; rw [← cZ.1] at e; cases e
                · simp at cZ))]
              exact cZ
            refine hKc.out _ _ ⟨Blk.of_block FZ.x1 (so _ (by omega)), Blk.of_block FZ.xc (so _ (by omega)), cN⟩ (fun hHeld => ?_)
            clear hKc Kc
            refine wpAnyH_take (i := 11) (v := (.int .i64 0)) rfl (by kernel_rfl) (by kernel_rfl) (by kernel_rfl) (fun _ _ _ h => h) (Or.inl ⟨by rfl, ?_⟩) (by assumption) ?_
            · intro w' hSw
              go_simp
            simp only [List.getElem_toArray, List.getElem_cons_succ, List.getElem_cons_zero, Act.put, List.setIfInBounds_toArray, List.set_cons_zero, List.set_cons_succ]
            refine wpAnyH_done (by kernel_rfl) ?_ _
            go_wp2
            refine bodyPost_ret (results_mid rfl _ _ (w.heap.size + 1 + 1) _ rfl (load_ca (FZ.x2.row _) rfl)) rfl ?_
            rw [HX.out]
            have sF := FY.kp.size
            refine ⟨gl, gK, gV, rfl, (FL.of_block (so gl (FL.ne FZ.x2 (by decide)))).mono sF, ?_, ?_, below_setRow FZ.kp (by omega) _⟩
            · exact (FZ.k.put (g2 := w.heap.size + 1 + 1) (by omega) (fun h => by have := h.1; omega) _).cube LF.out.1 (by omega) (fun b hb => by have := hb.1; omega) (by omega)
            · exact (FZ.v.put (g2 := w.heap.size + 1 + 1) (by omega) (fun h => by have := h.1; omega) _).cube LF.out.2 (by omega) (fun b hb => by have := hb.1; omega) (by omega)
end Go.Proofs.YtmdjlaileakbeaaGreatDoor

/- Package greedy: requests, ends, and the token that is liked best. -/
namespace Go.Proofs.YtmdjlaileakbeaaGreatDoor
open Go.ChangeShapes Go.WideShapes Go.ChangeAt Go.RowKit
/-- Is the last token the end? -/
def endB (A : List Int) : Bool := decide (0 < A.length) && decide (el A (A.length - 1) = 0)
def overB (A : List Int) (most : Int) : Bool := decide (most ≤ (A.length : Int)) || endB A
/-- The error's number of a request. -/
def askedN (V : Int) (A : List Int) (most : Int) : Int := if promptN V A ≠ 0 then promptN V A else if most < 1 then 1 else if 128 - (A.length : Int) < most then 2 else 0
theorem amax_pos (A : List Int) : ∀ k, 0 ≤ amax A (k + 1)
  | 0 => by simp [amax]
  | k + 1 => by
    have := amax_pos A k
    rw [amax]
    split <;> omega
end Go.Proofs.YtmdjlaileakbeaaGreatDoor

/- Package greedy: Run: what a model says behind a prompt. -/
namespace Go.Proofs.YtmdjlaileakbeaaGreatDoor
open Go.ChangeShapes Go.WideShapes Go.ChangeAt Go.RowKit
def noX : Vw := ⟨[], [], []⟩
/-- Behind j tokens of an answer: the view, the answer, and the tokens that the view lacks. -/
structure RunS where
  X : Vw
  Y : List Int
  T : List Int
def runS (M : Mdl) (V D H Hd L : Nat) (P : List Int) : Nat → RunS
  | 0 => ⟨noX, [], P⟩
  | j + 1 => ⟨feedAll M D H Hd L (runS M V D H Hd L P j).X (runS M V D H Hd L P j).T,
      (runS M V D H Hd L P j).Y ++ [amax (likAt M V D H Hd L (runS M V D H Hd L P j).X (runS M V D H Hd L P j).T (runS M V D H Hd L P j).T.length) V],
      [amax (likAt M V D H Hd L (runS M V D H Hd L P j).X (runS M V D H Hd L P j).T (runS M V D H Hd L P j).T.length) V]⟩
theorem runS_len (M : Mdl) (V D H Hd L : Nat) (P : List Int) : ∀ j, (runS M V D H Hd L P j).Y.length = j
  | 0 => rfl
  | j + 1 => by show (_ ++ [_]).length = _; rw [List.length_append, runS_len M V D H Hd L P j]; rfl
theorem runS_sum (M : Mdl) (V D H Hd L : Nat) (P : List Int) : ∀ j, (runS M V D H Hd L P j).X.T.length + (runS M V D H Hd L P j).T.length = P.length + j
  | 0 => by show 0 + P.length = _; omega
  | j + 1 => by
    show (feedAll M D H Hd L _ _).T.length + 1 = _
    rw [feedAll_len, runS_sum M V D H Hd L P j]
    omega
theorem amax_tok (A : List Int) {V : Nat} (hV : 1 ≤ V) : 0 ≤ amax A V ∧ amax A V < V := by
  obtain ⟨k, rfl⟩ : ∃ k, V = k + 1 := ⟨V - 1, by omega⟩
  exact ⟨amax_pos A k, (amax_bd A (k + 1)).2⟩
theorem noX_fit (V : Int) (D L : Nat) : VwFit V D L noX := ⟨by show 0 ≤ 128; omega, rfl, rfl, rfl, (fun _ h => by cases h), (fun _ h => by cases h)⟩
theorem runS_toks {M : Mdl} {V D H Hd L : Nat} {P : List Int} (hV : 1 ≤ V) (hP : promptN V P = 0) : ∀ j, promptN V (runS M V D H Hd L P j).T = 0
  | 0 => hP
  | j + 1 => by
    have h := amax_tok (likAt M V D H Hd L (runS M V D H Hd L P j).X (runS M V D H Hd L P j).T (runS M V D H Hd L P j).T.length) hV
    show promptN V [amax _ V] = 0
    unfold promptN
    rw [if_neg (by simp), if_neg (by simp)]
    have : List.all [amax (likAt M V D H Hd L (runS M V D H Hd L P j).X (runS M V D H Hd L P j).T (runS M V D H Hd L P j).T.length) (V : Nat)] (tokB V) = true := by
      simp only [List.all_cons, List.all_nil, Bool.and_true]
      unfold tokB
      exact decide_eq_true h
    rw [if_pos this]
theorem runS_fit {M : Mdl} {V D H Hd L : Nat} {P : List Int} (hV : 1 ≤ V) (hP : promptN V P = 0) : ∀ j, P.length + j ≤ 129 → VwFit V D L (runS M V D H Hd L P j).X
  | 0, _ => noX_fit _ _ _
  | j + 1, h => by
    have hs := runS_sum M V D H Hd L P j
    exact feedAll_fit (runS_fit hV hP j (by omega)) (prompt_ok (runS_toks hV hP j)).2.2 (by omega)
theorem asked_ok {V : Int} {A : List Int} {most : Int} (h : askedN V A most = 0) : promptN V A = 0 ∧ 1 ≤ most ∧ most ≤ 128 - (A.length : Int) := by
  unfold askedN at h
  split at h
  · rename_i h1; exact absurd h h1
  · rename_i h1
    split at h
    · omega
    · split at h
      · omega
      · exact ⟨by simpa using h1, by omega, by omega⟩
theorem over_not {A : List Int} {most : Int} (h : overB A most = false) : (A.length : Int) < most := by
  unfold overB at h
  rw [Bool.or_eq_false_iff] at h
  simpa using h.1
theorem one_int {w : World} {bo : Nat} {x : Int} (h : w.cell? ⟨bo, 0, none⟩ = some (.int .i64 x)) : ∀ j u, ([x].map (Value.int .i64))[j]? = some u → w.cell? ((Addr.mk bo 0 none).add j) = some u := by
  intro j u hj
  match j, hj with
  | 0, hj =>
    simp at hj
    subst hj
    have e2 : (Addr.mk bo 0 none).add 0 = ⟨bo, 0, none⟩ := by simp [Addr.add]
    rw [e2, h]
theorem iarg_one {w : World} {bo : Nat} {x : Int} (h : Blk w bo 3 #[.int .i64 x]) (h1 : -9223372036854775808 ≤ x) (h2 : x ≤ 9223372036854775807) : IArg w (some ⟨bo, 0, none⟩) 1 1 [x] := by
  refine ⟨⟨rfl, by omega, fun k => ?_, fun _ => ⟨bo, 0, rfl, fun t ht => ?_⟩⟩, by omega, by omega, fun h => by cases h⟩
  · cases k with
    | zero => exact ⟨h1, h2⟩
    | succ k => simp [el]
  · obtain rfl : t = 0 := by omega
    exact h.cell 0 rfl
theorem el_snoc_bd {A : List Int} {x : Int} (h : ∀ k, -9223372036854775808 ≤ el A k ∧ el A k ≤ 9223372036854775807) (h1 : -9223372036854775808 ≤ x) (h2 : x ≤ 9223372036854775807) (k : Nat) : -9223372036854775808 ≤ el (A ++ [x]) k ∧ el (A ++ [x]) k ≤ 9223372036854775807 := by
  rcases Nat.lt_or_ge k A.length with hk | hk
  · rw [el_append_left hk]; exact h k
  · unfold el
    rw [List.getD_eq_getElem?_getD, List.getElem?_append_right hk]
    rcases Nat.eq_zero_or_pos (k - A.length) with h0 | h0
    · rw [h0]; exact ⟨h1, h2⟩
    · rw [List.getElem?_eq_none (by simp; omega)]; simp
theorem runS_yb (M : Mdl) (V D H Hd L : Nat) (P : List Int) (hV : 1 ≤ V) (hV2 : V ≤ 4096) : ∀ (j k : Nat), -9223372036854775808 ≤ el (runS M V D H Hd L P j).Y k ∧ el (runS M V D H Hd L P j).Y k ≤ 9223372036854775807
  | 0, k => by
    have e : el (runS M V D H Hd L P 0).Y k = 0 := by show el [] k = 0; simp [el]
    rw [e]; omega
  | j + 1, k => by
    have ih := runS_yb M V D H Hd L P hV hV2 j
    have ht := amax_tok (likAt M V D H Hd L (runS M V D H Hd L P j).X (runS M V D H Hd L P j).T (runS M V D H Hd L P j).T.length) hV
    have e : (runS M V D H Hd L P (j + 1)).Y = (runS M V D H Hd L P j).Y ++ [amax (likAt M V D H Hd L (runS M V D H Hd L P j).X (runS M V D H Hd L P j).T (runS M V D H Hd L P j).T.length) V] := rfl
    rw [e]
    exact el_snoc_bd ih (by omega) (by omega) k
/-- Within Run: boxes, the view, the answer and the tokens behind j rounds. -/
structure RI (w wr : World) (V D H Hd L : Nat) (cfg ws : Array Value) (M : Mdl) (P : List Int) (gV j : Nat) (vv : VwV) (ya ta : Option Addr) (yc tn tc : Nat) : Prop where
  x0 : Blk wr w.heap.size 23 cfg
  x1 : Blk wr (w.heap.size + 1) 29 ws
  xv : Blk wr gV 35 vv.cells
  at_ : VwAt wr vv (runS M V D H Hd L P j).X
  y : IOwn wr (gV + 1) (.slice ya j yc) j (runS M V D H Hd L P j).Y
  t : IArg wr ta tn tc (runS M V D H Hd L P j).T
  kp : Below w.heap.size w wr
  gv : w.heap.size + 1 < gV
end Go.Proofs.YtmdjlaileakbeaaGreatDoor

/- THE CACHE: token by token the same comes out as from the beginning. -/
namespace Go.Proofs.YtmdjlaileakbeaaGreatDoor
open Go.ChangeShapes Go.WideShapes Go.ChangeAt Go.RowKit
theorem rowOf_left {R S : List (List Int)} {t : Nat} (h : t < R.length) : rowOf (R ++ S) t = rowOf R t := by
  unfold rowOf
  simp only [List.getD_eq_getElem?_getD, List.getElem?_append_left h]
theorem rowOf_last (R : List (List Int)) (x : List Int) : rowOf (R ++ [x]) R.length = x := by
  unfold rowOf
  simp
theorem madeR_snoc (L : Lay) (D H Hd : Nat) (R : List (List Int)) (x : List Int) : madeR L D H Hd (R ++ [x]) = madeR L D H Hd R ++ [oneR L D H Hd x (keysR L D R) (valsR L D R) R.length] := by
  have tk : ∀ i, i ≤ R.length → (keysR L D (R ++ [x])).take i = (keysR L D R).take i := fun i hi => by
    unfold keysR
    rw [List.map_append, List.take_append_of_le_length (by simpa using hi)]
  have tv : ∀ i, i ≤ R.length → (valsR L D (R ++ [x])).take i = (valsR L D R).take i := fun i hi => by
    unfold valsR
    rw [List.map_append, List.take_append_of_le_length (by simpa using hi)]
  unfold madeR
  rw [List.length_append, List.length_singleton, List.range_succ, List.map_append]
  congr 1
  · refine List.map_congr_left fun i hi => ?_
    have hi' : i < R.length := List.mem_range.1 hi
    rw [rowOf_left hi', tk i (by omega), tv i (by omega)]
  · have ek : (keysR L D R).take R.length = keysR L D R := List.take_of_length_le (by unfold keysR; simp)
    have ev : (valsR L D R).take R.length = valsR L D R := List.take_of_length_le (by unfold valsR; simp)
    simp only [List.map_cons, List.map_nil]
    rw [rowOf_last, tk _ (Nat.le_refl _), tv _ (Nat.le_refl _), ek, ev]
theorem begL_snoc (E : List Int) (D : Nat) (A : List Int) (t : Int) : begL E D (A ++ [t]) = begL E D A ++ [begR E D t.toNat A.length] := by
  unfold begL
  rw [List.length_append, List.length_singleton, List.range_succ, List.map_append]
  congr 1
  · refine List.map_congr_left fun i hi => ?_
    rw [el_append_left (List.mem_range.1 hi)]
  · simp only [List.map_cons, List.map_nil]
    have := el_append_right (A := A) (B := [t]) (k := 0)
    rw [Nat.add_zero] at this
    rw [this]
    rfl
/-- The lists of a view are what the layers make of its rows. -/
def Cached (M : Mdl) (D H Hd L : Nat) (X : Vw) (A : List Int) : Prop := X.T = A ∧ (∀ l, l < L → X.K.getD l [] = keysR (layAt M l) D (rowsL M D H Hd A l)) ∧ ∀ l, l < L → X.V.getD l [] = valsR (layAt M l) D (rowsL M D H Hd A l)
theorem rowsL_snoc {M : Mdl} {D H Hd L : Nat} {X : Vw} {A : List Int} (h : Cached M D H Hd L X A) (t : Int) : ∀ l, l ≤ L → rowsL M D H Hd (A ++ [t]) l = rowsL M D H Hd A l ++ [xRow M D H Hd A.length X.K X.V (begR M.E D t.toNat A.length) l]
  | 0, _ => begL_snoc M.E D A t
  | l + 1, hl => by
    have ih := rowsL_snoc h t l (by omega)
    show madeR (layAt M l) D H Hd (rowsL M D H Hd (A ++ [t]) l) = madeR (layAt M l) D H Hd (rowsL M D H Hd A l) ++ [oneR (layAt M l) D H Hd (xRow M D H Hd A.length X.K X.V (begR M.E D t.toNat A.length) l) (X.K.getD l []) (X.V.getD l []) A.length]
    rw [ih, madeR_snoc, rowsL_len, h.2.1 l (by omega), h.2.2 l (by omega)]
theorem cached_none (M : Mdl) (D H Hd L : Nat) : Cached M D H Hd L noX [] := by
  have e : ∀ l, rowsL M D H Hd [] l = [] := fun l => List.length_eq_zero_iff.1 (rowsL_len M D H Hd [] l)
  exact ⟨rfl, fun l _ => by rw [e]; rfl, fun l _ => by rw [e]; rfl⟩
theorem cached_feed {M : Mdl} {D H Hd L : Nat} {X : Vw} {A : List Int} (h : Cached M D H Hd L X A) {t : Int} (ht : 0 ≤ t) : Cached M D H Hd L (feedV M D H Hd L X t.toNat) (A ++ [t]) := by
  obtain ⟨rfl, h2, h3⟩ := h
  refine ⟨?_, fun l hl => ?_, fun l hl => ?_⟩
  · show X.T ++ [((t.toNat : Nat) : Int)] = X.T ++ [t]
    rw [Int.toNat_of_nonneg ht]
  · show (newK M D H Hd X.T.length L X.K X.V (begR M.E D t.toNat X.T.length)).getD l [] = _
    rw [newK_at _ _ _ _ _ _ _ _ _ hl, rowsL_snoc ⟨rfl, h2, h3⟩ t l (by omega), h2 l hl]
    unfold keysR
    rw [List.map_append]
    rfl
  · show (newV M D H Hd X.T.length L X.K X.V (begR M.E D t.toNat X.T.length)).getD l [] = _
    rw [newV_at _ _ _ _ _ _ _ _ _ hl, rowsL_snoc ⟨rfl, h2, h3⟩ t l (by omega), h3 l hl]
    unfold valsR
    rw [List.map_append]
    rfl
theorem cached_all {M : Mdl} {D H Hd L : Nat} (B : List Int) : ∀ {X : Vw} {A : List Int}, Cached M D H Hd L X A → (∀ x ∈ B, 0 ≤ x) → Cached M D H Hd L (feedAll M D H Hd L X B) (A ++ B) := by
  induction B with
  | nil => intro X A h _; rw [List.append_nil]; exact h
  | cons b B ih =>
    intro X A h hb
    have h1 := cached_feed h (hb b (List.mem_cons_self ..))
    have h2 := ih h1 fun x hx => hb x (List.mem_cons_of_mem _ hx)
    rw [List.append_assoc] at h2
    exact h2
theorem feedX_last {M : Mdl} {D H Hd L : Nat} {X : Vw} {A : List Int} (h : Cached M D H Hd L X A) (t : Int) : feedX M D H Hd L X t.toNat = rowOf (rowsL M D H Hd (A ++ [t]) L) A.length := by
  rw [rowsL_snoc h t L (Nat.le_refl _)]
  have := rowOf_last (rowsL M D H Hd A L) (xRow M D H Hd A.length X.K X.V (begR M.E D t.toNat A.length) L)
  rw [rowsL_len] at this
  rw [this]
  show xRow M D H Hd X.T.length X.K X.V (begR M.E D t.toNat X.T.length) L = _
  rw [h.1]
theorem fullX_last {M : Mdl} {V D H Hd L : Nat} {X : Vw} {A : List Int} (h : Cached M D H Hd L X A) (t : Int) : likR M V D (feedX M D H Hd L X t.toNat) = fullX M V D H Hd L (A ++ [t]) := by
  unfold fullX
  rw [feedX_last h t, List.length_append, List.length_singleton, Nat.add_sub_cancel]
end Go.Proofs.YtmdjlaileakbeaaGreatDoor

/- The document's layer 8: what is liked, and all tokens one behind the other. Written by tools/genr8d.py. -/
namespace Go.Proofs.YtmdjlaileakbeaaGreatDoor
open Go.ChangeShapes Go.WideShapes Go.ChangeAt Go.RowKit
set_option maxRecDepth 100000 in
set_option maxHeartbeats 4000000 in
theorem rlikes_any (V D H n k : Nat) (W : Wt) (bs : List Bk) (M : Mdl) (sr sk sv : Sl) (C : List (List (List Int))) (R : List (List Int)) (w : World) (hW : WtAt w V D H W bs M) (hC : DCube w sr C) (hk : C.length = k + 1) (hR : C[k]? = some R) (hn : R.length = n + 1) (hx : (rowOf R n).length = D) (h1 : 1 ≤ D) (h2 : D ≤ 5000) :
   Calls Tryz.prog 31 #[.agg W.cells, .agg #[sr.v, sk.v, sv.v]] w fun e w' => ∃ g cap, e = .returned (.slice (some ⟨g, 0, none⟩) V cap) ∧ Fresh w' w.heap.size g V cap (likR M V D (rowOf R n)) ∧ Below w.heap.size w w' := by
  have hl := hC.len
  have hks : k ≤ 1000 := by have := hC.small; omega
  obtain ⟨b, o, e0, hc⟩ := hC.cells (by omega)
  obtain ⟨b1, o1, n1, c1, k1, k2, k3, GR⟩ := hc k R hR
  have hg := GR.len
  obtain rfl : n1 = n + 1 := by omega
  obtain ⟨b2, o2, e1, hc2⟩ := GR.cells (by omega)
  simp only [Option.some.injEq, Addr.mk.injEq, and_true] at e1
  obtain ⟨rfl, rfl⟩ := e1
  obtain ⟨ro, m, c, y1, AR⟩ := hc2 n (by omega)
  obtain rfl : D = m := by have := AR.row.len; omega
  have hcap := GR.max
  obtain ⟨⟨er, ec, ⟨ea, en, ez⟩⟩, ⟨ba, bn, bz⟩, ⟨la, ln, lz⟩, ⟨or, oc, od⟩⟩ := W
  obtain ⟨ob, oo, on, oz, e1, MO⟩ := hW.o
  simp only [Mt.mk.injEq] at e1
  obtain ⟨rfl, rfl, rfl⟩ := e1
  obtain ⟨e2, AL⟩ := hW.l
  simp only at e2 AL
  replace e2 := e2.symm
  subst e2
  obtain ⟨ra, rn, rz⟩ := sr
  simp only at e0 hl
  subst e0
  obtain rfl : rn = k + 1 := by omega
  obtain ⟨ka, kn, kz⟩ := sk
  obtain ⟨va, vn, vz⟩ := sv
  have HMO : Hid (∀ W, Below w.heap.size w W → MatAt W V D ob oo on oz M.O) := fun W hb => MO.below hb
  have HAL : Hid (∀ W, Below w.heap.size w W → Arg W la D lz M.G) := fun W hb => AL.below hb
  have HAR : Hid (∀ W, Below w.heap.size w W → Arg W ro D c (rowOf R n)) := fun W hb => AR.below hb
  have HY : Hid (∀ W, Below w.heap.size w W → W.cell? ⟨b1, o1 + n, none⟩ = some (.slice ro D c)) := fun W hb => cell_keep y1 hb
  clear hW hC hc hc2 GR MO AL AR hx hR hg hn
  show Calls Tryz.prog 31 #[.agg #[.int .i64 er, .int .i64 ec, .slice ea en ez, .slice ba bn bz, .slice la D lz, .int .i64 (V : Int), .int .i64 (D : Int), .slice (some ⟨ob, oo, none⟩) on oz], .agg #[.slice (some ⟨b, o, none⟩) (k + 1) rz, .slice ka kn kz, .slice va vn vz]] w _
  have X0 := blk_new w 38 #[.int .i64 er, .int .i64 ec, .slice ea en ez, .slice ba bn bz, .slice la D lz, .int .i64 (V : Int), .int .i64 (D : Int), .slice (some ⟨ob, oo, none⟩) on oz]
  have B0 := below_alloc8 w (.cells #[.int .i64 er, .int .i64 ec, .slice ea en ez, .slice ba bn bz, .slice la D lz, .int .i64 (V : Int), .int .i64 (D : Int), .slice (some ⟨ob, oo, none⟩) on oz] 38)
  have s0 : (w.alloc (.cells #[.int .i64 er, .int .i64 ec, .slice ea en ez, .slice ba bn bz, .slice la D lz, .int .i64 (V : Int), .int .i64 (D : Int), .slice (some ⟨ob, oo, none⟩) on oz] 38)).heap.size = w.heap.size + 1 := by simp
  generalize hw0 : w.alloc (.cells #[.int .i64 er, .int .i64 ec, .slice ea en ez, .slice ba bn bz, .slice la D lz, .int .i64 (V : Int), .int .i64 (D : Int), .slice (some ⟨ob, oo, none⟩) on oz] 38) = wx0 at *
  have X1 := blk_new wx0 80 #[.slice (some ⟨b, o, none⟩) (k + 1) rz, .slice ka kn kz, .slice va vn vz]
  have B1 := below_alloc8 wx0 (.cells #[.slice (some ⟨b, o, none⟩) (k + 1) rz, .slice ka kn kz, .slice va vn vz] 80)
  have s1 : (wx0.alloc (.cells #[.slice (some ⟨b, o, none⟩) (k + 1) rz, .slice ka kn kz, .slice va vn vz] 80)).heap.size = wx0.heap.size + 1 := by simp
  generalize hw1 : wx0.alloc (.cells #[.slice (some ⟨b, o, none⟩) (k + 1) rz, .slice ka kn kz, .slice va vn vz] 80) = wx1 at *
  have X01 := X0.below B1
  have D1 := below_then B0 B1
  have z0 : wx1.cell? ⟨wx0.heap.size, 0, none⟩ = some (.slice (some ⟨b, o, none⟩) (k + 1) rz) := X1.cell 0 rfl
  have k1' := cell_keep k1 D1
  have HX : Hid (Blk wx1 w.heap.size 38 #[.int .i64 er, .int .i64 ec, .slice ea en ez, .slice ba bn bz, .slice la D lz, .int .i64 (V : Int), .int .i64 (D : Int), .slice (some ⟨ob, oo, none⟩) on oz]) := X01
  clear X0 X1 B0 B1 s0 s1 X01 k1
  go_enter Tryz.func31, Tryz.ntmps31
  go_upto_region 2 with fail
  clear hw0 hw1 z0 k1'
  have E0 : Below wx1.heap.size wx1 wx1.drew := (Below.refl _ wx1).drew
  have XE := HX.out.below E0
  have D2 := below_then D1 E0
  have SJ := And.intro XE (HY.out _ D2)
  have wn : IntKind.i64.wrap (n : Int) = (n : Int) := w64_in (by omega)
  refine wp_region_held_drew (S := fun w' => Blk w' w.heap.size 38 #[.int .i64 er, .int .i64 ec, .slice ea en ez, .slice ba bn bz, .slice la D lz, .int .i64 (V : Int), .int .i64 (D : Int), .slice (some ⟨ob, oo, none⟩) on oz] ∧ w'.cell? ⟨b1, o1 + n, none⟩ = some (.slice ro D c)) (by kernel_rfl) (SJ) (fun hHeld => ?_)
  generalize wx1.drew = wj at *
  refine wpAnyH_take (i := 0) (v := (.pointer (some ⟨w.heap.size, 5, none⟩))) rfl (by kernel_rfl) (by kernel_rfl) (by kernel_rfl) (fun _ _ _ h => h) (Or.inl ⟨by rfl, ?_⟩) (by assumption) ?_
  · intro w' hSw
    go_simp
  simp only [List.getElem_toArray, List.getElem_cons_zero, Act.put, List.setIfInBounds_toArray, List.set_cons_zero, List.set_cons_succ]
  refine wpAnyH_take (i := 1) (v := (.agg #[.int .i64 (V : Int), .int .i64 (D : Int), .slice (some ⟨ob, oo, none⟩) on oz])) rfl (by kernel_rfl) (by kernel_rfl) (by kernel_rfl) (fun _ _ _ h => h) (Or.inl ⟨by rfl, ?_⟩) (by assumption) ?_
  · intro w' hSw
    have y5 : w'.cell? ⟨w.heap.size, 5, none⟩ = some (.int .i64 (V : Int)) := hSw.1.cell 5 rfl
    have y6 : w'.cell? ⟨w.heap.size, 6, none⟩ = some (.int .i64 (D : Int)) := hSw.1.cell 6 rfl
    have y7 : w'.cell? ⟨w.heap.size, 7, none⟩ = some (.slice (some ⟨ob, oo, none⟩) on oz) := hSw.1.cell 7 rfl
    go_simp
  simp only [List.getElem_toArray, List.getElem_cons_succ, List.getElem_cons_zero, Act.put, List.setIfInBounds_toArray, List.set_cons_zero, List.set_cons_succ]
  refine wpAnyH_take (i := 2) (v := (.slice (some ⟨b1, o1, none⟩) (n + 1) c1)) rfl (by kernel_rfl) (by kernel_rfl) (by kernel_rfl) (fun _ _ _ h => h) (Or.inl ⟨by rfl, ?_⟩) (by assumption) ?_
  · intro w' hSw
    go_simp
  simp only [List.getElem_toArray, List.getElem_cons_succ, List.getElem_cons_zero, Act.put, List.setIfInBounds_toArray, List.set_cons_zero, List.set_cons_succ]
  refine wpAnyH_take (i := 3) (v := (.slice (some ⟨b1, o1, none⟩) (n + 1) c1)) rfl (by kernel_rfl) (by kernel_rfl) (by kernel_rfl) (fun _ _ _ h => h) (Or.inl ⟨by rfl, ?_⟩) (by assumption) ?_
  · intro w' hSw
    go_simp
  simp only [List.getElem_toArray, List.getElem_cons_succ, List.getElem_cons_zero, Act.put, List.setIfInBounds_toArray, List.set_cons_zero, List.set_cons_succ]
  refine wpAnyH_take (i := 4) (v := (.int .i64 ((n + 1 : Nat) : Int))) rfl (by kernel_rfl) (by kernel_rfl) (by kernel_rfl) (fun _ _ _ h => h) (Or.inl ⟨by rfl, ?_⟩) (by assumption) ?_
  · intro w' hSw
    go_simp
  simp only [List.getElem_toArray, List.getElem_cons_succ, List.getElem_cons_zero, Act.put, List.setIfInBounds_toArray, List.set_cons_zero, List.set_cons_succ]
  refine wpAnyH_take (i := 5) (v := (.int .i64 (n : Int))) rfl (by kernel_rfl) (by kernel_rfl) (by kernel_rfl) (fun _ _ _ h => h) (Or.inl ⟨by rfl, ?_⟩) (by assumption) ?_
  · intro w' hSw
    go_simp
  simp only [List.getElem_toArray, List.getElem_cons_succ, List.getElem_cons_zero, Act.put, List.setIfInBounds_toArray, List.set_cons_zero, List.set_cons_succ]
  refine wpAnyH_take (i := 6) (v := (.pointer (some ⟨b1, o1 + n, none⟩))) rfl (by kernel_rfl) (by kernel_rfl) (by kernel_rfl) (fun _ _ _ h => h) (Or.inl ⟨by rfl, ?_⟩) (by assumption) ?_
  · intro w' hSw
    go_simp; intro h9; omega
  simp only [List.getElem_toArray, List.getElem_cons_succ, List.getElem_cons_zero, Act.put, List.setIfInBounds_toArray, List.set_cons_zero, List.set_cons_succ]
  refine wpAnyH_take (i := 7) (v := (.slice ro D c)) rfl (by kernel_rfl) (by kernel_rfl) (by kernel_rfl) (fun _ _ _ h => h) (Or.inl ⟨by rfl, ?_⟩) (by assumption) ?_
  · intro w' hSw
    have y9 := hSw.2
    go_simp
  simp only [List.getElem_toArray, List.getElem_cons_succ, List.getElem_cons_zero, Act.put, List.setIfInBounds_toArray, List.set_cons_zero, List.set_cons_succ]
  refine wpAnyH_take (i := 8) (v := (.pointer (some ⟨w.heap.size, 4, none⟩))) rfl (by kernel_rfl) (by kernel_rfl) (by kernel_rfl) (fun _ _ _ h => h) (Or.inl ⟨by rfl, ?_⟩) (by assumption) ?_
  · intro w' hSw
    go_simp
  simp only [List.getElem_toArray, List.getElem_cons_succ, List.getElem_cons_zero, Act.put, List.setIfInBounds_toArray, List.set_cons_zero, List.set_cons_succ]
  refine wpAnyH_take (i := 9) (v := (.slice la D lz)) rfl (by kernel_rfl) (by kernel_rfl) (by kernel_rfl) (fun _ _ _ h => h) (Or.inl ⟨by rfl, ?_⟩) (by assumption) ?_
  · intro w' hSw
    have y4 : w'.cell? ⟨w.heap.size, 4, none⟩ = some (.slice la D lz) := hSw.1.cell 4 rfl
    go_simp
  simp only [List.getElem_toArray, List.getElem_cons_succ, List.getElem_cons_zero, Act.put, List.setIfInBounds_toArray, List.set_cons_zero, List.set_cons_succ]
  refine wpAnyH_ready (rs := [10]) (by kernel_rfl) (by simp) ?_
  refine AllReadyH.cons rfl (fun Kc hKc => ?_) AllReadyH.nil
  simp only [List.getElem_toArray, List.getElem_cons_succ, List.getElem_cons_zero]
  rw [if_pos (by rfl)]
  go_wp2_with fail
  refine (refNorm_any _ _ D _ _ (rowOf R n) M.G _ (HAR.out _ D2).row (HAL.out _ D2).row h1 (by omega)).mono ?_
  rintro e w2 ⟨gm, cm, rfl, FM, U1⟩
  have D3 := below_then D2 U1
  go_wp2_with fail
  refine hKc.out _ _ (⟨XE.below U1, HY.out _ D3⟩) (fun hHeld => ?_)
  clear hKc Kc
  refine wpAnyH_ready (rs := [11]) (by kernel_rfl) (by simp) ?_
  refine AllReadyH.cons rfl (fun Kc hKc => ?_) AllReadyH.nil
  simp only [List.getElem_toArray, List.getElem_cons_succ, List.getElem_cons_zero]
  rw [if_pos (by rfl)]
  go_wp2_with fail
  refine (refApply_any V D ob oo on oz M.O _ _ _ _ (HMO.out _ D3) FM.rowAt).mono ?_
  rintro e w3 ⟨gz, cz, rfl, FZ, U2⟩
  have D4 := below_then D3 U2
  go_wp2_with fail
  refine hKc.out _ _ (⟨(XE.below U1).below U2, HY.out _ D4⟩) (fun hHeld => ?_)
  clear hKc Kc
  refine wpAnyH_take (i := 12) (v := (.slice (some ⟨gz, 0, none⟩) V cz)) rfl (by kernel_rfl) (by kernel_rfl) (by kernel_rfl) (fun _ _ _ h => h) (Or.inl ⟨by rfl, ?_⟩) (by assumption) ?_
  · intro w' hSw
    go_simp
  simp only [List.getElem_toArray, List.getElem_cons_succ, List.getElem_cons_zero, Act.put, List.setIfInBounds_toArray, List.set_cons_zero, List.set_cons_succ]
  refine wpAnyH_done (by kernel_rfl) ?_ _
  go_wp2
  go_ret
  exact ⟨gz, cz, rfl, FZ.mono D3.size, D4⟩
/-- What the document keeps of tokens: nothing of none. -/
def fR (M : Mdl) (D H Hd L : Nat) (A : List Int) : List (List (List Int)) := if A.length = 0 then [] else (List.range (L + 1)).map (rowsL M D H Hd A)
def fK (M : Mdl) (D H Hd L : Nat) (A : List Int) : List (List (List Int)) := if A.length = 0 then [] else fullK M D H Hd L A
def fV (M : Mdl) (D H Hd L : Nat) (A : List Int) : List (List (List Int)) := if A.length = 0 then [] else fullV M D H Hd L A
theorem rowsL_nil (M : Mdl) (D H Hd l : Nat) : rowsL M D H Hd [] l = [] := List.length_eq_zero_iff.1 (rowsL_len M D H Hd [] l)
theorem fR_at (M : Mdl) (D H Hd L : Nat) (A : List Int) {l : Nat} (h : l ≤ L) : (fR M D H Hd L A).getD l [] = rowsL M D H Hd A l := by
  unfold fR
  split
  · rename_i h0
    obtain rfl : A = [] := List.length_eq_zero_iff.1 h0
    rw [rowsL_nil]; rfl
  · rw [List.getD_eq_getElem?_getD, List.getElem?_map, List.getElem?_range (by omega)]; rfl
theorem fK_at (M : Mdl) (D H Hd L : Nat) (A : List Int) {l : Nat} (h : l < L) : (fK M D H Hd L A).getD l [] = keysR (layAt M l) D (rowsL M D H Hd A l) := by
  unfold fK
  split
  · rename_i h0
    obtain rfl : A = [] := List.length_eq_zero_iff.1 h0
    rw [rowsL_nil]; rfl
  · exact fullK_at _ _ _ _ _ _ h
theorem fV_at (M : Mdl) (D H Hd L : Nat) (A : List Int) {l : Nat} (h : l < L) : (fV M D H Hd L A).getD l [] = valsR (layAt M l) D (rowsL M D H Hd A l) := by
  unfold fV
  split
  · rename_i h0
    obtain rfl : A = [] := List.length_eq_zero_iff.1 h0
    rw [rowsL_nil]; rfl
  · exact fullV_at _ _ _ _ _ _ h
theorem f_cached (M : Mdl) (D H Hd L : Nat) (A : List Int) : Cached M D H Hd L ⟨A, fK M D H Hd L A, fV M D H Hd L A⟩ A := ⟨rfl, fun _ h => fK_at M D H Hd L A h, fun _ h => fV_at M D H Hd L A h⟩
theorem f_step (M : Mdl) (D H Hd L : Nat) (A : List Int) (t : Int) {l : Nat} (h : l ≤ L) : xRow M D H Hd A.length (fK M D H Hd L A) (fV M D H Hd L A) (begR M.E D t.toNat A.length) l = rowOf (rowsL M D H Hd (A ++ [t]) l) A.length ∧ rowsL M D H Hd (A ++ [t]) l = rowsL M D H Hd A l ++ [xRow M D H Hd A.length (fK M D H Hd L A) (fV M D H Hd L A) (begR M.E D t.toNat A.length) l] := by
  have e := rowsL_snoc (f_cached M D H Hd L A) t l h
  refine ⟨?_, e⟩
  rw [e]
  have := rowOf_last (rowsL M D H Hd A l) (xRow M D H Hd A.length (fK M D H Hd L A) (fV M D H Hd L A) (begR M.E D t.toNat A.length) l)
  rw [rowsL_len] at this
  exact this.symm
theorem goR_f (M : Mdl) (D H Hd L : Nat) (A : List Int) (t : Int) : (List.range (L + 1)).map (goR M D H Hd A.length (fR M D H Hd L A) (fK M D H Hd L A) (fV M D H Hd L A) (begR M.E D t.toNat A.length)) = fR M D H Hd L (A ++ [t]) := by
  have h0 : ¬ (A ++ [t]).length = 0 := by simp
  unfold fR
  rw [if_neg h0]
  refine List.map_congr_left fun l hl => ?_
  have hl' : l ≤ L := by have := List.mem_range.1 hl; omega
  show (fR M D H Hd L A).getD l [] ++ _ = _
  rw [fR_at M D H Hd L A hl', (f_step M D H Hd L A t hl').2]
theorem goK_f (M : Mdl) (D H Hd L : Nat) (A : List Int) (t : Int) : (List.range L).map (goK M D H Hd A.length (fK M D H Hd L A) (fV M D H Hd L A) (begR M.E D t.toNat A.length)) = fK M D H Hd L (A ++ [t]) := by
  have h0 : ¬ (A ++ [t]).length = 0 := by simp
  have e : fK M D H Hd L (A ++ [t]) = fullK M D H Hd L (A ++ [t]) := by unfold fK; rw [if_neg h0]
  rw [e]
  unfold fullK
  refine List.map_congr_left fun l hl => ?_
  have hl' : l < L := List.mem_range.1 hl
  show (fK M D H Hd L A).getD l [] ++ _ = _
  rw [fK_at M D H Hd L A hl', (f_step M D H Hd L A t (by omega)).2]
  unfold keysR
  rw [List.map_append]
  rfl
theorem goV_f (M : Mdl) (D H Hd L : Nat) (A : List Int) (t : Int) : (List.range L).map (goV M D H Hd A.length (fK M D H Hd L A) (fV M D H Hd L A) (begR M.E D t.toNat A.length)) = fV M D H Hd L (A ++ [t]) := by
  have h0 : ¬ (A ++ [t]).length = 0 := by simp
  have e : fV M D H Hd L (A ++ [t]) = fullV M D H Hd L (A ++ [t]) := by unfold fV; rw [if_neg h0]
  rw [e]
  unfold fullV
  refine List.map_congr_left fun l hl => ?_
  have hl' : l < L := List.mem_range.1 hl
  show (fV M D H Hd L A).getD l [] ++ _ = _
  rw [fV_at M D H Hd L A hl', (f_step M D H Hd L A t (by omega)).2]
  unfold valsR
  rw [List.map_append]
  rfl
theorem f_m (M : Mdl) (D H Hd L : Nat) (A : List Int) : (if (fR M D H Hd L A).length = 0 then 0 else ((fR M D H Hd L A).getD 0 []).length) = A.length := by
  rw [fR_at M D H Hd L A (Nat.zero_le _), rowsL_len]
  unfold fR
  by_cases h : A.length = 0
  · rw [if_pos h, h]; rfl
  · rw [if_neg h, if_neg (by simp)]
theorem fK_rows (M : Mdl) (D H Hd L : Nat) (A : List Int) (l : Nat) (h : l < L) : ((fK M D H Hd L A).getD l []).length = A.length ∧ ∀ t, t < A.length → (rowOf ((fK M D H Hd L A).getD l []) t).length = D := by
  rw [fK_at M D H Hd L A h]
  refine ⟨by unfold keysR; rw [List.length_map, rowsL_len], fun t ht => ?_⟩
  rw [keysR_at _ _ (by rw [rowsL_len]; exact ht)]
  exact apl_len _ _ _ _
theorem fV_rows (M : Mdl) (D H Hd L : Nat) (A : List Int) (l : Nat) (h : l < L) : ((fV M D H Hd L A).getD l []).length = A.length ∧ ∀ t, t < A.length → (rowOf ((fV M D H Hd L A).getD l []) t).length = D := by
  rw [fV_at M D H Hd L A h]
  refine ⟨by unfold valsR; rw [List.length_map, rowsL_len], fun t ht => ?_⟩
  rw [valsR_at _ _ (by rw [rowsL_len]; exact ht)]
  exact apl_len _ _ _ _
theorem fKV_len (M : Mdl) (D H Hd L : Nat) (A : List Int) : (fK M D H Hd L A).length = (fV M D H Hd L A).length := by
  unfold fK fV
  split
  · rfl
  · simp [fullK, fullV]
theorem fR_small (M : Mdl) (D H Hd L : Nat) (A : List Int) (hA : A.length ≤ 1000) (l : Nat) : ((fR M D H Hd L A).getD l []).length ≤ 1000 := by
  by_cases h : l ≤ L
  · rw [fR_at M D H Hd L A h, rowsL_len]; exact hA
  · have : (fR M D H Hd L A).length ≤ l := by unfold fR; split <;> simp; omega
    rw [List.getD_eq_getElem?_getD, List.getElem?_eq_none this]
    simp
theorem take_step {A : List Int} {i : Nat} (h : i < A.length) : A.take (i + 1) = A.take i ++ [el A i] := by
  unfold el
  rw [List.take_add_one, List.getD_eq_getElem?_getD, List.getElem?_eq_getElem h]
  rfl

end Go.Proofs.YtmdjlaileakbeaaGreatDoor

/- The document's Same of lists of rows, and of views: of two that read alike it is true. -/
namespace Go.Proofs.YtmdjlaileakbeaaGreatDoor
open Go.ChangeShapes Go.WideShapes Go.ChangeAt Go.RowKit
theorem drewN_cell (w : World) (m : Nat) {a : Addr} {v : Value} (h : w.cell? a = some v) : (w.drewN m).cell? a = some v := by
  have hlt := World.block_lt_of_cell? w _ h
  rw [(below_drewN (Below.refl w.heap.size w) m).cell hlt]; exact h
set_option maxHeartbeats 800000 in
theorem cubeSame_eq (ao bo : Option Addr) (n ca cb : Nat) (C : List (List (List Int))) (w : World) (hA : CubeAt w ao n C) (hB : CubeAt w bo n C) :
   Calls Tryz.prog 29 #[.slice ao n ca, .slice bo n cb] w fun e w' => e = .returned (.bool true) ∧ ∃ m, w' = w.drewN m := by
  have hn := hA.max
  have hl := hA.len
  go_enter Tryz.func29, Tryz.ntmps29
  go_wp2
  go_loopg [14] n (fun r i wr => ∃ k : Nat, k ≤ n ∧ r = n - k ∧ i = .int .i64 k ∧ ∃ m, wr = w.drewN m)
  case atStart => exact ⟨0, by omega, by omega, rfl, 0, rfl⟩
  case round =>
    obtain ⟨k, hk, rfl, rfl, m0, hw0⟩ := hrel
    have HW : Hid (wr = w.drewN m0) := hw0
    clear hw0
    by_cases hlt : k < n
    · obtain ⟨b, o, rfl, hc⟩ := hA.cells (by omega)
      obtain ⟨b', o', rfl, hc'⟩ := hB.cells (by omega)
      obtain ⟨R, hR⟩ : ∃ R, C[k]? = some R := ⟨_, List.getElem?_eq_getElem (show k < C.length by omega)⟩
      obtain ⟨ro, n1, c1, q1, -, -, -, G1⟩ := hc k R hR
      obtain ⟨ro2, n2, c2, q2, -, -, -, G2⟩ := hc' k R hR
      have e12 : n2 = n1 := by rw [← G2.len, G1.len]
      subst e12
      have hn2 := G1.max
      have Q1 : Hid (∀ m, (w.drewN m).cell? ⟨b, o + k, none⟩ = some (.slice ro n2 c1)) := fun m => drewN_cell w m q1
      have Q2 : Hid (∀ m, (w.drewN m).cell? ⟨b', o' + k, none⟩ = some (.slice ro2 n2 c2)) := fun m => drewN_cell w m q2
      clear hA hB hc hc' q1 q2
      have q1 : wr.cell? ⟨b, o + k, none⟩ = some (.slice ro n2 c1) := by rw [HW.out]; exact Q1.out _
      have q2 : wr.cell? ⟨b', o' + k, none⟩ = some (.slice ro2 n2 c2) := by rw [HW.out]; exact Q2.out _
      go_wp2_with fail
      go_quiet (fail)
      replace HW : Hid (wr.drewN nq = w.drewN (m0 + nq)) := by show _ = _; rw [HW.out, World.drewN_drewN]
      generalize wr.drewN nq = wq at *
      generalize m0 + nq = m1 at *
      clear q1 q2
      have q1 : wq.cell? ⟨b, o + k, none⟩ = some (.slice ro n2 c1) := by rw [HW.out]; exact Q1.out _
      go_wp2_with fail
      clear q1
      go_loopg [33] n2 (fun r i wr => ∃ j : Nat, j ≤ n2 ∧ r = n2 - j ∧ i = .int .i64 j ∧ ∃ m, wr = w.drewN m)
      case atStart => exact ⟨0, by omega, by omega, rfl, m1, HW.out⟩
      case round =>
        obtain ⟨j, hj, rfl, rfl, m2, hw2⟩ := hrel
        have HV : Hid (wr = w.drewN m2) := hw2
        clear hw2 HW
        by_cases hjt : j < n2
        · obtain ⟨d, p, rfl, hd⟩ := G1.cells (by omega)
          obtain ⟨d', p', rfl, hd'⟩ := G2.cells (by omega)
          obtain ⟨r1, l1, x1, s1, A1⟩ := hd j hjt
          obtain ⟨r2, l2, x2, s2, A2⟩ := hd' j hjt
          have el12 : l2 = l1 := by rw [← A2.row.len, A1.row.len]
          subst el12
          have q1 : wr.cell? ⟨b, o + k, none⟩ = some (.slice (some ⟨d, p, none⟩) n2 c1) := by rw [HV.out]; exact Q1.out _
          have q2 : wr.cell? ⟨b', o' + k, none⟩ = some (.slice (some ⟨d', p', none⟩) n2 c2) := by rw [HV.out]; exact Q2.out _
          have t1 : wr.cell? ⟨d, p + j, none⟩ = some (.slice r1 l2 x1) := by rw [HV.out]; exact drewN_cell w m2 s1
          have t2 : wr.cell? ⟨d', p' + j, none⟩ = some (.slice r2 l2 x2) := by rw [HV.out]; exact drewN_cell w m2 s2
          have SS := fun m => same_any r1 r2 l2 x1 x2 _ (wr.drewN m) (by rw [HV.out, World.drewN_drewN]; exact A1.row.below (below_drewN (Below.refl _ _) _)) (by rw [HV.out, World.drewN_drewN]; exact A2.row.below (below_drewN (Below.refl _ _) _))
          clear hd hd' s1 s2 A1 A2 G1 G2
          go_wp2_with fail
          go_quiet (first | (go_at_call 15; exact Calls.quiet_of (SS _)))
          go_wp2_with fail
          go_roundg (n2 - (j + 1))
          case measure => omega
          case rel => exact ⟨j + 1, by omega, rfl, by go_num, m2 + nq, by rw [HV.out, World.drewN_drewN]⟩
        · obtain rfl : j = n2 := by omega
          clear G1 G2
          go_wp2_with fail
          go_roundg (n - (k + 1))
          case measure => omega
          case rel => exact ⟨k + 1, by omega, rfl, by go_num, m2, HV.out⟩
    · obtain rfl : k = n := by omega
      go_wp2
      go_ret
      exact ⟨rfl, m0, HW.out⟩
/-- A view that was told, as cells. -/
structure ToldAt (w : World) (t k v : Sl) (X : Vw) : Prop where
  t : IArg w t.ao t.n t.c X.T
  k : CubeAt w k.ao k.n X.K
  v : CubeAt w v.ao v.n X.V
theorem ToldAt.below {w w' : World} {t k v : Sl} {X : Vw} (h : ToldAt w t k v X) (hb : Below w.heap.size w w') : ToldAt w' t k v X := ⟨h.t.below hb, h.k.below hb, h.v.below hb⟩
set_option maxHeartbeats 800000 in
theorem viewSame_eq (t k v t' k' v' : Sl) (X : Vw) (w : World) (h1 : ToldAt w t k v X) (h2 : ToldAt w t' k' v' X) :
   Calls Tryz.prog 13 #[.agg #[t.v, k.v, v.v], .agg #[t'.v, k'.v, v'.v]] w fun e w' => e = .returned (.bool true) ∧ Below w.heap.size w w' := by
  obtain ⟨tn, hn⟩ : ∃ tn, X.T.length = tn := ⟨_, rfl⟩
  obtain ⟨kn, hkn⟩ : ∃ kn, X.K.length = kn := ⟨_, rfl⟩
  obtain ⟨vn, hvn⟩ : ∃ vn, X.V.length = vn := ⟨_, rfl⟩
  have et1 := h1.t.row.len
  have et2 := h2.t.row.len
  have ek1 := h1.k.len
  have ek2 := h2.k.len
  have ev1 := h1.v.len
  have ev2 := h2.v.len
  rw [hn] at et1 et2
  rw [hkn] at ek1 ek2
  rw [hvn] at ev1 ev2
  have T1 : Hid (∀ wv, Below w.heap.size w wv → IArg wv t.ao t.n t.c X.T) := fun wv hb => h1.t.below hb
  have T2 : Hid (∀ wv, Below w.heap.size w wv → IArg wv t'.ao t'.n t'.c X.T) := fun wv hb => h2.t.below hb
  have K1 : Hid (∀ wv, Below w.heap.size w wv → CubeAt wv k.ao k.n X.K) := fun wv hb => h1.k.below hb
  have K2 : Hid (∀ wv, Below w.heap.size w wv → CubeAt wv k'.ao k'.n X.K) := fun wv hb => h2.k.below hb
  have V1 : Hid (∀ wv, Below w.heap.size w wv → CubeAt wv v.ao v.n X.V) := fun wv hb => h1.v.below hb
  have V2 : Hid (∀ wv, Below w.heap.size w wv → CubeAt wv v'.ao v'.n X.V) := fun wv hb => h2.v.below hb
  obtain ⟨ta, t1, tc⟩ := t
  obtain ⟨ta', t1', tc'⟩ := t'
  obtain ⟨ka, k1, kc⟩ := k
  obtain ⟨ka', k1', kc'⟩ := k'
  obtain ⟨va, v1, vc⟩ := v
  obtain ⟨va', v1', vc'⟩ := v'
  unfold Sl.v
  simp only at *
  subst et1 et2 ek1 ek2 ev1 ev2
  clear h1 h2 hn hkn hvn
  have X0 := blk_new w 41 #[.slice ta tn tc, .slice ka kn kc, .slice va vn vc]
  have B0 : Below w.heap.size w (w.alloc (.cells #[.slice ta tn tc, .slice ka kn kc, .slice va vn vc] 41)) := (Below.refl _ _).alloc (Nat.le_refl _) _
  generalize hw0 : w.alloc (.cells #[.slice ta tn tc, .slice ka kn kc, .slice va vn vc] 41) = w0 at *
  have X1 := blk_new w0 41 #[.slice ta' tn tc', .slice ka' kn kc', .slice va' vn vc']
  have B1 : Below w0.heap.size w0 (w0.alloc (.cells #[.slice ta' tn tc', .slice ka' kn kc', .slice va' vn vc'] 41)) := (Below.refl _ _).alloc (Nat.le_refl _) _
  generalize hw1 : w0.alloc (.cells #[.slice ta' tn tc', .slice ka' kn kc', .slice va' vn vc'] 41) = w1 at *
  replace X0 := X0.below B1
  have D1 := below_then B0 B1
  clear B0 B1
  have a0 : w1.cell? ⟨w.heap.size, 0, none⟩ = some (.slice ta tn tc) := X0.cell 0 rfl
  have a1 : w1.cell? ⟨w.heap.size, 1, none⟩ = some (.slice ka kn kc) := X0.cell 1 rfl
  have a2 : w1.cell? ⟨w.heap.size, 2, none⟩ = some (.slice va vn vc) := X0.cell 2 rfl
  have b0 : w1.cell? ⟨w0.heap.size, 0, none⟩ = some ((.slice ta' tn tc')) := X1.cell 0 rfl
  have b1 : w1.cell? ⟨w0.heap.size, 1, none⟩ = some ((.slice ka' kn kc')) := X1.cell 1 rfl
  have b2 : w1.cell? ⟨w0.heap.size, 2, none⟩ = some ((.slice va' vn vc')) := X1.cell 2 rfl
  have hn := (T1.out w (Below.refl _ _)).row.max
  go_enter Tryz.func13, Tryz.ntmps13
  go_wp2_with fail
  refine (cubeSame_eq ka ka' kn kc kc' X.K _ (K1.out _ D1) (K2.out _ D1)).mono ?_
  rintro e w2 ⟨rfl, m2, hm2⟩
  have B2 : Below w1.heap.size w1 w2 := by rw [hm2]; exact below_drewN (Below.refl _ _) m2
  clear hm2 a0 a1 a2 b0 b1 b2 hw0 hw1
  replace X0 := X0.below B2
  replace X1 := X1.below B2
  have D2 := below_then D1 B2
  have a0 : w2.cell? ⟨w.heap.size, 0, none⟩ = some (.slice ta tn tc) := X0.cell 0 rfl
  have a1 : w2.cell? ⟨w.heap.size, 1, none⟩ = some (.slice ka kn kc) := X0.cell 1 rfl
  have a2 : w2.cell? ⟨w.heap.size, 2, none⟩ = some (.slice va vn vc) := X0.cell 2 rfl
  have b0 : w2.cell? ⟨w0.heap.size, 0, none⟩ = some ((.slice ta' tn tc')) := X1.cell 0 rfl
  have b1 : w2.cell? ⟨w0.heap.size, 1, none⟩ = some ((.slice ka' kn kc')) := X1.cell 1 rfl
  have b2 : w2.cell? ⟨w0.heap.size, 2, none⟩ = some ((.slice va' vn vc')) := X1.cell 2 rfl
  go_wp2_with fail
  refine (cubeSame_eq va va' vn vc vc' X.V _ (V1.out _ D2) (V2.out _ D2)).mono ?_
  rintro e w3 ⟨rfl, m3, hm3⟩
  have B3 : Below w2.heap.size w2 w3 := by rw [hm3]; exact below_drewN (Below.refl _ _) m3
  clear hm3 a0 a1 a2 b0 b1 b2 D1
  replace X0 := X0.below B3
  replace X1 := X1.below B3
  have D3 := below_then D2 B3
  have a0 : w3.cell? ⟨w.heap.size, 0, none⟩ = some (.slice ta tn tc) := X0.cell 0 rfl
  have a1 : w3.cell? ⟨w.heap.size, 1, none⟩ = some (.slice ka kn kc) := X0.cell 1 rfl
  have a2 : w3.cell? ⟨w.heap.size, 2, none⟩ = some (.slice va vn vc) := X0.cell 2 rfl
  have b0 : w3.cell? ⟨w0.heap.size, 0, none⟩ = some ((.slice ta' tn tc')) := X1.cell 0 rfl
  have b1 : w3.cell? ⟨w0.heap.size, 1, none⟩ = some ((.slice ka' kn kc')) := X1.cell 1 rfl
  have b2 : w3.cell? ⟨w0.heap.size, 2, none⟩ = some ((.slice va' vn vc')) := X1.cell 2 rfl
  go_wp2_with fail
  clear a0 a1 a2 b0 b1 b2
  go_loopg [32] tn (fun r i wr => ∃ j : Nat, j ≤ tn ∧ r = tn - j ∧ i = .int .i64 j ∧ Blk wr w.heap.size 41 #[.slice ta tn tc, .slice ka kn kc, .slice va vn vc] ∧ Blk wr w0.heap.size 41 #[.slice ta' tn tc', .slice ka' kn kc', .slice va' vn vc'] ∧ Below w.heap.size w wr)
  case atStart => exact ⟨0, by omega, by omega, rfl, X0, X1, D3⟩
  case round =>
    clear X0 X1 D3 B3 B2 D2
    obtain ⟨j, hj, rfl, rfl, X0, X1, DR⟩ := hrel
    by_cases hjt : j < tn
    · obtain ⟨d, p, rfl, hd⟩ := (T1.out _ DR).row.cells (by omega)
      obtain ⟨d', p', rfl, hd'⟩ := (T2.out _ DR).row.cells (by omega)
      have c1 := hd j hjt
      have c2 := hd' j hjt
      clear hd hd'
      have a0 : wr.cell? ⟨w.heap.size, 0, none⟩ = some (.slice (some ⟨d, p, none⟩) tn tc) := X0.cell 0 rfl
      have b0 : wr.cell? ⟨w0.heap.size, 0, none⟩ = some (.slice (some ⟨d', p', none⟩) tn tc') := X1.cell 0 rfl
      go_wp2_with fail
      go_quiet (fail)
      go_wp2
      go_roundg (tn - (j + 1))
      case measure => omega
      case rel => exact ⟨j + 1, by omega, rfl, by go_num, X0.below (below_drewN (Below.refl _ _) nq), X1.below (below_drewN (Below.refl _ _) nq), below_drewN DR nq⟩
    · obtain rfl : j = tn := by omega
      go_wp2
      go_ret
      exact ⟨rfl, DR⟩
end Go.Proofs.YtmdjlaileakbeaaGreatDoor
