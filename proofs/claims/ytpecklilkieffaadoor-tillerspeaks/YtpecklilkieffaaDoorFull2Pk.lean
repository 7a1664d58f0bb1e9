/- Package pass: Full: how much a model likes each token behind a row of them, from the beginning. -/
import Derived.Test.YtpecklilkieffaaDoorPk6
import Derived.Test.YtpecklilkieffaaDoorPk7
/- Package pass: layer: what a layer makes of rows, and the key and the value of each. -/
namespace Go.Proofs.YtpecklilkieffaaDoor
open Go.ChangeShapes Go.WideShapes Go.ChangeAt Go.RowKit
def keysR (L : Lay) (D : Nat) (R : List (List Int)) : List (List Int) := R.map (keyR L D)
def valsR (L : Lay) (D : Nat) (R : List (List Int)) : List (List Int) := R.map (valR L D)
def madeR (L : Lay) (D H Hd : Nat) (R : List (List Int)) : List (List Int) := (List.range R.length).map fun i => oneR L D H Hd (rowOf R i) ((keysR L D R).take i) ((valsR L D R).take i) i
theorem keysR_at (L : Lay) (D : Nat) {R : List (List Int)} {t : Nat} (h : t < R.length) : rowOf (keysR L D R) t = keyR L D (rowOf R t) := by
  unfold rowOf keysR
  simp only [List.getD_eq_getElem?_getD, List.getElem?_map, List.getElem?_eq_getElem h]
  rfl
theorem valsR_at (L : Lay) (D : Nat) {R : List (List Int)} {t : Nat} (h : t < R.length) : rowOf (valsR L D R) t = valR L D (rowOf R t) := by
  unfold rowOf valsR
  simp only [List.getD_eq_getElem?_getD, List.getElem?_map, List.getElem?_eq_getElem h]
  rfl
theorem madeR_at (L : Lay) (D H Hd : Nat) {R : List (List Int)} {t : Nat} (h : t < R.length) : rowOf (madeR L D H Hd R) t = oneR L D H Hd (rowOf R t) ((keysR L D R).take t) ((valsR L D R).take t) t := by
  unfold madeR
  conv => lhs; unfold rowOf
  rw [List.getD_eq_getElem?_getD, List.getElem?_map, List.getElem?_range h]
  rfl
theorem rowOf_take {R : List (List Int)} {k t : Nat} (h : t < k) : rowOf (R.take k) t = rowOf R t := by
  unfold rowOf
  simp only [List.getD_eq_getElem?_getD, List.getElem?_take, if_pos h]
/-- Block g is filled up to place k with rows that hang on the blocks that p tells. -/
structure FP (w : World) (g m k : Nat) (p : Nat → Prop) (R : List (List Int)) : Prop where
  row : ∃ cs : Array Value, w.heap[g]? = some (.cells cs 29 (0, 0)) ∧ cs.size = m ∧ ∀ t, t < k → ∃ ro n c, cs[t]? = some (.slice ro n c) ∧ Hangs p w (fun w => Arg w ro n c (rowOf R t))
theorem FP.lt {w : World} {g m k : Nat} {p : Nat → Prop} {R : List (List Int)} (h : FP w g m k p R) : g < w.heap.size := by
  obtain ⟨cs, h1, _⟩ := h.row
  exact (Array.getElem?_eq_some_iff.1 h1).1
theorem FP.below {w w' : World} {g m k : Nat} {p : Nat → Prop} {R : List (List Int)} (h : FP w g m k p R) (hb : Below w.heap.size w w') : FP w' g m k p R := by
  have hl := h.lt
  obtain ⟨cs, h1, h2, h3⟩ := h.row
  exact ⟨cs, (hb.block g hl).trans h1, h2, fun t ht => let ⟨ro, n, c, e, N⟩ := h3 t ht; ⟨ro, n, c, e, N.below hb⟩⟩
theorem FP.frozen {w : World} {g m k : Nat} {p : Nat → Prop} {R : List (List Int)} (h : FP w g m k p R) (t : Nat) : w.frozen? ⟨g, t, none⟩ = false := by
  obtain ⟨cs, h1, _⟩ := h.row
  unfold World.frozen?; simp only [h1]; rfl
theorem FP.cell {w : World} {g m k : Nat} {p : Nat → Prop} {R : List (List Int)} (h : FP w g m k p R) {t : Nat} (ht : t < m) : ∃ v, w.cell? ⟨g, t, none⟩ = some v := by
  obtain ⟨cs, h1, h2, _⟩ := h.row
  refine ⟨cs[t]'(by omega), ?_⟩
  unfold World.cell?; simp only [h1]
  exact Array.getElem?_eq_getElem (by omega)
theorem FP.step {w : World} {g m k : Nat} {p : Nat → Prop} {R : List (List Int)} (h : FP w g m k p R) (hk : k < m) (hp : ¬ p g) {ro : Option Addr} {n c : Nat} (hA : Hangs p w fun w => Arg w ro n c (rowOf R k)) : FP (w.setCell ⟨g, k, none⟩ (.slice ro n c)) g m (k + 1) p R := by
  obtain ⟨cs, h1, h2, h3⟩ := h.row
  refine ⟨cs.setIfInBounds k (.slice ro n c), by simp [World.setCell, Array.getElem?_modify, h1], by simpa using h2, fun t ht => ?_⟩
  rw [Array.getElem?_setIfInBounds]
  by_cases e : k = t
  · subst e
    rw [if_pos rfl, if_pos (by omega)]
    exact ⟨ro, n, c, rfl, hA.set hp _⟩
  · rw [if_neg e]
    obtain ⟨ro', n', c', e2, N⟩ := h3 t (by omega)
    exact ⟨ro', n', c', e2, N.set hp _⟩
theorem FP.far {w : World} {g m k : Nat} {p : Nat → Prop} {R : List (List Int)} (h : FP w g m k p R) {a : Addr} (hg : a.block ≠ g) (hp : ¬ p a.block) (v : Value) : FP (w.setCell a v) g m k p R := by
  obtain ⟨cs, h1, h2, h3⟩ := h.row
  exact ⟨cs, (Below.heap_setCell _ _ _ _ (Ne.symm hg)).trans h1, h2, fun t ht => let ⟨ro, n, c, e, N⟩ := h3 t ht; ⟨ro, n, c, e, N.set hp _⟩⟩
theorem fp_made (w : World) (m : Nat) (p : Nat → Prop) (R : List (List Int)) : FP (w.alloc (.cells (madeCells #[.slice none 0 0] m) 29)) w.heap.size m 0 p R :=
  ⟨_, heap_alloc_new _ _, by simp [madeCells], fun t ht => by omega⟩
/-- The rows ahead of place k. -/
theorem FP.front {w : World} {g m k : Nat} {p : Nat → Prop} {R : List (List Int)} (h : FP w g m k p R) (hk : k ≤ m) (hl : m ≤ R.length) (hm : m ≤ 9223372036854775807) : GridAt w (some ⟨g, 0, none⟩) k (R.take k) := by
  obtain ⟨cs, h1, h2, h3⟩ := h.row
  refine ⟨by rw [List.length_take]; omega, by omega, fun _ => ⟨g, 0, rfl, fun t ht => ?_⟩⟩
  obtain ⟨ro, n, c, e, N⟩ := h3 t ht
  refine ⟨ro, n, c, ?_, by rw [rowOf_take ht]; exact N.now⟩
  rw [Nat.zero_add]
  unfold World.cell?
  simp only [h1]
  exact e
theorem FP.whole {w : World} {g m : Nat} {p : Nat → Prop} {R : List (List Int)} (h : FP w g m m p R) (hl : R.length = m) (hm : m ≤ 9223372036854775807) {B : Nat} (hp : ∀ b, p b → B ≤ b) (hB : B ≤ g) : ∃ vs, New B w fun w => GridV w (some ⟨g, 0, none⟩) m vs R := by
  have hlt := h.lt
  obtain ⟨cs, h1, hsz, h3⟩ := h.row
  refine ⟨cs.toList, fun w2 h2 => ?_⟩
  have hg := (h2 g hB hlt).trans h1
  refine ⟨⟨by simp [hsz, hl], fun t ht => ?_⟩, by simp [hsz], hm, fun _ => ⟨g, 0, rfl, fun j u hj => ?_⟩⟩
  · obtain ⟨ro, n, c, e, N⟩ := h3 t (by omega)
    exact ⟨ro, n, c, by simpa using e, N w2 fun b hb hb2 => h2 b (hp b hb) hb2⟩
  · rw [Nat.zero_add]
    unfold World.cell?
    simp only [hg]
    simpa using hj
def offL (w : World) (gm gk gv b : Nat) : Prop := w.heap.size + 1 < b ∧ b ≠ gm ∧ b ≠ gk ∧ b ≠ gv
/-- Within layer. -/
structure LI (w wr : World) (cfg bc : Array Value) (gm gk gv n t : Nat) (Rm Rk Rv : List (List Int)) : Prop where
  x0 : Blk wr w.heap.size 23 cfg
  x1 : Blk wr (w.heap.size + 1) 58 bc
  m : FP wr gm n t (offL w gm gk gv) Rm
  k : FP wr gk n t (offL w gm gk gv) Rk
  v : FP wr gv n t (offL w gm gk gv) Rv
  ne : w.heap.size + 1 < gm ∧ w.heap.size + 1 < gk ∧ w.heap.size + 1 < gv ∧ gm ≠ gk ∧ gm ≠ gv ∧ gk ≠ gv
  kp : Below w.heap.size w wr
theorem LI.below {w wr w' : World} {cfg bc : Array Value} {gm gk gv n t : Nat} {Rm Rk Rv : List (List Int)} (h : LI w wr cfg bc gm gk gv n t Rm Rk Rv) (hb : Below wr.heap.size wr w') : LI w w' cfg bc gm gk gv n t Rm Rk Rv :=
  ⟨h.x0.below hb, h.x1.below hb, h.m.below hb, h.k.below hb, h.v.below hb, h.ne, below_then h.kp hb⟩
theorem LI.next {w wr : World} {cfg bc : Array Value} {gm gk gv n t : Nat} {Rm Rk Rv : List (List Int)} (h : LI w wr cfg bc gm gk gv n t Rm Rk Rv) (ht : t < n) {o1 o2 o3 d1 d2 d3 e1 e2 e3 : Nat} (N1 : Hangs (offL w gm gk gv) wr fun w => Arg w (some ⟨o1, 0, none⟩) d1 e1 (rowOf Rm t)) (N2 : Hangs (offL w gm gk gv) wr fun w => Arg w (some ⟨o2, 0, none⟩) d2 e2 (rowOf Rk t)) (N3 : Hangs (offL w gm gk gv) wr fun w => Arg w (some ⟨o3, 0, none⟩) d3 e3 (rowOf Rv t)) :
    LI w (((wr.setCell ⟨gm, t, none⟩ (.slice (some ⟨o1, 0, none⟩) d1 e1)).setCell ⟨gk, t, none⟩ (.slice (some ⟨o2, 0, none⟩) d2 e2)).setCell ⟨gv, t, none⟩ (.slice (some ⟨o3, 0, none⟩) d3 e3)) cfg bc gm gk gv n (t + 1) Rm Rk Rv := by
  obtain ⟨f1, f2, f3, f4, f5, f6⟩ := h.ne
  have pm : ¬ offL w gm gk gv gm := fun h => h.2.1 rfl
  have pk : ¬ offL w gm gk gv gk := fun h => h.2.2.1 rfl
  have pv : ¬ offL w gm gk gv gv := fun h => h.2.2.2 rfl
  refine ⟨((h.x0.other (by show _ ≠ gm; omega) _).other (by show _ ≠ gk; omega) _).other (by show _ ≠ gv; omega) _, ((h.x1.other (by show _ ≠ gm; omega) _).other (by show _ ≠ gk; omega) _).other (by show _ ≠ gv; omega) _, ?_, ?_, ?_, h.ne, ?_⟩
  · exact ((h.m.step ht pm N1).far (by show gk ≠ gm; omega) pk _).far (by show gv ≠ gm; omega) pv _
  · exact ((h.k.far (by show gm ≠ gk; omega) pm _).step ht pk (N2.set pm _)).far (by show gv ≠ gk; omega) pv _
  · exact ((h.v.far (by show gm ≠ gv; omega) pm _).far (by show gk ≠ gv; omega) pk _).step ht pv ((N3.set pm _).set pk _)
  · exact ((h.kp.setCell (p := ⟨gm, t, none⟩) (by show w.heap.size ≤ gm; omega) _).setCell (p := ⟨gk, t, none⟩) (by show w.heap.size ≤ gk; omega) _).setCell (p := ⟨gv, t, none⟩) (by show w.heap.size ≤ gv; omega) _
end Go.Proofs.YtpecklilkieffaaDoor

/- Package pass: Full: how much a model likes each token behind a row of them, from the beginning. -/
namespace Go.Proofs.YtpecklilkieffaaDoor
open Go.ChangeShapes Go.WideShapes Go.ChangeAt Go.RowKit
/-- The first rows of tokens; what l layers make of them. -/
def begL (E : List Int) (D : Nat) (A : List Int) : List (List Int) := (List.range A.length).map fun t => begR E D (el A t).toNat t
def rowsL (M : Mdl) (D H Hd : Nat) (A : List Int) : Nat → List (List Int)
  | 0 => begL M.E D A
  | l + 1 => madeR (layAt M l) D H Hd (rowsL M D H Hd A l)
def fullK (M : Mdl) (D H Hd L : Nat) (A : List Int) : List (List (List Int)) := (List.range L).map fun l => keysR (layAt M l) D (rowsL M D H Hd A l)
def fullV (M : Mdl) (D H Hd L : Nat) (A : List Int) : List (List (List Int)) := (List.range L).map fun l => valsR (layAt M l) D (rowsL M D H Hd A l)
def fullX (M : Mdl) (V D H Hd L : Nat) (A : List Int) : List Int := likR M V D (rowOf (rowsL M D H Hd A L) (A.length - 1))
theorem rowsL_len (M : Mdl) (D H Hd : Nat) (A : List Int) : ∀ l, (rowsL M D H Hd A l).length = A.length
  | 0 => by show (begL M.E D A).length = _; unfold begL; simp
  | l + 1 => by show (madeR _ _ _ _ (rowsL M D H Hd A l)).length = _; unfold madeR; simp [rowsL_len M D H Hd A l]
theorem rowsL_row (M : Mdl) (D H Hd : Nat) (A : List Int) : ∀ l t, t < A.length → (rowOf (rowsL M D H Hd A l) t).length = D
  | 0, t, h => by
    show (rowOf (begL M.E D A) t).length = D
    unfold rowOf begL
    rw [List.getD_eq_getElem?_getD, List.getElem?_map, List.getElem?_range h]
    exact tab_len _ _
  | l + 1, t, h => by
    show (rowOf (madeR _ _ _ _ (rowsL M D H Hd A l)) t).length = D
    rw [madeR_at _ _ _ _ (by rw [rowsL_len]; exact h)]
    exact tab_len _ _
theorem begL_at (E : List Int) (D : Nat) {A : List Int} {t : Nat} (h : t < A.length) : rowOf (begL E D A) t = begR E D (el A t).toNat t := by
  unfold rowOf begL
  rw [List.getD_eq_getElem?_getD, List.getElem?_map, List.getElem?_range h]
  rfl
theorem fullK_at (M : Mdl) (D H Hd L : Nat) (A : List Int) {l : Nat} (h : l < L) : (fullK M D H Hd L A).getD l [] = keysR (layAt M l) D (rowsL M D H Hd A l) := by
  unfold fullK
  rw [List.getD_eq_getElem?_getD, List.getElem?_map, List.getElem?_range h]
  rfl
theorem fullV_at (M : Mdl) (D H Hd L : Nat) (A : List Int) {l : Nat} (h : l < L) : (fullV M D H Hd L A).getD l [] = valsR (layAt M l) D (rowsL M D H Hd A l) := by
  unfold fullV
  rw [List.getD_eq_getElem?_getD, List.getElem?_map, List.getElem?_range h]
  rfl
theorem Tryd.infoCa : (Tryd.prog.info? 44).map (·.size) = some 2 := by kernel_rfl
theorem load_ca {w : World} {g : Nat} {cs : Array Value} (h : Blk w g 44 cs) (hs : cs.size = 2) : (loadVar 44 ⟨g, 0, none⟩).run Tryd.prog w = .ok (.agg cs) w :=
  run_loadVar_row w g _ _ cs _ _ h Tryd.underlying44 rfl (by rw [hs]; exact Tryd.infoCa)
theorem results_mid {fn : Func} {p u v : Tmp} {ty : TypeId} (h : fn.results = #[.tmp u, .cell p ty, .tmp v]) (tmps : Array Value) (w : World) (g : Nat) (cs : Array Value)
    (hp : tmps.getD p undef = .pointer (some ⟨g, 0, none⟩)) (hl : (loadVar ty ⟨g, 0, none⟩).run Tryd.prog w = .ok (.agg cs) w) :
    (results fn tmps).run Tryd.prog w = .ok (.tuple #[tmps.getD u undef, .agg cs, tmps.getD v undef]) w := by
  have hp' : tmps[p]?.getD undef = .pointer (some ⟨g, 0, none⟩) := by simpa using hp
  simp [results, h, hp', asAddr, hl]
def offF (w : World) (gK gV gC b : Nat) : Prop := w.heap.size + 2 < b ∧ b ≠ gK ∧ b ≠ gV ∧ b ≠ gC
/-- Within Full: boxes, the cache, and its lists up to layer t. -/
structure FI (w wr : World) (cfg ws : Array Value) (gC gK gV L t : Nat) (A1 A2 : List (List (List Int))) : Prop where
  x0 : Blk wr w.heap.size 23 cfg
  x1 : Blk wr (w.heap.size + 1) 35 ws
  x2 : Blk wr (w.heap.size + 2) 44 #[.slice none 0 0, .slice none 0 0]
  xc : Blk wr gC 44 #[.slice (some ⟨gK, 0, none⟩) L L, .slice (some ⟨gV, 0, none⟩) L L]
  k : KV wr gK L t (offF w gK gV gC) A1 []
  v : KV wr gV L t (offF w gK gV gC) A2 []
  ne : w.heap.size + 2 < gK ∧ w.heap.size + 2 < gV ∧ w.heap.size + 2 < gC ∧ gK ≠ gV ∧ gK ≠ gC ∧ gV ≠ gC
  kp : Below w.heap.size w wr
theorem FI.below {w wr w' : World} {cfg ws : Array Value} {gC gK gV L t : Nat} {A1 A2 : List (List (List Int))} (h : FI w wr cfg ws gC gK gV L t A1 A2) (hb : Below wr.heap.size wr w') : FI w w' cfg ws gC gK gV L t A1 A2 :=
  ⟨h.x0.below hb, h.x1.below hb, h.x2.below hb, h.xc.below hb, h.k.below hb, h.v.below hb, h.ne, below_then h.kp hb⟩
theorem FI.next {w wr : World} {cfg ws : Array Value} {gC gK gV L t : Nat} {A1 A2 : List (List (List Int))} (h : FI w wr cfg ws gC gK gV L t A1 A2) (ht : t < L) {r1 r2 n : Nat} {vs1 vs2 : List Value} (hn : n ≤ 9223372036854775807) (N1 : Hangs (offF w gK gV gC) wr fun w => GridV w (some ⟨r1, 0, none⟩) n vs1 (A1.getD t [])) (N2 : Hangs (offF w gK gV gC) wr fun w => GridV w (some ⟨r2, 0, none⟩) n vs2 (A2.getD t [])) :
    FI w ((wr.setCell ⟨gK, t, none⟩ (.slice (some ⟨r1, 0, none⟩) n n)).setCell ⟨gV, t, none⟩ (.slice (some ⟨r2, 0, none⟩) n n)) cfg ws gC gK gV L (t + 1) A1 A2 := by
  obtain ⟨e1, e2, e3, e4, e5, e6⟩ := h.ne
  have pk : ¬ offF w gK gV gC gK := fun h => h.2.1 rfl
  have pv : ¬ offF w gK gV gC gV := fun h => h.2.2.1 rfl
  refine ⟨(h.x0.other (by show _ ≠ gK; omega) _).other (by show _ ≠ gV; omega) _, (h.x1.other (by show _ ≠ gK; omega) _).other (by show _ ≠ gV; omega) _, (h.x2.other (by show _ ≠ gK; omega) _).other (by show _ ≠ gV; omega) _, (h.xc.other (by show _ ≠ gK; omega) _).other (by show _ ≠ gV; omega) _, ?_, ?_, h.ne, ?_⟩
  · exact (h.k.step ht pk (fun h => by cases h) (Nat.le_refl _) hn N1).far (by show gV ≠ gK; omega) pv _
  · exact (h.v.far (by show gK ≠ gV; omega) pk _).step ht pv (fun h => by cases h) (Nat.le_refl _) hn (N2.set pk _)
  · exact (h.kp.setCell (p := ⟨gK, t, none⟩) (by show w.heap.size ≤ gK; omega) _).setCell (p := ⟨gV, t, none⟩) (by show w.heap.size ≤ gV; omega) _
theorem Hangs.setRowFar {p : Nat → Prop} {w : World} {Φ : World → Prop} (h : Hangs p w Φ) {g : Nat} (hg : ¬ p g) (cs : Array Value) : Hangs p (w.setRow g cs) Φ := h.row hg cs
end Go.Proofs.YtpecklilkieffaaDoor
