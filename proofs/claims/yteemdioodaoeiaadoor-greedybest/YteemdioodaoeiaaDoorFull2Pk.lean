/- Package pass: Full: how much a model likes each token behind a row of them, from the beginning. -/
import Derived.Test.YteemdioodaoeiaaDoorPk6
import Derived.Test.YteemdioodaoeiaaDoorPk7
/- Package pass: layer: what a layer makes of rows, and the key and the value of each. -/
namespace Go.Proofs.YteemdioodaoeiaaDoor
open Go.ChangeShapes Go.WideShapes Go.ChangeAt Go.RowKit
def keysR (L : Lay) (D : Nat) (R : List (List Int)) : List (List Int) := R.map (keyR L D)
def valsR (L : Lay) (D : Nat) (R : List (List Int)) : List (List Int) := R.map (valR L D)
def madeR (L : Lay) (D H Hd : Nat) (R : List (List Int)) : List (List Int) := (List.range R.length).map fun i => oneR L D H Hd (rowOf R i) ((keysR L D R).take i) ((valsR L D R).take i) i
theorem keysR_at (L : Lay) (D : Nat) {R : List (List Int)} {t : Nat} (h : t < R.length) : rowOf (keysR L D R) t = keyR L D (rowOf R t) := by
  unfold rowOf keysR
  simp only [List.getD_eq_getElem?_getD, List.getElem?_map, List.getElem?_eq_getElem h]
  rfl
theorem valsR_at (L : Lay) (D : Nat) {R : List (List Int)} {t : Nat} (h : t < R.length) : rowOf (valsR L D R) t = valR L D (rowOf R t) := by
  unfold rowOf valsR
  simp only [List.getD_eq_getElem?_getD, List.getElem?_map, List.getElem?_eq_getElem h]
  rfl
theorem madeR_at (L : Lay) (D H Hd : Nat) {R : List (List Int)} {t : Nat} (h : t < R.length) : rowOf (madeR L D H Hd R) t = oneR L D H Hd (rowOf R t) ((keysR L D R).take t) ((valsR L D R).take t) t := by
  unfold madeR
  conv => lhs; unfold rowOf
  rw [List.getD_eq_getElem?_getD, List.getElem?_map, List.getElem?_range h]
  rfl
theorem rowOf_take {R : List (List Int)} {k t : Nat} (h : t < k) : rowOf (R.take k) t = rowOf R t := by
  unfold rowOf
  simp only [List.getD_eq_getElem?_getD, List.getElem?_take, if_pos h]
/-- Block g is filled up to place k with rows that hang on the blocks that p tells. -/
structure FP (w : World) (g m k : Nat) (p : Nat → Prop) (R : List (List Int)) : Prop where
  row : ∃ cs : Array Value, w.heap[g]? = some (.cells cs 27 (0, 0)) ∧ cs.size = m ∧ ∀ t, t < k → ∃ ro n c, cs[t]? = some (.slice ro n c) ∧ Hangs p w (fun w => Arg w ro n c (rowOf R t))
theorem FP.lt {w : World} {g m k : Nat} {p : Nat → Prop} {R : List (List Int)} (h : FP w g m k p R) : g < w.heap.size := by
  obtain ⟨cs, h1, _⟩ := h.row
  exact (Array.getElem?_eq_some_iff.1 h1).1
theorem FP.below {w w' : World} {g m k : Nat} {p : Nat → Prop} {R : List (List Int)} (h : FP w g m k p R) (hb : Below w.heap.size w w') : FP w' g m k p R := by
  have hl := h.lt
  obtain ⟨cs, h1, h2, h3⟩ := h.row
  exact ⟨cs, (hb.block g hl).trans h1, h2, fun t ht => let ⟨ro, n, c, e, N⟩ := h3 t ht; ⟨ro, n, c, e, N.below hb⟩⟩
theorem FP.frozen {w : World} {g m k : Nat} {p : Nat → Prop} {R : List (List Int)} (h : FP w g m k p R) (t : Nat) : w.frozen? ⟨g, t, none⟩ = false := by
  obtain ⟨cs, h1, _⟩ := h.row
  unfold World.frozen?; simp only [h1]; rfl
theorem FP.cell {w : World} {g m k : Nat} {p : Nat → Prop} {R : List (List Int)} (h : FP w g m k p R) {t : Nat} (ht : t < m) : ∃ v, w.cell? ⟨g, t, none⟩ = some v := by
  obtain ⟨cs, h1, h2, _⟩ := h.row
  refine ⟨cs[t]'(by omega), ?_⟩
  unfold World.cell?; simp only [h1]
  exact Array.getElem?_eq_getElem (by omega)
theorem FP.step {w : World} {g m k : Nat} {p : Nat → Prop} {R : List (List Int)} (h : FP w g m k p R) (hk : k < m) (hp : ¬ p g) {ro : Option Addr} {n c : Nat} (hA : Hangs p w fun w => Arg w ro n c (rowOf R k)) : FP (w.setCell ⟨g, k, none⟩ (.slice ro n c)) g m (k + 1) p R := by
  obtain ⟨cs, h1, h2, h3⟩ := h.row
  refine ⟨cs.setIfInBounds k (.slice ro n c), by simp [World.setCell, Array.getElem?_modify, h1], by simpa using h2, fun t ht => ?_⟩
  rw [Array.getElem?_setIfInBounds]
  by_cases e : k = t
  · subst e
    rw [if_pos rfl, if_pos (by omega)]
    exact ⟨ro, n, c, rfl, hA.set hp _⟩
  · rw [if_neg e]
    obtain ⟨ro', n', c', e2, N⟩ := h3 t (by omega)
    exact ⟨ro', n', c', e2, N.set hp _⟩
theorem FP.far {w : World} {g m k : Nat} {p : Nat → Prop} {R : List (List Int)} (h : FP w g m k p R) {a : Addr} (hg : a.block ≠ g) (hp : ¬ p a.block) (v : Value) : FP (w.setCell a v) g m k p R := by
  obtain ⟨cs, h1, h2, h3⟩ := h.row
  exact ⟨cs, (Below.heap_setCell _ _ _ _ (Ne.symm hg)).trans h1, h2, fun t ht => let ⟨ro, n, c, e, N⟩ := h3 t ht; ⟨ro, n, c, e, N.set hp _⟩⟩
theorem fp_made (w : World) (m : Nat) (p : Nat → Prop) (R : List (List Int)) : FP (w.alloc (.cells (madeCells #[.slice none 0 0] m) 27)) w.heap.size m 0 p R :=
  ⟨_, heap_alloc_new _ _, by simp [madeCells], fun t ht => by omega⟩
/-- The rows ahead of place k. -/
theorem FP.front {w : World} {g m k : Nat} {p : Nat → Prop} {R : List (List Int)} (h : FP w g m k p R) (hk : k ≤ m) (hl : m ≤ R.length) (hm : m ≤ 9223372036854775807) : GridAt w (some ⟨g, 0, none⟩) k (R.take k) := by
  obtain ⟨cs, h1, h2, h3⟩ := h.row
  refine ⟨by rw [List.length_take]; omega, by omega, fun _ => ⟨g, 0, rfl, fun t ht => ?_⟩⟩
  obtain ⟨ro, n, c, e, N⟩ := h3 t ht
  refine ⟨ro, n, c, ?_, by rw [rowOf_take ht]; exact N.now⟩
  rw [Nat.zero_add]
  unfold World.cell?
  simp only [h1]
  exact e
theorem FP.whole {w : World} {g m : Nat} {p : Nat → Prop} {R : List (List Int)} (h : FP w g m m p R) (hl : R.length = m) (hm : m ≤ 9223372036854775807) {B : Nat} (hp : ∀ b, p b → B ≤ b) (hB : B ≤ g) : ∃ vs, New B w fun w => GridV w (some ⟨g, 0, none⟩) m vs R := by
  have hlt := h.lt
  obtain ⟨cs, h1, hsz, h3⟩ := h.row
  refine ⟨cs.toList, fun w2 h2 => ?_⟩
  have hg := (h2 g hB hlt).trans h1
  refine ⟨⟨by simp [hsz, hl], fun t ht => ?_⟩, by simp [hsz], hm, fun _ => ⟨g, 0, rfl, fun j u hj => ?_⟩⟩
  · obtain ⟨ro, n, c, e, N⟩ := h3 t (by omega)
    exact ⟨ro, n, c, by simpa using e, N w2 fun b hb hb2 => h2 b (hp b hb) hb2⟩
  · rw [Nat.zero_add]
    unfold World.cell?
    simp only [hg]
    simpa using hj
def offL (w : World) (gm gk gv b : Nat) : Prop := w.heap.size + 1 < b ∧ b ≠ gm ∧ b ≠ gk ∧ b ≠ gv
/-- Within layer. -/
structure LI (w wr : World) (cfg bc : Array Value) (gm gk gv n t : Nat) (Rm Rk Rv : List (List Int)) : Prop where
  x0 : Blk wr w.heap.size 23 cfg
  x1 : Blk wr (w.heap.size + 1) 61 bc
  m : FP wr gm n t (offL w gm gk gv) Rm
  k : FP wr gk n t (offL w gm gk gv) Rk
  v : FP wr gv n t (offL w gm gk gv) Rv
  ne : w.heap.size + 1 < gm ∧ w.heap.size + 1 < gk ∧ w.heap.size + 1 < gv ∧ gm ≠ gk ∧ gm ≠ gv ∧ gk ≠ gv
  kp : Below w.heap.size w wr
theorem LI.below {w wr w' : World} {cfg bc : Array Value} {gm gk gv n t : Nat} {Rm Rk Rv : List (List Int)} (h : LI w wr cfg bc gm gk gv n t Rm Rk Rv) (hb : Below wr.heap.size wr w') : LI w w' cfg bc gm gk gv n t Rm Rk Rv :=
  ⟨h.x0.below hb, h.x1.below hb, h.m.below hb, h.k.below hb, h.v.below hb, h.ne, below_then h.kp hb⟩
theorem LI.next {w wr : World} {cfg bc : Array Value} {gm gk gv n t : Nat} {Rm Rk Rv : List (List Int)} (h : LI w wr cfg bc gm gk gv n t Rm Rk Rv) (ht : t < n) {o1 o2 o3 d1 d2 d3 e1 e2 e3 : Nat} (N1 : Hangs (offL w gm gk gv) wr fun w => Arg w (some ⟨o1, 0, none⟩) d1 e1 (rowOf Rm t)) (N2 : Hangs (offL w gm gk gv) wr fun w => Arg w (some ⟨o2, 0, none⟩) d2 e2 (rowOf Rk t)) (N3 : Hangs (offL w gm gk gv) wr fun w => Arg w (some ⟨o3, 0, none⟩) d3 e3 (rowOf Rv t)) :
    LI w (((wr.setCell ⟨gm, t, none⟩ (.slice (some ⟨o1, 0, none⟩) d1 e1)).setCell ⟨gk, t, none⟩ (.slice (some ⟨o2, 0, none⟩) d2 e2)).setCell ⟨gv, t, none⟩ (.slice (some ⟨o3, 0, none⟩) d3 e3)) cfg bc gm gk gv n (t + 1) Rm Rk Rv := by
  obtain ⟨f1, f2, f3, f4, f5, f6⟩ := h.ne
  have pm : ¬ offL w gm gk gv gm := fun h => h.2.1 rfl
  have pk : ¬ offL w gm gk gv gk := fun h => h.2.2.1 rfl
  have pv : ¬ offL w gm gk gv gv := fun h => h.2.2.2 rfl
  refine ⟨((h.x0.other (by show _ ≠ gm; omega) _).other (by show _ ≠ gk; omega) _).other (by show _ ≠ gv; omega) _, ((h.x1.other (by show _ ≠ gm; omega) _).other (by show _ ≠ gk; omega) _).other (by show _ ≠ gv; omega) _, ?_, ?_, ?_, h.ne, ?_⟩
  · exact ((h.m.step ht pm N1).far (by show gk ≠ gm; omega) pk _).far (by show gv ≠ gm; omega) pv _
  · exact ((h.k.far (by show gm ≠ gk; omega) pm _).step ht pk (N2.set pm _)).far (by show gv ≠ gk; omega) pv _
  · exact ((h.v.far (by show gm ≠ gv; omega) pm _).far (by show gk ≠ gv; omega) pk _).step ht pv ((N3.set pm _).set pk _)
  · exact ((h.kp.setCell (p := ⟨gm, t, none⟩) (by show w.heap.size ≤ gm; omega) _).setCell (p := ⟨gk, t, none⟩) (by show w.heap.size ≤ gk; omega) _).setCell (p := ⟨gv, t, none⟩) (by show w.heap.size ≤ gv; omega) _
set_option maxRecDepth 100000 in
set_option maxHeartbeats 1600000 in
theorem layer_any (Vo : Int) (D Hd : Nat) (H' : Int) (H : Nat) (Ly : Int) (b : Bk) (L : Lay) (ro : Option Addr) (n c : Nat) (R : List (List Int)) (w : World) (hT : Tab w) (hB : BkAt w D H b L) (hR : GridAt w ro n R) (hl : ∀ t, t < n → (rowOf R t).length = D) (hn : n ≤ 128) (h1 : 1 ≤ D) (h2 : D ≤ 32) (g1 : 1 ≤ Hd) (g2 : Hd ≤ 4) (hd : D % Hd = 0) (hH : H ≤ 128) :
   Calls Tryd.prog 24 #[.agg (cfgC Vo D Hd H' Ly), .agg b.cells, .slice ro n c] w fun e w' => ∃ gm gk gv vm vk vv, e = .returned (.tuple #[.slice (some ⟨gm, 0, none⟩) n n, .slice (some ⟨gk, 0, none⟩) n n, .slice (some ⟨gv, 0, none⟩) n n]) ∧ New w.heap.size w' (fun w => GridV w (some ⟨gm, 0, none⟩) n vm (madeR L D H Hd R)) ∧ New w.heap.size w' (fun w => GridV w (some ⟨gk, 0, none⟩) n vk (keysR L D R)) ∧ New w.heap.size w' (fun w => GridV w (some ⟨gv, 0, none⟩) n vv (valsR L D R)) ∧ Below w.heap.size w w' := by
  have rl := hR.len
  have HT : Hid (∀ wv, Below w.heap.size w wv → Tab wv) := fun wv hb => hT.next hb
  have HB : Hid (∀ wv, Below w.heap.size w wv → BkAt wv D H b L) := fun wv hb => hB.below hb
  have HR : Hid (∀ wv, Below w.heap.size w wv → GridAt wv ro n R) := fun wv hb => hR.below hb
  have HLR : Hid (R.length = n) := rl
  have HL : Hid (∀ t, t < n → (rowOf R t).length = D) := hl
  have HM : Hid ((madeR L D H Hd R).length = n) := by show _ = _; unfold madeR; simp [rl]
  have HK : Hid ((keysR L D R).length = n) := by show _ = _; unfold keysR; simp [rl]
  have HV : Hid ((valsR L D R).length = n) := by show _ = _; unfold valsR; simp [rl]
  have HMt : Hid (∀ t, t < n → rowOf (madeR L D H Hd R) t = oneR L D H Hd (rowOf R t) ((keysR L D R).take t) ((valsR L D R).take t) t) := fun t ht => madeR_at L D H Hd (by omega)
  have HKt : Hid (∀ t, t < n → rowOf (keysR L D R) t = keyR L D (rowOf R t)) := fun t ht => keysR_at L D (by omega)
  have HVt : Hid (∀ t, t < n → rowOf (valsR L D R) t = valR L D (rowOf R t)) := fun t ht => valsR_at L D (by omega)
  clear hT hB hR hl rl
  have HO := fun (xo : Option Addr) (cx : Nat) (Xr : List Int) (ko vo : Option Addr) (m ck cv : Nat) (Kr Vr : List (List Int)) (wv : World) (hb : BkAt wv D H b L) h1' h2' h3' h4' h5' h6' h7' h8' h9' => one_any Vo D Hd H' H Ly b L xo cx Xr ko vo m ck cv Kr Vr wv h1' hb h2' h3' h4' h5' h6' h7' h8' h9' h1 h2 g1 g2 hd hH
  have siz := bk_size b
  unfold cfgC at HO ⊢
  generalize hbc : b.cells = bc at *
  have X0 := blk_new w 23 #[.int .i64 Vo, .int .i64 (D : Int), .int .i64 (Hd : Int), .int .i64 H', .int .i64 Ly]
  have B0 : Below w.heap.size w (w.alloc (.cells #[.int .i64 Vo, .int .i64 (D : Int), .int .i64 (Hd : Int), .int .i64 H', .int .i64 Ly] 23)) := (Below.refl _ _).alloc (Nat.le_refl _) _
  have s0 : (w.alloc (.cells #[.int .i64 Vo, .int .i64 (D : Int), .int .i64 (Hd : Int), .int .i64 H', .int .i64 Ly] 23)).heap.size = w.heap.size + 1 := by simp
  generalize hw0 : w.alloc (.cells #[.int .i64 Vo, .int .i64 (D : Int), .int .i64 (Hd : Int), .int .i64 H', .int .i64 Ly] 23) = w0 at *
  have X1 := blk_new w0 61 bc
  have B1 : Below w0.heap.size w0 (w0.alloc (.cells bc 61)) := (Below.refl _ _).alloc (Nat.le_refl _) _
  have s1 : (w0.alloc (.cells bc 61)).heap.size = w0.heap.size + 1 := by simp
  rw [s0] at X1 s1
  generalize hw1 : w0.alloc (.cells bc 61) = w1 at *
  replace X0 := X0.below B1
  replace B1 := below_then B0 B1
  have hmk := run_make_row' (P := Tryd.prog) 67 27 (.slice none 0 0) 24 Tryd.underlying67 Tryd.infoRow rfl .i64 .i64 n (by omega) (by omega)
  go_enter Tryd.func24, Tryd.ntmps24
  go_upto_region 1 with fail
  clear hw0 hw1 B0 s0
  go_cut [6, 7, 8] from 11 (fun s6 s7 s8 wc => ∃ gm gk gv, s6 = .slice (some ⟨gm, 0, none⟩) n n ∧ s7 = .slice (some ⟨gk, 0, none⟩) n n ∧ s8 = .slice (some ⟨gv, 0, none⟩) n n ∧ LI w wc #[.int .i64 Vo, .int .i64 (D : Int), .int .i64 (Hd : Int), .int .i64 H', .int .i64 Ly] bc gm gk gv n 0 (madeR L D H Hd R) (keysR L D R) (valsR L D R))
  case first =>
    replace X0 := X0.below ((Below.refl _ _).drew)
    replace X1 := X1.below ((Below.refl _ _).drew)
    replace B1 := B1.drew
    replace s1 : w1.drew.heap.size = w.heap.size + 1 + 1 := s1
    refine wp_region_held_drew (S := fun _ => True) (by kernel_rfl) (trivial) (fun hHeld => ?_)
    generalize hA : w1.drew = wA at *
    clear hA
    refine wpAnyH_take (i := 0) (v := (.slice ro n c)) rfl (by kernel_rfl) (by kernel_rfl) (by kernel_rfl) (fun _ _ _ h => h) (Or.inl ⟨by rfl, ?_⟩) (by assumption) ?_
    · intro w' hSw
      go_simp
    simp only [List.getElem_toArray, List.getElem_cons_zero, Act.put, List.setIfInBounds_toArray, List.set_cons_zero, List.set_cons_succ]
    refine wpAnyH_take (i := 1) (v := (.int .i64 (n : Int))) rfl (by kernel_rfl) (by kernel_rfl) (by kernel_rfl) (fun _ _ _ h => h) (Or.inl ⟨by rfl, ?_⟩) (by assumption) ?_
    · intro w' hSw
      go_simp
    simp only [List.getElem_toArray, List.getElem_cons_succ, List.getElem_cons_zero, Act.put, List.setIfInBounds_toArray, List.set_cons_zero, List.set_cons_succ]
    refine wpAnyH_take (i := 3) (v := (.slice ro n c)) rfl (by kernel_rfl) (by kernel_rfl) (by kernel_rfl) (fun _ _ _ h => h) (Or.inl ⟨by rfl, ?_⟩) (by assumption) ?_
    · intro w' hSw
      go_simp
    simp only [List.getElem_toArray, List.getElem_cons_succ, List.getElem_cons_zero, Act.put, List.setIfInBounds_toArray, List.set_cons_zero, List.set_cons_succ]
    refine wpAnyH_take (i := 4) (v := (.int .i64 (n : Int))) rfl (by kernel_rfl) (by kernel_rfl) (by kernel_rfl) (fun _ _ _ h => h) (Or.inl ⟨by rfl, ?_⟩) (by assumption) ?_
    · intro w' hSw
      go_simp
    simp only [List.getElem_toArray, List.getElem_cons_succ, List.getElem_cons_zero, Act.put, List.setIfInBounds_toArray, List.set_cons_zero, List.set_cons_succ]
    refine wpAnyH_take (i := 6) (v := (.slice ro n c)) rfl (by kernel_rfl) (by kernel_rfl) (by kernel_rfl) (fun _ _ _ h => h) (Or.inl ⟨by rfl, ?_⟩) (by assumption) ?_
    · intro w' hSw
      go_simp
    simp only [List.getElem_toArray, List.getElem_cons_succ, List.getElem_cons_zero, Act.put, List.setIfInBounds_toArray, List.set_cons_zero, List.set_cons_succ]
    refine wpAnyH_take (i := 7) (v := (.int .i64 (n : Int))) rfl (by kernel_rfl) (by kernel_rfl) (by kernel_rfl) (fun _ _ _ h => h) (Or.inl ⟨by rfl, ?_⟩) (by assumption) ?_
    · intro w' hSw
      go_simp
    simp only [List.getElem_toArray, List.getElem_cons_succ, List.getElem_cons_zero, Act.put, List.setIfInBounds_toArray, List.set_cons_zero, List.set_cons_succ]
    refine wpAnyH_ready (rs := [2, 5, 8]) (by kernel_rfl) (by simp) ?_
    refine AllReadyH.cons rfl (fun Kc hKc => ?_) (AllReadyH.cons rfl (fun Kc hKc => ?_) (AllReadyH.cons rfl (fun Kc hKc => ?_) AllReadyH.nil))
    · simp only [List.getElem_toArray, List.getElem_cons_succ, List.getElem_cons_zero]
      rw [if_pos (by rfl)]
      go_wp2_with fail
      have NM := fun p => fp_made wA n p (madeR L D H Hd R)
      have EM1 : Below wA.heap.size wA (wA.alloc (.cells (madeCells #[.slice none 0 0] n) 27)) := (Below.refl _ _).alloc (Nat.le_refl _) _
      have zwM1 : (wA.alloc (.cells (madeCells #[.slice none 0 0] n) 27)).heap.size = wA.heap.size + 1 := by simp
      generalize hn1 : wA.alloc (.cells (madeCells #[.slice none 0 0] n) 27) = wM1 at *
      refine hKc.out _ _ trivial (fun hHeld => ?_)
      clear hKc Kc hn1
      replace X0 := X0.below EM1
      replace X1 := X1.below EM1
      replace B1 := below_then B1 EM1
      refine wpAnyH_take (i := 9) (v := (.slice (some ⟨wA.heap.size, 0, none⟩) n n)) rfl (by kernel_rfl) (by kernel_rfl) (by kernel_rfl) (fun _ _ _ h => h) (Or.inl ⟨by rfl, ?_⟩) (by assumption) ?_
      · intro w' hSw
        go_simp
      simp only [List.getElem_toArray, List.getElem_cons_succ, List.getElem_cons_zero, Act.put, List.setIfInBounds_toArray, List.set_cons_zero, List.set_cons_succ]
      refine wpAnyH_ready (rs := [5, 8]) (by kernel_rfl) (by simp) ?_
      refine AllReadyH.cons rfl (fun Kc hKc => ?_) (AllReadyH.cons rfl (fun Kc hKc => ?_) AllReadyH.nil)
      · simp only [List.getElem_toArray, List.getElem_cons_succ, List.getElem_cons_zero]
        rw [if_pos (by rfl)]
        go_wp2_with fail
        have NK := fun p => fp_made wM1 n p (keysR L D R)
        have EM2 : Below wM1.heap.size wM1 (wM1.alloc (.cells (madeCells #[.slice none 0 0] n) 27)) := (Below.refl _ _).alloc (Nat.le_refl _) _
        have zwM2 : (wM1.alloc (.cells (madeCells #[.slice none 0 0] n) 27)).heap.size = wM1.heap.size + 1 := by simp
        generalize hn2 : wM1.alloc (.cells (madeCells #[.slice none 0 0] n) 27) = wM2 at *
        refine hKc.out _ _ trivial (fun hHeld => ?_)
        clear hKc Kc hn2
        replace X0 := X0.below EM2
        replace X1 := X1.below EM2
        replace B1 := below_then B1 EM2
        replace NM := fun p => (NM p).below EM2
        refine wpAnyH_take (i := 10) (v := (.slice (some ⟨wM1.heap.size, 0, none⟩) n n)) rfl (by kernel_rfl) (by kernel_rfl) (by kernel_rfl) (fun _ _ _ h => h) (Or.inl ⟨by rfl, ?_⟩) (by assumption) ?_
        · intro w' hSw
          go_simp
        simp only [List.getElem_toArray, List.getElem_cons_succ, List.getElem_cons_zero, Act.put, List.setIfInBounds_toArray, List.set_cons_zero, List.set_cons_succ]
        refine wpAnyH_ready (rs := [8]) (by kernel_rfl) (by simp) ?_
        refine AllReadyH.cons rfl (fun Kc hKc => ?_) AllReadyH.nil
        simp only [List.getElem_toArray, List.getElem_cons_succ, List.getElem_cons_zero]
        rw [if_pos (by rfl)]
        go_wp2_with fail
        have NV := fun p => fp_made wM2 n p (valsR L D R)
        have EM3 : Below wM2.heap.size wM2 (wM2.alloc (.cells (madeCells #[.slice none 0 0] n) 27)) := (Below.refl _ _).alloc (Nat.le_refl _) _
        have zwM3 : (wM2.alloc (.cells (madeCells #[.slice none 0 0] n) 27)).heap.size = wM2.heap.size + 1 := by simp
        generalize hn3 : wM2.alloc (.cells (madeCells #[.slice none 0 0] n) 27) = wM3 at *
        refine hKc.out _ _ trivial (fun hHeld => ?_)
        clear hKc Kc hn3
        replace X0 := X0.below EM3
        replace X1 := X1.below EM3
        replace B1 := below_then B1 EM3
        replace NM := fun p => (NM p).below EM3
        replace NK := fun p => (NK p).below EM3
        refine wpAnyH_take (i := 11) (v := (.slice (some ⟨wM2.heap.size, 0, none⟩) n n)) rfl (by kernel_rfl) (by kernel_rfl) (by kernel_rfl) (fun _ _ _ h => h) (Or.inl ⟨by rfl, ?_⟩) (by assumption) ?_
        · intro w' hSw
          go_simp
        simp only [List.getElem_toArray, List.getElem_cons_succ, List.getElem_cons_zero, Act.put, List.setIfInBounds_toArray, List.set_cons_zero, List.set_cons_succ]
        refine wpAnyH_done (by kernel_rfl) ?_ _
        go_wp2_with fail
        go_meet
        case rel =>
          refine ⟨wA.heap.size, wM1.heap.size, wM2.heap.size, rfl, rfl, rfl, ⟨X0, X1, NM _, NK _, NV _, by omega, B1⟩⟩
      · simp only [List.getElem_toArray, List.getElem_cons_succ, List.getElem_cons_zero]
        rw [if_pos (by rfl)]
        go_wp2_with fail
        have NV := fun p => fp_made wM1 n p (valsR L D R)
        have EM2 : Below wM1.heap.size wM1 (wM1.alloc (.cells (madeCells #[.slice none 0 0] n) 27)) := (Below.refl _ _).alloc (Nat.le_refl _) _
        have zwM2 : (wM1.alloc (.cells (madeCells #[.slice none 0 0] n) 27)).heap.size = wM1.heap.size + 1 := by simp
        generalize hn2 : wM1.alloc (.cells (madeCells #[.slice none 0 0] n) 27) = wM2 at *
        refine hKc.out _ _ trivial (fun hHeld => ?_)
        clear hKc Kc hn2
        replace X0 := X0.below EM2
        replace X1 := X1.below EM2
        replace B1 := below_then B1 EM2
        replace NM := fun p => (NM p).below EM2
        refine wpAnyH_ready (rs := [5]) (by kernel_rfl) (by simp) ?_
        refine AllReadyH.cons rfl (fun Kc hKc => ?_) AllReadyH.nil
        simp only [List.getElem_toArray, List.getElem_cons_succ, List.getElem_cons_zero]
        rw [if_pos (by rfl)]
        go_wp2_with fail
        have NK := fun p => fp_made wM2 n p (keysR L D R)
        have EM3 : Below wM2.heap.size wM2 (wM2.alloc (.cells (madeCells #[.slice none 0 0] n) 27)) := (Below.refl _ _).alloc (Nat.le_refl _) _
        have zwM3 : (wM2.alloc (.cells (madeCells #[.slice none 0 0] n) 27)).heap.size = wM2.heap.size + 1 := by simp
        generalize hn3 : wM2.alloc (.cells (madeCells #[.slice none 0 0] n) 27) = wM3 at *
        refine hKc.out _ _ trivial (fun hHeld => ?_)
        clear hKc Kc hn3
        replace X0 := X0.below EM3
        replace X1 := X1.below EM3
        replace B1 := below_then B1 EM3
        replace NM := fun p => (NM p).below EM3
        replace NV := fun p => (NV p).below EM3
        refine wpAnyH_take (i := 10) (v := (.slice (some ⟨wM2.heap.size, 0, none⟩) n n)) rfl (by kernel_rfl) (by kernel_rfl) (by kernel_rfl) (fun _ _ _ h => h) (Or.inl ⟨by rfl, ?_⟩) (by assumption) ?_
        · intro w' hSw
          go_simp
        simp only [List.getElem_toArray, List.getElem_cons_succ, List.getElem_cons_zero, Act.put, List.setIfInBounds_toArray, List.set_cons_zero, List.set_cons_succ]
        refine wpAnyH_take (i := 11) (v := (.slice (some ⟨wM1.heap.size, 0, none⟩) n n)) rfl (by kernel_rfl) (by kernel_rfl) (by kernel_rfl) (fun _ _ _ h => h) (Or.inl ⟨by rfl, ?_⟩) (by assumption) ?_
        · intro w' hSw
          go_simp
        simp only [List.getElem_toArray, List.getElem_cons_succ, List.getElem_cons_zero, Act.put, List.setIfInBounds_toArray, List.set_cons_zero, List.set_cons_succ]
        refine wpAnyH_done (by kernel_rfl) ?_ _
        go_wp2_with fail
        go_meet
        case rel =>
          refine ⟨wA.heap.size, wM2.heap.size, wM1.heap.size, rfl, rfl, rfl, ⟨X0, X1, NM _, NK _, NV _, by omega, B1⟩⟩
    · simp only [List.getElem_toArray, List.getElem_cons_succ, List.getElem_cons_zero]
      rw [if_pos (by rfl)]
      go_wp2_with fail
      have NK := fun p => fp_made wA n p (keysR L D R)
      have EM1 : Below wA.heap.size wA (wA.alloc (.cells (madeCells #[.slice none 0 0] n) 27)) := (Below.refl _ _).alloc (Nat.le_refl _) _
      have zwM1 : (wA.alloc (.cells (madeCells #[.slice none 0 0] n) 27)).heap.size = wA.heap.size + 1 := by simp
      generalize hn1 : wA.alloc (.cells (madeCells #[.slice none 0 0] n) 27) = wM1 at *
      refine hKc.out _ _ trivial (fun hHeld => ?_)
      clear hKc Kc hn1
      replace X0 := X0.below EM1
      replace X1 := X1.below EM1
      replace B1 := below_then B1 EM1
      refine wpAnyH_ready (rs := [2, 8]) (by kernel_rfl) (by simp) ?_
      refine AllReadyH.cons rfl (fun Kc hKc => ?_) (AllReadyH.cons rfl (fun Kc hKc => ?_) AllReadyH.nil)
      · simp only [List.getElem_toArray, List.getElem_cons_succ, List.getElem_cons_zero]
        rw [if_pos (by rfl)]
        go_wp2_with fail
        have NM := fun p => fp_made wM1 n p (madeR L D H Hd R)
        have EM2 : Below wM1.heap.size wM1 (wM1.alloc (.cells (madeCells #[.slice none 0 0] n) 27)) := (Below.refl _ _).alloc (Nat.le_refl _) _
        have zwM2 : (wM1.alloc (.cells (madeCells #[.slice none 0 0] n) 27)).heap.size = wM1.heap.size + 1 := by simp
        generalize hn2 : wM1.alloc (.cells (madeCells #[.slice none 0 0] n) 27) = wM2 at *
        refine hKc.out _ _ trivial (fun hHeld => ?_)
        clear hKc Kc hn2
        replace X0 := X0.below EM2
        replace X1 := X1.below EM2
        replace B1 := below_then B1 EM2
        replace NK := fun p => (NK p).below EM2
        refine wpAnyH_take (i := 9) (v := (.slice (some ⟨wM1.heap.size, 0, none⟩) n n)) rfl (by kernel_rfl) (by kernel_rfl) (by kernel_rfl) (fun _ _ _ h => h) (Or.inl ⟨by rfl, ?_⟩) (by assumption) ?_
        · intro w' hSw
          go_simp
        simp only [List.getElem_toArray, List.getElem_cons_succ, List.getElem_cons_zero, Act.put, List.setIfInBounds_toArray, List.set_cons_zero, List.set_cons_succ]
        refine wpAnyH_take (i := 10) (v := (.slice (some ⟨wA.heap.size, 0, none⟩) n n)) rfl (by kernel_rfl) (by kernel_rfl) (by kernel_rfl) (fun _ _ _ h => h) (Or.inl ⟨by rfl, ?_⟩) (by assumption) ?_
        · intro w' hSw
          go_simp
        simp only [List.getElem_toArray, List.getElem_cons_succ, List.getElem_cons_zero, Act.put, List.setIfInBounds_toArray, List.set_cons_zero, List.set_cons_succ]
        refine wpAnyH_ready (rs := [8]) (by kernel_rfl) (by simp) ?_
        refine AllReadyH.cons rfl (fun Kc hKc => ?_) AllReadyH.nil
        simp only [List.getElem_toArray, List.getElem_cons_succ, List.getElem_cons_zero]
        rw [if_pos (by rfl)]
        go_wp2_with fail
        have NV := fun p => fp_made wM2 n p (valsR L D R)
        have EM3 : Below wM2.heap.size wM2 (wM2.alloc (.cells (madeCells #[.slice none 0 0] n) 27)) := (Below.refl _ _).alloc (Nat.le_refl _) _
        have zwM3 : (wM2.alloc (.cells (madeCells #[.slice none 0 0] n) 27)).heap.size = wM2.heap.size + 1 := by simp
        generalize hn3 : wM2.alloc (.cells (madeCells #[.slice none 0 0] n) 27) = wM3 at *
        refine hKc.out _ _ trivial (fun hHeld => ?_)
        clear hKc Kc hn3
        replace X0 := X0.below EM3
        replace X1 := X1.below EM3
        replace B1 := below_then B1 EM3
        replace NK := fun p => (NK p).below EM3
        replace NM := fun p => (NM p).below EM3
        refine wpAnyH_take (i := 11) (v := (.slice (some ⟨wM2.heap.size, 0, none⟩) n n)) rfl (by kernel_rfl) (by kernel_rfl) (by kernel_rfl) (fun _ _ _ h => h) (Or.inl ⟨by rfl, ?_⟩) (by assumption) ?_
        · intro w' hSw
          go_simp
        simp only [List.getElem_toArray, List.getElem_cons_succ, List.getElem_cons_zero, Act.put, List.setIfInBounds_toArray, List.set_cons_zero, List.set_cons_succ]
        refine wpAnyH_done (by kernel_rfl) ?_ _
        go_wp2_with fail
        go_meet
        case rel =>
          refine ⟨wM1.heap.size, wA.heap.size, wM2.heap.size, rfl, rfl, rfl, ⟨X0, X1, NM _, NK _, NV _, by omega, B1⟩⟩
      · simp only [List.getElem_toArray, List.getElem_cons_succ, List.getElem_cons_zero]
        rw [if_pos (by rfl)]
        go_wp2_with fail
        have NV := fun p => fp_made wM1 n p (valsR L D R)
        have EM2 : Below wM1.heap.size wM1 (wM1.alloc (.cells (madeCells #[.slice none 0 0] n) 27)) := (Below.refl _ _).alloc (Nat.le_refl _) _
        have zwM2 : (wM1.alloc (.cells (madeCells #[.slice none 0 0] n) 27)).heap.size = wM1.heap.size + 1 := by simp
        generalize hn2 : wM1.alloc (.cells (madeCells #[.slice none 0 0] n) 27) = wM2 at *
        refine hKc.out _ _ trivial (fun hHeld => ?_)
        clear hKc Kc hn2
        replace X0 := X0.below EM2
        replace X1 := X1.below EM2
        replace B1 := below_then B1 EM2
        replace NK := fun p => (NK p).below EM2
        refine wpAnyH_ready (rs := [2]) (by kernel_rfl) (by simp) ?_
        refine AllReadyH.cons rfl (fun Kc hKc => ?_) AllReadyH.nil
        simp only [List.getElem_toArray, List.getElem_cons_succ, List.getElem_cons_zero]
        rw [if_pos (by rfl)]
        go_wp2_with fail
        have NM := fun p => fp_made wM2 n p (madeR L D H Hd R)
        have EM3 : Below wM2.heap.size wM2 (wM2.alloc (.cells (madeCells #[.slice none 0 0] n) 27)) := (Below.refl _ _).alloc (Nat.le_refl _) _
        have zwM3 : (wM2.alloc (.cells (madeCells #[.slice none 0 0] n) 27)).heap.size = wM2.heap.size + 1 := by simp
        generalize hn3 : wM2.alloc (.cells (madeCells #[.slice none 0 0] n) 27) = wM3 at *
        refine hKc.out _ _ trivial (fun hHeld => ?_)
        clear hKc Kc hn3
        replace X0 := X0.below EM3
        replace X1 := X1.below EM3
        replace B1 := below_then B1 EM3
        replace NK := fun p => (NK p).below EM3
        replace NV := fun p => (NV p).below EM3
        refine wpAnyH_take (i := 9) (v := (.slice (some ⟨wM2.heap.size, 0, none⟩) n n)) rfl (by kernel_rfl) (by kernel_rfl) (by kernel_rfl) (fun _ _ _ h => h) (Or.inl ⟨by rfl, ?_⟩) (by assumption) ?_
        · intro w' hSw
          go_simp
        simp only [List.getElem_toArray, List.getElem_cons_succ, List.getElem_cons_zero, Act.put, List.setIfInBounds_toArray, List.set_cons_zero, List.set_cons_succ]
        refine wpAnyH_take (i := 10) (v := (.slice (some ⟨wA.heap.size, 0, none⟩) n n)) rfl (by kernel_rfl) (by kernel_rfl) (by kernel_rfl) (fun _ _ _ h => h) (Or.inl ⟨by rfl, ?_⟩) (by assumption) ?_
        · intro w' hSw
          go_simp
        simp only [List.getElem_toArray, List.getElem_cons_succ, List.getElem_cons_zero, Act.put, List.setIfInBounds_toArray, List.set_cons_zero, List.set_cons_succ]
        refine wpAnyH_take (i := 11) (v := (.slice (some ⟨wM1.heap.size, 0, none⟩) n n)) rfl (by kernel_rfl) (by kernel_rfl) (by kernel_rfl) (fun _ _ _ h => h) (Or.inl ⟨by rfl, ?_⟩) (by assumption) ?_
        · intro w' hSw
          go_simp
        simp only [List.getElem_toArray, List.getElem_cons_succ, List.getElem_cons_zero, Act.put, List.setIfInBounds_toArray, List.set_cons_zero, List.set_cons_succ]
        refine wpAnyH_done (by kernel_rfl) ?_ _
        go_wp2_with fail
        go_meet
        case rel =>
          refine ⟨wM2.heap.size, wA.heap.size, wM1.heap.size, rfl, rfl, rfl, ⟨X0, X1, NM _, NK _, NV _, by omega, B1⟩⟩
    · simp only [List.getElem_toArray, List.getElem_cons_succ, List.getElem_cons_zero]
      rw [if_pos (by rfl)]
      go_wp2_with fail
      have NV := fun p => fp_made wA n p (valsR L D R)
      have EM1 : Below wA.heap.size wA (wA.alloc (.cells (madeCells #[.slice none 0 0] n) 27)) := (Below.refl _ _).alloc (Nat.le_refl _) _
      have zwM1 : (wA.alloc (.cells (madeCells #[.slice none 0 0] n) 27)).heap.size = wA.heap.size + 1 := by simp
      generalize hn1 : wA.alloc (.cells (madeCells #[.slice none 0 0] n) 27) = wM1 at *
      refine hKc.out _ _ trivial (fun hHeld => ?_)
      clear hKc Kc hn1
      replace X0 := X0.below EM1
      replace X1 := X1.below EM1
      replace B1 := below_then B1 EM1
      refine wpAnyH_ready (rs := [2, 5]) (by kernel_rfl) (by simp) ?_
      refine AllReadyH.cons rfl (fun Kc hKc => ?_) (AllReadyH.cons rfl (fun Kc hKc => ?_) AllReadyH.nil)
      · simp only [List.getElem_toArray, List.getElem_cons_succ, List.getElem_cons_zero]
        rw [if_pos (by rfl)]
        go_wp2_with fail
        have NM := fun p => fp_made wM1 n p (madeR L D H Hd R)
        have EM2 : Below wM1.heap.size wM1 (wM1.alloc (.cells (madeCells #[.slice none 0 0] n) 27)) := (Below.refl _ _).alloc (Nat.le_refl _) _
        have zwM2 : (wM1.alloc (.cells (madeCells #[.slice none 0 0] n) 27)).heap.size = wM1.heap.size + 1 := by simp
        generalize hn2 : wM1.alloc (.cells (madeCells #[.slice none 0 0] n) 27) = wM2 at *
        refine hKc.out _ _ trivial (fun hHeld => ?_)
        clear hKc Kc hn2
        replace X0 := X0.below EM2
        replace X1 := X1.below EM2
        replace B1 := below_then B1 EM2
        replace NV := fun p => (NV p).below EM2
        refine wpAnyH_take (i := 9) (v := (.slice (some ⟨wM1.heap.size, 0, none⟩) n n)) rfl (by kernel_rfl) (by kernel_rfl) (by kernel_rfl) (fun _ _ _ h => h) (Or.inl ⟨by rfl, ?_⟩) (by assumption) ?_
        · intro w' hSw
          go_simp
        simp only [List.getElem_toArray, List.getElem_cons_succ, List.getElem_cons_zero, Act.put, List.setIfInBounds_toArray, List.set_cons_zero, List.set_cons_succ]
        refine wpAnyH_ready (rs := [5]) (by kernel_rfl) (by simp) ?_
        refine AllReadyH.cons rfl (fun Kc hKc => ?_) AllReadyH.nil
        simp only [List.getElem_toArray, List.getElem_cons_succ, List.getElem_cons_zero]
        rw [if_pos (by rfl)]
        go_wp2_with fail
        have NK := fun p => fp_made wM2 n p (keysR L D R)
        have EM3 : Below wM2.heap.size wM2 (wM2.alloc (.cells (madeCells #[.slice none 0 0] n) 27)) := (Below.refl _ _).alloc (Nat.le_refl _) _
        have zwM3 : (wM2.alloc (.cells (madeCells #[.slice none 0 0] n) 27)).heap.size = wM2.heap.size + 1 := by simp
        generalize hn3 : wM2.alloc (.cells (madeCells #[.slice none 0 0] n) 27) = wM3 at *
        refine hKc.out _ _ trivial (fun hHeld => ?_)
        clear hKc Kc hn3
        replace X0 := X0.below EM3
        replace X1 := X1.below EM3
        replace B1 := below_then B1 EM3
        replace NV := fun p => (NV p).below EM3
        replace NM := fun p => (NM p).below EM3
        refine wpAnyH_take (i := 10) (v := (.slice (some ⟨wM2.heap.size, 0, none⟩) n n)) rfl (by kernel_rfl) (by kernel_rfl) (by kernel_rfl) (fun _ _ _ h => h) (Or.inl ⟨by rfl, ?_⟩) (by assumption) ?_
        · intro w' hSw
          go_simp
        simp only [List.getElem_toArray, List.getElem_cons_succ, List.getElem_cons_zero, Act.put, List.setIfInBounds_toArray, List.set_cons_zero, List.set_cons_succ]
        refine wpAnyH_take (i := 11) (v := (.slice (some ⟨wA.heap.size, 0, none⟩) n n)) rfl (by kernel_rfl) (by kernel_rfl) (by kernel_rfl) (fun _ _ _ h => h) (Or.inl ⟨by rfl, ?_⟩) (by assumption) ?_
        · intro w' hSw
          go_simp
        simp only [List.getElem_toArray, List.getElem_cons_succ, List.getElem_cons_zero, Act.put, List.setIfInBounds_toArray, List.set_cons_zero, List.set_cons_succ]
        refine wpAnyH_done (by kernel_rfl) ?_ _
        go_wp2_with fail
        go_meet
        case rel =>
          refine ⟨wM1.heap.size, wM2.heap.size, wA.heap.size, rfl, rfl, rfl, ⟨X0, X1, NM _, NK _, NV _, by omega, B1⟩⟩
      · simp only [List.getElem_toArray, List.getElem_cons_succ, List.getElem_cons_zero]
        rw [if_pos (by rfl)]
        go_wp2_with fail
        have NK := fun p => fp_made wM1 n p (keysR L D R)
        have EM2 : Below wM1.heap.size wM1 (wM1.alloc (.cells (madeCells #[.slice none 0 0] n) 27)) := (Below.refl _ _).alloc (Nat.le_refl _) _
        have zwM2 : (wM1.alloc (.cells (madeCells #[.slice none 0 0] n) 27)).heap.size = wM1.heap.size + 1 := by simp
        generalize hn2 : wM1.alloc (.cells (madeCells #[.slice none 0 0] n) 27) = wM2 at *
        refine hKc.out _ _ trivial (fun hHeld => ?_)
        clear hKc Kc hn2
        replace X0 := X0.below EM2
        replace X1 := X1.below EM2
        replace B1 := below_then B1 EM2
        replace NV := fun p => (NV p).below EM2
        refine wpAnyH_ready (rs := [2]) (by kernel_rfl) (by simp) ?_
        refine AllReadyH.cons rfl (fun Kc hKc => ?_) AllReadyH.nil
        simp only [List.getElem_toArray, List.getElem_cons_succ, List.getElem_cons_zero]
        rw [if_pos (by rfl)]
        go_wp2_with fail
        have NM := fun p => fp_made wM2 n p (madeR L D H Hd R)
        have EM3 : Below wM2.heap.size wM2 (wM2.alloc (.cells (madeCells #[.slice none 0 0] n) 27)) := (Below.refl _ _).alloc (Nat.le_refl _) _
        have zwM3 : (wM2.alloc (.cells (madeCells #[.slice none 0 0] n) 27)).heap.size = wM2.heap.size + 1 := by simp
        generalize hn3 : wM2.alloc (.cells (madeCells #[.slice none 0 0] n) 27) = wM3 at *
        refine hKc.out _ _ trivial (fun hHeld => ?_)
        clear hKc Kc hn3
        replace X0 := X0.below EM3
        replace X1 := X1.below EM3
        replace B1 := below_then B1 EM3
        replace NV := fun p => (NV p).below EM3
        replace NK := fun p => (NK p).below EM3
        refine wpAnyH_take (i := 9) (v := (.slice (some ⟨wM2.heap.size, 0, none⟩) n n)) rfl (by kernel_rfl) (by kernel_rfl) (by kernel_rfl) (fun _ _ _ h => h) (Or.inl ⟨by rfl, ?_⟩) (by assumption) ?_
        · intro w' hSw
          go_simp
        simp only [List.getElem_toArray, List.getElem_cons_succ, List.getElem_cons_zero, Act.put, List.setIfInBounds_toArray, List.set_cons_zero, List.set_cons_succ]
        refine wpAnyH_take (i := 10) (v := (.slice (some ⟨wM1.heap.size, 0, none⟩) n n)) rfl (by kernel_rfl) (by kernel_rfl) (by kernel_rfl) (fun _ _ _ h => h) (Or.inl ⟨by rfl, ?_⟩) (by assumption) ?_
        · intro w' hSw
          go_simp
        simp only [List.getElem_toArray, List.getElem_cons_succ, List.getElem_cons_zero, Act.put, List.setIfInBounds_toArray, List.set_cons_zero, List.set_cons_succ]
        refine wpAnyH_take (i := 11) (v := (.slice (some ⟨wA.heap.size, 0, none⟩) n n)) rfl (by kernel_rfl) (by kernel_rfl) (by kernel_rfl) (fun _ _ _ h => h) (Or.inl ⟨by rfl, ?_⟩) (by assumption) ?_
        · intro w' hSw
          go_simp
        simp only [List.getElem_toArray, List.getElem_cons_succ, List.getElem_cons_zero, Act.put, List.setIfInBounds_toArray, List.set_cons_zero, List.set_cons_succ]
        refine wpAnyH_done (by kernel_rfl) ?_ _
        go_wp2_with fail
        go_meet
        case rel =>
          refine ⟨wM2.heap.size, wM1.heap.size, wA.heap.size, rfl, rfl, rfl, ⟨X0, X1, NM _, NK _, NV _, by omega, B1⟩⟩
  case rest =>
    obtain ⟨gm, gk, gv, rfl, rfl, rfl, G0⟩ := hcut
    clear X0 X1 B1 s1 hmk
    go_wp2_with fail
    go_loopg [22] n (fun r i wr => ∃ t : Nat, t ≤ n ∧ r = n - t ∧ i = .int .i64 t ∧ LI w wr #[.int .i64 Vo, .int .i64 (D : Int), .int .i64 (Hd : Int), .int .i64 H', .int .i64 Ly] bc gm gk gv n t (madeR L D H Hd R) (keysR L D R) (valsR L D R))
    case atStart => exact ⟨0, by omega, by omega, rfl, G0⟩
    case round =>
      obtain ⟨t, ht, rfl, rfl, G⟩ := hrel
      clear G0
      by_cases hlt : t < n
      · obtain ⟨xb, xo, rfl, hc⟩ := (HR.out wr G.kp).cells (by omega)
        obtain ⟨xr, xn, xc, hx, AX⟩ := hc t hlt
        obtain rfl : xn = D := by rw [← HL.out t hlt, AX.row.len]
        clear hc
        have ltm := G.m.lt
        have ltk := G.k.lt
        have ltv := G.v.lt
        have ne := G.ne
        have GY := G.below ((Below.refl _ _).drew)
        have AY := AX.below ((Below.refl _ _).drew)
        have KF := GY.k.front (by omega) (by rw [HK.out]; omega) (by omega)
        have VF := GY.v.front (by omega) (by rw [HV.out]; omega) (by omega)
        have kl : ∀ s, s < t → (rowOf ((keysR L xn R).take t) s).length = xn := fun s hs => by rw [rowOf_take hs, HKt.out s (by omega)]; exact apl_len _ _ _ _
        have vl : ∀ s, s < t → (rowOf ((valsR L xn R).take t) s).length = xn := fun s hs => by rw [rowOf_take hs, HVt.out s (by omega)]; exact apl_len _ _ _ _
        have tn : (t : Int) ≤ (n : Int) := by omega
        clear G AX
        go_wp2_with fail
        have hwA0 : wr.heap.size ≤ wr.drew.heap.size := Nat.le_refl _
        refine wp_region_held_drew (S := fun w' => Blk w' w.heap.size 23 #[.int .i64 Vo, .int .i64 (xn : Int), .int .i64 (Hd : Int), .int .i64 H', .int .i64 Ly] ∧ Blk w' (w.heap.size + 1) 61 bc) (by kernel_rfl) (⟨GY.x0, GY.x1⟩) (fun hHeld => ?_)
        generalize hA : wr.drew = wA at *
        clear hA
        refine wpAnyH_take (i := 0) (v := (.slice (some ⟨gm, 0, none⟩) n n)) rfl (by kernel_rfl) (by kernel_rfl) (by kernel_rfl) (fun _ _ _ h => h) (Or.inl ⟨by rfl, ?_⟩) (by assumption) ?_
        · intro w' hSw
          go_simp
        simp only [List.getElem_toArray, List.getElem_cons_zero, Act.put, List.setIfInBounds_toArray, List.set_cons_zero, List.set_cons_succ]
        refine wpAnyH_take (i := 1) (v := (.int .i64 (t : Int))) rfl (by kernel_rfl) (by kernel_rfl) (by kernel_rfl) (fun _ _ _ h => h) (Or.inl ⟨by rfl, ?_⟩) (by assumption) ?_
        · intro w' hSw
          go_simp
        simp only [List.getElem_toArray, List.getElem_cons_succ, List.getElem_cons_zero, Act.put, List.setIfInBounds_toArray, List.set_cons_zero, List.set_cons_succ]
        refine wpAnyH_take (i := 2) (v := (.slice (some ⟨gk, 0, none⟩) n n)) rfl (by kernel_rfl) (by kernel_rfl) (by kernel_rfl) (fun _ _ _ h => h) (Or.inl ⟨by rfl, ?_⟩) (by assumption) ?_
        · intro w' hSw
          go_simp
        simp only [List.getElem_toArray, List.getElem_cons_succ, List.getElem_cons_zero, Act.put, List.setIfInBounds_toArray, List.set_cons_zero, List.set_cons_succ]
        refine wpAnyH_take (i := 3) (v := (.int .i64 (t : Int))) rfl (by kernel_rfl) (by kernel_rfl) (by kernel_rfl) (fun _ _ _ h => h) (Or.inl ⟨by rfl, ?_⟩) (by assumption) ?_
        · intro w' hSw
          go_simp
        simp only [List.getElem_toArray, List.getElem_cons_succ, List.getElem_cons_zero, Act.put, List.setIfInBounds_toArray, List.set_cons_zero, List.set_cons_succ]
        refine wpAnyH_take (i := 4) (v := (.slice (some ⟨gv, 0, none⟩) n n)) rfl (by kernel_rfl) (by kernel_rfl) (by kernel_rfl) (fun _ _ _ h => h) (Or.inl ⟨by rfl, ?_⟩) (by assumption) ?_
        · intro w' hSw
          go_simp
        simp only [List.getElem_toArray, List.getElem_cons_succ, List.getElem_cons_zero, Act.put, List.setIfInBounds_toArray, List.set_cons_zero, List.set_cons_succ]
        refine wpAnyH_take (i := 5) (v := (.int .i64 (t : Int))) rfl (by kernel_rfl) (by kernel_rfl) (by kernel_rfl) (fun _ _ _ h => h) (Or.inl ⟨by rfl, ?_⟩) (by assumption) ?_
        · intro w' hSw
          go_simp
        simp only [List.getElem_toArray, List.getElem_cons_succ, List.getElem_cons_zero, Act.put, List.setIfInBounds_toArray, List.set_cons_zero, List.set_cons_succ]
        refine wpAnyH_take (i := 6) (v := (.agg #[.int .i64 Vo, .int .i64 (xn : Int), .int .i64 (Hd : Int), .int .i64 H', .int .i64 Ly])) rfl (by kernel_rfl) (by kernel_rfl) (by kernel_rfl) (fun _ _ _ h => h) (Or.inl ⟨by rfl, ?_⟩) (by assumption) ?_
        · intro w' hSw
          have cc0 : w'.cell? ⟨w.heap.size, 0, none⟩ = some (.int .i64 Vo) := hSw.1.cell 0 rfl
          have cc1 : w'.cell? ⟨w.heap.size, 1, none⟩ = some (.int .i64 (xn : Int)) := hSw.1.cell 1 rfl
          have cc2 : w'.cell? ⟨w.heap.size, 2, none⟩ = some (.int .i64 (Hd : Int)) := hSw.1.cell 2 rfl
          have cc3 : w'.cell? ⟨w.heap.size, 3, none⟩ = some (.int .i64 H') := hSw.1.cell 3 rfl
          have cc4 : w'.cell? ⟨w.heap.size, 4, none⟩ = some (.int .i64 Ly) := hSw.1.cell 4 rfl
          go_simp
        simp only [List.getElem_toArray, List.getElem_cons_succ, List.getElem_cons_zero, Act.put, List.setIfInBounds_toArray, List.set_cons_zero, List.set_cons_succ]
        refine wpAnyH_take (i := 7) (v := (.agg bc)) rfl (by kernel_rfl) (by kernel_rfl) (by kernel_rfl) (fun _ _ _ h => h) (Or.inl ⟨by rfl, ?_⟩) (by assumption) ?_
        · intro w' hSw
          exact yield_row 61 _ rfl (w.heap.size + 1) rfl bc (load_b hSw.2 siz)
        simp only [List.getElem_toArray, List.getElem_cons_succ, List.getElem_cons_zero, Act.put, List.setIfInBounds_toArray, List.set_cons_zero, List.set_cons_succ]
        refine wpAnyH_take (i := 8) (v := (.slice xr xn xc)) rfl (by kernel_rfl) (by kernel_rfl) (by kernel_rfl) (fun _ _ _ h => h) (Or.inl ⟨by rfl, ?_⟩) (by assumption) ?_
        · intro w' hSw
          go_simp
        simp only [List.getElem_toArray, List.getElem_cons_succ, List.getElem_cons_zero, Act.put, List.setIfInBounds_toArray, List.set_cons_zero, List.set_cons_succ]
        refine wpAnyH_take (i := 9) (v := (.slice (some ⟨gk, 0, none⟩) n n)) rfl (by kernel_rfl) (by kernel_rfl) (by kernel_rfl) (fun _ _ _ h => h) (Or.inl ⟨by rfl, ?_⟩) (by assumption) ?_
        · intro w' hSw
          go_simp
        simp only [List.getElem_toArray, List.getElem_cons_succ, List.getElem_cons_zero, Act.put, List.setIfInBounds_toArray, List.set_cons_zero, List.set_cons_succ]
        refine wpAnyH_take (i := 10) (v := (.int .i64 (t : Int))) rfl (by kernel_rfl) (by kernel_rfl) (by kernel_rfl) (fun _ _ _ h => h) (Or.inl ⟨by rfl, ?_⟩) (by assumption) ?_
        · intro w' hSw
          go_simp
        simp only [List.getElem_toArray, List.getElem_cons_succ, List.getElem_cons_zero, Act.put, List.setIfInBounds_toArray, List.set_cons_zero, List.set_cons_succ]
        refine wpAnyH_take (i := 11) (v := (.slice (some ⟨gk, 0, none⟩) t n)) rfl (by kernel_rfl) (by kernel_rfl) (by kernel_rfl) (fun _ _ _ h => h) (Or.inl ⟨by rfl, ?_⟩) (by assumption) ?_
        · intro w' hSw
          go_simp
        simp only [List.getElem_toArray, List.getElem_cons_succ, List.getElem_cons_zero, Act.put, List.setIfInBounds_toArray, List.set_cons_zero, List.set_cons_succ]
        refine wpAnyH_take (i := 12) (v := (.slice (some ⟨gv, 0, none⟩) n n)) rfl (by kernel_rfl) (by kernel_rfl) (by kernel_rfl) (fun _ _ _ h => h) (Or.inl ⟨by rfl, ?_⟩) (by assumption) ?_
        · intro w' hSw
          go_simp
        simp only [List.getElem_toArray, List.getElem_cons_succ, List.getElem_cons_zero, Act.put, List.setIfInBounds_toArray, List.set_cons_zero, List.set_cons_succ]
        refine wpAnyH_take (i := 13) (v := (.int .i64 (t : Int))) rfl (by kernel_rfl) (by kernel_rfl) (by kernel_rfl) (fun _ _ _ h => h) (Or.inl ⟨by rfl, ?_⟩) (by assumption) ?_
        · intro w' hSw
          go_simp
        simp only [List.getElem_toArray, List.getElem_cons_succ, List.getElem_cons_zero, Act.put, List.setIfInBounds_toArray, List.set_cons_zero, List.set_cons_succ]
        refine wpAnyH_take (i := 14) (v := (.slice (some ⟨gv, 0, none⟩) t n)) rfl (by kernel_rfl) (by kernel_rfl) (by kernel_rfl) (fun _ _ _ h => h) (Or.inl ⟨by rfl, ?_⟩) (by assumption) ?_
        · intro w' hSw
          go_simp
        simp only [List.getElem_toArray, List.getElem_cons_succ, List.getElem_cons_zero, Act.put, List.setIfInBounds_toArray, List.set_cons_zero, List.set_cons_succ]
        refine wpAnyH_ready (rs := [15]) (by kernel_rfl) (by simp) ?_
        refine AllReadyH.cons rfl (fun Kc hKc => ?_) AllReadyH.nil
        simp only [List.getElem_toArray, List.getElem_cons_succ, List.getElem_cons_zero]
        rw [if_pos (by rfl)]
        go_wp2_with fail
        refine (HO _ _ (rowOf R t) _ _ _ _ _ ((keysR L xn R).take t) ((valsR L xn R).take t) _ (HB.out _ GY.kp) (HT.out _ GY.kp) AY KF VF (fun h => by cases h) (fun h => by cases h) kl vl (by omega)).mono ?_
        rintro e w9 ⟨o1, o2, o3, rfl, F1, F2, F3, B9⟩
        have GZ := GY.below B9
        go_wp2_with fail
        refine hKc.out _ _ (⟨GZ.x0, GZ.x1⟩) (fun hHeld => ?_)
        clear hKc Kc
        refine wpAnyH_take (i := 16) (v := (.tuple #[.slice (some ⟨o1, 0, none⟩) xn xn, .slice (some ⟨o2, 0, none⟩) xn xn, .slice (some ⟨o3, 0, none⟩) xn xn])) rfl (by kernel_rfl) (by kernel_rfl) (by kernel_rfl) (fun _ _ _ h => h) (Or.inl ⟨by rfl, ?_⟩) (by assumption) ?_
        · intro w' hSw
          go_simp
        simp only [List.getElem_toArray, List.getElem_cons_succ, List.getElem_cons_zero, Act.put, List.setIfInBounds_toArray, List.set_cons_zero, List.set_cons_succ]
        refine wpAnyH_take (i := 17) (v := (.slice (some ⟨o1, 0, none⟩) xn xn)) rfl (by kernel_rfl) (by kernel_rfl) (by kernel_rfl) (fun _ _ _ h => h) (Or.inl ⟨by rfl, ?_⟩) (by assumption) ?_
        · intro w' hSw
          go_simp
        simp only [List.getElem_toArray, List.getElem_cons_succ, List.getElem_cons_zero, Act.put, List.setIfInBounds_toArray, List.set_cons_zero, List.set_cons_succ]
        refine wpAnyH_take (i := 18) (v := (.slice (some ⟨o2, 0, none⟩) xn xn)) rfl (by kernel_rfl) (by kernel_rfl) (by kernel_rfl) (fun _ _ _ h => h) (Or.inl ⟨by rfl, ?_⟩) (by assumption) ?_
        · intro w' hSw
          go_simp
        simp only [List.getElem_toArray, List.getElem_cons_succ, List.getElem_cons_zero, Act.put, List.setIfInBounds_toArray, List.set_cons_zero, List.set_cons_succ]
        refine wpAnyH_take (i := 19) (v := (.slice (some ⟨o3, 0, none⟩) xn xn)) rfl (by kernel_rfl) (by kernel_rfl) (by kernel_rfl) (fun _ _ _ h => h) (Or.inl ⟨by rfl, ?_⟩) (by assumption) ?_
        · intro w' hSw
          go_simp
        simp only [List.getElem_toArray, List.getElem_cons_succ, List.getElem_cons_zero, Act.put, List.setIfInBounds_toArray, List.set_cons_zero, List.set_cons_succ]
        refine wpAnyH_take (i := 20) (v := (.pointer (some ⟨gm, t, none⟩))) rfl (by kernel_rfl) (by kernel_rfl) (by kernel_rfl) (fun _ _ _ h => h) (Or.inl ⟨by rfl, ?_⟩) (by assumption) ?_
        · intro w' hSw
          go_simp
        simp only [List.getElem_toArray, List.getElem_cons_succ, List.getElem_cons_zero, Act.put, List.setIfInBounds_toArray, List.set_cons_zero, List.set_cons_succ]
        clear hHeld
        have f1b := F1.base
        have f2b := F2.base
        have f3b := F3.base
        have N1 : Hangs (offL w gm gk gv) w9 fun w => Arg w (some ⟨o1, 0, none⟩) xn xn (rowOf (madeR L xn H Hd R) t) := by
          rw [HMt.out t hlt]
          exact (F1.hangs.mono fun b _ e => by subst e; exact ⟨by omega, by omega, by omega, by omega⟩).imp fun _ h => h.arg
        have N2 : Hangs (offL w gm gk gv) w9 fun w => Arg w (some ⟨o2, 0, none⟩) xn xn (rowOf (keysR L xn R) t) := by
          rw [HKt.out t hlt]
          exact (F2.hangs.mono fun b _ e => by subst e; exact ⟨by omega, by omega, by omega, by omega⟩).imp fun _ h => h.arg
        have N3 : Hangs (offL w gm gk gv) w9 fun w => Arg w (some ⟨o3, 0, none⟩) xn xn (rowOf (valsR L xn R) t) := by
          rw [HVt.out t hlt]
          exact (F3.hangs.mono fun b _ e => by subst e; exact ⟨by omega, by omega, by omega, by omega⟩).imp fun _ h => h.arg
        have GN := GZ.next hlt N1 N2 N3
        have pm : ¬ offL w gm gk gv gm := fun h => h.2.1 rfl
        have pk : ¬ offL w gm gk gv gk := fun h => h.2.2.1 rfl
        have K1 := GZ.k.far (a := ⟨gm, t, none⟩) (by show gm ≠ gk; omega) pm (.slice (some ⟨o1, 0, none⟩) xn xn)
        have V1 := (GZ.v.far (a := ⟨gm, t, none⟩) (by show gm ≠ gv; omega) pm (.slice (some ⟨o1, 0, none⟩) xn xn)).far (a := ⟨gk, t, none⟩) (by show gk ≠ gv; omega) pk (.slice (some ⟨o2, 0, none⟩) xn xn)
        have fz1 := GZ.m.frozen t
        obtain ⟨u1, cu1⟩ := GZ.m.cell hlt
        have fz2 := K1.frozen t
        obtain ⟨u2, cu2⟩ := K1.cell hlt
        have fz3 := V1.frozen t
        obtain ⟨u3, cu3⟩ := V1.cell hlt
        have Q1 : Blk (w9.setCell ⟨gm, t, none⟩ (.slice (some ⟨o1, 0, none⟩) xn xn)) w.heap.size 23 #[.int .i64 Vo, .int .i64 (xn : Int), .int .i64 (Hd : Int), .int .i64 H', .int .i64 Ly] ∧ Blk (w9.setCell ⟨gm, t, none⟩ (.slice (some ⟨o1, 0, none⟩) xn xn)) (w.heap.size + 1) 61 bc := ⟨GZ.x0.other (by show _ ≠ gm; omega) _, GZ.x1.other (by show _ ≠ gm; omega) _⟩
        have Q2 : Blk ((w9.setCell ⟨gm, t, none⟩ (.slice (some ⟨o1, 0, none⟩) xn xn)).setCell ⟨gk, t, none⟩ (.slice (some ⟨o2, 0, none⟩) xn xn)) w.heap.size 23 #[.int .i64 Vo, .int .i64 (xn : Int), .int .i64 (Hd : Int), .int .i64 H', .int .i64 Ly] ∧ Blk ((w9.setCell ⟨gm, t, none⟩ (.slice (some ⟨o1, 0, none⟩) xn xn)).setCell ⟨gk, t, none⟩ (.slice (some ⟨o2, 0, none⟩) xn xn)) (w.heap.size + 1) 61 bc := ⟨Q1.1.other (by show _ ≠ gk; omega) _, Q1.2.other (by show _ ≠ gk; omega) _⟩
        clear K1 V1 N1 N2 N3 F1 F2 F3 f1b f2b f3b
        refine wpAnyH_ready (rs := [21]) (by kernel_rfl) (by simp) ?_
        refine AllReadyH.cons rfl (fun Kc hKc => ?_) AllReadyH.nil
        simp only [List.getElem_toArray, List.getElem_cons_succ, List.getElem_cons_zero]
        rw [if_pos (by rfl)]
        go_wp2_with fail
        refine hKc.out _ _ Q1 (fun hHeld => ?_)
        clear hKc Kc
        generalize hS1 : w9.setCell ⟨gm, t, none⟩ (.slice (some ⟨o1, 0, none⟩) xn xn) = wS1 at *
        refine wpAnyH_take (i := 22) (v := (.pointer (some ⟨gk, t, none⟩))) rfl (by kernel_rfl) (by kernel_rfl) (by kernel_rfl) (fun _ _ _ h => h) (Or.inl ⟨by rfl, ?_⟩) (by assumption) ?_
        · intro w' hSw
          go_simp
        simp only [List.getElem_toArray, List.getElem_cons_succ, List.getElem_cons_zero, Act.put, List.setIfInBounds_toArray, List.set_cons_zero, List.set_cons_succ]
        refine wpAnyH_ready (rs := [23]) (by kernel_rfl) (by simp) ?_
        refine AllReadyH.cons rfl (fun Kc hKc => ?_) AllReadyH.nil
        simp only [List.getElem_toArray, List.getElem_cons_succ, List.getElem_cons_zero]
        rw [if_pos (by rfl)]
        go_wp2_with fail
        refine hKc.out _ _ Q2 (fun hHeld => ?_)
        clear hKc Kc
        generalize hS2 : wS1.setCell ⟨gk, t, none⟩ (.slice (some ⟨o2, 0, none⟩) xn xn) = wS2 at *
        refine wpAnyH_take (i := 24) (v := (.pointer (some ⟨gv, t, none⟩))) rfl (by kernel_rfl) (by kernel_rfl) (by kernel_rfl) (fun _ _ _ h => h) (Or.inl ⟨by rfl, ?_⟩) (by assumption) ?_
        · intro w' hSw
          go_simp
        simp only [List.getElem_toArray, List.getElem_cons_succ, List.getElem_cons_zero, Act.put, List.setIfInBounds_toArray, List.set_cons_zero, List.set_cons_succ]
        refine wpAnyH_ready (rs := [25]) (by kernel_rfl) (by simp) ?_
        refine AllReadyH.cons rfl (fun Kc hKc => ?_) AllReadyH.nil
        simp only [List.getElem_toArray, List.getElem_cons_succ, List.getElem_cons_zero]
        rw [if_pos (by rfl)]
        go_wp2_with fail
        refine hKc.out _ _ ⟨GN.x0, GN.x1⟩ (fun hHeld => ?_)
        clear hKc Kc
        refine wpAnyH_done (by kernel_rfl) ?_ _
        go_wp2_with fail
        go_roundg (n - (t + 1))
        case measure => omega
        case rel => exact ⟨t + 1, by omega, rfl, by go_num, GN⟩
      · obtain rfl : t = n := by omega
        obtain ⟨vm, NM⟩ := G.m.whole HM.out (by omega) (B := w.heap.size) (fun b hb => by have := hb.1; omega) (by have := G.ne; omega)
        obtain ⟨vk, NK⟩ := G.k.whole HK.out (by omega) (B := w.heap.size) (fun b hb => by have := hb.1; omega) (by have := G.ne; omega)
        obtain ⟨vv, NV⟩ := G.v.whole HV.out (by omega) (B := w.heap.size) (fun b hb => by have := hb.1; omega) (by have := G.ne; omega)
        have KP := G.kp
        clear G
        go_wp2
        go_ret3
        exact ⟨gm, gk, gv, vm, vk, vv, rfl, NM, NK, NV, KP⟩
end Go.Proofs.YteemdioodaoeiaaDoor

/- Package pass: Full: how much a model likes each token behind a row of them, from the beginning. -/
namespace Go.Proofs.YteemdioodaoeiaaDoor
open Go.ChangeShapes Go.WideShapes Go.ChangeAt Go.RowKit
/-- The first rows of tokens; what l layers make of them. -/
def begL (E : List Int) (D : Nat) (A : List Int) : List (List Int) := (List.range A.length).map fun t => begR E D (el A t).toNat t
def rowsL (M : Mdl) (D H Hd : Nat) (A : List Int) : Nat → List (List Int)
  | 0 => begL M.E D A
  | l + 1 => madeR (layAt M l) D H Hd (rowsL M D H Hd A l)
def fullK (M : Mdl) (D H Hd L : Nat) (A : List Int) : List (List (List Int)) := (List.range L).map fun l => keysR (layAt M l) D (rowsL M D H Hd A l)
def fullV (M : Mdl) (D H Hd L : Nat) (A : List Int) : List (List (List Int)) := (List.range L).map fun l => valsR (layAt M l) D (rowsL M D H Hd A l)
def fullX (M : Mdl) (V D H Hd L : Nat) (A : List Int) : List Int := likR M V D (rowOf (rowsL M D H Hd A L) (A.length - 1))
theorem rowsL_len (M : Mdl) (D H Hd : Nat) (A : List Int) : ∀ l, (rowsL M D H Hd A l).length = A.length
  | 0 => by show (begL M.E D A).length = _; unfold begL; simp
  | l + 1 => by show (madeR _ _ _ _ (rowsL M D H Hd A l)).length = _; unfold madeR; simp [rowsL_len M D H Hd A l]
theorem rowsL_row (M : Mdl) (D H Hd : Nat) (A : List Int) : ∀ l t, t < A.length → (rowOf (rowsL M D H Hd A l) t).length = D
  | 0, t, h => by
    show (rowOf (begL M.E D A) t).length = D
    unfold rowOf begL
    rw [List.getD_eq_getElem?_getD, List.getElem?_map, List.getElem?_range h]
    exact tab_len _ _
  | l + 1, t, h => by
    show (rowOf (madeR _ _ _ _ (rowsL M D H Hd A l)) t).length = D
    rw [madeR_at _ _ _ _ (by rw [rowsL_len]; exact h)]
    exact tab_len _ _
theorem begL_at (E : List Int) (D : Nat) {A : List Int} {t : Nat} (h : t < A.length) : rowOf (begL E D A) t = begR E D (el A t).toNat t := by
  unfold rowOf begL
  rw [List.getD_eq_getElem?_getD, List.getElem?_map, List.getElem?_range h]
  rfl
theorem fullK_at (M : Mdl) (D H Hd L : Nat) (A : List Int) {l : Nat} (h : l < L) : (fullK M D H Hd L A).getD l [] = keysR (layAt M l) D (rowsL M D H Hd A l) := by
  unfold fullK
  rw [List.getD_eq_getElem?_getD, List.getElem?_map, List.getElem?_range h]
  rfl
theorem fullV_at (M : Mdl) (D H Hd L : Nat) (A : List Int) {l : Nat} (h : l < L) : (fullV M D H Hd L A).getD l [] = valsR (layAt M l) D (rowsL M D H Hd A l) := by
  unfold fullV
  rw [List.getD_eq_getElem?_getD, List.getElem?_map, List.getElem?_range h]
  rfl
theorem Tryd.infoCa : (Tryd.prog.info? 42).map (·.size) = some 2 := by kernel_rfl
theorem load_ca {w : World} {g : Nat} {cs : Array Value} (h : Blk w g 42 cs) (hs : cs.size = 2) : (loadVar 42 ⟨g, 0, none⟩).run Tryd.prog w = .ok (.agg cs) w :=
  run_loadVar_row w g _ _ cs _ _ h Tryd.underlying42 rfl (by rw [hs]; exact Tryd.infoCa)
theorem results_mid {fn : Func} {p u v : Tmp} {ty : TypeId} (h : fn.results = #[.tmp u, .cell p ty, .tmp v]) (tmps : Array Value) (w : World) (g : Nat) (cs : Array Value)
    (hp : tmps.getD p undef = .pointer (some ⟨g, 0, none⟩)) (hl : (loadVar ty ⟨g, 0, none⟩).run Tryd.prog w = .ok (.agg cs) w) :
    (results fn tmps).run Tryd.prog w = .ok (.tuple #[tmps.getD u undef, .agg cs, tmps.getD v undef]) w := by
  have hp' : tmps[p]?.getD undef = .pointer (some ⟨g, 0, none⟩) := by simpa using hp
  simp [results, h, hp', asAddr, hl]
def offF (w : World) (gK gV gC b : Nat) : Prop := w.heap.size + 2 < b ∧ b ≠ gK ∧ b ≠ gV ∧ b ≠ gC
/-- Within Full: boxes, the cache, and its lists up to layer t. -/
structure FI (w wr : World) (cfg ws : Array Value) (gC gK gV L t : Nat) (A1 A2 : List (List (List Int))) : Prop where
  x0 : Blk wr w.heap.size 23 cfg
  x1 : Blk wr (w.heap.size + 1) 32 ws
  x2 : Blk wr (w.heap.size + 2) 42 #[.slice none 0 0, .slice none 0 0]
  xc : Blk wr gC 42 #[.slice (some ⟨gK, 0, none⟩) L L, .slice (some ⟨gV, 0, none⟩) L L]
  k : KV wr gK L t (offF w gK gV gC) A1 []
  v : KV wr gV L t (offF w gK gV gC) A2 []
  ne : w.heap.size + 2 < gK ∧ w.heap.size + 2 < gV ∧ w.heap.size + 2 < gC ∧ gK ≠ gV ∧ gK ≠ gC ∧ gV ≠ gC
  kp : Below w.heap.size w wr
theorem FI.below {w wr w' : World} {cfg ws : Array Value} {gC gK gV L t : Nat} {A1 A2 : List (List (List Int))} (h : FI w wr cfg ws gC gK gV L t A1 A2) (hb : Below wr.heap.size wr w') : FI w w' cfg ws gC gK gV L t A1 A2 :=
  ⟨h.x0.below hb, h.x1.below hb, h.x2.below hb, h.xc.below hb, h.k.below hb, h.v.below hb, h.ne, below_then h.kp hb⟩
theorem FI.next {w wr : World} {cfg ws : Array Value} {gC gK gV L t : Nat} {A1 A2 : List (List (List Int))} (h : FI w wr cfg ws gC gK gV L t A1 A2) (ht : t < L) {r1 r2 n : Nat} {vs1 vs2 : List Value} (hn : n ≤ 9223372036854775807) (N1 : Hangs (offF w gK gV gC) wr fun w => GridV w (some ⟨r1, 0, none⟩) n vs1 (A1.getD t [])) (N2 : Hangs (offF w gK gV gC) wr fun w => GridV w (some ⟨r2, 0, none⟩) n vs2 (A2.getD t [])) :
    FI w ((wr.setCell ⟨gK, t, none⟩ (.slice (some ⟨r1, 0, none⟩) n n)).setCell ⟨gV, t, none⟩ (.slice (some ⟨r2, 0, none⟩) n n)) cfg ws gC gK gV L (t + 1) A1 A2 := by
  obtain ⟨e1, e2, e3, e4, e5, e6⟩ := h.ne
  have pk : ¬ offF w gK gV gC gK := fun h => h.2.1 rfl
  have pv : ¬ offF w gK gV gC gV := fun h => h.2.2.1 rfl
  refine ⟨(h.x0.other (by show _ ≠ gK; omega) _).other (by show _ ≠ gV; omega) _, (h.x1.other (by show _ ≠ gK; omega) _).other (by show _ ≠ gV; omega) _, (h.x2.other (by show _ ≠ gK; omega) _).other (by show _ ≠ gV; omega) _, (h.xc.other (by show _ ≠ gK; omega) _).other (by show _ ≠ gV; omega) _, ?_, ?_, h.ne, ?_⟩
  · exact (h.k.step ht pk (fun h => by cases h) (Nat.le_refl _) hn N1).far (by show gV ≠ gK; omega) pv _
  · exact (h.v.far (by show gK ≠ gV; omega) pk _).step ht pv (fun h => by cases h) (Nat.le_refl _) hn (N2.set pk _)
  · exact (h.kp.setCell (p := ⟨gK, t, none⟩) (by show w.heap.size ≤ gK; omega) _).setCell (p := ⟨gV, t, none⟩) (by show w.heap.size ≤ gV; omega) _
theorem Hangs.setRowFar {p : Nat → Prop} {w : World} {Φ : World → Prop} (h : Hangs p w Φ) {g : Nat} (hg : ¬ p g) (cs : Array Value) : Hangs p (w.setRow g cs) Φ := h.row hg cs
set_option maxRecDepth 100000 in
set_option maxHeartbeats 1600000 in
theorem full_bad (V D Hd H L : Nat) (W : Wt) (bs : List Bk) (M : Mdl) (ao : Option Addr) (n ca : Nat) (A : List Int) (w : World) (hG : Good w V D Hd H L W bs M) (hA : IArg w ao n ca A) (hq : promptN V A ≠ 0) :
   Calls Tryd.prog 10 #[.agg (cfgC V D Hd H L), .agg W.cells, .slice ao n ca] w fun e w' => e = .returned (.tuple #[.slice none 0 0, .agg #[.slice none 0 0, .slice none 0 0], .int .i64 (promptN V A)]) ∧ Below w.heap.size w w' := by
  obtain ⟨q1, q2, q3, q4, q5, q6, q7, q8, q9, q10⟩ := shape_ok hG.shape
  have CK := fun (wv : World) (hb : Below w.heap.size w wv) => check_good (hG.below hb)
  have CP := fun (wv : World) (hb : Below w.heap.size w wv) => prompt_any V D Hd H L ao n ca A wv (hA.below hb)
  have siz : W.cells.size = 8 := rfl
  have hq' : (promptN V A == 0) = false := by simpa using hq
  generalize promptN V A = q at *
  generalize hws : W.cells = ws at *
  unfold cfgC at CK CP ⊢
  have X0 := blk_new w 23 #[.int .i64 (V : Int), .int .i64 (D : Int), .int .i64 (Hd : Int), .int .i64 (H : Int), .int .i64 (L : Int)]
  have B0 : Below w.heap.size w (w.alloc (.cells #[.int .i64 (V : Int), .int .i64 (D : Int), .int .i64 (Hd : Int), .int .i64 (H : Int), .int .i64 (L : Int)] 23)) := (Below.refl _ _).alloc (Nat.le_refl _) _
  have s0 : (w.alloc (.cells #[.int .i64 (V : Int), .int .i64 (D : Int), .int .i64 (Hd : Int), .int .i64 (H : Int), .int .i64 (L : Int)] 23)).heap.size = w.heap.size + 1 := by simp
  generalize hw0 : w.alloc (.cells #[.int .i64 (V : Int), .int .i64 (D : Int), .int .i64 (Hd : Int), .int .i64 (H : Int), .int .i64 (L : Int)] 23) = w0 at *
  have X1 := blk_new w0 32 ws
  have B1 : Below w0.heap.size w0 (w0.alloc (.cells ws 32)) := (Below.refl _ _).alloc (Nat.le_refl _) _
  have s1 : (w0.alloc (.cells ws 32)).heap.size = w0.heap.size + 1 := by simp
  rw [s0] at X1 s1
  generalize hw1 : w0.alloc (.cells ws 32) = w1 at *
  have X2 := blk_new w1 42 #[.slice none 0 0, .slice none 0 0]
  have B2 : Below w1.heap.size w1 (w1.alloc (.cells #[.slice none 0 0, .slice none 0 0] 42)) := (Below.refl _ _).alloc (Nat.le_refl _) _
  have s2 : (w1.alloc (.cells #[.slice none 0 0, .slice none 0 0] 42)).heap.size = w1.heap.size + 1 := by simp
  rw [s1] at X2 s2
  generalize hw2 : w1.alloc (.cells #[.slice none 0 0, .slice none 0 0] 42) = w2 at *
  replace X0 := (X0.below B1).below B2
  replace X1 := X1.below B2
  replace B2 := below_then (below_then B0 B1) B2
  have a0 : w2.cell? ⟨w.heap.size, 0, none⟩ = some (.int .i64 (V : Int)) := X0.cell 0 rfl
  have a1 : w2.cell? ⟨w.heap.size, 1, none⟩ = some (.int .i64 (D : Int)) := X0.cell 1 rfl
  have a2 : w2.cell? ⟨w.heap.size, 2, none⟩ = some (.int .i64 (Hd : Int)) := X0.cell 2 rfl
  have a3 : w2.cell? ⟨w.heap.size, 3, none⟩ = some (.int .i64 (H : Int)) := X0.cell 3 rfl
  have a4 : w2.cell? ⟨w.heap.size, 4, none⟩ = some (.int .i64 (L : Int)) := X0.cell 4 rfl
  go_enter Tryd.func10, Tryd.ntmps10
  go_wp2_with (refine wpList_load_row rfl 32 _ rfl (w.heap.size + 1) rfl 32 ws (0, 0) _ X1 Tryd.underlying32 rfl (by rw [siz]; exact Tryd.infoW) ?_)
  refine (CK _ B2).mono ?_
  rintro e w3 ⟨rfl, B3⟩
  replace X0 := X0.below B3
  replace X1 := X1.below B3
  replace X2 := X2.below B3
  have D3 := below_then B2 B3
  clear a0 a1 a2 a3 a4 hw0 hw1 hw2 B0 B1 B2 B3 CK
  have a0 : w3.cell? ⟨w.heap.size, 0, none⟩ = some (.int .i64 (V : Int)) := X0.cell 0 rfl
  have a1 : w3.cell? ⟨w.heap.size, 1, none⟩ = some (.int .i64 (D : Int)) := X0.cell 1 rfl
  have a2 : w3.cell? ⟨w.heap.size, 2, none⟩ = some (.int .i64 (Hd : Int)) := X0.cell 2 rfl
  have a3 : w3.cell? ⟨w.heap.size, 3, none⟩ = some (.int .i64 (H : Int)) := X0.cell 3 rfl
  have a4 : w3.cell? ⟨w.heap.size, 4, none⟩ = some (.int .i64 (L : Int)) := X0.cell 4 rfl
  go_wp2_with fail
  refine (CP _ D3).mono ?_
  rintro e w4 ⟨rfl, B4⟩
  replace X0 := X0.below B4
  replace X1 := X1.below B4
  replace X2 := X2.below B4
  have D4 := below_then D3 B4
  clear a0 a1 a2 a3 a4 B4 D3 CP s0 s1 s2
  have hall : Array.all (#[.slice none 0 0, .slice none 0 0] : Array Value) (fun v => v.oneCell') = true := by simp [Value.oneCell']
  go_wp2_with (refine wpList_store_row rfl 42 _ _ rfl (w.heap.size + 1 + 1) #[.slice none 0 0, .slice none 0 0] rfl rfl 42 _ X2 Tryd.infoCa rfl hall ?_)
  refine bodyPost_ret (results_mid rfl _ _ (w.heap.size + 1 + 1) _ rfl (load_ca (X2.row _) rfl)) rfl ?_
  exact ⟨rfl, below_setRow D4 (by omega) _⟩
set_option maxRecDepth 100000 in
set_option maxHeartbeats 1600000 in
theorem full_ok (V D Hd H L : Nat) (W : Wt) (bs : List Bk) (M : Mdl) (ao : Option Addr) (n ca : Nat) (A : List Int) (w : World) (hG : Good w V D Hd H L W bs M) (hA : IArg w ao n ca A) (hT : Tab w) (hq : promptN V A = 0) :
   Calls Tryd.prog 10 #[.agg (cfgC V D Hd H L), .agg W.cells, .slice ao n ca] w fun e w' => ∃ g gK gV, e = .returned (.tuple #[.slice (some ⟨g, 0, none⟩) V V, .agg #[.slice (some ⟨gK, 0, none⟩) L L, .slice (some ⟨gV, 0, none⟩) L L], .int .i64 0]) ∧ Fresh w' w.heap.size g V V (fullX M V D H Hd L A) ∧ New w.heap.size w' (fun w => CubeAt w (some ⟨gK, 0, none⟩) L (fullK M D H Hd L A)) ∧ New w.heap.size w' (fun w => CubeAt w (some ⟨gV, 0, none⟩) L (fullV M D H Hd L A)) ∧ Below w.heap.size w w' := by
  obtain ⟨q1, q2, q3, q4, q5, q6, q7, q8, q9, q10⟩ := shape_ok hG.shape
  have CK := fun (wv : World) (hb : Below w.heap.size w wv) => check_good (hG.below hb)
  have CP := fun (wv : World) (hb : Below w.heap.size w wv) => prompt_any V D Hd H L ao n ca A wv (hA.below hb)
  have siz : W.cells.size = 8 := rfl
  obtain ⟨p1, p2, p3⟩ := prompt_ok hq
  rw [hq] at CP
  have hl := hA.row.len
  have HT : Hid (∀ wv, Below w.heap.size w wv → Tab wv) := fun wv hb => hT.next hb
  have HG : Hid (∀ wv, Below w.heap.size w wv → Good wv V D Hd H L W bs M) := fun wv hb => hG.below hb
  have HA : Hid (∀ wv, Below w.heap.size w wv → IRowAt wv ao n A) := fun wv hb => hA.row.below hb
  have HK : Hid (∀ k, k < A.length → 0 ≤ el A k ∧ el A k < V) := fun k hk => by have := all_el hk p3; unfold tokB at this; simpa using this
  have HLN : Hid (A.length = n) := hl
  have CB := fun (wv : World) (hb : Below w.heap.size w wv) (tok at' : Nat) (h1 : tok < V) (h2 : at' ≤ 4096) => begin_any V D H W bs M tok at' wv (hG.wt.below hb) h1 h2
  have CL := fun (wv : World) (hb : Below w.heap.size w wv) (xo : Option Addr) (cx : Nat) (Xr : List Int) (hX : RowAt wv xo D Xr) => likes_any V D H W bs M xo cx Xr wv (hG.wt.below hb) hX (by omega) (by omega)
  have blen := hG.wt.b.len
  have hbl := hG.len
  have hmod := shape_mod hG.shape
  clear hT hG hA
  have LF : Hid ((fullK M D H Hd L A).length = L ∧ (fullV M D H Hd L A).length = L) := ⟨by unfold fullK; simp, by unfold fullV; simp⟩
  obtain ⟨we, ⟨ba, bn, bz⟩, wl, wo⟩ := W
  simp only at blen
  have hbn : L = bn := by rw [← hbl, blen]
  subst hbn
  have wb : (Wt.cells ⟨we, ⟨ba, L, bz⟩, wl, wo⟩)[3]? = some (.slice ba L bz) := rfl
  generalize hws : Wt.cells ⟨we, ⟨ba, L, bz⟩, wl, wo⟩ = ws at *
  unfold cfgC at CK CP ⊢
  have X0 := blk_new w 23 #[.int .i64 (V : Int), .int .i64 (D : Int), .int .i64 (Hd : Int), .int .i64 (H : Int), .int .i64 (L : Int)]
  have B0 : Below w.heap.size w (w.alloc (.cells #[.int .i64 (V : Int), .int .i64 (D : Int), .int .i64 (Hd : Int), .int .i64 (H : Int), .int .i64 (L : Int)] 23)) := (Below.refl _ _).alloc (Nat.le_refl _) _
  have s0 : (w.alloc (.cells #[.int .i64 (V : Int), .int .i64 (D : Int), .int .i64 (Hd : Int), .int .i64 (H : Int), .int .i64 (L : Int)] 23)).heap.size = w.heap.size + 1 := by simp
  generalize hw0 : w.alloc (.cells #[.int .i64 (V : Int), .int .i64 (D : Int), .int .i64 (Hd : Int), .int .i64 (H : Int), .int .i64 (L : Int)] 23) = w0 at *
  have X1 := blk_new w0 32 ws
  have B1 : Below w0.heap.size w0 (w0.alloc (.cells ws 32)) := (Below.refl _ _).alloc (Nat.le_refl _) _
  have s1 : (w0.alloc (.cells ws 32)).heap.size = w0.heap.size + 1 := by simp
  rw [s0] at X1 s1
  generalize hw1 : w0.alloc (.cells ws 32) = w1 at *
  have X2 := blk_new w1 42 #[.slice none 0 0, .slice none 0 0]
  have B2 : Below w1.heap.size w1 (w1.alloc (.cells #[.slice none 0 0, .slice none 0 0] 42)) := (Below.refl _ _).alloc (Nat.le_refl _) _
  have s2 : (w1.alloc (.cells #[.slice none 0 0, .slice none 0 0] 42)).heap.size = w1.heap.size + 1 := by simp
  rw [s1] at X2 s2
  generalize hw2 : w1.alloc (.cells #[.slice none 0 0, .slice none 0 0] 42) = w2 at *
  replace X0 := (X0.below B1).below B2
  replace X1 := X1.below B2
  replace B2 := below_then (below_then B0 B1) B2
  have a0 : w2.cell? ⟨w.heap.size, 0, none⟩ = some (.int .i64 (V : Int)) := X0.cell 0 rfl
  have a1 : w2.cell? ⟨w.heap.size, 1, none⟩ = some (.int .i64 (D : Int)) := X0.cell 1 rfl
  have a2 : w2.cell? ⟨w.heap.size, 2, none⟩ = some (.int .i64 (Hd : Int)) := X0.cell 2 rfl
  have a3 : w2.cell? ⟨w.heap.size, 3, none⟩ = some (.int .i64 (H : Int)) := X0.cell 3 rfl
  have a4 : w2.cell? ⟨w.heap.size, 4, none⟩ = some (.int .i64 (L : Int)) := X0.cell 4 rfl
  go_enter Tryd.func10, Tryd.ntmps10
  go_wp2_with (refine wpList_load_row rfl 32 _ rfl (w.heap.size + 1) rfl 32 ws (0, 0) _ X1 Tryd.underlying32 rfl (by rw [siz]; exact Tryd.infoW) ?_)
  refine (CK _ B2).mono ?_
  rintro e w3 ⟨rfl, B3⟩
  replace X0 := X0.below B3
  replace X1 := X1.below B3
  replace X2 := X2.below B3
  have D3 := below_then B2 B3
  clear a0 a1 a2 a3 a4 hw0 hw1 hw2 B0 B1 B2 B3 CK
  have a0 : w3.cell? ⟨w.heap.size, 0, none⟩ = some (.int .i64 (V : Int)) := X0.cell 0 rfl
  have a1 : w3.cell? ⟨w.heap.size, 1, none⟩ = some (.int .i64 (D : Int)) := X0.cell 1 rfl
  have a2 : w3.cell? ⟨w.heap.size, 2, none⟩ = some (.int .i64 (Hd : Int)) := X0.cell 2 rfl
  have a3 : w3.cell? ⟨w.heap.size, 3, none⟩ = some (.int .i64 (H : Int)) := X0.cell 3 rfl
  have a4 : w3.cell? ⟨w.heap.size, 4, none⟩ = some (.int .i64 (L : Int)) := X0.cell 4 rfl
  go_wp2_with fail
  refine (CP _ D3).mono ?_
  rintro e w4 ⟨rfl, B4⟩
  replace X0 := X0.below B4
  replace X1 := X1.below B4
  replace X2 := X2.below B4
  have D4 := below_then D3 B4
  clear a0 a1 a2 a3 a4 B4 D3 CP s0 s1 s2
  have hmk := run_make_row' (P := Tryd.prog) 67 27 (.slice none 0 0) 24 Tryd.underlying67 Tryd.infoRow rfl .i64 .i64 n (by omega) (by omega)
  have hmk2 := run_make_row' (P := Tryd.prog) 40 67 (.slice none 0 0) 24 Tryd.underlying40 Tryd.infoList rfl .i64 .i64 L (by omega) (by omega)
  have F0 := fillTo_made w4 n (begL M.E D A)
  have B5 : Below w4.heap.size w4 (w4.alloc (.cells (madeCells #[.slice none 0 0] n) 27)) := (Below.refl _ _).alloc (Nat.le_refl _) _
  generalize hw5 : w4.alloc (.cells (madeCells #[.slice none 0 0] n) 27) = w5 at *
  have z4 := X2.lt
  replace X0 := X0.below B5
  replace X1 := X1.below B5
  replace X2 := X2.below B5
  have D5 := below_then D4 B5
  go_wp2_with fail
  clear hw5
  go_loopg [36] n (fun r i wr => ∃ k : Nat, k ≤ n ∧ r = n - k ∧ i = .int .i64 k ∧ FillTo wr w4.heap.size n k (begL M.E D A) ∧ Blk wr w.heap.size 23 #[.int .i64 (V : Int), .int .i64 (D : Int), .int .i64 (Hd : Int), .int .i64 (H : Int), .int .i64 (L : Int)] ∧ Blk wr (w.heap.size + 1) 32 ws ∧ Blk wr (w.heap.size + 2) 42 #[.slice none 0 0, .slice none 0 0] ∧ Below w.heap.size w wr)
  case atStart => exact ⟨0, by omega, by omega, rfl, F0, X0, X1, X2, D5⟩
  case round =>
    obtain ⟨k, hk, rfl, rfl, F1, Y0, Y1, Y2, KP⟩ := hrel
    clear F0 X0 X1 X2 D5 B5
    by_cases hlt : k < n
    · obtain ⟨b, o, rfl, hc⟩ := (HA.out wr KP).cells (by omega)
      have ck := hc k hlt
      clear hc
      obtain ⟨t1, t2⟩ := HK.out k (by omega)
      have HBG : Hid (rowOf (begL M.E D A) k = begR M.E D (el A k).toNat k) := begL_at M.E D (by omega)
      obtain ⟨tk, htk⟩ : ∃ tk : Nat, el A k = tk := ⟨(el A k).toNat, by omega⟩
      rw [htk] at ck t2 HBG
      rw [Int.toNat_natCast] at HBG
      clear htk t1
      have CC := CB wr KP tk k (by omega) (by omega)
      have X1 := Y1
      go_wp2_with (refine wpList_load_row rfl 32 _ rfl (w.heap.size + 1) rfl 32 ws (0, 0) _ X1 Tryd.underlying32 rfl (by rw [siz]; exact Tryd.infoW) ?_)
      refine CC.mono ?_
      rintro e w7 ⟨g, cap, rfl, F7, B7⟩
      have sF := F1.lt
      have F2 := F1.below B7
      have N7 : New (w4.heap.size + 1) w7 fun w => Arg w (some ⟨g, 0, none⟩) D cap (rowOf (begL M.E D A) k) := by
        rw [HBG.out]
        exact (F7.new.mono (by omega)).imp fun _ h => h.arg
      have F3 := F2.step hlt N7
      have ff := F2.frozen k
      obtain ⟨v, hv⟩ := F2.cell hlt
      have KQ := below_then KP B7
      replace Y0 := Y0.below B7
      replace Y1 := Y1.below B7
      replace Y2 := Y2.below B7
      clear N7 F1 X1 CC ck
      go_wp2
      go_roundg (n - (k + 1))
      case measure => omega
      case rel => exact ⟨k + 1, by omega, rfl, by go_num, F3, Y0.other (by show _ ≠ w4.heap.size; omega) _, Y1.other (by show _ ≠ w4.heap.size; omega) _, Y2.other (by show _ ≠ w4.heap.size; omega) _, KQ.setCell (p := ⟨w4.heap.size, k, none⟩) (by show w.heap.size ≤ w4.heap.size; omega) _⟩
    · obtain rfl : k = n := by omega
      obtain ⟨vs0, N0⟩ := F1.grid (by unfold begL; simp [HLN.out]) (by omega) (Nat.le_refl w4.heap.size)
      have G0 : Hangs (fun b => b < wr.heap.size) wr (fun w => GridAt w (some ⟨w4.heap.size, 0, none⟩) k (rowsL M D H Hd A 0)) := (Hangs.mono N0 fun b hb _ => hb).imp fun _ h => h.grid
      have y2 := Y2.lt
      clear F1 N0 CB hmk
      have XX0 := Y0
      go_upto_region 13 with fail
      go_cut [14] from 49 (fun s14 wc => ∃ gC gK gV, s14 = .pointer (some ⟨gC, 0, none⟩) ∧ GridAt wc (some ⟨w4.heap.size, 0, none⟩) k (rowsL M D H Hd A 0) ∧ FI w wc #[.int .i64 (V : Int), .int .i64 (D : Int), .int .i64 (Hd : Int), .int .i64 (H : Int), .int .i64 (L : Int)] ws gC gK gV L 0 (fullK M D H Hd L A) (fullV M D H Hd L A))
      case first =>
        clear XX0
        replace Y0 := Y0.below ((Below.refl _ _).drew)
        replace Y1 := Y1.below ((Below.refl _ _).drew)
        replace Y2 := Y2.below ((Below.refl _ _).drew)
        replace KP := KP.drew
        replace G0 := G0.below ((Below.refl _ _).drew)
        have HKV := fun (wv : World) (p : Nat → Prop) => kv_made wv L p (fullK M D H Hd L A) [] rfl
        have HVV := fun (wv : World) (p : Nat → Prop) => kv_made wv L p (fullV M D H Hd L A) [] rfl
        refine wp_region_held_drew (S := fun w' => Blk w' (w.heap.size + 1) 32 ws) (by kernel_rfl) (Y1) (fun hHeld => ?_)
        have zA : wr.heap.size ≤ wr.drew.heap.size := Nat.le_refl _
        generalize hA : wr.drew = wA at *
        clear hA
        refine wpAnyH_take (i := 0) (v := (.pointer (some ⟨w.heap.size + 1, 3, none⟩))) rfl (by kernel_rfl) (by kernel_rfl) (by kernel_rfl) (fun _ _ _ h => h) (Or.inl ⟨by rfl, ?_⟩) (by assumption) ?_
        · intro w' hSw
          go_simp
        simp only [List.getElem_toArray, List.getElem_cons_zero, Act.put, List.setIfInBounds_toArray, List.set_cons_zero, List.set_cons_succ]
        refine wpAnyH_take (i := 1) (v := (.slice ba L bz)) rfl (by kernel_rfl) (by kernel_rfl) (by kernel_rfl) (fun _ _ _ h => h) (Or.inl ⟨by rfl, ?_⟩) (by assumption) ?_
        · intro w' hSw
          have c3 : w'.cell? ⟨w.heap.size + 1, 3, none⟩ = some (.slice ba L bz) := hSw.cell 3 wb
          go_simp
        simp only [List.getElem_toArray, List.getElem_cons_succ, List.getElem_cons_zero, Act.put, List.setIfInBounds_toArray, List.set_cons_zero, List.set_cons_succ]
        refine wpAnyH_take (i := 2) (v := (.int .i64 (L : Int))) rfl (by kernel_rfl) (by kernel_rfl) (by kernel_rfl) (fun _ _ _ h => h) (Or.inl ⟨by rfl, ?_⟩) (by assumption) ?_
        · intro w' hSw
          go_simp
        simp only [List.getElem_toArray, List.getElem_cons_succ, List.getElem_cons_zero, Act.put, List.setIfInBounds_toArray, List.set_cons_zero, List.set_cons_succ]
        refine wpAnyH_take (i := 4) (v := (.pointer (some ⟨w.heap.size + 1, 3, none⟩))) rfl (by kernel_rfl) (by kernel_rfl) (by kernel_rfl) (fun _ _ _ h => h) (Or.inl ⟨by rfl, ?_⟩) (by assumption) ?_
        · intro w' hSw
          go_simp
        simp only [List.getElem_toArray, List.getElem_cons_succ, List.getElem_cons_zero, Act.put, List.setIfInBounds_toArray, List.set_cons_zero, List.set_cons_succ]
        refine wpAnyH_take (i := 5) (v := (.slice ba L bz)) rfl (by kernel_rfl) (by kernel_rfl) (by kernel_rfl) (fun _ _ _ h => h) (Or.inl ⟨by rfl, ?_⟩) (by assumption) ?_
        · intro w' hSw
          have c3 : w'.cell? ⟨w.heap.size + 1, 3, none⟩ = some (.slice ba L bz) := hSw.cell 3 wb
          go_simp
        simp only [List.getElem_toArray, List.getElem_cons_succ, List.getElem_cons_zero, Act.put, List.setIfInBounds_toArray, List.set_cons_zero, List.set_cons_succ]
        refine wpAnyH_take (i := 6) (v := (.int .i64 (L : Int))) rfl (by kernel_rfl) (by kernel_rfl) (by kernel_rfl) (fun _ _ _ h => h) (Or.inl ⟨by rfl, ?_⟩) (by assumption) ?_
        · intro w' hSw
          go_simp
        simp only [List.getElem_toArray, List.getElem_cons_succ, List.getElem_cons_zero, Act.put, List.setIfInBounds_toArray, List.set_cons_zero, List.set_cons_succ]
        refine wpAnyH_ready (rs := [3, 7, 9]) (by kernel_rfl) (by simp) ?_
        refine AllReadyH.cons rfl (fun Kc hKc => ?_) (AllReadyH.cons rfl (fun Kc hKc => ?_) (AllReadyH.cons rfl (fun Kc hKc => ?_) AllReadyH.nil))
        · simp only [List.getElem_toArray, List.getElem_cons_succ, List.getElem_cons_zero]
          rw [if_pos (by rfl)]
          go_wp2_with fail
          have NK := HKV wA
          have EM1 : Below wA.heap.size wA (wA.alloc (.cells (madeCells #[.slice none 0 0] L) 67)) := (Below.refl _ _).alloc (Nat.le_refl _) _
          have zwM1 : wA.heap.size < (wA.alloc (.cells (madeCells #[.slice none 0 0] L) 67)).heap.size := by simp
          generalize hn1 : wA.alloc (.cells (madeCells #[.slice none 0 0] L) 67) = wM1 at *
          replace Y0 := Y0.below EM1
          replace Y1 := Y1.below EM1
          replace Y2 := Y2.below EM1
          replace KP := below_then KP EM1
          replace G0 := G0.below EM1
          refine hKc.out _ _ Y1 (fun hHeld => ?_)
          clear hKc Kc hn1
          refine wpAnyH_ready (rs := [7, 9]) (by kernel_rfl) (by simp) ?_
          refine AllReadyH.cons rfl (fun Kc hKc => ?_) (AllReadyH.cons rfl (fun Kc hKc => ?_) AllReadyH.nil)
          · simp only [List.getElem_toArray, List.getElem_cons_succ, List.getElem_cons_zero]
            rw [if_pos (by rfl)]
            go_wp2_with fail
            have NV := HVV wM1
            have EM2 : Below wM1.heap.size wM1 (wM1.alloc (.cells (madeCells #[.slice none 0 0] L) 67)) := (Below.refl _ _).alloc (Nat.le_refl _) _
            have zwM2 : wM1.heap.size < (wM1.alloc (.cells (madeCells #[.slice none 0 0] L) 67)).heap.size := by simp
            generalize hn2 : wM1.alloc (.cells (madeCells #[.slice none 0 0] L) 67) = wM2 at *
            replace Y0 := Y0.below EM2
            replace Y1 := Y1.below EM2
            replace Y2 := Y2.below EM2
            replace KP := below_then KP EM2
            replace G0 := G0.below EM2
            replace NK := fun p => (NK p).below EM2
            refine hKc.out _ _ Y1 (fun hHeld => ?_)
            clear hKc Kc hn2
            refine wpAnyH_take (i := 8) (v := (.agg #[.slice (some ⟨wA.heap.size, 0, none⟩) L L, .slice (some ⟨wM1.heap.size, 0, none⟩) L L])) rfl (by kernel_rfl) (by kernel_rfl) (by kernel_rfl) (fun _ _ _ h => h) (Or.inl ⟨by rfl, ?_⟩) (by assumption) ?_
            · intro w' hSw
              go_simp
            simp only [List.getElem_toArray, List.getElem_cons_succ, List.getElem_cons_zero, Act.put, List.setIfInBounds_toArray, List.set_cons_zero, List.set_cons_succ]
            refine wpAnyH_ready (rs := [9]) (by kernel_rfl) (by simp) ?_
            refine AllReadyH.cons rfl (fun Kc hKc => ?_) AllReadyH.nil
            simp only [List.getElem_toArray, List.getElem_cons_succ, List.getElem_cons_zero]
            rw [if_pos (by rfl)]
            go_wp2_with fail
            have XC := blk_new wM2 42 #[.slice none 0 0, .slice none 0 0]
            have EM3 : Below wM2.heap.size wM2 (wM2.alloc (.cells #[.slice none 0 0, .slice none 0 0] 42)) := (Below.refl _ _).alloc (Nat.le_refl _) _
            have zwM3 : wM2.heap.size < (wM2.alloc (.cells #[.slice none 0 0, .slice none 0 0] 42)).heap.size := by simp
            generalize hn3 : wM2.alloc (.cells #[.slice none 0 0, .slice none 0 0] 42) = wM3 at *
            replace Y0 := Y0.below EM3
            replace Y1 := Y1.below EM3
            replace Y2 := Y2.below EM3
            replace KP := below_then KP EM3
            replace G0 := G0.below EM3
            replace NK := fun p => (NK p).below EM3
            replace NV := fun p => (NV p).below EM3
            refine hKc.out _ _ Y1 (fun hHeld => ?_)
            clear hKc Kc hn3
            refine wpAnyH_ready (rs := [10]) (by kernel_rfl) (by simp) ?_
            refine AllReadyH.cons rfl (fun Kc hKc => ?_) AllReadyH.nil
            simp only [List.getElem_toArray, List.getElem_cons_succ, List.getElem_cons_zero]
            rw [if_pos (by rfl)]
            have hall : Array.all (#[.slice (some ⟨wA.heap.size, 0, none⟩) L L, .slice (some ⟨wM1.heap.size, 0, none⟩) L L] : Array Value) (fun v => v.oneCell') = true := by simp [Value.oneCell']
            refine wp_store_row 42 _ _ rfl (wM2.heap.size) #[.slice (some ⟨wA.heap.size, 0, none⟩) L L, .slice (some ⟨wM1.heap.size, 0, none⟩) L L] rfl rfl 42 _ XC Tryd.infoCa rfl hall ?_
            have so : ∀ b, b ≠ wM2.heap.size → (wM3.setRow (wM2.heap.size) #[.slice (some ⟨wA.heap.size, 0, none⟩) L L, .slice (some ⟨wM1.heap.size, 0, none⟩) L L]).heap[b]? = wM3.heap[b]? := fun b hb => setRow_other _ _ _ _ hb
            have y0 := Y0.lt
            refine hKc.out _ _ (Blk.of_block Y1 (so _ (by omega))) (fun hHeld => ?_)
            clear hKc Kc
            refine wpAnyH_done (by kernel_rfl) ?_ _
            go_wp2_with fail
            go_meet
            case rel =>
              refine ⟨wM2.heap.size, wA.heap.size, wM1.heap.size, rfl, ?_, ⟨Blk.of_block Y0 (so _ (by omega)), Blk.of_block Y1 (so _ (by omega)), Blk.of_block Y2 (so _ (by omega)), XC.row _, ?_, ?_, by omega, below_setRow KP (by omega) _⟩⟩
              · exact (G0.row (g := wM2.heap.size) (by show ¬ (_ < _); omega) _).now
              · exact (NK _).put (by omega) (fun h => h.2.2.2 rfl) _
              · exact (NV _).put (by omega) (fun h => h.2.2.2 rfl) _
          · simp only [List.getElem_toArray, List.getElem_cons_succ, List.getElem_cons_zero]
            rw [if_pos (by rfl)]
            go_wp2_with fail
            have XC := blk_new wM1 42 #[.slice none 0 0, .slice none 0 0]
            have EM2 : Below wM1.heap.size wM1 (wM1.alloc (.cells #[.slice none 0 0, .slice none 0 0] 42)) := (Below.refl _ _).alloc (Nat.le_refl _) _
            have zwM2 : wM1.heap.size < (wM1.alloc (.cells #[.slice none 0 0, .slice none 0 0] 42)).heap.size := by simp
            generalize hn2 : wM1.alloc (.cells #[.slice none 0 0, .slice none 0 0] 42) = wM2 at *
            replace Y0 := Y0.below EM2
            replace Y1 := Y1.below EM2
            replace Y2 := Y2.below EM2
            replace KP := below_then KP EM2
            replace G0 := G0.below EM2
            replace NK := fun p => (NK p).below EM2
            refine hKc.out _ _ Y1 (fun hHeld => ?_)
            clear hKc Kc hn2
            refine wpAnyH_ready (rs := [7]) (by kernel_rfl) (by simp) ?_
            refine AllReadyH.cons rfl (fun Kc hKc => ?_) AllReadyH.nil
            simp only [List.getElem_toArray, List.getElem_cons_succ, List.getElem_cons_zero]
            rw [if_pos (by rfl)]
            go_wp2_with fail
            have NV := HVV wM2
            have EM3 : Below wM2.heap.size wM2 (wM2.alloc (.cells (madeCells #[.slice none 0 0] L) 67)) := (Below.refl _ _).alloc (Nat.le_refl _) _
            have zwM3 : wM2.heap.size < (wM2.alloc (.cells (madeCells #[.slice none 0 0] L) 67)).heap.size := by simp
            generalize hn3 : wM2.alloc (.cells (madeCells #[.slice none 0 0] L) 67) = wM3 at *
            replace Y0 := Y0.below EM3
            replace Y1 := Y1.below EM3
            replace Y2 := Y2.below EM3
            replace KP := below_then KP EM3
            replace G0 := G0.below EM3
            replace NK := fun p => (NK p).below EM3
            replace XC := XC.below EM3
            refine hKc.out _ _ Y1 (fun hHeld => ?_)
            clear hKc Kc hn3
            refine wpAnyH_take (i := 8) (v := (.agg #[.slice (some ⟨wA.heap.size, 0, none⟩) L L, .slice (some ⟨wM2.heap.size, 0, none⟩) L L])) rfl (by kernel_rfl) (by kernel_rfl) (by kernel_rfl) (fun _ _ _ h => h) (Or.inl ⟨by rfl, ?_⟩) (by assumption) ?_
            · intro w' hSw
              go_simp
            simp only [List.getElem_toArray, List.getElem_cons_succ, List.getElem_cons_zero, Act.put, List.setIfInBounds_toArray, List.set_cons_zero, List.set_cons_succ]
            refine wpAnyH_ready (rs := [10]) (by kernel_rfl) (by simp) ?_
            refine AllReadyH.cons rfl (fun Kc hKc => ?_) AllReadyH.nil
            simp only [List.getElem_toArray, List.getElem_cons_succ, List.getElem_cons_zero]
            rw [if_pos (by rfl)]
            have hall : Array.all (#[.slice (some ⟨wA.heap.size, 0, none⟩) L L, .slice (some ⟨wM2.heap.size, 0, none⟩) L L] : Array Value) (fun v => v.oneCell') = true := by simp [Value.oneCell']
            refine wp_store_row 42 _ _ rfl (wM1.heap.size) #[.slice (some ⟨wA.heap.size, 0, none⟩) L L, .slice (some ⟨wM2.heap.size, 0, none⟩) L L] rfl rfl 42 _ XC Tryd.infoCa rfl hall ?_
            have so : ∀ b, b ≠ wM1.heap.size → (wM3.setRow (wM1.heap.size) #[.slice (some ⟨wA.heap.size, 0, none⟩) L L, .slice (some ⟨wM2.heap.size, 0, none⟩) L L]).heap[b]? = wM3.heap[b]? := fun b hb => setRow_other _ _ _ _ hb
            have y0 := Y0.lt
            refine hKc.out _ _ (Blk.of_block Y1 (so _ (by omega))) (fun hHeld => ?_)
            clear hKc Kc
            refine wpAnyH_done (by kernel_rfl) ?_ _
            go_wp2_with fail
            go_meet
            case rel =>
              refine ⟨wM1.heap.size, wA.heap.size, wM2.heap.size, rfl, ?_, ⟨Blk.of_block Y0 (so _ (by omega)), Blk.of_block Y1 (so _ (by omega)), Blk.of_block Y2 (so _ (by omega)), XC.row _, ?_, ?_, by omega, below_setRow KP (by omega) _⟩⟩
              · exact (G0.row (g := wM1.heap.size) (by show ¬ (_ < _); omega) _).now
              · exact (NK _).put (by omega) (fun h => h.2.2.2 rfl) _
              · exact (NV _).put (by omega) (fun h => h.2.2.2 rfl) _
        · simp only [List.getElem_toArray, List.getElem_cons_succ, List.getElem_cons_zero]
          rw [if_pos (by rfl)]
          go_wp2_with fail
          have NV := HVV wA
          have EM1 : Below wA.heap.size wA (wA.alloc (.cells (madeCells #[.slice none 0 0] L) 67)) := (Below.refl _ _).alloc (Nat.le_refl _) _
          have zwM1 : wA.heap.size < (wA.alloc (.cells (madeCells #[.slice none 0 0] L) 67)).heap.size := by simp
          generalize hn1 : wA.alloc (.cells (madeCells #[.slice none 0 0] L) 67) = wM1 at *
          replace Y0 := Y0.below EM1
          replace Y1 := Y1.below EM1
          replace Y2 := Y2.below EM1
          replace KP := below_then KP EM1
          replace G0 := G0.below EM1
          refine hKc.out _ _ Y1 (fun hHeld => ?_)
          clear hKc Kc hn1
          refine wpAnyH_ready (rs := [3, 9]) (by kernel_rfl) (by simp) ?_
          refine AllReadyH.cons rfl (fun Kc hKc => ?_) (AllReadyH.cons rfl (fun Kc hKc => ?_) AllReadyH.nil)
          · simp only [List.getElem_toArray, List.getElem_cons_succ, List.getElem_cons_zero]
            rw [if_pos (by rfl)]
            go_wp2_with fail
            have NK := HKV wM1
            have EM2 : Below wM1.heap.size wM1 (wM1.alloc (.cells (madeCells #[.slice none 0 0] L) 67)) := (Below.refl _ _).alloc (Nat.le_refl _) _
            have zwM2 : wM1.heap.size < (wM1.alloc (.cells (madeCells #[.slice none 0 0] L) 67)).heap.size := by simp
            generalize hn2 : wM1.alloc (.cells (madeCells #[.slice none 0 0] L) 67) = wM2 at *
            replace Y0 := Y0.below EM2
            replace Y1 := Y1.below EM2
            replace Y2 := Y2.below EM2
            replace KP := below_then KP EM2
            replace G0 := G0.below EM2
            replace NV := fun p => (NV p).below EM2
            refine hKc.out _ _ Y1 (fun hHeld => ?_)
            clear hKc Kc hn2
            refine wpAnyH_take (i := 8) (v := (.agg #[.slice (some ⟨wM1.heap.size, 0, none⟩) L L, .slice (some ⟨wA.heap.size, 0, none⟩) L L])) rfl (by kernel_rfl) (by kernel_rfl) (by kernel_rfl) (fun _ _ _ h => h) (Or.inl ⟨by rfl, ?_⟩) (by assumption) ?_
            · intro w' hSw
              go_simp
            simp only [List.getElem_toArray, List.getElem_cons_succ, List.getElem_cons_zero, Act.put, List.setIfInBounds_toArray, List.set_cons_zero, List.set_cons_succ]
            refine wpAnyH_ready (rs := [9]) (by kernel_rfl) (by simp) ?_
            refine AllReadyH.cons rfl (fun Kc hKc => ?_) AllReadyH.nil
            simp only [List.getElem_toArray, List.getElem_cons_succ, List.getElem_cons_zero]
            rw [if_pos (by rfl)]
            go_wp2_with fail
            have XC := blk_new wM2 42 #[.slice none 0 0, .slice none 0 0]
            have EM3 : Below wM2.heap.size wM2 (wM2.alloc (.cells #[.slice none 0 0, .slice none 0 0] 42)) := (Below.refl _ _).alloc (Nat.le_refl _) _
            have zwM3 : wM2.heap.size < (wM2.alloc (.cells #[.slice none 0 0, .slice none 0 0] 42)).heap.size := by simp
            generalize hn3 : wM2.alloc (.cells #[.slice none 0 0, .slice none 0 0] 42) = wM3 at *
            replace Y0 := Y0.below EM3
            replace Y1 := Y1.below EM3
            replace Y2 := Y2.below EM3
            replace KP := below_then KP EM3
            replace G0 := G0.below EM3
            replace NV := fun p => (NV p).below EM3
            replace NK := fun p => (NK p).below EM3
            refine hKc.out _ _ Y1 (fun hHeld => ?_)
            clear hKc Kc hn3
            refine wpAnyH_ready (rs := [10]) (by kernel_rfl) (by simp) ?_
            refine AllReadyH.cons rfl (fun Kc hKc => ?_) AllReadyH.nil
            simp only [List.getElem_toArray, List.getElem_cons_succ, List.getElem_cons_zero]
            rw [if_pos (by rfl)]
            have hall : Array.all (#[.slice (some ⟨wM1.heap.size, 0, none⟩) L L, .slice (some ⟨wA.heap.size, 0, none⟩) L L] : Array Value) (fun v => v.oneCell') = true := by simp [Value.oneCell']
            refine wp_store_row 42 _ _ rfl (wM2.heap.size) #[.slice (some ⟨wM1.heap.size, 0, none⟩) L L, .slice (some ⟨wA.heap.size, 0, none⟩) L L] rfl rfl 42 _ XC Tryd.infoCa rfl hall ?_
            have so : ∀ b, b ≠ wM2.heap.size → (wM3.setRow (wM2.heap.size) #[.slice (some ⟨wM1.heap.size, 0, none⟩) L L, .slice (some ⟨wA.heap.size, 0, none⟩) L L]).heap[b]? = wM3.heap[b]? := fun b hb => setRow_other _ _ _ _ hb
            have y0 := Y0.lt
            refine hKc.out _ _ (Blk.of_block Y1 (so _ (by omega))) (fun hHeld => ?_)
            clear hKc Kc
            refine wpAnyH_done (by kernel_rfl) ?_ _
            go_wp2_with fail
            go_meet
            case rel =>
              refine ⟨wM2.heap.size, wM1.heap.size, wA.heap.size, rfl, ?_, ⟨Blk.of_block Y0 (so _ (by omega)), Blk.of_block Y1 (so _ (by omega)), Blk.of_block Y2 (so _ (by omega)), XC.row _, ?_, ?_, by omega, below_setRow KP (by omega) _⟩⟩
              · exact (G0.row (g := wM2.heap.size) (by show ¬ (_ < _); omega) _).now
              · exact (NK _).put (by omega) (fun h => h.2.2.2 rfl) _
              · exact (NV _).put (by omega) (fun h => h.2.2.2 rfl) _
          · simp only [List.getElem_toArray, List.getElem_cons_succ, List.getElem_cons_zero]
            rw [if_pos (by rfl)]
            go_wp2_with fail
            have XC := blk_new wM1 42 #[.slice none 0 0, .slice none 0 0]
            have EM2 : Below wM1.heap.size wM1 (wM1.alloc (.cells #[.slice none 0 0, .slice none 0 0] 42)) := (Below.refl _ _).alloc (Nat.le_refl _) _
            have zwM2 : wM1.heap.size < (wM1.alloc (.cells #[.slice none 0 0, .slice none 0 0] 42)).heap.size := by simp
            generalize hn2 : wM1.alloc (.cells #[.slice none 0 0, .slice none 0 0] 42) = wM2 at *
            replace Y0 := Y0.below EM2
            replace Y1 := Y1.below EM2
            replace Y2 := Y2.below EM2
            replace KP := below_then KP EM2
            replace G0 := G0.below EM2
            replace NV := fun p => (NV p).below EM2
            refine hKc.out _ _ Y1 (fun hHeld => ?_)
            clear hKc Kc hn2
            refine wpAnyH_ready (rs := [3]) (by kernel_rfl) (by simp) ?_
            refine AllReadyH.cons rfl (fun Kc hKc => ?_) AllReadyH.nil
            simp only [List.getElem_toArray, List.getElem_cons_succ, List.getElem_cons_zero]
            rw [if_pos (by rfl)]
            go_wp2_with fail
            have NK := HKV wM2
            have EM3 : Below wM2.heap.size wM2 (wM2.alloc (.cells (madeCells #[.slice none 0 0] L) 67)) := (Below.refl _ _).alloc (Nat.le_refl _) _
            have zwM3 : wM2.heap.size < (wM2.alloc (.cells (madeCells #[.slice none 0 0] L) 67)).heap.size := by simp
            generalize hn3 : wM2.alloc (.cells (madeCells #[.slice none 0 0] L) 67) = wM3 at *
            replace Y0 := Y0.below EM3
            replace Y1 := Y1.below EM3
            replace Y2 := Y2.below EM3
            replace KP := below_then KP EM3
            replace G0 := G0.below EM3
            replace NV := fun p => (NV p).below EM3
            replace XC := XC.below EM3
            refine hKc.out _ _ Y1 (fun hHeld => ?_)
            clear hKc Kc hn3
            refine wpAnyH_take (i := 8) (v := (.agg #[.slice (some ⟨wM2.heap.size, 0, none⟩) L L, .slice (some ⟨wA.heap.size, 0, none⟩) L L])) rfl (by kernel_rfl) (by kernel_rfl) (by kernel_rfl) (fun _ _ _ h => h) (Or.inl ⟨by rfl, ?_⟩) (by assumption) ?_
            · intro w' hSw
              go_simp
            simp only [List.getElem_toArray, List.getElem_cons_succ, List.getElem_cons_zero, Act.put, List.setIfInBounds_toArray, List.set_cons_zero, List.set_cons_succ]
            refine wpAnyH_ready (rs := [10]) (by kernel_rfl) (by simp) ?_
            refine AllReadyH.cons rfl (fun Kc hKc => ?_) AllReadyH.nil
            simp only [List.getElem_toArray, List.getElem_cons_succ, List.getElem_cons_zero]
            rw [if_pos (by rfl)]
            have hall : Array.all (#[.slice (some ⟨wM2.heap.size, 0, none⟩) L L, .slice (some ⟨wA.heap.size, 0, none⟩) L L] : Array Value) (fun v => v.oneCell') = true := by simp [Value.oneCell']
            refine wp_store_row 42 _ _ rfl (wM1.heap.size) #[.slice (some ⟨wM2.heap.size, 0, none⟩) L L, .slice (some ⟨wA.heap.size, 0, none⟩) L L] rfl rfl 42 _ XC Tryd.infoCa rfl hall ?_
            have so : ∀ b, b ≠ wM1.heap.size → (wM3.setRow (wM1.heap.size) #[.slice (some ⟨wM2.heap.size, 0, none⟩) L L, .slice (some ⟨wA.heap.size, 0, none⟩) L L]).heap[b]? = wM3.heap[b]? := fun b hb => setRow_other _ _ _ _ hb
            have y0 := Y0.lt
            refine hKc.out _ _ (Blk.of_block Y1 (so _ (by omega))) (fun hHeld => ?_)
            clear hKc Kc
            refine wpAnyH_done (by kernel_rfl) ?_ _
            go_wp2_with fail
            go_meet
            case rel =>
              refine ⟨wM1.heap.size, wM2.heap.size, wA.heap.size, rfl, ?_, ⟨Blk.of_block Y0 (so _ (by omega)), Blk.of_block Y1 (so _ (by omega)), Blk.of_block Y2 (so _ (by omega)), XC.row _, ?_, ?_, by omega, below_setRow KP (by omega) _⟩⟩
              · exact (G0.row (g := wM1.heap.size) (by show ¬ (_ < _); omega) _).now
              · exact (NK _).put (by omega) (fun h => h.2.2.2 rfl) _
              · exact (NV _).put (by omega) (fun h => h.2.2.2 rfl) _
        · simp only [List.getElem_toArray, List.getElem_cons_succ, List.getElem_cons_zero]
          rw [if_pos (by rfl)]
          go_wp2_with fail
          have XC := blk_new wA 42 #[.slice none 0 0, .slice none 0 0]
          have EM1 : Below wA.heap.size wA (wA.alloc (.cells #[.slice none 0 0, .slice none 0 0] 42)) := (Below.refl _ _).alloc (Nat.le_refl _) _
          have zwM1 : wA.heap.size < (wA.alloc (.cells #[.slice none 0 0, .slice none 0 0] 42)).heap.size := by simp
          generalize hn1 : wA.alloc (.cells #[.slice none 0 0, .slice none 0 0] 42) = wM1 at *
          replace Y0 := Y0.below EM1
          replace Y1 := Y1.below EM1
          replace Y2 := Y2.below EM1
          replace KP := below_then KP EM1
          replace G0 := G0.below EM1
          refine hKc.out _ _ Y1 (fun hHeld => ?_)
          clear hKc Kc hn1
          refine wpAnyH_ready (rs := [3, 7]) (by kernel_rfl) (by simp) ?_
          refine AllReadyH.cons rfl (fun Kc hKc => ?_) (AllReadyH.cons rfl (fun Kc hKc => ?_) AllReadyH.nil)
          · simp only [List.getElem_toArray, List.getElem_cons_succ, List.getElem_cons_zero]
            rw [if_pos (by rfl)]
            go_wp2_with fail
            have NK := HKV wM1
            have EM2 : Below wM1.heap.size wM1 (wM1.alloc (.cells (madeCells #[.slice none 0 0] L) 67)) := (Below.refl _ _).alloc (Nat.le_refl _) _
            have zwM2 : wM1.heap.size < (wM1.alloc (.cells (madeCells #[.slice none 0 0] L) 67)).heap.size := by simp
            generalize hn2 : wM1.alloc (.cells (madeCells #[.slice none 0 0] L) 67) = wM2 at *
            replace Y0 := Y0.below EM2
            replace Y1 := Y1.below EM2
            replace Y2 := Y2.below EM2
            replace KP := below_then KP EM2
            replace G0 := G0.below EM2
            replace XC := XC.below EM2
            refine hKc.out _ _ Y1 (fun hHeld => ?_)
            clear hKc Kc hn2
            refine wpAnyH_ready (rs := [7]) (by kernel_rfl) (by simp) ?_
            refine AllReadyH.cons rfl (fun Kc hKc => ?_) AllReadyH.nil
            simp only [List.getElem_toArray, List.getElem_cons_succ, List.getElem_cons_zero]
            rw [if_pos (by rfl)]
            go_wp2_with fail
            have NV := HVV wM2
            have EM3 : Below wM2.heap.size wM2 (wM2.alloc (.cells (madeCells #[.slice none 0 0] L) 67)) := (Below.refl _ _).alloc (Nat.le_refl _) _
            have zwM3 : wM2.heap.size < (wM2.alloc (.cells (madeCells #[.slice none 0 0] L) 67)).heap.size := by simp
            generalize hn3 : wM2.alloc (.cells (madeCells #[.slice none 0 0] L) 67) = wM3 at *
            replace Y0 := Y0.below EM3
            replace Y1 := Y1.below EM3
            replace Y2 := Y2.below EM3
            replace KP := below_then KP EM3
            replace G0 := G0.below EM3
            replace XC := XC.below EM3
            replace NK := fun p => (NK p).below EM3
            refine hKc.out _ _ Y1 (fun hHeld => ?_)
            clear hKc Kc hn3
            refine wpAnyH_take (i := 8) (v := (.agg #[.slice (some ⟨wM1.heap.size, 0, none⟩) L L, .slice (some ⟨wM2.heap.size, 0, none⟩) L L])) rfl (by kernel_rfl) (by kernel_rfl) (by kernel_rfl) (fun _ _ _ h => h) (Or.inl ⟨by rfl, ?_⟩) (by assumption) ?_
            · intro w' hSw
              go_simp
            simp only [List.getElem_toArray, List.getElem_cons_succ, List.getElem_cons_zero, Act.put, List.setIfInBounds_toArray, List.set_cons_zero, List.set_cons_succ]
            refine wpAnyH_ready (rs := [10]) (by kernel_rfl) (by simp) ?_
            refine AllReadyH.cons rfl (fun Kc hKc => ?_) AllReadyH.nil
            simp only [List.getElem_toArray, List.getElem_cons_succ, List.getElem_cons_zero]
            rw [if_pos (by rfl)]
            have hall : Array.all (#[.slice (some ⟨wM1.heap.size, 0, none⟩) L L, .slice (some ⟨wM2.heap.size, 0, none⟩) L L] : Array Value) (fun v => v.oneCell') = true := by simp [Value.oneCell']
            refine wp_store_row 42 _ _ rfl (wA.heap.size) #[.slice (some ⟨wM1.heap.size, 0, none⟩) L L, .slice (some ⟨wM2.heap.size, 0, none⟩) L L] rfl rfl 42 _ XC Tryd.infoCa rfl hall ?_
            have so : ∀ b, b ≠ wA.heap.size → (wM3.setRow (wA.heap.size) #[.slice (some ⟨wM1.heap.size, 0, none⟩) L L, .slice (some ⟨wM2.heap.size, 0, none⟩) L L]).heap[b]? = wM3.heap[b]? := fun b hb => setRow_other _ _ _ _ hb
            have y0 := Y0.lt
            refine hKc.out _ _ (Blk.of_block Y1 (so _ (by omega))) (fun hHeld => ?_)
            clear hKc Kc
            refine wpAnyH_done (by kernel_rfl) ?_ _
            go_wp2_with fail
            go_meet
            case rel =>
              refine ⟨wA.heap.size, wM1.heap.size, wM2.heap.size, rfl, ?_, ⟨Blk.of_block Y0 (so _ (by omega)), Blk.of_block Y1 (so _ (by omega)), Blk.of_block Y2 (so _ (by omega)), XC.row _, ?_, ?_, by omega, below_setRow KP (by omega) _⟩⟩
              · exact (G0.row (g := wA.heap.size) (by show ¬ (_ < _); omega) _).now
              · exact (NK _).put (by omega) (fun h => h.2.2.2 rfl) _
              · exact (NV _).put (by omega) (fun h => h.2.2.2 rfl) _
          · simp only [List.getElem_toArray, List.getElem_cons_succ, List.getElem_cons_zero]
            rw [if_pos (by rfl)]
            go_wp2_with fail
            have NV := HVV wM1
            have EM2 : Below wM1.heap.size wM1 (wM1.alloc (.cells (madeCells #[.slice none 0 0] L) 67)) := (Below.refl _ _).alloc (Nat.le_refl _) _
            have zwM2 : wM1.heap.size < (wM1.alloc (.cells (madeCells #[.slice none 0 0] L) 67)).heap.size := by simp
            generalize hn2 : wM1.alloc (.cells (madeCells #[.slice none 0 0] L) 67) = wM2 at *
            replace Y0 := Y0.below EM2
            replace Y1 := Y1.below EM2
            replace Y2 := Y2.below EM2
            replace KP := below_then KP EM2
            replace G0 := G0.below EM2
            replace XC := XC.below EM2
            refine hKc.out _ _ Y1 (fun hHeld => ?_)
            clear hKc Kc hn2
            refine wpAnyH_ready (rs := [3]) (by kernel_rfl) (by simp) ?_
            refine AllReadyH.cons rfl (fun Kc hKc => ?_) AllReadyH.nil
            simp only [List.getElem_toArray, List.getElem_cons_succ, List.getElem_cons_zero]
            rw [if_pos (by rfl)]
            go_wp2_with fail
            have NK := HKV wM2
            have EM3 : Below wM2.heap.size wM2 (wM2.alloc (.cells (madeCells #[.slice none 0 0] L) 67)) := (Below.refl _ _).alloc (Nat.le_refl _) _
            have zwM3 : wM2.heap.size < (wM2.alloc (.cells (madeCells #[.slice none 0 0] L) 67)).heap.size := by simp
            generalize hn3 : wM2.alloc (.cells (madeCells #[.slice none 0 0] L) 67) = wM3 at *
            replace Y0 := Y0.below EM3
            replace Y1 := Y1.below EM3
            replace Y2 := Y2.below EM3
            replace KP := below_then KP EM3
            replace G0 := G0.below EM3
            replace XC := XC.below EM3
            replace NV := fun p => (NV p).below EM3
            refine hKc.out _ _ Y1 (fun hHeld => ?_)
            clear hKc Kc hn3
            refine wpAnyH_take (i := 8) (v := (.agg #[.slice (some ⟨wM2.heap.size, 0, none⟩) L L, .slice (some ⟨wM1.heap.size, 0, none⟩) L L])) rfl (by kernel_rfl) (by kernel_rfl) (by kernel_rfl) (fun _ _ _ h => h) (Or.inl ⟨by rfl, ?_⟩) (by assumption) ?_
            · intro w' hSw
              go_simp
            simp only [List.getElem_toArray, List.getElem_cons_succ, List.getElem_cons_zero, Act.put, List.setIfInBounds_toArray, List.set_cons_zero, List.set_cons_succ]
            refine wpAnyH_ready (rs := [10]) (by kernel_rfl) (by simp) ?_
            refine AllReadyH.cons rfl (fun Kc hKc => ?_) AllReadyH.nil
            simp only [List.getElem_toArray, List.getElem_cons_succ, List.getElem_cons_zero]
            rw [if_pos (by rfl)]
            have hall : Array.all (#[.slice (some ⟨wM2.heap.size, 0, none⟩) L L, .slice (some ⟨wM1.heap.size, 0, none⟩) L L] : Array Value) (fun v => v.oneCell') = true := by simp [Value.oneCell']
            refine wp_store_row 42 _ _ rfl (wA.heap.size) #[.slice (some ⟨wM2.heap.size, 0, none⟩) L L, .slice (some ⟨wM1.heap.size, 0, none⟩) L L] rfl rfl 42 _ XC Tryd.infoCa rfl hall ?_
            have so : ∀ b, b ≠ wA.heap.size → (wM3.setRow (wA.heap.size) #[.slice (some ⟨wM2.heap.size, 0, none⟩) L L, .slice (some ⟨wM1.heap.size, 0, none⟩) L L]).heap[b]? = wM3.heap[b]? := fun b hb => setRow_other _ _ _ _ hb
            have y0 := Y0.lt
            refine hKc.out _ _ (Blk.of_block Y1 (so _ (by omega))) (fun hHeld => ?_)
            clear hKc Kc
            refine wpAnyH_done (by kernel_rfl) ?_ _
            go_wp2_with fail
            go_meet
            case rel =>
              refine ⟨wA.heap.size, wM2.heap.size, wM1.heap.size, rfl, ?_, ⟨Blk.of_block Y0 (so _ (by omega)), Blk.of_block Y1 (so _ (by omega)), Blk.of_block Y2 (so _ (by omega)), XC.row _, ?_, ?_, by omega, below_setRow KP (by omega) _⟩⟩
              · exact (G0.row (g := wA.heap.size) (by show ¬ (_ < _); omega) _).now
              · exact (NK _).put (by omega) (fun h => h.2.2.2 rfl) _
              · exact (NV _).put (by omega) (fun h => h.2.2.2 rfl) _
      case rest =>
        obtain ⟨gC, gK, gV, rfl, GR, FF⟩ := hcut
        clear XX0 Y0 Y1 Y2 KP G0 hmk2
        have X1 := FF.x1
        have c3 : wc.cell? ⟨w.heap.size + 1, 3, none⟩ = some (.slice ba L bz) := X1.cell 3 wb
        go_wp2_with fail
        clear c3 X1
        go_loopg [61, 11] L (fun r i s wr => ∃ (t gr : Nat), t ≤ L ∧ r = L - t ∧ i = .int .i64 t ∧ s = .slice (some ⟨gr, 0, none⟩) k k ∧ GridAt wr (some ⟨gr, 0, none⟩) k (rowsL M D H Hd A t) ∧ FI w wr #[.int .i64 (V : Int), .int .i64 (D : Int), .int .i64 (Hd : Int), .int .i64 (H : Int), .int .i64 (L : Int)] ws gC gK gV L t (fullK M D H Hd L A) (fullV M D H Hd L A))
        case atStart => exact ⟨0, w4.heap.size, by omega, by omega, rfl, rfl, GR, FF⟩
        case round =>
          obtain ⟨t, gr, htl, rfl, rfl, rfl, GR, FF⟩ := hrel
          by_cases hlt : t < L
          · obtain ⟨x, hx⟩ : ∃ x, bs[t]? = some x := ⟨_, List.getElem?_eq_getElem (by omega)⟩
            have WW := (HG.out wr FF.kp).wt
            obtain ⟨Lx, hLx, BK⟩ := WW.ls t x hx
            have HLx : Hid (layAt M t = Lx) := by show _ = _; unfold layAt; rw [List.getD_eq_getElem?_getD, hLx]; rfl
            obtain ⟨g, o, e0, hc⟩ := WW.b.cells (by show 0 < L; omega)
            simp only at e0
            subst e0
            have r0 := hc t x hx
            clear hc hLx WW
            have HO := fun (ro : Option Addr) (nn cc : Nat) (R : List (List Int)) (wv : World) h1' (hb : BkAt wv D H x Lx) h3' h4' h5' => layer_any V D Hd H H L x Lx ro nn cc R wv h1' hb h3' h4' h5' (by omega) (by omega) (by omega) (by omega) hmod (by omega)
            unfold cfgC at HO
            have one := bk_one x
            have siz2 := bk_size x
            generalize x.cells = cs at *
            have XZ := blk_new wr 61 #[.slice none 0 0, .int .i64 0, .int .i64 0, .slice none 0 0, .int .i64 0, .int .i64 0, .slice none 0 0, .int .i64 0, .int .i64 0, .slice none 0 0, .int .i64 0, .int .i64 0, .slice none 0 0, .slice none 0 0, .int .i64 0, .int .i64 0, .slice none 0 0, .int .i64 0, .int .i64 0, .slice none 0 0]
            have BZ : Below wr.heap.size wr (wr.alloc (.cells #[.slice none 0 0, .int .i64 0, .int .i64 0, .slice none 0 0, .int .i64 0, .int .i64 0, .slice none 0 0, .int .i64 0, .int .i64 0, .slice none 0 0, .int .i64 0, .int .i64 0, .slice none 0 0, .slice none 0 0, .int .i64 0, .int .i64 0, .slice none 0 0, .int .i64 0, .int .i64 0, .slice none 0 0] 61)) := (Below.refl _ _).alloc (Nat.le_refl _) _
            generalize hwz : wr.alloc (.cells #[.slice none 0 0, .int .i64 0, .int .i64 0, .slice none 0 0, .int .i64 0, .int .i64 0, .slice none 0 0, .int .i64 0, .int .i64 0, .slice none 0 0, .int .i64 0, .int .i64 0, .slice none 0 0, .slice none 0 0, .int .i64 0, .int .i64 0, .slice none 0 0, .int .i64 0, .int .i64 0, .slice none 0 0] 61) = wz at *
            have XR := XZ.row cs
            have BR := below_setRow BZ (Nat.le_refl _) cs
            generalize hwy : wz.setRow wr.heap.size cs = wy at *
            have HL : Hid (cs.toList.toArray = cs) := by show _ = _; simp
            have ltk := FF.k.lt
            have ltv := FF.v.lt
            have ltc := FF.xc.lt
            have ne := FF.ne
            have FY := (FF.below BR).below ((Below.refl _ _).drew)
            have GY := (GR.below BR).below ((Below.refl _ _).drew)
            have XY := XR.below ((Below.refl _ _).drew)
            have BY := (BK.below BR).below ((Below.refl _ _).drew)
            have sY : wr.heap.size ≤ wy.drew.heap.size := BR.size
            have rl : ∀ s, s < k → (rowOf (rowsL M D H Hd A t) s).length = D := fun s hs => rowsL_row M D H Hd A t s (by rw [HLN.out]; exact hs)
            have E1 : Hid ((fullK M D H Hd L A).getD t [] = keysR Lx D (rowsL M D H Hd A t)) := by show _ = _; rw [fullK_at _ _ _ _ _ _ hlt, HLx.out]
            have E2 : Hid ((fullV M D H Hd L A).getD t [] = valsR Lx D (rowsL M D H Hd A t)) := by show _ = _; rw [fullV_at _ _ _ _ _ _ hlt, HLx.out]
            have E3 : Hid (rowsL M D H Hd A (t + 1) = madeR Lx D H Hd (rowsL M D H Hd A t)) := by show _ = _; rw [← HLx.out]; rfl
            clear FF GR BK BZ
            go_wp2_with (first | (refine wpList_load_mid rfl 61 _ rfl g (o + t * 20) rfl cs.toList _ r0 Tryd.underlying61 rfl (by rw [Array.length_toList, siz2]; exact Tryd.infoB) ?_; rw [HL.out]) | (refine wpList_store_row rfl 61 _ _ rfl wr.heap.size cs rfl rfl 61 _ XZ (by rw [siz2]; exact Tryd.infoB) siz2.symm one ?_; rw [hwy]))
            clear hwz hwy XZ XR r0 HL
            refine wp_region_held_drew (S := fun w' => Blk w' w.heap.size 23 #[.int .i64 (V : Int), .int .i64 (D : Int), .int .i64 (Hd : Int), .int .i64 (H : Int), .int .i64 (L : Int)] ∧ Blk w' wr.heap.size 61 cs ∧ Blk w' gC 42 #[.slice (some ⟨gK, 0, none⟩) L L, .slice (some ⟨gV, 0, none⟩) L L]) (by kernel_rfl) (⟨FY.x0, XY, FY.xc⟩) (fun hHeld => ?_)
            refine wpAnyH_take (i := 0) (v := (.pointer (some ⟨gC, 0, none⟩))) rfl (by kernel_rfl) (by kernel_rfl) (by kernel_rfl) (fun _ _ _ h => h) (Or.inl ⟨by rfl, ?_⟩) (by assumption) ?_
            · intro w' hSw
              go_simp
            simp only [List.getElem_toArray, List.getElem_cons_zero, Act.put, List.setIfInBounds_toArray, List.set_cons_zero, List.set_cons_succ]
            refine wpAnyH_take (i := 1) (v := (.slice (some ⟨gK, 0, none⟩) L L)) rfl (by kernel_rfl) (by kernel_rfl) (by kernel_rfl) (fun _ _ _ h => h) (Or.inl ⟨by rfl, ?_⟩) (by assumption) ?_
            · intro w' hSw
              have ck : w'.cell? ⟨gC, 0, none⟩ = some (.slice (some ⟨gK, 0, none⟩) L L) := hSw.2.2.cell 0 rfl
              go_simp
            simp only [List.getElem_toArray, List.getElem_cons_succ, List.getElem_cons_zero, Act.put, List.setIfInBounds_toArray, List.set_cons_zero, List.set_cons_succ]
            refine wpAnyH_take (i := 2) (v := (.int .i64 (t : Int))) rfl (by kernel_rfl) (by kernel_rfl) (by kernel_rfl) (fun _ _ _ h => h) (Or.inl ⟨by rfl, ?_⟩) (by assumption) ?_
            · intro w' hSw
              go_simp
            simp only [List.getElem_toArray, List.getElem_cons_succ, List.getElem_cons_zero, Act.put, List.setIfInBounds_toArray, List.set_cons_zero, List.set_cons_succ]
            refine wpAnyH_take (i := 3) (v := (.pointer (some ⟨gC, 1, none⟩))) rfl (by kernel_rfl) (by kernel_rfl) (by kernel_rfl) (fun _ _ _ h => h) (Or.inl ⟨by rfl, ?_⟩) (by assumption) ?_
            · intro w' hSw
              go_simp
            simp only [List.getElem_toArray, List.getElem_cons_succ, List.getElem_cons_zero, Act.put, List.setIfInBounds_toArray, List.set_cons_zero, List.set_cons_succ]
            refine wpAnyH_take (i := 4) (v := (.slice (some ⟨gV, 0, none⟩) L L)) rfl (by kernel_rfl) (by kernel_rfl) (by kernel_rfl) (fun _ _ _ h => h) (Or.inl ⟨by rfl, ?_⟩) (by assumption) ?_
            · intro w' hSw
              have cv : w'.cell? ⟨gC, 1, none⟩ = some (.slice (some ⟨gV, 0, none⟩) L L) := hSw.2.2.cell 1 rfl
              go_simp
            simp only [List.getElem_toArray, List.getElem_cons_succ, List.getElem_cons_zero, Act.put, List.setIfInBounds_toArray, List.set_cons_zero, List.set_cons_succ]
            refine wpAnyH_take (i := 5) (v := (.int .i64 (t : Int))) rfl (by kernel_rfl) (by kernel_rfl) (by kernel_rfl) (fun _ _ _ h => h) (Or.inl ⟨by rfl, ?_⟩) (by assumption) ?_
            · intro w' hSw
              go_simp
            simp only [List.getElem_toArray, List.getElem_cons_succ, List.getElem_cons_zero, Act.put, List.setIfInBounds_toArray, List.set_cons_zero, List.set_cons_succ]
            refine wpAnyH_take (i := 6) (v := (.agg #[.int .i64 (V : Int), .int .i64 (D : Int), .int .i64 (Hd : Int), .int .i64 (H : Int), .int .i64 (L : Int)])) rfl (by kernel_rfl) (by kernel_rfl) (by kernel_rfl) (fun _ _ _ h => h) (Or.inl ⟨by rfl, ?_⟩) (by assumption) ?_
            · intro w' hSw
              have cc0 : w'.cell? ⟨w.heap.size, 0, none⟩ = some (.int .i64 (V : Int)) := hSw.1.cell 0 rfl
              have cc1 : w'.cell? ⟨w.heap.size, 1, none⟩ = some (.int .i64 (D : Int)) := hSw.1.cell 1 rfl
              have cc2 : w'.cell? ⟨w.heap.size, 2, none⟩ = some (.int .i64 (Hd : Int)) := hSw.1.cell 2 rfl
              have cc3 : w'.cell? ⟨w.heap.size, 3, none⟩ = some (.int .i64 (H : Int)) := hSw.1.cell 3 rfl
              have cc4 : w'.cell? ⟨w.heap.size, 4, none⟩ = some (.int .i64 (L : Int)) := hSw.1.cell 4 rfl
              go_simp
            simp only [List.getElem_toArray, List.getElem_cons_succ, List.getElem_cons_zero, Act.put, List.setIfInBounds_toArray, List.set_cons_zero, List.set_cons_succ]
            refine wpAnyH_take (i := 7) (v := (.agg cs)) rfl (by kernel_rfl) (by kernel_rfl) (by kernel_rfl) (fun _ _ _ h => h) (Or.inl ⟨by rfl, ?_⟩) (by assumption) ?_
            · intro w' hSw
              exact yield_row 61 _ rfl wr.heap.size rfl cs (load_b hSw.2.1 siz2)
            simp only [List.getElem_toArray, List.getElem_cons_succ, List.getElem_cons_zero, Act.put, List.setIfInBounds_toArray, List.set_cons_zero, List.set_cons_succ]
            refine wpAnyH_take (i := 8) (v := (.slice (some ⟨gr, 0, none⟩) k k)) rfl (by kernel_rfl) (by kernel_rfl) (by kernel_rfl) (fun _ _ _ h => h) (Or.inl ⟨by rfl, ?_⟩) (by assumption) ?_
            · intro w' hSw
              go_simp
            simp only [List.getElem_toArray, List.getElem_cons_succ, List.getElem_cons_zero, Act.put, List.setIfInBounds_toArray, List.set_cons_zero, List.set_cons_succ]
            refine wpAnyH_ready (rs := [9]) (by kernel_rfl) (by simp) ?_
            refine AllReadyH.cons rfl (fun Kc hKc => ?_) AllReadyH.nil
            simp only [List.getElem_toArray, List.getElem_cons_succ, List.getElem_cons_zero]
            rw [if_pos (by rfl)]
            go_wp2_with fail
            refine (HO _ _ _ (rowsL M D H Hd A t) _ (HT.out _ FY.kp) BY GY rl (by omega)).mono ?_
            rintro e w9 ⟨gm, gk, gv, vm, vk, vv, rfl, NM, NK, NV, B9⟩
            have FZ := FY.below B9
            go_wp2_with fail
            refine hKc.out _ _ (⟨FZ.x0, XY.below B9, FZ.xc⟩) (fun hHeld => ?_)
            clear hKc Kc
            refine wpAnyH_take (i := 10) (v := (.tuple #[.slice (some ⟨gm, 0, none⟩) k k, .slice (some ⟨gk, 0, none⟩) k k, .slice (some ⟨gv, 0, none⟩) k k])) rfl (by kernel_rfl) (by kernel_rfl) (by kernel_rfl) (fun _ _ _ h => h) (Or.inl ⟨by rfl, ?_⟩) (by assumption) ?_
            · intro w' hSw
              go_simp
            simp only [List.getElem_toArray, List.getElem_cons_succ, List.getElem_cons_zero, Act.put, List.setIfInBounds_toArray, List.set_cons_zero, List.set_cons_succ]
            refine wpAnyH_take (i := 11) (v := (.slice (some ⟨gm, 0, none⟩) k k)) rfl (by kernel_rfl) (by kernel_rfl) (by kernel_rfl) (fun _ _ _ h => h) (Or.inl ⟨by rfl, ?_⟩) (by assumption) ?_
            · intro w' hSw
              go_simp
            simp only [List.getElem_toArray, List.getElem_cons_succ, List.getElem_cons_zero, Act.put, List.setIfInBounds_toArray, List.set_cons_zero, List.set_cons_succ]
            refine wpAnyH_take (i := 12) (v := (.slice (some ⟨gk, 0, none⟩) k k)) rfl (by kernel_rfl) (by kernel_rfl) (by kernel_rfl) (fun _ _ _ h => h) (Or.inl ⟨by rfl, ?_⟩) (by assumption) ?_
            · intro w' hSw
              go_simp
            simp only [List.getElem_toArray, List.getElem_cons_succ, List.getElem_cons_zero, Act.put, List.setIfInBounds_toArray, List.set_cons_zero, List.set_cons_succ]
            refine wpAnyH_take (i := 13) (v := (.slice (some ⟨gv, 0, none⟩) k k)) rfl (by kernel_rfl) (by kernel_rfl) (by kernel_rfl) (fun _ _ _ h => h) (Or.inl ⟨by rfl, ?_⟩) (by assumption) ?_
            · intro w' hSw
              go_simp
            simp only [List.getElem_toArray, List.getElem_cons_succ, List.getElem_cons_zero, Act.put, List.setIfInBounds_toArray, List.set_cons_zero, List.set_cons_succ]
            refine wpAnyH_take (i := 14) (v := (.slice (some ⟨gm, 0, none⟩) k k)) rfl (by kernel_rfl) (by kernel_rfl) (by kernel_rfl) (fun _ _ _ h => h) (Or.inl ⟨by rfl, ?_⟩) (by assumption) ?_
            · intro w' hSw
              go_simp
            simp only [List.getElem_toArray, List.getElem_cons_succ, List.getElem_cons_zero, Act.put, List.setIfInBounds_toArray, List.set_cons_zero, List.set_cons_succ]
            refine wpAnyH_take (i := 15) (v := (.pointer (some ⟨gK, t, none⟩))) rfl (by kernel_rfl) (by kernel_rfl) (by kernel_rfl) (fun _ _ _ h => h) (Or.inl ⟨by rfl, ?_⟩) (by assumption) ?_
            · intro w' hSw
              go_simp
            simp only [List.getElem_toArray, List.getElem_cons_succ, List.getElem_cons_zero, Act.put, List.setIfInBounds_toArray, List.set_cons_zero, List.set_cons_succ]
            clear hHeld HO one siz2 GY BY
            have N1 : Hangs (offF w gK gV gC) w9 fun w => GridV w (some ⟨gk, 0, none⟩) k vk ((fullK M D H Hd L A).getD t []) := by
              rw [E1.out]
              exact Hangs.mono NK fun b _ hb => ⟨by omega, by omega, by omega, by omega⟩
            have N2 : Hangs (offF w gK gV gC) w9 fun w => GridV w (some ⟨gv, 0, none⟩) k vv ((fullV M D H Hd L A).getD t []) := by
              rw [E2.out]
              exact Hangs.mono NV fun b _ hb => ⟨by omega, by omega, by omega, by omega⟩
            have FN := FZ.next hlt (by omega) N1 N2
            have s9 := B9.size
            have GN : GridAt ((w9.setCell ⟨gK, t, none⟩ (.slice (some ⟨gk, 0, none⟩) k k)).setCell ⟨gV, t, none⟩ (.slice (some ⟨gv, 0, none⟩) k k)) (some ⟨gm, 0, none⟩) k (rowsL M D H Hd A (t + 1)) := by
              rw [E3.out]
              exact ((NM.set (a := ⟨gK, t, none⟩) (by show gK < _; omega) _).set (a := ⟨gV, t, none⟩) (by show gV < _; omega) _).now.grid
            have pk : ¬ offF w gK gV gC gK := fun h => h.2.1 rfl
            have V1 := FZ.v.far (a := ⟨gK, t, none⟩) (by show gK ≠ gV; omega) pk (.slice (some ⟨gk, 0, none⟩) k k)
            have fz1 := FZ.k.frozen t
            obtain ⟨r1, m1, v1, cu1, _, _⟩ := FZ.k.at hlt
            have fz2 := V1.frozen t
            obtain ⟨r2, m2, v2, cu2, _, _⟩ := V1.at hlt
            have Q1 : Blk (w9.setCell ⟨gK, t, none⟩ (.slice (some ⟨gk, 0, none⟩) k k)) w.heap.size 23 #[.int .i64 (V : Int), .int .i64 (D : Int), .int .i64 (Hd : Int), .int .i64 (H : Int), .int .i64 (L : Int)] ∧ Blk (w9.setCell ⟨gK, t, none⟩ (.slice (some ⟨gk, 0, none⟩) k k)) wr.heap.size 61 cs ∧ Blk (w9.setCell ⟨gK, t, none⟩ (.slice (some ⟨gk, 0, none⟩) k k)) gC 42 #[.slice (some ⟨gK, 0, none⟩) L L, .slice (some ⟨gV, 0, none⟩) L L] := ⟨FZ.x0.other (by show _ ≠ gK; omega) _, (XY.below B9).other (by show _ ≠ gK; omega) _, FZ.xc.other (by show _ ≠ gK; omega) _⟩
            have Q2 := Q1.2.1.other (a := ⟨gV, t, none⟩) (by show _ ≠ gV; omega) (.slice (some ⟨gv, 0, none⟩) k k)
            clear V1 N1 N2 NM NK NV XY FY
            refine wpAnyH_ready (rs := [16]) (by kernel_rfl) (by simp) ?_
            refine AllReadyH.cons rfl (fun Kc hKc => ?_) AllReadyH.nil
            simp only [List.getElem_toArray, List.getElem_cons_succ, List.getElem_cons_zero]
            rw [if_pos (by rfl)]
            go_wp2_with fail
            refine hKc.out _ _ Q1 (fun hHeld => ?_)
            clear hKc Kc
            generalize hS1 : w9.setCell ⟨gK, t, none⟩ (.slice (some ⟨gk, 0, none⟩) k k) = wS1 at *
            refine wpAnyH_take (i := 17) (v := (.pointer (some ⟨gV, t, none⟩))) rfl (by kernel_rfl) (by kernel_rfl) (by kernel_rfl) (fun _ _ _ h => h) (Or.inl ⟨by rfl, ?_⟩) (by assumption) ?_
            · intro w' hSw
              go_simp
            simp only [List.getElem_toArray, List.getElem_cons_succ, List.getElem_cons_zero, Act.put, List.setIfInBounds_toArray, List.set_cons_zero, List.set_cons_succ]
            refine wpAnyH_ready (rs := [18]) (by kernel_rfl) (by simp) ?_
            refine AllReadyH.cons rfl (fun Kc hKc => ?_) AllReadyH.nil
            simp only [List.getElem_toArray, List.getElem_cons_succ, List.getElem_cons_zero]
            rw [if_pos (by rfl)]
            go_wp2_with fail
            refine hKc.out _ _ ⟨FN.x0, Q2, FN.xc⟩ (fun hHeld => ?_)
            clear hKc Kc
            refine wpAnyH_done (by kernel_rfl) ?_ _
            go_wp2_with fail
            go_roundg (L - (t + 1))
            case measure => omega
            case rel => exact ⟨t + 1, gm, by omega, rfl, by go_num, rfl, GN, FN⟩
          · obtain rfl : t = L := by omega
            obtain ⟨rb, ro, er, hc⟩ := GR.cells (by omega)
            simp only [Option.some.injEq, Addr.mk.injEq, and_true] at er
            obtain ⟨rfl, rfl⟩ := er
            obtain ⟨ko, km, kc, cr, AR⟩ := hc (k - 1) (by omega)
            obtain rfl : km = D := by rw [← rowsL_row M D H Hd A t (k - 1) (by rw [HLN.out]; omega), AR.row.len]
            rw [Nat.zero_add] at cr
            clear hc GR
            obtain ⟨m, rfl⟩ : ∃ m, k = m + 1 := ⟨k - 1, by omega⟩
            rw [Nat.add_sub_cancel] at cr AR
            have e1 : IntKind.i64.wrap (((m : Int) + 1) - 1) = (m : Int) := by rw [show ((m : Int) + 1) - 1 = m by omega]; exact wrap_in (by omega)
            have e0 : IntKind.i64.wrap (m : Int) = (m : Int) := wrap_in (by omega)
            have hnm : ¬ ((m : Int) + 1 ≤ (m : Int)) := by omega
            have FY := FF.below ((Below.refl _ _).drew)
            have AY := AR.below ((Below.refl _ _).drew)
            have cY : wr.drew.cell? ⟨gr, m, none⟩ = some (.slice ko km kc) := cr
            have ne := FF.ne
            have HX : Hid (fullX M V km H Hd t A = likR M V km (rowOf (rowsL M km H Hd A t) m)) := by show _ = _; unfold fullX; rw [HLN.out, Nat.add_sub_cancel]
            clear FF AR cr
            go_wp2_with fail
            refine wp_region_held_drew (S := fun w' => Blk w' (w.heap.size + 1) 32 ws ∧ Blk w' gC 42 #[.slice (some ⟨gK, 0, none⟩) t t, .slice (some ⟨gV, 0, none⟩) t t] ∧ w'.cell? ⟨gr, m, none⟩ = some (.slice ko km kc)) (by kernel_rfl) (⟨FY.x1, FY.xc, cY⟩) (fun hHeld => ?_)
            refine wpAnyH_take (i := 0) (v := (.agg ws)) rfl (by kernel_rfl) (by kernel_rfl) (by kernel_rfl) (fun _ _ _ h => h) (Or.inl ⟨by rfl, ?_⟩) (by assumption) ?_
            · intro w' hSw
              exact yield_row 32 _ rfl (w.heap.size + 1) rfl ws (load_w hSw.1 siz)
            simp only [List.getElem_toArray, List.getElem_cons_zero, Act.put, List.setIfInBounds_toArray, List.set_cons_zero, List.set_cons_succ]
            refine wpAnyH_take (i := 1) (v := (.slice (some ⟨gr, 0, none⟩) (m + 1) (m + 1))) rfl (by kernel_rfl) (by kernel_rfl) (by kernel_rfl) (fun _ _ _ h => h) (Or.inl ⟨by rfl, ?_⟩) (by assumption) ?_
            · intro w' hSw
              go_simp
            simp only [List.getElem_toArray, List.getElem_cons_succ, List.getElem_cons_zero, Act.put, List.setIfInBounds_toArray, List.set_cons_zero, List.set_cons_succ]
            refine wpAnyH_take (i := 2) (v := (.slice (some ⟨gr, 0, none⟩) (m + 1) (m + 1))) rfl (by kernel_rfl) (by kernel_rfl) (by kernel_rfl) (fun _ _ _ h => h) (Or.inl ⟨by rfl, ?_⟩) (by assumption) ?_
            · intro w' hSw
              go_simp
            simp only [List.getElem_toArray, List.getElem_cons_succ, List.getElem_cons_zero, Act.put, List.setIfInBounds_toArray, List.set_cons_zero, List.set_cons_succ]
            refine wpAnyH_take (i := 3) (v := (.int .i64 ((m : Int) + 1))) rfl (by kernel_rfl) (by kernel_rfl) (by kernel_rfl) (fun _ _ _ h => h) (Or.inl ⟨by rfl, ?_⟩) (by assumption) ?_
            · intro w' hSw
              go_simp
            simp only [List.getElem_toArray, List.getElem_cons_succ, List.getElem_cons_zero, Act.put, List.setIfInBounds_toArray, List.set_cons_zero, List.set_cons_succ]
            refine wpAnyH_take (i := 4) (v := (.int .i64 (m : Int))) rfl (by kernel_rfl) (by kernel_rfl) (by kernel_rfl) (fun _ _ _ h => h) (Or.inl ⟨by rfl, ?_⟩) (by assumption) ?_
            · intro w' hSw
              go_simp
            simp only [List.getElem_toArray, List.getElem_cons_succ, List.getElem_cons_zero, Act.put, List.setIfInBounds_toArray, List.set_cons_zero, List.set_cons_succ]
            refine wpAnyH_take (i := 5) (v := (.pointer (some ⟨gr, m, none⟩))) rfl (by kernel_rfl) (by kernel_rfl) (by kernel_rfl) (fun _ _ _ h => h) (Or.inl ⟨by rfl, ?_⟩) (by assumption) ?_
            · intro w' hSw
              go_simp
            simp only [List.getElem_toArray, List.getElem_cons_succ, List.getElem_cons_zero, Act.put, List.setIfInBounds_toArray, List.set_cons_zero, List.set_cons_succ]
            refine wpAnyH_take (i := 6) (v := (.slice ko km kc)) rfl (by kernel_rfl) (by kernel_rfl) (by kernel_rfl) (fun _ _ _ h => h) (Or.inl ⟨by rfl, ?_⟩) (by assumption) ?_
            · intro w' hSw
              have cm := hSw.2.2
              go_simp
            simp only [List.getElem_toArray, List.getElem_cons_succ, List.getElem_cons_zero, Act.put, List.setIfInBounds_toArray, List.set_cons_zero, List.set_cons_succ]
            refine wpAnyH_take (i := 8) (v := (.agg #[.slice (some ⟨gK, 0, none⟩) t t, .slice (some ⟨gV, 0, none⟩) t t])) rfl (by kernel_rfl) (by kernel_rfl) (by kernel_rfl) (fun _ _ _ h => h) (Or.inl ⟨by rfl, ?_⟩) (by assumption) ?_
            · intro w' hSw
              exact yield_row 42 _ rfl gC rfl _ (load_ca hSw.2.1 rfl)
            simp only [List.getElem_toArray, List.getElem_cons_succ, List.getElem_cons_zero, Act.put, List.setIfInBounds_toArray, List.set_cons_zero, List.set_cons_succ]
            refine wpAnyH_ready (rs := [7]) (by kernel_rfl) (by simp) ?_
            refine AllReadyH.cons rfl (fun Kc hKc => ?_) AllReadyH.nil
            simp only [List.getElem_toArray, List.getElem_cons_succ, List.getElem_cons_zero]
            rw [if_pos (by rfl)]
            go_wp2_with fail
            refine (CL _ FY.kp _ _ _ AY.row).mono ?_
            rintro e w9 ⟨gl, rfl, FL, B9⟩
            have FZ := FY.below B9
            have cZ := cell_keep cY B9
            go_wp2_with fail
            refine hKc.out _ _ (⟨FZ.x1, FZ.xc, cZ⟩) (fun hHeld => ?_)
            clear hKc Kc
            refine wpAnyH_take (i := 9) (v := (.slice (some ⟨gl, 0, none⟩) V V)) rfl (by kernel_rfl) (by kernel_rfl) (by kernel_rfl) (fun _ _ _ h => h) (Or.inl ⟨by rfl, ?_⟩) (by assumption) ?_
            · intro w' hSw
              go_simp
            simp only [List.getElem_toArray, List.getElem_cons_succ, List.getElem_cons_zero, Act.put, List.setIfInBounds_toArray, List.set_cons_zero, List.set_cons_succ]
            refine wpAnyH_ready (rs := [10]) (by kernel_rfl) (by simp) ?_
            refine AllReadyH.cons rfl (fun Kc hKc => ?_) AllReadyH.nil
            simp only [List.getElem_toArray, List.getElem_cons_succ, List.getElem_cons_zero]
            rw [if_pos (by rfl)]
            have hall : Array.all (#[.slice (some ⟨gK, 0, none⟩) t t, .slice (some ⟨gV, 0, none⟩) t t] : Array Value) (fun v => v.oneCell') = true := by simp [Value.oneCell']
            refine wp_store_row 42 _ _ rfl (w.heap.size + 1 + 1) #[.slice (some ⟨gK, 0, none⟩) t t, .slice (some ⟨gV, 0, none⟩) t t] rfl rfl 42 _ FZ.x2 Tryd.infoCa rfl hall ?_
            have so : ∀ b, b ≠ w.heap.size + 1 + 1 → (w9.setRow (w.heap.size + 1 + 1) #[.slice (some ⟨gK, 0, none⟩) t t, .slice (some ⟨gV, 0, none⟩) t t]).heap[b]? = w9.heap[b]? := fun b hb => setRow_other _ _ _ _ hb
            have cN : (w9.setRow (w.heap.size + 1 + 1) #[.slice (some ⟨gK, 0, none⟩) t t, .slice (some ⟨gV, 0, none⟩) t t]).cell? ⟨gr, m, none⟩ = some (.slice ko km kc) := by
              rw [World.cell?_of_block (so gr (by
                rintro rfl
                have h9 := FZ.x2
                unfold Blk at h9
                unfold World.cell? at cZ
                simp only [h9] at cZ
                rcases m with _ | _ | m
                · simp at cZ; have := AY.row.cells (by omega); obtain ⟨_, _, e, _⟩ := this; rw [← cZ.1] at e; cases e
                · simp at cZ; have := AY.row.cells (by omega); obtain ⟨_, _, e, _⟩ := this; rw [← cZ.1] at e; cases e
                · simp at cZ))]
              exact cZ
            refine hKc.out _ _ ⟨Blk.of_block FZ.x1 (so _ (by omega)), Blk.of_block FZ.xc (so _ (by omega)), cN⟩ (fun hHeld => ?_)
            clear hKc Kc
            refine wpAnyH_take (i := 11) (v := (.int .i64 0)) rfl (by kernel_rfl) (by kernel_rfl) (by kernel_rfl) (fun _ _ _ h => h) (Or.inl ⟨by rfl, ?_⟩) (by assumption) ?_
            · intro w' hSw
              go_simp
            simp only [List.getElem_toArray, List.getElem_cons_succ, List.getElem_cons_zero, Act.put, List.setIfInBounds_toArray, List.set_cons_zero, List.set_cons_succ]
            refine wpAnyH_done (by kernel_rfl) ?_ _
            go_wp2
            refine bodyPost_ret (results_mid rfl _ _ (w.heap.size + 1 + 1) _ rfl (load_ca (FZ.x2.row _) rfl)) rfl ?_
            rw [HX.out]
            have sF := FY.kp.size
            refine ⟨gl, gK, gV, rfl, (FL.of_block (so gl (FL.ne FZ.x2 (by decide)))).mono sF, ?_, ?_, below_setRow FZ.kp (by omega) _⟩
            · exact (FZ.k.put (g2 := w.heap.size + 1 + 1) (by omega) (fun h => by have := h.1; omega) _).cube LF.out.1 (by omega) (fun b hb => by have := hb.1; omega) (by omega)
            · exact (FZ.v.put (g2 := w.heap.size + 1 + 1) (by omega) (fun h => by have := h.1; omega) _).cube LF.out.2 (by omega) (fun b hb => by have := hb.1; omega) (by omega)
end Go.Proofs.YteemdioodaoeiaaDoor
