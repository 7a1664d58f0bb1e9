/- Contracts of the program's functions, part 9 of 10: what each call returns and leaves of memory. -/
import Derived.Test.YtmdjlaileakbeaaDoorPk6
/- Package pass: layer: what a layer makes of rows, and the key and the value of each. -/
namespace Go.Proofs.YtmdjlaileakbeaaDoor
open Go.ChangeShapes Go.WideShapes Go.ChangeAt Go.RowKit
def keysR (L : Lay) (D : Nat) (R : List (List Int)) : List (List Int) := R.map (keyR L D)
def valsR (L : Lay) (D : Nat) (R : List (List Int)) : List (List Int) := R.map (valR L D)
def madeR (L : Lay) (D H Hd : Nat) (R : List (List Int)) : List (List Int) := (List.range R.length).map fun i => oneR L D H Hd (rowOf R i) ((keysR L D R).take i) ((valsR L D R).take i) i
theorem keysR_at (L : Lay) (D : Nat) {R : List (List Int)} {t : Nat} (h : t < R.length) : rowOf (keysR L D R) t = keyR L D (rowOf R t) := by
  unfold rowOf keysR
  simp only [List.getD_eq_getElem?_getD, List.getElem?_map, List.getElem?_eq_getElem h]
  rfl
theorem valsR_at (L : Lay) (D : Nat) {R : List (List Int)} {t : Nat} (h : t < R.length) : rowOf (valsR L D R) t = valR L D (rowOf R t) := by
  unfold rowOf valsR
  simp only [List.getD_eq_getElem?_getD, List.getElem?_map, List.getElem?_eq_getElem h]
  rfl
theorem madeR_at (L : Lay) (D H Hd : Nat) {R : List (List Int)} {t : Nat} (h : t < R.length) : rowOf (madeR L D H Hd R) t = oneR L D H Hd (rowOf R t) ((keysR L D R).take t) ((valsR L D R).take t) t := by
  unfold madeR
  conv => lhs; unfold rowOf
  rw [List.getD_eq_getElem?_getD, List.getElem?_map, List.getElem?_range h]
  rfl
theorem rowOf_take {R : List (List Int)} {k t : Nat} (h : t < k) : rowOf (R.take k) t = rowOf R t := by
  unfold rowOf
  simp only [List.getD_eq_getElem?_getD, List.getElem?_take, if_pos h]
/-- Block g is filled up to place k with rows that hang on the blocks that p tells. -/
structure FP (w : World) (g m k : Nat) (p : Nat → Prop) (R : List (List Int)) : Prop where
  row : ∃ cs : Array Value, w.heap[g]? = some (.cells cs 42 (0, 0)) ∧ cs.size = m ∧ ∀ t, t < k → ∃ ro n c, cs[t]? = some (.slice ro n c) ∧ Hangs p w (fun w => Arg w ro n c (rowOf R t))
theorem FP.lt {w : World} {g m k : Nat} {p : Nat → Prop} {R : List (List Int)} (h : FP w g m k p R) : g < w.heap.size := by
  obtain ⟨cs, h1, _⟩ := h.row
  exact (Array.getElem?_eq_some_iff.1 h1).1
theorem FP.below {w w' : World} {g m k : Nat} {p : Nat → Prop} {R : List (List Int)} (h : FP w g m k p R) (hb : Below w.heap.size w w') : FP w' g m k p R := by
  have hl := h.lt
  obtain ⟨cs, h1, h2, h3⟩ := h.row
  exact ⟨cs, (hb.block g hl).trans h1, h2, fun t ht => let ⟨ro, n, c, e, N⟩ := h3 t ht; ⟨ro, n, c, e, N.below hb⟩⟩
theorem FP.frozen {w : World} {g m k : Nat} {p : Nat → Prop} {R : List (List Int)} (h : FP w g m k p R) (t : Nat) : w.frozen? ⟨g, t, none⟩ = false := by
  obtain ⟨cs, h1, _⟩ := h.row
  unfold World.frozen?; simp only [h1]; rfl
theorem FP.cell {w : World} {g m k : Nat} {p : Nat → Prop} {R : List (List Int)} (h : FP w g m k p R) {t : Nat} (ht : t < m) : ∃ v, w.cell? ⟨g, t, none⟩ = some v := by
  obtain ⟨cs, h1, h2, _⟩ := h.row
  refine ⟨cs[t]'(by omega), ?_⟩
  unfold World.cell?; simp only [h1]
  exact Array.getElem?_eq_getElem (by omega)
theorem FP.step {w : World} {g m k : Nat} {p : Nat → Prop} {R : List (List Int)} (h : FP w g m k p R) (hk : k < m) (hp : ¬ p g) {ro : Option Addr} {n c : Nat} (hA : Hangs p w fun w => Arg w ro n c (rowOf R k)) : FP (w.setCell ⟨g, k, none⟩ (.slice ro n c)) g m (k + 1) p R := by
  obtain ⟨cs, h1, h2, h3⟩ := h.row
  refine ⟨cs.setIfInBounds k (.slice ro n c), by simp [World.setCell, Array.getElem?_modify, h1], by simpa using h2, fun t ht => ?_⟩
  rw [Array.getElem?_setIfInBounds]
  by_cases e : k = t
  · subst e
    rw [if_pos rfl, if_pos (by omega)]
    exact ⟨ro, n, c, rfl, hA.set hp _⟩
  · rw [if_neg e]
    obtain ⟨ro', n', c', e2, N⟩ := h3 t (by omega)
    exact ⟨ro', n', c', e2, N.set hp _⟩
theorem FP.far {w : World} {g m k : Nat} {p : Nat → Prop} {R : List (List Int)} (h : FP w g m k p R) {a : Addr} (hg : a.block ≠ g) (hp : ¬ p a.block) (v : Value) : FP (w.setCell a v) g m k p R := by
  obtain ⟨cs, h1, h2, h3⟩ := h.row
  exact ⟨cs, (Below.heap_setCell _ _ _ _ (Ne.symm hg)).trans h1, h2, fun t ht => let ⟨ro, n, c, e, N⟩ := h3 t ht; ⟨ro, n, c, e, N.set hp _⟩⟩
theorem fp_made (w : World) (m : Nat) (p : Nat → Prop) (R : List (List Int)) : FP (w.alloc (.cells (madeCells #[.slice none 0 0] m) 42)) w.heap.size m 0 p R :=
  ⟨_, heap_alloc_new _ _, by simp [madeCells], fun t ht => by omega⟩
/-- The rows ahead of place k. -/
theorem FP.front {w : World} {g m k : Nat} {p : Nat → Prop} {R : List (List Int)} (h : FP w g m k p R) (hk : k ≤ m) (hl : m ≤ R.length) (hm : m ≤ 9223372036854775807) : GridAt w (some ⟨g, 0, none⟩) k (R.take k) := by
  obtain ⟨cs, h1, h2, h3⟩ := h.row
  refine ⟨by rw [List.length_take]; omega, by omega, fun _ => ⟨g, 0, rfl, fun t ht => ?_⟩⟩
  obtain ⟨ro, n, c, e, N⟩ := h3 t ht
  refine ⟨ro, n, c, ?_, by rw [rowOf_take ht]; exact N.now⟩
  rw [Nat.zero_add]
  unfold World.cell?
  simp only [h1]
  exact e
theorem FP.whole {w : World} {g m : Nat} {p : Nat → Prop} {R : List (List Int)} (h : FP w g m m p R) (hl : R.length = m) (hm : m ≤ 9223372036854775807) {B : Nat} (hp : ∀ b, p b → B ≤ b) (hB : B ≤ g) : ∃ vs, New B w fun w => GridV w (some ⟨g, 0, none⟩) m vs R := by
  have hlt := h.lt
  obtain ⟨cs, h1, hsz, h3⟩ := h.row
  refine ⟨cs.toList, fun w2 h2 => ?_⟩
  have hg := (h2 g hB hlt).trans h1
  refine ⟨⟨by simp [hsz, hl], fun t ht => ?_⟩, by simp [hsz], hm, fun _ => ⟨g, 0, rfl, fun j u hj => ?_⟩⟩
  · obtain ⟨ro, n, c, e, N⟩ := h3 t (by omega)
    exact ⟨ro, n, c, by simpa using e, N w2 fun b hb hb2 => h2 b (hp b hb) hb2⟩
  · rw [Nat.zero_add]
    unfold World.cell?
    simp only [hg]
    simpa using hj
def offL (w : World) (gm gk gv b : Nat) : Prop := w.heap.size + 1 < b ∧ b ≠ gm ∧ b ≠ gk ∧ b ≠ gv
/-- Within layer. -/
structure LI (w wr : World) (cfg bc : Array Value) (gm gk gv n t : Nat) (Rm Rk Rv : List (List Int)) : Prop where
  x0 : Blk wr w.heap.size 41 cfg
  x1 : Blk wr (w.heap.size + 1) 67 bc
  m : FP wr gm n t (offL w gm gk gv) Rm
  k : FP wr gk n t (offL w gm gk gv) Rk
  v : FP wr gv n t (offL w gm gk gv) Rv
  ne : w.heap.size + 1 < gm ∧ w.heap.size + 1 < gk ∧ w.heap.size + 1 < gv ∧ gm ≠ gk ∧ gm ≠ gv ∧ gk ≠ gv
  kp : Below w.heap.size w wr
theorem LI.below {w wr w' : World} {cfg bc : Array Value} {gm gk gv n t : Nat} {Rm Rk Rv : List (List Int)} (h : LI w wr cfg bc gm gk gv n t Rm Rk Rv) (hb : Below wr.heap.size wr w') : LI w w' cfg bc gm gk gv n t Rm Rk Rv :=
  ⟨h.x0.below hb, h.x1.below hb, h.m.below hb, h.k.below hb, h.v.below hb, h.ne, below_then h.kp hb⟩
theorem LI.next {w wr : World} {cfg bc : Array Value} {gm gk gv n t : Nat} {Rm Rk Rv : List (List Int)} (h : LI w wr cfg bc gm gk gv n t Rm Rk Rv) (ht : t < n) {o1 o2 o3 d1 d2 d3 e1 e2 e3 : Nat} (N1 : Hangs (offL w gm gk gv) wr fun w => Arg w (some ⟨o1, 0, none⟩) d1 e1 (rowOf Rm t)) (N2 : Hangs (offL w gm gk gv) wr fun w => Arg w (some ⟨o2, 0, none⟩) d2 e2 (rowOf Rk t)) (N3 : Hangs (offL w gm gk gv) wr fun w => Arg w (some ⟨o3, 0, none⟩) d3 e3 (rowOf Rv t)) :
    LI w (((wr.setCell ⟨gm, t, none⟩ (.slice (some ⟨o1, 0, none⟩) d1 e1)).setCell ⟨gk, t, none⟩ (.slice (some ⟨o2, 0, none⟩) d2 e2)).setCell ⟨gv, t, none⟩ (.slice (some ⟨o3, 0, none⟩) d3 e3)) cfg bc gm gk gv n (t + 1) Rm Rk Rv := by
  obtain ⟨f1, f2, f3, f4, f5, f6⟩ := h.ne
  have pm : ¬ offL w gm gk gv gm := fun h => h.2.1 rfl
  have pk : ¬ offL w gm gk gv gk := fun h => h.2.2.1 rfl
  have pv : ¬ offL w gm gk gv gv := fun h => h.2.2.2 rfl
  refine ⟨((h.x0.other (by show _ ≠ gm; omega) _).other (by show _ ≠ gk; omega) _).other (by show _ ≠ gv; omega) _, ((h.x1.other (by show _ ≠ gm; omega) _).other (by show _ ≠ gk; omega) _).other (by show _ ≠ gv; omega) _, ?_, ?_, ?_, h.ne, ?_⟩
  · exact ((h.m.step ht pm N1).far (by show gk ≠ gm; omega) pk _).far (by show gv ≠ gm; omega) pv _
  · exact ((h.k.far (by show gm ≠ gk; omega) pm _).step ht pk (N2.set pm _)).far (by show gv ≠ gk; omega) pv _
  · exact ((h.v.far (by show gm ≠ gv; omega) pm _).far (by show gk ≠ gv; omega) pk _).step ht pv ((N3.set pm _).set pk _)
  · exact ((h.kp.setCell (p := ⟨gm, t, none⟩) (by show w.heap.size ≤ gm; omega) _).setCell (p := ⟨gk, t, none⟩) (by show w.heap.size ≤ gk; omega) _).setCell (p := ⟨gv, t, none⟩) (by show w.heap.size ≤ gv; omega) _
set_option maxRecDepth 100000 in
set_option maxHeartbeats 1600000 in
theorem layer_any (Vo : Int) (D Hd : Nat) (H' : Int) (H : Nat) (Ly : Int) (b : Bk) (L : Lay) (ro : Option Addr) (n c : Nat) (R : List (List Int)) (w : World) (hT : Tab w) (hB : BkAt w D H b L) (hR : GridAt w ro n R) (hl : ∀ t, t < n → (rowOf R t).length = D) (hn : n ≤ 128) (h1 : 1 ≤ D) (h2 : D ≤ 32) (g1 : 1 ≤ Hd) (g2 : Hd ≤ 4) (hd : D % Hd = 0) (hH : H ≤ 128) :
   Calls Tryd.prog 34 #[.agg (cfgC Vo D Hd H' Ly), .agg b.cells, .slice ro n c] w fun e w' => ∃ gm gk gv vm vk vv, e = .returned (.tuple #[.slice (some ⟨gm, 0, none⟩) n n, .slice (some ⟨gk, 0, none⟩) n n, .slice (some ⟨gv, 0, none⟩) n n]) ∧ New w.heap.size w' (fun w => GridV w (some ⟨gm, 0, none⟩) n vm (madeR L D H Hd R)) ∧ New w.heap.size w' (fun w => GridV w (some ⟨gk, 0, none⟩) n vk (keysR L D R)) ∧ New w.heap.size w' (fun w => GridV w (some ⟨gv, 0, none⟩) n vv (valsR L D R)) ∧ Below w.heap.size w w' := by
  have rl := hR.len
  have HT : Hid (∀ wv, Below w.heap.size w wv → Tab wv) := fun wv hb => hT.next hb
  have HB : Hid (∀ wv, Below w.heap.size w wv → BkAt wv D H b L) := fun wv hb => hB.below hb
  have HR : Hid (∀ wv, Below w.heap.size w wv → GridAt wv ro n R) := fun wv hb => hR.below hb
  have HLR : Hid (R.length = n) := rl
  have HL : Hid (∀ t, t < n → (rowOf R t).length = D) := hl
  have HM : Hid ((madeR L D H Hd R).length = n) := by show _ = _; unfold madeR; simp [rl]
  have HK : Hid ((keysR L D R).length = n) := by show _ = _; unfold keysR; simp [rl]
  have HV : Hid ((valsR L D R).length = n) := by show _ = _; unfold valsR; simp [rl]
  have HMt : Hid (∀ t, t < n → rowOf (madeR L D H Hd R) t = oneR L D H Hd (rowOf R t) ((keysR L D R).take t) ((valsR L D R).take t) t) := fun t ht => madeR_at L D H Hd (by omega)
  have HKt : Hid (∀ t, t < n → rowOf (keysR L D R) t = keyR L D (rowOf R t)) := fun t ht => keysR_at L D (by omega)
  have HVt : Hid (∀ t, t < n → rowOf (valsR L D R) t = valR L D (rowOf R t)) := fun t ht => valsR_at L D (by omega)
  clear hT hB hR hl rl
  have HO := fun (xo : Option Addr) (cx : Nat) (Xr : List Int) (ko vo : Option Addr) (m ck cv : Nat) (Kr Vr : List (List Int)) (wv : World) (hb : BkAt wv D H b L) h1' h2' h3' h4' h5' h6' h7' h8' h9' => one_any Vo D Hd H' H Ly b L xo cx Xr ko vo m ck cv Kr Vr wv h1' hb h2' h3' h4' h5' h6' h7' h8' h9' h1 h2 g1 g2 hd hH
  have siz := bk_size b
  unfold cfgC at HO ⊢
  generalize hbc : b.cells = bc at *
  have X0 := blk_new w 41 #[.int .i64 Vo, .int .i64 (D : Int), .int .i64 (Hd : Int), .int .i64 H', .int .i64 Ly]
  have B0 : Below w.heap.size w (w.alloc (.cells #[.int .i64 Vo, .int .i64 (D : Int), .int .i64 (Hd : Int), .int .i64 H', .int .i64 Ly] 41)) := (Below.refl _ _).alloc (Nat.le_refl _) _
  have s0 : (w.alloc (.cells #[.int .i64 Vo, .int .i64 (D : Int), .int .i64 (Hd : Int), .int .i64 H', .int .i64 Ly] 41)).heap.size = w.heap.size + 1 := by simp
  generalize hw0 : w.alloc (.cells #[.int .i64 Vo, .int .i64 (D : Int), .int .i64 (Hd : Int), .int .i64 H', .int .i64 Ly] 41) = w0 at *
  have X1 := blk_new w0 67 bc
  have B1 : Below w0.heap.size w0 (w0.alloc (.cells bc 67)) := (Below.refl _ _).alloc (Nat.le_refl _) _
  have s1 : (w0.alloc (.cells bc 67)).heap.size = w0.heap.size + 1 := by simp
  rw [s0] at X1 s1
  generalize hw1 : w0.alloc (.cells bc 67) = w1 at *
  replace X0 := X0.below B1
  replace B1 := below_then B0 B1
  have hmk := run_make_row' (P := Tryd.prog) 60 42 (.slice none 0 0) 24 Tryd.underlying60 Tryd.infoRow rfl .i64 .i64 n (by omega) (by omega)
  go_enter Tryd.func34, Tryd.ntmps34
  go_upto_region 1 with fail
  clear hw0 hw1 B0 s0
  go_cut [6, 7, 8] from 11 (fun s6 s7 s8 wc => ∃ gm gk gv, s6 = .slice (some ⟨gm, 0, none⟩) n n ∧ s7 = .slice (some ⟨gk, 0, none⟩) n n ∧ s8 = .slice (some ⟨gv, 0, none⟩) n n ∧ LI w wc #[.int .i64 Vo, .int .i64 (D : Int), .int .i64 (Hd : Int), .int .i64 H', .int .i64 Ly] bc gm gk gv n 0 (madeR L D H Hd R) (keysR L D R) (valsR L D R))
  case first =>
    replace X0 := X0.below ((Below.refl _ _).drew)
    replace X1 := X1.below ((Below.refl _ _).drew)
    replace B1 := B1.drew
    replace s1 : w1.drew.heap.size = w.heap.size + 1 + 1 := s1
    refine wp_region_held_drew (S := fun _ => True) (by kernel_rfl) (trivial) (fun hHeld => ?_)
    generalize hA : w1.drew = wA at *
    clear hA
    refine wpAnyH_take (i := 0) (v := (.slice ro n c)) rfl (by kernel_rfl) (by kernel_rfl) (by kernel_rfl) (fun _ _ _ h => h) (Or.inl ⟨by rfl, ?_⟩) (by assumption) ?_
    · intro w' hSw
      go_simp
    simp only [List.getElem_toArray, List.getElem_cons_zero, Act.put, List.setIfInBounds_toArray, List.set_cons_zero, List.set_cons_succ]
    refine wpAnyH_take (i := 1) (v := (.int .i64 (n : Int))) rfl (by kernel_rfl) (by kernel_rfl) (by kernel_rfl) (fun _ _ _ h => h) (Or.inl ⟨by rfl, ?_⟩) (by assumption) ?_
    · intro w' hSw
      go_simp
    simp only [List.getElem_toArray, List.getElem_cons_succ, List.getElem_cons_zero, Act.put, List.setIfInBounds_toArray, List.set_cons_zero, List.set_cons_succ]
    refine wpAnyH_take (i := 3) (v := (.slice ro n c)) rfl (by kernel_rfl) (by kernel_rfl) (by kernel_rfl) (fun _ _ _ h => h) (Or.inl ⟨by rfl, ?_⟩) (by assumption) ?_
    · intro w' hSw
      go_simp
    simp only [List.getElem_toArray, List.getElem_cons_succ, List.getElem_cons_zero, Act.put, List.setIfInBounds_toArray, List.set_cons_zero, List.set_cons_succ]
    refine wpAnyH_take (i := 4) (v := (.int .i64 (n : Int))) rfl (by kernel_rfl) (by kernel_rfl) (by kernel_rfl) (fun _ _ _ h => h) (Or.inl ⟨by rfl, ?_⟩) (by assumption) ?_
    · intro w' hSw
      go_simp
    simp only [List.getElem_toArray, List.getElem_cons_succ, List.getElem_cons_zero, Act.put, List.setIfInBounds_toArray, List.set_cons_zero, List.set_cons_succ]
    refine wpAnyH_take (i := 6) (v := (.slice ro n c)) rfl (by kernel_rfl) (by kernel_rfl) (by kernel_rfl) (fun _ _ _ h => h) (Or.inl ⟨by rfl, ?_⟩) (by assumption) ?_
    · intro w' hSw
      go_simp
    simp only [List.getElem_toArray, List.getElem_cons_succ, List.getElem_cons_zero, Act.put, List.setIfInBounds_toArray, List.set_cons_zero, List.set_cons_succ]
    refine wpAnyH_take (i := 7) (v := (.int .i64 (n : Int))) rfl (by kernel_rfl) (by kernel_rfl) (by kernel_rfl) (fun _ _ _ h => h) (Or.inl ⟨by rfl, ?_⟩) (by assumption) ?_
    · intro w' hSw
      go_simp
    simp only [List.getElem_toArray, List.getElem_cons_succ, List.getElem_cons_zero, Act.put, List.setIfInBounds_toArray, List.set_cons_zero, List.set_cons_succ]
    refine wpAnyH_ready (rs := [2, 5, 8]) (by kernel_rfl) (by simp) ?_
    refine AllReadyH.cons rfl (fun Kc hKc => ?_) (AllReadyH.cons rfl (fun Kc hKc => ?_) (AllReadyH.cons rfl (fun Kc hKc => ?_) AllReadyH.nil))
    · simp only [List.getElem_toArray, List.getElem_cons_succ, List.getElem_cons_zero]
      rw [if_pos (by rfl)]
      go_wp2_with fail
      have NM := fun p => fp_made wA n p (madeR L D H Hd R)
      have EM1 : Below wA.heap.size wA (wA.alloc (.cells (madeCells #[.slice none 0 0] n) 42)) := (Below.refl _ _).alloc (Nat.le_refl _) _
      have zwM1 : (wA.alloc (.cells (madeCells #[.slice none 0 0] n) 42)).heap.size = wA.heap.size + 1 := by simp
      generalize hn1 : wA.alloc (.cells (madeCells #[.slice none 0 0] n) 42) = wM1 at *
      refine hKc.out _ _ trivial (fun hHeld => ?_)
      clear hKc Kc hn1
      replace X0 := X0.below EM1
      replace X1 := X1.below EM1
      replace B1 := below_then B1 EM1
      refine wpAnyH_take (i := 9) (v := (.slice (some ⟨wA.heap.size, 0, none⟩) n n)) rfl (by kernel_rfl) (by kernel_rfl) (by kernel_rfl) (fun _ _ _ h => h) (Or.inl ⟨by rfl, ?_⟩) (by assumption) ?_
      · intro w' hSw
        go_simp
      simp only [List.getElem_toArray, List.getElem_cons_succ, List.getElem_cons_zero, Act.put, List.setIfInBounds_toArray, List.set_cons_zero, List.set_cons_succ]
      refine wpAnyH_ready (rs := [5, 8]) (by kernel_rfl) (by simp) ?_
      refine AllReadyH.cons rfl (fun Kc hKc => ?_) (AllReadyH.cons rfl (fun Kc hKc => ?_) AllReadyH.nil)
      · simp only [List.getElem_toArray, List.getElem_cons_succ, List.getElem_cons_zero]
        rw [if_pos (by rfl)]
        go_wp2_with fail
        have NK := fun p => fp_made wM1 n p (keysR L D R)
        have EM2 : Below wM1.heap.size wM1 (wM1.alloc (.cells (madeCells #[.slice none 0 0] n) 42)) := (Below.refl _ _).alloc (Nat.le_refl _) _
        have zwM2 : (wM1.alloc (.cells (madeCells #[.slice none 0 0] n) 42)).heap.size = wM1.heap.size + 1 := by simp
        generalize hn2 : wM1.alloc (.cells (madeCells #[.slice none 0 0] n) 42) = wM2 at *
        refine hKc.out _ _ trivial (fun hHeld => ?_)
        clear hKc Kc hn2
        replace X0 := X0.below EM2
        replace X1 := X1.below EM2
        replace B1 := below_then B1 EM2
        replace NM := fun p => (NM p).below EM2
        refine wpAnyH_take (i := 10) (v := (.slice (some ⟨wM1.heap.size, 0, none⟩) n n)) rfl (by kernel_rfl) (by kernel_rfl) (by kernel_rfl) (fun _ _ _ h => h) (Or.inl ⟨by rfl, ?_⟩) (by assumption) ?_
        · intro w' hSw
          go_simp
        simp only [List.getElem_toArray, List.getElem_cons_succ, List.getElem_cons_zero, Act.put, List.setIfInBounds_toArray, List.set_cons_zero, List.set_cons_succ]
        refine wpAnyH_ready (rs := [8]) (by kernel_rfl) (by simp) ?_
        refine AllReadyH.cons rfl (fun Kc hKc => ?_) AllReadyH.nil
        simp only [List.getElem_toArray, List.getElem_cons_succ, List.getElem_cons_zero]
        rw [if_pos (by rfl)]
        go_wp2_with fail
        have NV := fun p => fp_made wM2 n p (valsR L D R)
        have EM3 : Below wM2.heap.size wM2 (wM2.alloc (.cells (madeCells #[.slice none 0 0] n) 42)) := (Below.refl _ _).alloc (Nat.le_refl _) _
        have zwM3 : (wM2.alloc (.cells (madeCells #[.slice none 0 0] n) 42)).heap.size = wM2.heap.size + 1 := by simp
        generalize hn3 : wM2.alloc (.cells (madeCells #[.slice none 0 0] n) 42) = wM3 at *
        refine hKc.out _ _ trivial (fun hHeld => ?_)
        clear hKc Kc hn3
        replace X0 := X0.below EM3
        replace X1 := X1.below EM3
        replace B1 := below_then B1 EM3
        replace NM := fun p => (NM p).below EM3
        replace NK := fun p => (NK p).below EM3
        refine wpAnyH_take (i := 11) (v := (.slice (some ⟨wM2.heap.size, 0, none⟩) n n)) rfl (by kernel_rfl) (by kernel_rfl) (by kernel_rfl) (fun _ _ _ h => h) (Or.inl ⟨by rfl, ?_⟩) (by assumption) ?_
        · intro w' hSw
          go_simp
        simp only [List.getElem_toArray, List.getElem_cons_succ, List.getElem_cons_zero, Act.put, List.setIfInBounds_toArray, List.set_cons_zero, List.set_cons_succ]
        refine wpAnyH_done (by kernel_rfl) ?_ _
        go_wp2_with fail
        go_meet
        case rel =>
          refine ⟨wA.heap.size, wM1.heap.size, wM2.heap.size, rfl, rfl, rfl, ⟨X0, X1, NM _, NK _, NV _, by omega, B1⟩⟩
      · simp only [List.getElem_toArray, List.getElem_cons_succ, List.getElem_cons_zero]
        rw [if_pos (by rfl)]
        go_wp2_with fail
        have NV := fun p => fp_made wM1 n p (valsR L D R)
        have EM2 : Below wM1.heap.size wM1 (wM1.alloc (.cells (madeCells #[.slice none 0 0] n) 42)) := (Below.refl _ _).alloc (Nat.le_refl _) _
        have zwM2 : (wM1.alloc (.cells (madeCells #[.slice none 0 0] n) 42)).heap.size = wM1.heap.size + 1 := by simp
        generalize hn2 : wM1.alloc (.cells (madeCells #[.slice none 0 0] n) 42) = wM2 at *
        refine hKc.out _ _ trivial (fun hHeld => ?_)
        clear hKc Kc hn2
        replace X0 := X0.below EM2
        replace X1 := X1.below EM2
        replace B1 := below_then B1 EM2
        replace NM := fun p => (NM p).below EM2
        refine wpAnyH_ready (rs := [5]) (by kernel_rfl) (by simp) ?_
        refine AllReadyH.cons rfl (fun Kc hKc => ?_) AllReadyH.nil
        simp only [List.getElem_toArray, List.getElem_cons_succ, List.getElem_cons_zero]
        rw [if_pos (by rfl)]
        go_wp2_with fail
        have NK := fun p => fp_made wM2 n p (keysR L D R)
        have EM3 : Below wM2.heap.size wM2 (wM2.alloc (.cells (madeCells #[.slice none 0 0] n) 42)) := (Below.refl _ _).alloc (Nat.le_refl _) _
        have zwM3 : (wM2.alloc (.cells (madeCells #[.slice none 0 0] n) 42)).heap.size = wM2.heap.size + 1 := by simp
        generalize hn3 : wM2.alloc (.cells (madeCells #[.slice none 0 0] n) 42) = wM3 at *
        refine hKc.out _ _ trivial (fun hHeld => ?_)
        clear hKc Kc hn3
        replace X0 := X0.below EM3
        replace X1 := X1.below EM3
        replace B1 := below_then B1 EM3
        replace NM := fun p => (NM p).below EM3
        replace NV := fun p => (NV p).below EM3
        refine wpAnyH_take (i := 10) (v := (.slice (some ⟨wM2.heap.size, 0, none⟩) n n)) rfl (by kernel_rfl) (by kernel_rfl) (by kernel_rfl) (fun _ _ _ h => h) (Or.inl ⟨by rfl, ?_⟩) (by assumption) ?_
        · intro w' hSw
          go_simp
        simp only [List.getElem_toArray, List.getElem_cons_succ, List.getElem_cons_zero, Act.put, List.setIfInBounds_toArray, List.set_cons_zero, List.set_cons_succ]
        refine wpAnyH_take (i := 11) (v := (.slice (some ⟨wM1.heap.size, 0, none⟩) n n)) rfl (by kernel_rfl) (by kernel_rfl) (by kernel_rfl) (fun _ _ _ h => h) (Or.inl ⟨by rfl, ?_⟩) (by assumption) ?_
        · intro w' hSw
          go_simp
        simp only [List.getElem_toArray, List.getElem_cons_succ, List.getElem_cons_zero, Act.put, List.setIfInBounds_toArray, List.set_cons_zero, List.set_cons_succ]
        refine wpAnyH_done (by kernel_rfl) ?_ _
        go_wp2_with fail
        go_meet
        case rel =>
          refine ⟨wA.heap.size, wM2.heap.size, wM1.heap.size, rfl, rfl, rfl, ⟨X0, X1, NM _, NK _, NV _, by omega, B1⟩⟩
    · simp only [List.getElem_toArray, List.getElem_cons_succ, List.getElem_cons_zero]
      rw [if_pos (by rfl)]
      go_wp2_with fail
      have NK := fun p => fp_made wA n p (keysR L D R)
      have EM1 : Below wA.heap.size wA (wA.alloc (.cells (madeCells #[.slice none 0 0] n) 42)) := (Below.refl _ _).alloc (Nat.le_refl _) _
      have zwM1 : (wA.alloc (.cells (madeCells #[.slice none 0 0] n) 42)).heap.size = wA.heap.size + 1 := by simp
      generalize hn1 : wA.alloc (.cells (madeCells #[.slice none 0 0] n) 42) = wM1 at *
      refine hKc.out _ _ trivial (fun hHeld => ?_)
      clear hKc Kc hn1
      replace X0 := X0.below EM1
      replace X1 := X1.below EM1
      replace B1 := below_then B1 EM1
      refine wpAnyH_ready (rs := [2, 8]) (by kernel_rfl) (by simp) ?_
      refine AllReadyH.cons rfl (fun Kc hKc => ?_) (AllReadyH.cons rfl (fun Kc hKc => ?_) AllReadyH.nil)
      · simp only [List.getElem_toArray, List.getElem_cons_succ, List.getElem_cons_zero]
        rw [if_pos (by rfl)]
        go_wp2_with fail
        have NM := fun p => fp_made wM1 n p (madeR L D H Hd R)
        have EM2 : Below wM1.heap.size wM1 (wM1.alloc (.cells (madeCells #[.slice none 0 0] n) 42)) := (Below.refl _ _).alloc (Nat.le_refl _) _
        have zwM2 : (wM1.alloc (.cells (madeCells #[.slice none 0 0] n) 42)).heap.size = wM1.heap.size + 1 := by simp
        generalize hn2 : wM1.alloc (.cells (madeCells #[.slice none 0 0] n) 42) = wM2 at *
        refine hKc.out _ _ trivial (fun hHeld => ?_)
        clear hKc Kc hn2
        replace X0 := X0.below EM2
        replace X1 := X1.below EM2
        replace B1 := below_then B1 EM2
        replace NK := fun p => (NK p).below EM2
        refine wpAnyH_take (i := 9) (v := (.slice (some ⟨wM1.heap.size, 0, none⟩) n n)) rfl (by kernel_rfl) (by kernel_rfl) (by kernel_rfl) (fun _ _ _ h => h) (Or.inl ⟨by rfl, ?_⟩) (by assumption) ?_
        · intro w' hSw
          go_simp
        simp only [List.getElem_toArray, List.getElem_cons_succ, List.getElem_cons_zero, Act.put, List.setIfInBounds_toArray, List.set_cons_zero, List.set_cons_succ]
        refine wpAnyH_take (i := 10) (v := (.slice (some ⟨wA.heap.size, 0, none⟩) n n)) rfl (by kernel_rfl) (by kernel_rfl) (by kernel_rfl) (fun _ _ _ h => h) (Or.inl ⟨by rfl, ?_⟩) (by assumption) ?_
        · intro w' hSw
          go_simp
        simp only [List.getElem_toArray, List.getElem_cons_succ, List.getElem_cons_zero, Act.put, List.setIfInBounds_toArray, List.set_cons_zero, List.set_cons_succ]
        refine wpAnyH_ready (rs := [8]) (by kernel_rfl) (by simp) ?_
        refine AllReadyH.cons rfl (fun Kc hKc => ?_) AllReadyH.nil
        simp only [List.getElem_toArray, List.getElem_cons_succ, List.getElem_cons_zero]
        rw [if_pos (by rfl)]
        go_wp2_with fail
        have NV := fun p => fp_made wM2 n p (valsR L D R)
        have EM3 : Below wM2.heap.size wM2 (wM2.alloc (.cells (madeCells #[.slice none 0 0] n) 42)) := (Below.refl _ _).alloc (Nat.le_refl _) _
        have zwM3 : (wM2.alloc (.cells (madeCells #[.slice none 0 0] n) 42)).heap.size = wM2.heap.size + 1 := by simp
        generalize hn3 : wM2.alloc (.cells (madeCells #[.slice none 0 0] n) 42) = wM3 at *
        refine hKc.out _ _ trivial (fun hHeld => ?_)
        clear hKc Kc hn3
        replace X0 := X0.below EM3
        replace X1 := X1.below EM3
        replace B1 := below_then B1 EM3
        replace NK := fun p => (NK p).below EM3
        replace NM := fun p => (NM p).below EM3
        refine wpAnyH_take (i := 11) (v := (.slice (some ⟨wM2.heap.size, 0, none⟩) n n)) rfl (by kernel_rfl) (by kernel_rfl) (by kernel_rfl) (fun _ _ _ h => h) (Or.inl ⟨by rfl, ?_⟩) (by assumption) ?_
        · intro w' hSw
          go_simp
        simp only [List.getElem_toArray, List.getElem_cons_succ, List.getElem_cons_zero, Act.put, List.setIfInBounds_toArray, List.set_cons_zero, List.set_cons_succ]
        refine wpAnyH_done (by kernel_rfl) ?_ _
        go_wp2_with fail
        go_meet
        case rel =>
          refine ⟨wM1.heap.size, wA.heap.size, wM2.heap.size, rfl, rfl, rfl, ⟨X0, X1, NM _, NK _, NV _, by omega, B1⟩⟩
      · simp only [List.getElem_toArray, List.getElem_cons_succ, List.getElem_cons_zero]
        rw [if_pos (by rfl)]
        go_wp2_with fail
        have NV := fun p => fp_made wM1 n p (valsR L D R)
        have EM2 : Below wM1.heap.size wM1 (wM1.alloc (.cells (madeCells #[.slice none 0 0] n) 42)) := (Below.refl _ _).alloc (Nat.le_refl _) _
        have zwM2 : (wM1.alloc (.cells (madeCells #[.slice none 0 0] n) 42)).heap.size = wM1.heap.size + 1 := by simp
        generalize hn2 : wM1.alloc (.cells (madeCells #[.slice none 0 0] n) 42) = wM2 at *
        refine hKc.out _ _ trivial (fun hHeld => ?_)
        clear hKc Kc hn2
        replace X0 := X0.below EM2
        replace X1 := X1.below EM2
        replace B1 := below_then B1 EM2
        replace NK := fun p => (NK p).below EM2
        refine wpAnyH_ready (rs := [2]) (by kernel_rfl) (by simp) ?_
        refine AllReadyH.cons rfl (fun Kc hKc => ?_) AllReadyH.nil
        simp only [List.getElem_toArray, List.getElem_cons_succ, List.getElem_cons_zero]
        rw [if_pos (by rfl)]
        go_wp2_with fail
        have NM := fun p => fp_made wM2 n p (madeR L D H Hd R)
        have EM3 : Below wM2.heap.size wM2 (wM2.alloc (.cells (madeCells #[.slice none 0 0] n) 42)) := (Below.refl _ _).alloc (Nat.le_refl _) _
        have zwM3 : (wM2.alloc (.cells (madeCells #[.slice none 0 0] n) 42)).heap.size = wM2.heap.size + 1 := by simp
        generalize hn3 : wM2.alloc (.cells (madeCells #[.slice none 0 0] n) 42) = wM3 at *
        refine hKc.out _ _ trivial (fun hHeld => ?_)
        clear hKc Kc hn3
        replace X0 := X0.below EM3
        replace X1 := X1.below EM3
        replace B1 := below_then B1 EM3
        replace NK := fun p => (NK p).below EM3
        replace NV := fun p => (NV p).below EM3
        refine wpAnyH_take (i := 9) (v := (.slice (some ⟨wM2.heap.size, 0, none⟩) n n)) rfl (by kernel_rfl) (by kernel_rfl) (by kernel_rfl) (fun _ _ _ h => h) (Or.inl ⟨by rfl, ?_⟩) (by assumption) ?_
        · intro w' hSw
          go_simp
        simp only [List.getElem_toArray, List.getElem_cons_succ, List.getElem_cons_zero, Act.put, List.setIfInBounds_toArray, List.set_cons_zero, List.set_cons_succ]
        refine wpAnyH_take (i := 10) (v := (.slice (some ⟨wA.heap.size, 0, none⟩) n n)) rfl (by kernel_rfl) (by kernel_rfl) (by kernel_rfl) (fun _ _ _ h => h) (Or.inl ⟨by rfl, ?_⟩) (by assumption) ?_
        · intro w' hSw
          go_simp
        simp only [List.getElem_toArray, List.getElem_cons_succ, List.getElem_cons_zero, Act.put, List.setIfInBounds_toArray, List.set_cons_zero, List.set_cons_succ]
        refine wpAnyH_take (i := 11) (v := (.slice (some ⟨wM1.heap.size, 0, none⟩) n n)) rfl (by kernel_rfl) (by kernel_rfl) (by kernel_rfl) (fun _ _ _ h => h) (Or.inl ⟨by rfl, ?_⟩) (by assumption) ?_
        · intro w' hSw
          go_simp
        simp only [List.getElem_toArray, List.getElem_cons_succ, List.getElem_cons_zero, Act.put, List.setIfInBounds_toArray, List.set_cons_zero, List.set_cons_succ]
        refine wpAnyH_done (by kernel_rfl) ?_ _
        go_wp2_with fail
        go_meet
        case rel =>
          refine ⟨wM2.heap.size, wA.heap.size, wM1.heap.size, rfl, rfl, rfl, ⟨X0, X1, NM _, NK _, NV _, by omega, B1⟩⟩
    · simp only [List.getElem_toArray, List.getElem_cons_succ, List.getElem_cons_zero]
      rw [if_pos (by rfl)]
      go_wp2_with fail
      have NV := fun p => fp_made wA n p (valsR L D R)
      have EM1 : Below wA.heap.size wA (wA.alloc (.cells (madeCells #[.slice none 0 0] n) 42)) := (Below.refl _ _).alloc (Nat.le_refl _) _
      have zwM1 : (wA.alloc (.cells (madeCells #[.slice none 0 0] n) 42)).heap.size = wA.heap.size + 1 := by simp
      generalize hn1 : wA.alloc (.cells (madeCells #[.slice none 0 0] n) 42) = wM1 at *
      refine hKc.out _ _ trivial (fun hHeld => ?_)
      clear hKc Kc hn1
      replace X0 := X0.below EM1
      replace X1 := X1.below EM1
      replace B1 := below_then B1 EM1
      refine wpAnyH_ready (rs := [2, 5]) (by kernel_rfl) (by simp) ?_
      refine AllReadyH.cons rfl (fun Kc hKc => ?_) (AllReadyH.cons rfl (fun Kc hKc => ?_) AllReadyH.nil)
      · simp only [List.getElem_toArray, List.getElem_cons_succ, List.getElem_cons_zero]
        rw [if_pos (by rfl)]
        go_wp2_with fail
        have NM := fun p => fp_made wM1 n p (madeR L D H Hd R)
        have EM2 : Below wM1.heap.size wM1 (wM1.alloc (.cells (madeCells #[.slice none 0 0] n) 42)) := (Below.refl _ _).alloc (Nat.le_refl _) _
        have zwM2 : (wM1.alloc (.cells (madeCells #[.slice none 0 0] n) 42)).heap.size = wM1.heap.size + 1 := by simp
        generalize hn2 : wM1.alloc (.cells (madeCells #[.slice none 0 0] n) 42) = wM2 at *
        refine hKc.out _ _ trivial (fun hHeld => ?_)
        clear hKc Kc hn2
        replace X0 := X0.below EM2
        replace X1 := X1.below EM2
        replace B1 := below_then B1 EM2
        replace NV := fun p => (NV p).below EM2
        refine wpAnyH_take (i := 9) (v := (.slice (some ⟨wM1.heap.size, 0, none⟩) n n)) rfl (by kernel_rfl) (by kernel_rfl) (by kernel_rfl) (fun _ _ _ h => h) (Or.inl ⟨by rfl, ?_⟩) (by assumption) ?_
        · intro w' hSw
          go_simp
        simp only [List.getElem_toArray, List.getElem_cons_succ, List.getElem_cons_zero, Act.put, List.setIfInBounds_toArray, List.set_cons_zero, List.set_cons_succ]
        refine wpAnyH_ready (rs := [5]) (by kernel_rfl) (by simp) ?_
        refine AllReadyH.cons rfl (fun Kc hKc => ?_) AllReadyH.nil
        simp only [List.getElem_toArray, List.getElem_cons_succ, List.getElem_cons_zero]
        rw [if_pos (by rfl)]
        go_wp2_with fail
        have NK := fun p => fp_made wM2 n p (keysR L D R)
        have EM3 : Below wM2.heap.size wM2 (wM2.alloc (.cells (madeCells #[.slice none 0 0] n) 42)) := (Below.refl _ _).alloc (Nat.le_refl _) _
        have zwM3 : (wM2.alloc (.cells (madeCells #[.slice none 0 0] n) 42)).heap.size = wM2.heap.size + 1 := by simp
        generalize hn3 : wM2.alloc (.cells (madeCells #[.slice none 0 0] n) 42) = wM3 at *
        refine hKc.out _ _ trivial (fun hHeld => ?_)
        clear hKc Kc hn3
        replace X0 := X0.below EM3
        replace X1 := X1.below EM3
        replace B1 := below_then B1 EM3
        replace NV := fun p => (NV p).below EM3
        replace NM := fun p => (NM p).below EM3
        refine wpAnyH_take (i := 10) (v := (.slice (some ⟨wM2.heap.size, 0, none⟩) n n)) rfl (by kernel_rfl) (by kernel_rfl) (by kernel_rfl) (fun _ _ _ h => h) (Or.inl ⟨by rfl, ?_⟩) (by assumption) ?_
        · intro w' hSw
          go_simp
        simp only [List.getElem_toArray, List.getElem_cons_succ, List.getElem_cons_zero, Act.put, List.setIfInBounds_toArray, List.set_cons_zero, List.set_cons_succ]
        refine wpAnyH_take (i := 11) (v := (.slice (some ⟨wA.heap.size, 0, none⟩) n n)) rfl (by kernel_rfl) (by kernel_rfl) (by kernel_rfl) (fun _ _ _ h => h) (Or.inl ⟨by rfl, ?_⟩) (by assumption) ?_
        · intro w' hSw
          go_simp
        simp only [List.getElem_toArray, List.getElem_cons_succ, List.getElem_cons_zero, Act.put, List.setIfInBounds_toArray, List.set_cons_zero, List.set_cons_succ]
        refine wpAnyH_done (by kernel_rfl) ?_ _
        go_wp2_with fail
        go_meet
        case rel =>
          refine ⟨wM1.heap.size, wM2.heap.size, wA.heap.size, rfl, rfl, rfl, ⟨X0, X1, NM _, NK _, NV _, by omega, B1⟩⟩
      · simp only [List.getElem_toArray, List.getElem_cons_succ, List.getElem_cons_zero]
        rw [if_pos (by rfl)]
        go_wp2_with fail
        have NK := fun p => fp_made wM1 n p (keysR L D R)
        have EM2 : Below wM1.heap.size wM1 (wM1.alloc (.cells (madeCells #[.slice none 0 0] n) 42)) := (Below.refl _ _).alloc (Nat.le_refl _) _
        have zwM2 : (wM1.alloc (.cells (madeCells #[.slice none 0 0] n) 42)).heap.size = wM1.heap.size + 1 := by simp
        generalize hn2 : wM1.alloc (.cells (madeCells #[.slice none 0 0] n) 42) = wM2 at *
        refine hKc.out _ _ trivial (fun hHeld => ?_)
        clear hKc Kc hn2
        replace X0 := X0.below EM2
        replace X1 := X1.below EM2
        replace B1 := below_then B1 EM2
        replace NV := fun p => (NV p).below EM2
        refine wpAnyH_ready (rs := [2]) (by kernel_rfl) (by simp) ?_
        refine AllReadyH.cons rfl (fun Kc hKc => ?_) AllReadyH.nil
        simp only [List.getElem_toArray, List.getElem_cons_succ, List.getElem_cons_zero]
        rw [if_pos (by rfl)]
        go_wp2_with fail
        have NM := fun p => fp_made wM2 n p (madeR L D H Hd R)
        have EM3 : Below wM2.heap.size wM2 (wM2.alloc (.cells (madeCells #[.slice none 0 0] n) 42)) := (Below.refl _ _).alloc (Nat.le_refl _) _
        have zwM3 : (wM2.alloc (.cells (madeCells #[.slice none 0 0] n) 42)).heap.size = wM2.heap.size + 1 := by simp
        generalize hn3 : wM2.alloc (.cells (madeCells #[.slice none 0 0] n) 42) = wM3 at *
        refine hKc.out _ _ trivial (fun hHeld => ?_)
        clear hKc Kc hn3
        replace X0 := X0.below EM3
        replace X1 := X1.below EM3
        replace B1 := below_then B1 EM3
        replace NV := fun p => (NV p).below EM3
        replace NK := fun p => (NK p).below EM3
        refine wpAnyH_take (i := 9) (v := (.slice (some ⟨wM2.heap.size, 0, none⟩) n n)) rfl (by kernel_rfl) (by kernel_rfl) (by kernel_rfl) (fun _ _ _ h => h) (Or.inl ⟨by rfl, ?_⟩) (by assumption) ?_
        · intro w' hSw
          go_simp
        simp only [List.getElem_toArray, List.getElem_cons_succ, List.getElem_cons_zero, Act.put, List.setIfInBounds_toArray, List.set_cons_zero, List.set_cons_succ]
        refine wpAnyH_take (i := 10) (v := (.slice (some ⟨wM1.heap.size, 0, none⟩) n n)) rfl (by kernel_rfl) (by kernel_rfl) (by kernel_rfl) (fun _ _ _ h => h) (Or.inl ⟨by rfl, ?_⟩) (by assumption) ?_
        · intro w' hSw
          go_simp
        simp only [List.getElem_toArray, List.getElem_cons_succ, List.getElem_cons_zero, Act.put, List.setIfInBounds_toArray, List.set_cons_zero, List.set_cons_succ]
        refine wpAnyH_take (i := 11) (v := (.slice (some ⟨wA.heap.size, 0, none⟩) n n)) rfl (by kernel_rfl) (by kernel_rfl) (by kernel_rfl) (fun _ _ _ h => h) (Or.inl ⟨by rfl, ?_⟩) (by assumption) ?_
        · intro w' hSw
          go_simp
        simp only [List.getElem_toArray, List.getElem_cons_succ, List.getElem_cons_zero, Act.put, List.setIfInBounds_toArray, List.set_cons_zero, List.set_cons_succ]
        refine wpAnyH_done (by kernel_rfl) ?_ _
        go_wp2_with fail
        go_meet
        case rel =>
          refine ⟨wM2.heap.size, wM1.heap.size, wA.heap.size, rfl, rfl, rfl, ⟨X0, X1, NM _, NK _, NV _, by omega, B1⟩⟩
  case rest =>
    obtain ⟨gm, gk, gv, rfl, rfl, rfl, G0⟩ := hcut
    clear X0 X1 B1 s1 hmk
    go_wp2_with fail
    go_loopg [22] n (fun r i wr => ∃ t : Nat, t ≤ n ∧ r = n - t ∧ i = .int .i64 t ∧ LI w wr #[.int .i64 Vo, .int .i64 (D : Int), .int .i64 (Hd : Int), .int .i64 H', .int .i64 Ly] bc gm gk gv n t (madeR L D H Hd R) (keysR L D R) (valsR L D R))
    case atStart => exact ⟨0, by omega, by omega, rfl, G0⟩
    case round =>
      obtain ⟨t, ht, rfl, rfl, G⟩ := hrel
      clear G0
      by_cases hlt : t < n
      · obtain ⟨xb, xo, rfl, hc⟩ := (HR.out wr G.kp).cells (by omega)
        obtain ⟨xr, xn, xc, hx, AX⟩ := hc t hlt
        obtain rfl : xn = D := by rw [← HL.out t hlt, AX.row.len]
        clear hc
        have ltm := G.m.lt
        have ltk := G.k.lt
        have ltv := G.v.lt
        have ne := G.ne
        have GY := G.below ((Below.refl _ _).drew)
        have AY := AX.below ((Below.refl _ _).drew)
        have KF := GY.k.front (by omega) (by rw [HK.out]; omega) (by omega)
        have VF := GY.v.front (by omega) (by rw [HV.out]; omega) (by omega)
        have kl : ∀ s, s < t → (rowOf ((keysR L xn R).take t) s).length = xn := fun s hs => by rw [rowOf_take hs, HKt.out s (by omega)]; exact apl_len _ _ _ _
        have vl : ∀ s, s < t → (rowOf ((valsR L xn R).take t) s).length = xn := fun s hs => by rw [rowOf_take hs, HVt.out s (by omega)]; exact apl_len _ _ _ _
        have tn : (t : Int) ≤ (n : Int) := by omega
        clear G AX
        go_wp2_with fail
        have hwA0 : wr.heap.size ≤ wr.drew.heap.size := Nat.le_refl _
        refine wp_region_held_drew (S := fun w' => Blk w' w.heap.size 41 #[.int .i64 Vo, .int .i64 (xn : Int), .int .i64 (Hd : Int), .int .i64 H', .int .i64 Ly] ∧ Blk w' (w.heap.size + 1) 67 bc) (by kernel_rfl) (⟨GY.x0, GY.x1⟩) (fun hHeld => ?_)
        generalize hA : wr.drew = wA at *
        clear hA
        refine wpAnyH_take (i := 0) (v := (.slice (some ⟨gm, 0, none⟩) n n)) rfl (by kernel_rfl) (by kernel_rfl) (by kernel_rfl) (fun _ _ _ h => h) (Or.inl ⟨by rfl, ?_⟩) (by assumption) ?_
        · intro w' hSw
          go_simp
        simp only [List.getElem_toArray, List.getElem_cons_zero, Act.put, List.setIfInBounds_toArray, List.set_cons_zero, List.set_cons_succ]
        refine wpAnyH_take (i := 1) (v := (.int .i64 (t : Int))) rfl (by kernel_rfl) (by kernel_rfl) (by kernel_rfl) (fun _ _ _ h => h) (Or.inl ⟨by rfl, ?_⟩) (by assumption) ?_
        · intro w' hSw
          go_simp
        simp only [List.getElem_toArray, List.getElem_cons_succ, List.getElem_cons_zero, Act.put, List.setIfInBounds_toArray, List.set_cons_zero, List.set_cons_succ]
        refine wpAnyH_take (i := 2) (v := (.slice (some ⟨gk, 0, none⟩) n n)) rfl (by kernel_rfl) (by kernel_rfl) (by kernel_rfl) (fun _ _ _ h => h) (Or.inl ⟨by rfl, ?_⟩) (by assumption) ?_
        · intro w' hSw
          go_simp
        simp only [List.getElem_toArray, List.getElem_cons_succ, List.getElem_cons_zero, Act.put, List.setIfInBounds_toArray, List.set_cons_zero, List.set_cons_succ]
        refine wpAnyH_take (i := 3) (v := (.int .i64 (t : Int))) rfl (by kernel_rfl) (by kernel_rfl) (by kernel_rfl) (fun _ _ _ h => h) (Or.inl ⟨by rfl, ?_⟩) (by assumption) ?_
        · intro w' hSw
          go_simp
        simp only [List.getElem_toArray, List.getElem_cons_succ, List.getElem_cons_zero, Act.put, List.setIfInBounds_toArray, List.set_cons_zero, List.set_cons_succ]
        refine wpAnyH_take (i := 4) (v := (.slice (some ⟨gv, 0, none⟩) n n)) rfl (by kernel_rfl) (by kernel_rfl) (by kernel_rfl) (fun _ _ _ h => h) (Or.inl ⟨by rfl, ?_⟩) (by assumption) ?_
        · intro w' hSw
          go_simp
        simp only [List.getElem_toArray, List.getElem_cons_succ, List.getElem_cons_zero, Act.put, List.setIfInBounds_toArray, List.set_cons_zero, List.set_cons_succ]
        refine wpAnyH_take (i := 5) (v := (.int .i64 (t : Int))) rfl (by kernel_rfl) (by kernel_rfl) (by kernel_rfl) (fun _ _ _ h => h) (Or.inl ⟨by rfl, ?_⟩) (by assumption) ?_
        · intro w' hSw
          go_simp
        simp only [List.getElem_toArray, List.getElem_cons_succ, List.getElem_cons_zero, Act.put, List.setIfInBounds_toArray, List.set_cons_zero, List.set_cons_succ]
        refine wpAnyH_take (i := 6) (v := (.agg #[.int .i64 Vo, .int .i64 (xn : Int), .int .i64 (Hd : Int), .int .i64 H', .int .i64 Ly])) rfl (by kernel_rfl) (by kernel_rfl) (by kernel_rfl) (fun _ _ _ h => h) (Or.inl ⟨by rfl, ?_⟩) (by assumption) ?_
        · intro w' hSw
          have cc0 : w'.cell? ⟨w.heap.size, 0, none⟩ = some (.int .i64 Vo) := hSw.1.cell 0 rfl
          have cc1 : w'.cell? ⟨w.heap.size, 1, none⟩ = some (.int .i64 (xn : Int)) := hSw.1.cell 1 rfl
          have cc2 : w'.cell? ⟨w.heap.size, 2, none⟩ = some (.int .i64 (Hd : Int)) := hSw.1.cell 2 rfl
          have cc3 : w'.cell? ⟨w.heap.size, 3, none⟩ = some (.int .i64 H') := hSw.1.cell 3 rfl
          have cc4 : w'.cell? ⟨w.heap.size, 4, none⟩ = some (.int .i64 Ly) := hSw.1.cell 4 rfl
          go_simp
        simp only [List.getElem_toArray, List.getElem_cons_succ, List.getElem_cons_zero, Act.put, List.setIfInBounds_toArray, List.set_cons_zero, List.set_cons_succ]
        refine wpAnyH_take (i := 7) (v := (.agg bc)) rfl (by kernel_rfl) (by kernel_rfl) (by kernel_rfl) (fun _ _ _ h => h) (Or.inl ⟨by rfl, ?_⟩) (by assumption) ?_
        · intro w' hSw
          exact yield_row 67 _ rfl (w.heap.size + 1) rfl bc (load_b hSw.2 siz)
        simp only [List.getElem_toArray, List.getElem_cons_succ, List.getElem_cons_zero, Act.put, List.setIfInBounds_toArray, List.set_cons_zero, List.set_cons_succ]
        refine wpAnyH_take (i := 8) (v := (.slice xr xn xc)) rfl (by kernel_rfl) (by kernel_rfl) (by kernel_rfl) (fun _ _ _ h => h) (Or.inl ⟨by rfl, ?_⟩) (by assumption) ?_
        · intro w' hSw
          go_simp
        simp only [List.getElem_toArray, List.getElem_cons_succ, List.getElem_cons_zero, Act.put, List.setIfInBounds_toArray, List.set_cons_zero, List.set_cons_succ]
        refine wpAnyH_take (i := 9) (v := (.slice (some ⟨gk, 0, none⟩) n n)) rfl (by kernel_rfl) (by kernel_rfl) (by kernel_rfl) (fun _ _ _ h => h) (Or.inl ⟨by rfl, ?_⟩) (by assumption) ?_
        · intro w' hSw
          go_simp
        simp only [List.getElem_toArray, List.getElem_cons_succ, List.getElem_cons_zero, Act.put, List.setIfInBounds_toArray, List.set_cons_zero, List.set_cons_succ]
        refine wpAnyH_take (i := 10) (v := (.int .i64 (t : Int))) rfl (by kernel_rfl) (by kernel_rfl) (by kernel_rfl) (fun _ _ _ h => h) (Or.inl ⟨by rfl, ?_⟩) (by assumption) ?_
        · intro w' hSw
          go_simp
        simp only [List.getElem_toArray, List.getElem_cons_succ, List.getElem_cons_zero, Act.put, List.setIfInBounds_toArray, List.set_cons_zero, List.set_cons_succ]
        refine wpAnyH_take (i := 11) (v := (.slice (some ⟨gk, 0, none⟩) t n)) rfl (by kernel_rfl) (by kernel_rfl) (by kernel_rfl) (fun _ _ _ h => h) (Or.inl ⟨by rfl, ?_⟩) (by assumption) ?_
        · intro w' hSw
          go_simp
        simp only [List.getElem_toArray, List.getElem_cons_succ, List.getElem_cons_zero, Act.put, List.setIfInBounds_toArray, List.set_cons_zero, List.set_cons_succ]
        refine wpAnyH_take (i := 12) (v := (.slice (some ⟨gv, 0, none⟩) n n)) rfl (by kernel_rfl) (by kernel_rfl) (by kernel_rfl) (fun _ _ _ h => h) (Or.inl ⟨by rfl, ?_⟩) (by assumption) ?_
        · intro w' hSw
          go_simp
        simp only [List.getElem_toArray, List.getElem_cons_succ, List.getElem_cons_zero, Act.put, List.setIfInBounds_toArray, List.set_cons_zero, List.set_cons_succ]
        refine wpAnyH_take (i := 13) (v := (.int .i64 (t : Int))) rfl (by kernel_rfl) (by kernel_rfl) (by kernel_rfl) (fun _ _ _ h => h) (Or.inl ⟨by rfl, ?_⟩) (by assumption) ?_
        · intro w' hSw
          go_simp
        simp only [List.getElem_toArray, List.getElem_cons_succ, List.getElem_cons_zero, Act.put, List.setIfInBounds_toArray, List.set_cons_zero, List.set_cons_succ]
        refine wpAnyH_take (i := 14) (v := (.slice (some ⟨gv, 0, none⟩) t n)) rfl (by kernel_rfl) (by kernel_rfl) (by kernel_rfl) (fun _ _ _ h => h) (Or.inl ⟨by rfl, ?_⟩) (by assumption) ?_
        · intro w' hSw
          go_simp
        simp only [List.getElem_toArray, List.getElem_cons_succ, List.getElem_cons_zero, Act.put, List.setIfInBounds_toArray, List.set_cons_zero, List.set_cons_succ]
        refine wpAnyH_ready (rs := [15]) (by kernel_rfl) (by simp) ?_
        refine AllReadyH.cons rfl (fun Kc hKc => ?_) AllReadyH.nil
        simp only [List.getElem_toArray, List.getElem_cons_succ, List.getElem_cons_zero]
        rw [if_pos (by rfl)]
        go_wp2_with fail
        refine (HO _ _ (rowOf R t) _ _ _ _ _ ((keysR L xn R).take t) ((valsR L xn R).take t) _ (HB.out _ GY.kp) (HT.out _ GY.kp) AY KF VF (fun h => by cases h) (fun h => by cases h) kl vl (by omega)).mono ?_
        rintro e w9 ⟨o1, o2, o3, rfl, F1, F2, F3, B9⟩
        have GZ := GY.below B9
        go_wp2_with fail
        refine hKc.out _ _ (⟨GZ.x0, GZ.x1⟩) (fun hHeld => ?_)
        clear hKc Kc
        refine wpAnyH_take (i := 16) (v := (.tuple #[.slice (some ⟨o1, 0, none⟩) xn xn, .slice (some ⟨o2, 0, none⟩) xn xn, .slice (some ⟨o3, 0, none⟩) xn xn])) rfl (by kernel_rfl) (by kernel_rfl) (by kernel_rfl) (fun _ _ _ h => h) (Or.inl ⟨by rfl, ?_⟩) (by assumption) ?_
        · intro w' hSw
          go_simp
        simp only [List.getElem_toArray, List.getElem_cons_succ, List.getElem_cons_zero, Act.put, List.setIfInBounds_toArray, List.set_cons_zero, List.set_cons_succ]
        refine wpAnyH_take (i := 17) (v := (.slice (some ⟨o1, 0, none⟩) xn xn)) rfl (by kernel_rfl) (by kernel_rfl) (by kernel_rfl) (fun _ _ _ h => h) (Or.inl ⟨by rfl, ?_⟩) (by assumption) ?_
        · intro w' hSw
          go_simp
        simp only [List.getElem_toArray, List.getElem_cons_succ, List.getElem_cons_zero, Act.put, List.setIfInBounds_toArray, List.set_cons_zero, List.set_cons_succ]
        refine wpAnyH_take (i := 18) (v := (.slice (some ⟨o2, 0, none⟩) xn xn)) rfl (by kernel_rfl) (by kernel_rfl) (by kernel_rfl) (fun _ _ _ h => h) (Or.inl ⟨by rfl, ?_⟩) (by assumption) ?_
        · intro w' hSw
          go_simp
        simp only [List.getElem_toArray, List.getElem_cons_succ, List.getElem_cons_zero, Act.put, List.setIfInBounds_toArray, List.set_cons_zero, List.set_cons_succ]
        refine wpAnyH_take (i := 19) (v := (.slice (some ⟨o3, 0, none⟩) xn xn)) rfl (by kernel_rfl) (by kernel_rfl) (by kernel_rfl) (fun _ _ _ h => h) (Or.inl ⟨by rfl, ?_⟩) (by assumption) ?_
        · intro w' hSw
          go_simp
        simp only [List.getElem_toArray, List.getElem_cons_succ, List.getElem_cons_zero, Act.put, List.setIfInBounds_toArray, List.set_cons_zero, List.set_cons_succ]
        refine wpAnyH_take (i := 20) (v := (.pointer (some ⟨gm, t, none⟩))) rfl (by kernel_rfl) (by kernel_rfl) (by kernel_rfl) (fun _ _ _ h => h) (Or.inl ⟨by rfl, ?_⟩) (by assumption) ?_
        · intro w' hSw
          go_simp
        simp only [List.getElem_toArray, List.getElem_cons_succ, List.getElem_cons_zero, Act.put, List.setIfInBounds_toArray, List.set_cons_zero, List.set_cons_succ]
        clear hHeld
        have f1b := F1.base
        have f2b := F2.base
        have f3b := F3.base
        have N1 : Hangs (offL w gm gk gv) w9 fun w => Arg w (some ⟨o1, 0, none⟩) xn xn (rowOf (madeR L xn H Hd R) t) := by
          rw [HMt.out t hlt]
          exact (F1.hangs.mono fun b _ e => by subst e; exact ⟨by omega, by omega, by omega, by omega⟩).imp fun _ h => h.arg
        have N2 : Hangs (offL w gm gk gv) w9 fun w => Arg w (some ⟨o2, 0, none⟩) xn xn (rowOf (keysR L xn R) t) := by
          rw [HKt.out t hlt]
          exact (F2.hangs.mono fun b _ e => by subst e; exact ⟨by omega, by omega, by omega, by omega⟩).imp fun _ h => h.arg
        have N3 : Hangs (offL w gm gk gv) w9 fun w => Arg w (some ⟨o3, 0, none⟩) xn xn (rowOf (valsR L xn R) t) := by
          rw [HVt.out t hlt]
          exact (F3.hangs.mono fun b _ e => by subst e; exact ⟨by omega, by omega, by omega, by omega⟩).imp fun _ h => h.arg
        have GN := GZ.next hlt N1 N2 N3
        have pm : ¬ offL w gm gk gv gm := fun h => h.2.1 rfl
        have pk : ¬ offL w gm gk gv gk := fun h => h.2.2.1 rfl
        have K1 := GZ.k.far (a := ⟨gm, t, none⟩) (by show gm ≠ gk; omega) pm (.slice (some ⟨o1, 0, none⟩) xn xn)
        have V1 := (GZ.v.far (a := ⟨gm, t, none⟩) (by show gm ≠ gv; omega) pm (.slice (some ⟨o1, 0, none⟩) xn xn)).far (a := ⟨gk, t, none⟩) (by show gk ≠ gv; omega) pk (.slice (some ⟨o2, 0, none⟩) xn xn)
        have fz1 := GZ.m.frozen t
        obtain ⟨u1, cu1⟩ := GZ.m.cell hlt
        have fz2 := K1.frozen t
        obtain ⟨u2, cu2⟩ := K1.cell hlt
        have fz3 := V1.frozen t
        obtain ⟨u3, cu3⟩ := V1.cell hlt
        have Q1 : Blk (w9.setCell ⟨gm, t, none⟩ (.slice (some ⟨o1, 0, none⟩) xn xn)) w.heap.size 41 #[.int .i64 Vo, .int .i64 (xn : Int), .int .i64 (Hd : Int), .int .i64 H', .int .i64 Ly] ∧ Blk (w9.setCell ⟨gm, t, none⟩ (.slice (some ⟨o1, 0, none⟩) xn xn)) (w.heap.size + 1) 67 bc := ⟨GZ.x0.other (by show _ ≠ gm; omega) _, GZ.x1.other (by show _ ≠ gm; omega) _⟩
        have Q2 : Blk ((w9.setCell ⟨gm, t, none⟩ (.slice (some ⟨o1, 0, none⟩) xn xn)).setCell ⟨gk, t, none⟩ (.slice (some ⟨o2, 0, none⟩) xn xn)) w.heap.size 41 #[.int .i64 Vo, .int .i64 (xn : Int), .int .i64 (Hd : Int), .int .i64 H', .int .i64 Ly] ∧ Blk ((w9.setCell ⟨gm, t, none⟩ (.slice (some ⟨o1, 0, none⟩) xn xn)).setCell ⟨gk, t, none⟩ (.slice (some ⟨o2, 0, none⟩) xn xn)) (w.heap.size + 1) 67 bc := ⟨Q1.1.other (by show _ ≠ gk; omega) _, Q1.2.other (by show _ ≠ gk; omega) _⟩
        clear K1 V1 N1 N2 N3 F1 F2 F3 f1b f2b f3b
        refine wpAnyH_ready (rs := [21]) (by kernel_rfl) (by simp) ?_
        refine AllReadyH.cons rfl (fun Kc hKc => ?_) AllReadyH.nil
        simp only [List.getElem_toArray, List.getElem_cons_succ, List.getElem_cons_zero]
        rw [if_pos (by rfl)]
        go_wp2_with fail
        refine hKc.out _ _ Q1 (fun hHeld => ?_)
        clear hKc Kc
        generalize hS1 : w9.setCell ⟨gm, t, none⟩ (.slice (some ⟨o1, 0, none⟩) xn xn) = wS1 at *
        refine wpAnyH_take (i := 22) (v := (.pointer (some ⟨gk, t, none⟩))) rfl (by kernel_rfl) (by kernel_rfl) (by kernel_rfl) (fun _ _ _ h => h) (Or.inl ⟨by rfl, ?_⟩) (by assumption) ?_
        · intro w' hSw
          go_simp
        simp only [List.getElem_toArray, List.getElem_cons_succ, List.getElem_cons_zero, Act.put, List.setIfInBounds_toArray, List.set_cons_zero, List.set_cons_succ]
        refine wpAnyH_ready (rs := [23]) (by kernel_rfl) (by simp) ?_
        refine AllReadyH.cons rfl (fun Kc hKc => ?_) AllReadyH.nil
        simp only [List.getElem_toArray, List.getElem_cons_succ, List.getElem_cons_zero]
        rw [if_pos (by rfl)]
        go_wp2_with fail
        refine hKc.out _ _ Q2 (fun hHeld => ?_)
        clear hKc Kc
        generalize hS2 : wS1.setCell ⟨gk, t, none⟩ (.slice (some ⟨o2, 0, none⟩) xn xn) = wS2 at *
        refine wpAnyH_take (i := 24) (v := (.pointer (some ⟨gv, t, none⟩))) rfl (by kernel_rfl) (by kernel_rfl) (by kernel_rfl) (fun _ _ _ h => h) (Or.inl ⟨by rfl, ?_⟩) (by assumption) ?_
        · intro w' hSw
          go_simp
        simp only [List.getElem_toArray, List.getElem_cons_succ, List.getElem_cons_zero, Act.put, List.setIfInBounds_toArray, List.set_cons_zero, List.set_cons_succ]
        refine wpAnyH_ready (rs := [25]) (by kernel_rfl) (by simp) ?_
        refine AllReadyH.cons rfl (fun Kc hKc => ?_) AllReadyH.nil
        simp only [List.getElem_toArray, List.getElem_cons_succ, List.getElem_cons_zero]
        rw [if_pos (by rfl)]
        go_wp2_with fail
        refine hKc.out _ _ ⟨GN.x0, GN.x1⟩ (fun hHeld => ?_)
        clear hKc Kc
        refine wpAnyH_done (by kernel_rfl) ?_ _
        go_wp2_with fail
        go_roundg (n - (t + 1))
        case measure => omega
        case rel => exact ⟨t + 1, by omega, rfl, by go_num, GN⟩
      · obtain rfl : t = n := by omega
        obtain ⟨vm, NM⟩ := G.m.whole HM.out (by omega) (B := w.heap.size) (fun b hb => by have := hb.1; omega) (by have := G.ne; omega)
        obtain ⟨vk, NK⟩ := G.k.whole HK.out (by omega) (B := w.heap.size) (fun b hb => by have := hb.1; omega) (by have := G.ne; omega)
        obtain ⟨vv, NV⟩ := G.v.whole HV.out (by omega) (B := w.heap.size) (fun b hb => by have := hb.1; omega) (by have := G.ne; omega)
        have KP := G.kp
        clear G
        go_wp2
        go_ret3
        exact ⟨gm, gk, gv, vm, vk, vv, rfl, NM, NK, NV, KP⟩
end Go.Proofs.YtmdjlaileakbeaaDoor
