/- Contracts of the program's functions, part 10 of 19: what each call returns and leaves of memory. -/
import Derived.Test.YtmdjlaileakbeaaGreatDoorPk7
import Derived.Test.YtmdjlaileakbeaaGreatDoorPk5
/- Package pass: layer: what a layer makes of rows, and the key and the value of each. -/
namespace Go.Proofs.YtmdjlaileakbeaaGreatDoor
open Go.ChangeShapes Go.WideShapes Go.ChangeAt Go.RowKit
def keysR (L : Lay) (D : Nat) (R : List (List Int)) : List (List Int) := R.map (keyR L D)
def valsR (L : Lay) (D : Nat) (R : List (List Int)) : List (List Int) := R.map (valR L D)
def madeR (L : Lay) (D H Hd : Nat) (R : List (List Int)) : List (List Int) := (List.range R.length).map fun i => oneR L D H Hd (rowOf R i) ((keysR L D R).take i) ((valsR L D R).take i) i
theorem keysR_at (L : Lay) (D : Nat) {R : List (List Int)} {t : Nat} (h : t < R.length) : rowOf (keysR L D R) t = keyR L D (rowOf R t) := by
  unfold rowOf keysR
  simp only [List.getD_eq_getElem?_getD, List.getElem?_map, List.getElem?_eq_getElem h]
  rfl
theorem valsR_at (L : Lay) (D : Nat) {R : List (List Int)} {t : Nat} (h : t < R.length) : rowOf (valsR L D R) t = valR L D (rowOf R t) := by
  unfold rowOf valsR
  simp only [List.getD_eq_getElem?_getD, List.getElem?_map, List.getElem?_eq_getElem h]
  rfl
theorem madeR_at (L : Lay) (D H Hd : Nat) {R : List (List Int)} {t : Nat} (h : t < R.length) : rowOf (madeR L D H Hd R) t = oneR L D H Hd (rowOf R t) ((keysR L D R).take t) ((valsR L D R).take t) t := by
  unfold madeR
  conv => lhs; unfold rowOf
  rw [List.getD_eq_getElem?_getD, List.getElem?_map, List.getElem?_range h]
  rfl
theorem rowOf_take {R : List (List Int)} {k t : Nat} (h : t < k) : rowOf (R.take k) t = rowOf R t := by
  unfold rowOf
  simp only [List.getD_eq_getElem?_getD, List.getElem?_take, if_pos h]
/-- Block g is filled up to place k with rows that hang on the blocks that p tells. -/
structure FP (w : World) (g m k : Nat) (p : Nat → Prop) (R : List (List Int)) : Prop where
  row : ∃ cs : Array Value, w.heap[g]? = some (.cells cs 24 (0, 0)) ∧ cs.size = m ∧ ∀ t, t < k → ∃ ro n c, cs[t]? = some (.slice ro n c) ∧ Hangs p w (fun w => Arg w ro n c (rowOf R t))
theorem FP.lt {w : World} {g m k : Nat} {p : Nat → Prop} {R : List (List Int)} (h : FP w g m k p R) : g < w.heap.size := by
  obtain ⟨cs, h1, _⟩ := h.row
  exact (Array.getElem?_eq_some_iff.1 h1).1
theorem FP.below {w w' : World} {g m k : Nat} {p : Nat → Prop} {R : List (List Int)} (h : FP w g m k p R) (hb : Below w.heap.size w w') : FP w' g m k p R := by
  have hl := h.lt
  obtain ⟨cs, h1, h2, h3⟩ := h.row
  exact ⟨cs, (hb.block g hl).trans h1, h2, fun t ht => let ⟨ro, n, c, e, N⟩ := h3 t ht; ⟨ro, n, c, e, N.below hb⟩⟩
theorem FP.frozen {w : World} {g m k : Nat} {p : Nat → Prop} {R : List (List Int)} (h : FP w g m k p R) (t : Nat) : w.frozen? ⟨g, t, none⟩ = false := by
  obtain ⟨cs, h1, _⟩ := h.row
  unfold World.frozen?; simp only [h1]; rfl
theorem FP.cell {w : World} {g m k : Nat} {p : Nat → Prop} {R : List (List Int)} (h : FP w g m k p R) {t : Nat} (ht : t < m) : ∃ v, w.cell? ⟨g, t, none⟩ = some v := by
  obtain ⟨cs, h1, h2, _⟩ := h.row
  refine ⟨cs[t]'(by omega), ?_⟩
  unfold World.cell?; simp only [h1]
  exact Array.getElem?_eq_getElem (by omega)
theorem FP.step {w : World} {g m k : Nat} {p : Nat → Prop} {R : List (List Int)} (h : FP w g m k p R) (hk : k < m) (hp : ¬ p g) {ro : Option Addr} {n c : Nat} (hA : Hangs p w fun w => Arg w ro n c (rowOf R k)) : FP (w.setCell ⟨g, k, none⟩ (.slice ro n c)) g m (k + 1) p R := by
  obtain ⟨cs, h1, h2, h3⟩ := h.row
  refine ⟨cs.setIfInBounds k (.slice ro n c), by simp [World.setCell, Array.getElem?_modify, h1], by simpa using h2, fun t ht => ?_⟩
  rw [Array.getElem?_setIfInBounds]
  by_cases e : k = t
  · subst e
    rw [if_pos rfl, if_pos (by omega)]
    exact ⟨ro, n, c, rfl, hA.set hp _⟩
  · rw [if_neg e]
    obtain ⟨ro', n', c', e2, N⟩ := h3 t (by omega)
    exact ⟨ro', n', c', e2, N.set hp _⟩
theorem FP.far {w : World} {g m k : Nat} {p : Nat → Prop} {R : List (List Int)} (h : FP w g m k p R) {a : Addr} (hg : a.block ≠ g) (hp : ¬ p a.block) (v : Value) : FP (w.setCell a v) g m k p R := by
  obtain ⟨cs, h1, h2, h3⟩ := h.row
  exact ⟨cs, (Below.heap_setCell _ _ _ _ (Ne.symm hg)).trans h1, h2, fun t ht => let ⟨ro, n, c, e, N⟩ := h3 t ht; ⟨ro, n, c, e, N.set hp _⟩⟩
theorem fp_made (w : World) (m : Nat) (p : Nat → Prop) (R : List (List Int)) : FP (w.alloc (.cells (madeCells #[.slice none 0 0] m) 24)) w.heap.size m 0 p R :=
  ⟨_, heap_alloc_new _ _, by simp [madeCells], fun t ht => by omega⟩
/-- The rows ahead of place k. -/
theorem FP.front {w : World} {g m k : Nat} {p : Nat → Prop} {R : List (List Int)} (h : FP w g m k p R) (hk : k ≤ m) (hl : m ≤ R.length) (hm : m ≤ 9223372036854775807) : GridAt w (some ⟨g, 0, none⟩) k (R.take k) := by
  obtain ⟨cs, h1, h2, h3⟩ := h.row
  refine ⟨by rw [List.length_take]; omega, by omega, fun _ => ⟨g, 0, rfl, fun t ht => ?_⟩⟩
  obtain ⟨ro, n, c, e, N⟩ := h3 t ht
  refine ⟨ro, n, c, ?_, by rw [rowOf_take ht]; exact N.now⟩
  rw [Nat.zero_add]
  unfold World.cell?
  simp only [h1]
  exact e
theorem FP.whole {w : World} {g m : Nat} {p : Nat → Prop} {R : List (List Int)} (h : FP w g m m p R) (hl : R.length = m) (hm : m ≤ 9223372036854775807) {B : Nat} (hp : ∀ b, p b → B ≤ b) (hB : B ≤ g) : ∃ vs, New B w fun w => GridV w (some ⟨g, 0, none⟩) m vs R := by
  have hlt := h.lt
  obtain ⟨cs, h1, hsz, h3⟩ := h.row
  refine ⟨cs.toList, fun w2 h2 => ?_⟩
  have hg := (h2 g hB hlt).trans h1
  refine ⟨⟨by simp [hsz, hl], fun t ht => ?_⟩, by simp [hsz], hm, fun _ => ⟨g, 0, rfl, fun j u hj => ?_⟩⟩
  · obtain ⟨ro, n, c, e, N⟩ := h3 t (by omega)
    exact ⟨ro, n, c, by simpa using e, N w2 fun b hb hb2 => h2 b (hp b hb) hb2⟩
  · rw [Nat.zero_add]
    unfold World.cell?
    simp only [hg]
    simpa using hj
def offL (w : World) (gm gk gv b : Nat) : Prop := w.heap.size + 1 < b ∧ b ≠ gm ∧ b ≠ gk ∧ b ≠ gv
/-- Within layer. -/
structure LI (w wr : World) (cfg bc : Array Value) (gm gk gv n t : Nat) (Rm Rk Rv : List (List Int)) : Prop where
  x0 : Blk wr w.heap.size 23 cfg
  x1 : Blk wr (w.heap.size + 1) 60 bc
  m : FP wr gm n t (offL w gm gk gv) Rm
  k : FP wr gk n t (offL w gm gk gv) Rk
  v : FP wr gv n t (offL w gm gk gv) Rv
  ne : w.heap.size + 1 < gm ∧ w.heap.size + 1 < gk ∧ w.heap.size + 1 < gv ∧ gm ≠ gk ∧ gm ≠ gv ∧ gk ≠ gv
  kp : Below w.heap.size w wr
theorem LI.below {w wr w' : World} {cfg bc : Array Value} {gm gk gv n t : Nat} {Rm Rk Rv : List (List Int)} (h : LI w wr cfg bc gm gk gv n t Rm Rk Rv) (hb : Below wr.heap.size wr w') : LI w w' cfg bc gm gk gv n t Rm Rk Rv :=
  ⟨h.x0.below hb, h.x1.below hb, h.m.below hb, h.k.below hb, h.v.below hb, h.ne, below_then h.kp hb⟩
theorem LI.next {w wr : World} {cfg bc : Array Value} {gm gk gv n t : Nat} {Rm Rk Rv : List (List Int)} (h : LI w wr cfg bc gm gk gv n t Rm Rk Rv) (ht : t < n) {o1 o2 o3 d1 d2 d3 e1 e2 e3 : Nat} (N1 : Hangs (offL w gm gk gv) wr fun w => Arg w (some ⟨o1, 0, none⟩) d1 e1 (rowOf Rm t)) (N2 : Hangs (offL w gm gk gv) wr fun w => Arg w (some ⟨o2, 0, none⟩) d2 e2 (rowOf Rk t)) (N3 : Hangs (offL w gm gk gv) wr fun w => Arg w (some ⟨o3, 0, none⟩) d3 e3 (rowOf Rv t)) :
    LI w (((wr.setCell ⟨gm, t, none⟩ (.slice (some ⟨o1, 0, none⟩) d1 e1)).setCell ⟨gk, t, none⟩ (.slice (some ⟨o2, 0, none⟩) d2 e2)).setCell ⟨gv, t, none⟩ (.slice (some ⟨o3, 0, none⟩) d3 e3)) cfg bc gm gk gv n (t + 1) Rm Rk Rv := by
  obtain ⟨f1, f2, f3, f4, f5, f6⟩ := h.ne
  have pm : ¬ offL w gm gk gv gm := fun h => h.2.1 rfl
  have pk : ¬ offL w gm gk gv gk := fun h => h.2.2.1 rfl
  have pv : ¬ offL w gm gk gv gv := fun h => h.2.2.2 rfl
  refine ⟨((h.x0.other (by show _ ≠ gm; omega) _).other (by show _ ≠ gk; omega) _).other (by show _ ≠ gv; omega) _, ((h.x1.other (by show _ ≠ gm; omega) _).other (by show _ ≠ gk; omega) _).other (by show _ ≠ gv; omega) _, ?_, ?_, ?_, h.ne, ?_⟩
  · exact ((h.m.step ht pm N1).far (by show gk ≠ gm; omega) pk _).far (by show gv ≠ gm; omega) pv _
  · exact ((h.k.far (by show gm ≠ gk; omega) pm _).step ht pk (N2.set pm _)).far (by show gv ≠ gk; omega) pv _
  · exact ((h.v.far (by show gm ≠ gv; omega) pm _).far (by show gk ≠ gv; omega) pk _).step ht pv ((N3.set pm _).set pk _)
  · exact ((h.kp.setCell (p := ⟨gm, t, none⟩) (by show w.heap.size ≤ gm; omega) _).setCell (p := ⟨gk, t, none⟩) (by show w.heap.size ≤ gk; omega) _).setCell (p := ⟨gv, t, none⟩) (by show w.heap.size ≤ gv; omega) _
set_option maxRecDepth 100000 in
set_option maxHeartbeats 1600000 in
theorem layer_any (Vo : Int) (D Hd : Nat) (H' : Int) (H : Nat) (Ly : Int) (b : Bk) (L : Lay) (ro : Option Addr) (n c : Nat) (R : List (List Int)) (w : World) (hT : Tab w) (hB : BkAt w D H b L) (hR : GridAt w ro n R) (hl : ∀ t, t < n → (rowOf R t).length = D) (hn : n ≤ 128) (h1 : 1 ≤ D) (h2 : D ≤ 32) (g1 : 1 ≤ Hd) (g2 : Hd ≤ 4) (hd : D % Hd = 0) (hH : H ≤ 128) :
   Calls Tryz.prog 46 #[.agg (cfgC Vo D Hd H' Ly), .agg b.cells, .slice ro n c] w fun e w' => ∃ gm gk gv vm vk vv, e = .returned (.tuple #[.slice (some ⟨gm, 0, none⟩) n n, .slice (some ⟨gk, 0, none⟩) n n, .slice (some ⟨gv, 0, none⟩) n n]) ∧ New w.heap.size w' (fun w => GridV w (some ⟨gm, 0, none⟩) n vm (madeR L D H Hd R)) ∧ New w.heap.size w' (fun w => GridV w (some ⟨gk, 0, none⟩) n vk (keysR L D R)) ∧ New w.heap.size w' (fun w => GridV w (some ⟨gv, 0, none⟩) n vv (valsR L D R)) ∧ Below w.heap.size w w' := by
  have rl := hR.len
  have HT : Hid (∀ wv, Below w.heap.size w wv → Tab wv) := fun wv hb => hT.next hb
  have HB : Hid (∀ wv, Below w.heap.size w wv → BkAt wv D H b L) := fun wv hb => hB.below hb
  have HR : Hid (∀ wv, Below w.heap.size w wv → GridAt wv ro n R) := fun wv hb => hR.below hb
  have HLR : Hid (R.length = n) := rl
  have HL : Hid (∀ t, t < n → (rowOf R t).length = D) := hl
  have HM : Hid ((madeR L D H Hd R).length = n) := by show _ = _; unfold madeR; simp [rl]
  have HK : Hid ((keysR L D R).length = n) := by show _ = _; unfold keysR; simp [rl]
  have HV : Hid ((valsR L D R).length = n) := by show _ = _; unfold valsR; simp [rl]
  have HMt : Hid (∀ t, t < n → rowOf (madeR L D H Hd R) t = oneR L D H Hd (rowOf R t) ((keysR L D R).take t) ((valsR L D R).take t) t) := fun t ht => madeR_at L D H Hd (by omega)
  have HKt : Hid (∀ t, t < n → rowOf (keysR L D R) t = keyR L D (rowOf R t)) := fun t ht => keysR_at L D (by omega)
  have HVt : Hid (∀ t, t < n → rowOf (valsR L D R) t = valR L D (rowOf R t)) := fun t ht => valsR_at L D (by omega)
  clear hT hB hR hl rl
  have HO := fun (xo : Option Addr) (cx : Nat) (Xr : List Int) (ko vo : Option Addr) (m ck cv : Nat) (Kr Vr : List (List Int)) (wv : World) (hb : BkAt wv D H b L) h1' h2' h3' h4' h5' h6' h7' h8' h9' => one_any Vo D Hd H' H Ly b L xo cx Xr ko vo m ck cv Kr Vr wv h1' hb h2' h3' h4' h5' h6' h7' h8' h9' h1 h2 g1 g2 hd hH
  have siz := bk_size b
  unfold cfgC at HO ⊢
  generalize hbc : b.cells = bc at *
  have X0 := blk_new w 23 #[.int .i64 Vo, .int .i64 (D : Int), .int .i64 (Hd : Int), .int .i64 H', .int .i64 Ly]
  have B0 : Below w.heap.size w (w.alloc (.cells #[.int .i64 Vo, .int .i64 (D : Int), .int .i64 (Hd : Int), .int .i64 H', .int .i64 Ly] 23)) := (Below.refl _ _).alloc (Nat.le_refl _) _
  have s0 : (w.alloc (.cells #[.int .i64 Vo, .int .i64 (D : Int), .int .i64 (Hd : Int), .int .i64 H', .int .i64 Ly] 23)).heap.size = w.heap.size + 1 := by simp
  generalize hw0 : w.alloc (.cells #[.int .i64 Vo, .int .i64 (D : Int), .int .i64 (Hd : Int), .int .i64 H', .int .i64 Ly] 23) = w0 at *
  have X1 := blk_new w0 60 bc
  have B1 : Below w0.heap.size w0 (w0.alloc (.cells bc 60)) := (Below.refl _ _).alloc (Nat.le_refl _) _
  have s1 : (w0.alloc (.cells bc 60)).heap.size = w0.heap.size + 1 := by simp
  rw [s0] at X1 s1
  generalize hw1 : w0.alloc (.cells bc 60) = w1 at *
  replace X0 := X0.below B1
  replace B1 := below_then B0 B1
  have hmk := run_make_row' (P := Tryz.prog) 77 24 (.slice none 0 0) 24 Tryz.underlying77 Tryz.infoRow rfl .i64 .i64 n (by omega) (by omega)
  go_enter Tryz.func46, Tryz.ntmps46
  go_upto_region 1 with fail
  clear hw0 hw1 B0 s0
  go_cut [6, 7, 8] from 11 (fun s6 s7 s8 wc => ∃ gm gk gv, s6 = .slice (some ⟨gm, 0, none⟩) n n ∧ s7 = .slice (some ⟨gk, 0, none⟩) n n ∧ s8 = .slice (some ⟨gv, 0, none⟩) n n ∧ LI w wc #[.int .i64 Vo, .int .i64 (D : Int), .int .i64 (Hd : Int), .int .i64 H', .int .i64 Ly] bc gm gk gv n 0 (madeR L D H Hd R) (keysR L D R) (valsR L D R))
  case first =>
    replace X0 := X0.below ((Below.refl _ _).drew)
    replace X1 := X1.below ((Below.refl _ _).drew)
    replace B1 := B1.drew
    replace s1 : w1.drew.heap.size = w.heap.size + 1 + 1 := s1
    refine wp_region_held_drew (S := fun _ => True) (by kernel_rfl) (trivial) (fun hHeld => ?_)
    generalize hA : w1.drew = wA at *
    clear hA
    refine wpAnyH_take (i := 0) (v := (.slice ro n c)) rfl (by kernel_rfl) (by kernel_rfl) (by kernel_rfl) (fun _ _ _ h => h) (Or.inl ⟨by rfl, ?_⟩) (by assumption) ?_
    · intro w' hSw
      go_simp
    simp only [List.getElem_toArray, List.getElem_cons_zero, Act.put, List.setIfInBounds_toArray, List.set_cons_zero, List.set_cons_succ]
    refine wpAnyH_take (i := 1) (v := (.int .i64 (n : Int))) rfl (by kernel_rfl) (by kernel_rfl) (by kernel_rfl) (fun _ _ _ h => h) (Or.inl ⟨by rfl, ?_⟩) (by assumption) ?_
    · intro w' hSw
      go_simp
    simp only [List.getElem_toArray, List.getElem_cons_succ, List.getElem_cons_zero, Act.put, List.setIfInBounds_toArray, List.set_cons_zero, List.set_cons_succ]
    refine wpAnyH_take (i := 3) (v := (.slice ro n c)) rfl (by kernel_rfl) (by kernel_rfl) (by kernel_rfl) (fun _ _ _ h => h) (Or.inl ⟨by rfl, ?_⟩) (by assumption) ?_
    · intro w' hSw
      go_simp
    simp only [List.getElem_toArray, List.getElem_cons_succ, List.getElem_cons_zero, Act.put, List.setIfInBounds_toArray, List.set_cons_zero, List.set_cons_succ]
    refine wpAnyH_take (i := 4) (v := (.int .i64 (n : Int))) rfl (by kernel_rfl) (by kernel_rfl) (by kernel_rfl) (fun _ _ _ h => h) (Or.inl ⟨by rfl, ?_⟩) (by assumption) ?_
    · intro w' hSw
      go_simp
    simp only [List.getElem_toArray, List.getElem_cons_succ, List.getElem_cons_zero, Act.put, List.setIfInBounds_toArray, List.set_cons_zero, List.set_cons_succ]
    refine wpAnyH_take (i := 6) (v := (.slice ro n c)) rfl (by kernel_rfl) (by kernel_rfl) (by kernel_rfl) (fun _ _ _ h => h) (Or.inl ⟨by rfl, ?_⟩) (by assumption) ?_
    · intro w' hSw
      go_simp
    simp only [List.getElem_toArray, List.getElem_cons_succ, List.getElem_cons_zero, Act.put, List.setIfInBounds_toArray, List.set_cons_zero, List.set_cons_succ]
    refine wpAnyH_take (i := 7) (v := (.int .i64 (n : Int))) rfl (by kernel_rfl) (by kernel_rfl) (by kernel_rfl) (fun _ _ _ h => h) (Or.inl ⟨by rfl, ?_⟩) (by assumption) ?_
    · intro w' hSw
      go_simp
    simp only [List.getElem_toArray, List.getElem_cons_succ, List.getElem_cons_zero, Act.put, List.setIfInBounds_toArray, List.set_cons_zero, List.set_cons_succ]
    refine wpAnyH_ready (rs := [2, 5, 8]) (by kernel_rfl) (by simp) ?_
    refine AllReadyH.cons rfl (fun Kc hKc => ?_) (AllReadyH.cons rfl (fun Kc hKc => ?_) (AllReadyH.cons rfl (fun Kc hKc => ?_) AllReadyH.nil))
    · simp only [List.getElem_toArray, List.getElem_cons_succ, List.getElem_cons_zero]
      rw [if_pos (by rfl)]
      go_wp2_with fail
      have NM := fun p => fp_made wA n p (madeR L D H Hd R)
      have EM1 : Below wA.heap.size wA (wA.alloc (.cells (madeCells #[.slice none 0 0] n) 24)) := (Below.refl _ _).alloc (Nat.le_refl _) _
      have zwM1 : (wA.alloc (.cells (madeCells #[.slice none 0 0] n) 24)).heap.size = wA.heap.size + 1 := by simp
      generalize hn1 : wA.alloc (.cells (madeCells #[.slice none 0 0] n) 24) = wM1 at *
      refine hKc.out _ _ trivial (fun hHeld => ?_)
      clear hKc Kc hn1
      replace X0 := X0.below EM1
      replace X1 := X1.below EM1
      replace B1 := below_then B1 EM1
      refine wpAnyH_take (i := 9) (v := (.slice (some ⟨wA.heap.size, 0, none⟩) n n)) rfl (by kernel_rfl) (by kernel_rfl) (by kernel_rfl) (fun _ _ _ h => h) (Or.inl ⟨by rfl, ?_⟩) (by assumption) ?_
      · intro w' hSw
        go_simp
      simp only [List.getElem_toArray, List.getElem_cons_succ, List.getElem_cons_zero, Act.put, List.setIfInBounds_toArray, List.set_cons_zero, List.set_cons_succ]
      refine wpAnyH_ready (rs := [5, 8]) (by kernel_rfl) (by simp) ?_
      refine AllReadyH.cons rfl (fun Kc hKc => ?_) (AllReadyH.cons rfl (fun Kc hKc => ?_) AllReadyH.nil)
      · simp only [List.getElem_toArray, List.getElem_cons_succ, List.getElem_cons_zero]
        rw [if_pos (by rfl)]
        go_wp2_with fail
        have NK := fun p => fp_made wM1 n p (keysR L D R)
        have EM2 : Below wM1.heap.size wM1 (wM1.alloc (.cells (madeCells #[.slice none 0 0] n) 24)) := (Below.refl _ _).alloc (Nat.le_refl _) _
        have zwM2 : (wM1.alloc (.cells (madeCells #[.slice none 0 0] n) 24)).heap.size = wM1.heap.size + 1 := by simp
        generalize hn2 : wM1.alloc (.cells (madeCells #[.slice none 0 0] n) 24) = wM2 at *
        refine hKc.out _ _ trivial (fun hHeld => ?_)
        clear hKc Kc hn2
        replace X0 := X0.below EM2
        replace X1 := X1.below EM2
        replace B1 := below_then B1 EM2
        replace NM := fun p => (NM p).below EM2
        refine wpAnyH_take (i := 10) (v := (.slice (some ⟨wM1.heap.size, 0, none⟩) n n)) rfl (by kernel_rfl) (by kernel_rfl) (by kernel_rfl) (fun _ _ _ h => h) (Or.inl ⟨by rfl, ?_⟩) (by assumption) ?_
        · intro w' hSw
          go_simp
        simp only [List.getElem_toArray, List.getElem_cons_succ, List.getElem_cons_zero, Act.put, List.setIfInBounds_toArray, List.set_cons_zero, List.set_cons_succ]
        refine wpAnyH_ready (rs := [8]) (by kernel_rfl) (by simp) ?_
        refine AllReadyH.cons rfl (fun Kc hKc => ?_) AllReadyH.nil
        simp only [List.getElem_toArray, List.getElem_cons_succ, List.getElem_cons_zero]
        rw [if_pos (by rfl)]
        go_wp2_with fail
        have NV := fun p => fp_made wM2 n p (valsR L D R)
        have EM3 : Below wM2.heap.size wM2 (wM2.alloc (.cells (madeCells #[.slice none 0 0] n) 24)) := (Below.refl _ _).alloc (Nat.le_refl _) _
        have zwM3 : (wM2.alloc (.cells (madeCells #[.slice none 0 0] n) 24)).heap.size = wM2.heap.size + 1 := by simp
        generalize hn3 : wM2.alloc (.cells (madeCells #[.slice none 0 0] n) 24) = wM3 at *
        refine hKc.out _ _ trivial (fun hHeld => ?_)
        clear hKc Kc hn3
        replace X0 := X0.below EM3
        replace X1 := X1.below EM3
        replace B1 := below_then B1 EM3
        replace NM := fun p => (NM p).below EM3
        replace NK := fun p => (NK p).below EM3
        refine wpAnyH_take (i := 11) (v := (.slice (some ⟨wM2.heap.size, 0, none⟩) n n)) rfl (by kernel_rfl) (by kernel_rfl) (by kernel_rfl) (fun _ _ _ h => h) (Or.inl ⟨by rfl, ?_⟩) (by assumption) ?_
        · intro w' hSw
          go_simp
        simp only [List.getElem_toArray, List.getElem_cons_succ, List.getElem_cons_zero, Act.put, List.setIfInBounds_toArray, List.set_cons_zero, List.set_cons_succ]
        refine wpAnyH_done (by kernel_rfl) ?_ _
        go_wp2_with fail
        go_meet
        case rel =>
          refine ⟨wA.heap.size, wM1.heap.size, wM2.heap.size, rfl, rfl, rfl, ⟨X0, X1, NM _, NK _, NV _, by omega, B1⟩⟩
      · simp only [List.getElem_toArray, List.getElem_cons_succ, List.getElem_cons_zero]
        rw [if_pos (by rfl)]
        go_wp2_with fail
        have NV := fun p => fp_made wM1 n p (valsR L D R)
        have EM2 : Below wM1.heap.size wM1 (wM1.alloc (.cells (madeCells #[.slice none 0 0] n) 24)) := (Below.refl _ _).alloc (Nat.le_refl _) _
        have zwM2 : (wM1.alloc (.cells (madeCells #[.slice none 0 0] n) 24)).heap.size = wM1.heap.size + 1 := by simp
        generalize hn2 : wM1.alloc (.cells (madeCells #[.slice none 0 0] n) 24) = wM2 at *
        refine hKc.out _ _ trivial (fun hHeld => ?_)
        clear hKc Kc hn2
        replace X0 := X0.below EM2
        replace X1 := X1.below EM2
        replace B1 := below_then B1 EM2
        replace NM := fun p => (NM p).below EM2
        refine wpAnyH_ready (rs := [5]) (by kernel_rfl) (by simp) ?_
        refine AllReadyH.cons rfl (fun Kc hKc => ?_) AllReadyH.nil
        simp only [List.getElem_toArray, List.getElem_cons_succ, List.getElem_cons_zero]
        rw [if_pos (by rfl)]
        go_wp2_with fail
        have NK := fun p => fp_made wM2 n p (keysR L D R)
        have EM3 : Below wM2.heap.size wM2 (wM2.alloc (.cells (madeCells #[.slice none 0 0] n) 24)) := (Below.refl _ _).alloc (Nat.le_refl _) _
        have zwM3 : (wM2.alloc (.cells (madeCells #[.slice none 0 0] n) 24)).heap.size = wM2.heap.size + 1 := by simp
        generalize hn3 : wM2.alloc (.cells (madeCells #[.slice none 0 0] n) 24) = wM3 at *
        refine hKc.out _ _ trivial (fun hHeld => ?_)
        clear hKc Kc hn3
        replace X0 := X0.below EM3
        replace X1 := X1.below EM3
        replace B1 := below_then B1 EM3
        replace NM := fun p => (NM p).below EM3
        replace NV := fun p => (NV p).below EM3
        refine wpAnyH_take (i := 10) (v := (.slice (some ⟨wM2.heap.size, 0, none⟩) n n)) rfl (by kernel_rfl) (by kernel_rfl) (by kernel_rfl) (fun _ _ _ h => h) (Or.inl ⟨by rfl, ?_⟩) (by assumption) ?_
        · intro w' hSw
          go_simp
        simp only [List.getElem_toArray, List.getElem_cons_succ, List.getElem_cons_zero, Act.put, List.setIfInBounds_toArray, List.set_cons_zero, List.set_cons_succ]
        refine wpAnyH_take (i := 11) (v := (.slice (some ⟨wM1.heap.size, 0, none⟩) n n)) rfl (by kernel_rfl) (by kernel_rfl) (by kernel_rfl) (fun _ _ _ h => h) (Or.inl ⟨by rfl, ?_⟩) (by assumption) ?_
        · intro w' hSw
          go_simp
        simp only [List.getElem_toArray, List.getElem_cons_succ, List.getElem_cons_zero, Act.put, List.setIfInBounds_toArray, List.set_cons_zero, List.set_cons_succ]
        refine wpAnyH_done (by kernel_rfl) ?_ _
        go_wp2_with fail
        go_meet
        case rel =>
          refine ⟨wA.heap.size, wM2.heap.size, wM1.heap.size, rfl, rfl, rfl, ⟨X0, X1, NM _, NK _, NV _, by omega, B1⟩⟩
    · simp only [List.getElem_toArray, List.getElem_cons_succ, List.getElem_cons_zero]
      rw [if_pos (by rfl)]
      go_wp2_with fail
      have NK := fun p => fp_made wA n p (keysR L D R)
      have EM1 : Below wA.heap.size wA (wA.alloc (.cells (madeCells #[.slice none 0 0] n) 24)) := (Below.refl _ _).alloc (Nat.le_refl _) _
      have zwM1 : (wA.alloc (.cells (madeCells #[.slice none 0 0] n) 24)).heap.size = wA.heap.size + 1 := by simp
      generalize hn1 : wA.alloc (.cells (madeCells #[.slice none 0 0] n) 24) = wM1 at *
      refine hKc.out _ _ trivial (fun hHeld => ?_)
      clear hKc Kc hn1
      replace X0 := X0.below EM1
      replace X1 := X1.below EM1
      replace B1 := below_then B1 EM1
      refine wpAnyH_ready (rs := [2, 8]) (by kernel_rfl) (by simp) ?_
      refine AllReadyH.cons rfl (fun Kc hKc => ?_) (AllReadyH.cons rfl (fun Kc hKc => ?_) AllReadyH.nil)
      · simp only [List.getElem_toArray, List.getElem_cons_succ, List.getElem_cons_zero]
        rw [if_pos (by rfl)]
        go_wp2_with fail
        have NM := fun p => fp_made wM1 n p (madeR L D H Hd R)
        have EM2 : Below wM1.heap.size wM1 (wM1.alloc (.cells (madeCells #[.slice none 0 0] n) 24)) := (Below.refl _ _).alloc (Nat.le_refl _) _
        have zwM2 : (wM1.alloc (.cells (madeCells #[.slice none 0 0] n) 24)).heap.size = wM1.heap.size + 1 := by simp
        generalize hn2 : wM1.alloc (.cells (madeCells #[.slice none 0 0] n) 24) = wM2 at *
        refine hKc.out _ _ trivial (fun hHeld => ?_)
        clear hKc Kc hn2
        replace X0 := X0.below EM2
        replace X1 := X1.below EM2
        replace B1 := below_then B1 EM2
        replace NK := fun p => (NK p).below EM2
        refine wpAnyH_take (i := 9) (v := (.slice (some ⟨wM1.heap.size, 0, none⟩) n n)) rfl (by kernel_rfl) (by kernel_rfl) (by kernel_rfl) (fun _ _ _ h => h) (Or.inl ⟨by rfl, ?_⟩) (by assumption) ?_
        · intro w' hSw
          go_simp
        simp only [List.getElem_toArray, List.getElem_cons_succ, List.getElem_cons_zero, Act.put, List.setIfInBounds_toArray, List.set_cons_zero, List.set_cons_succ]
        refine wpAnyH_take (i := 10) (v := (.slice (some ⟨wA.heap.size, 0, none⟩) n n)) rfl (by kernel_rfl) (by kernel_rfl) (by kernel_rfl) (fun _ _ _ h => h) (Or.inl ⟨by rfl, ?_⟩) (by assumption) ?_
        · intro w' hSw
          go_simp
        simp only [List.getElem_toArray, List.getElem_cons_succ, List.getElem_cons_zero, Act.put, List.setIfInBounds_toArray, List.set_cons_zero, List.set_cons_succ]
        refine wpAnyH_ready (rs := [8]) (by kernel_rfl) (by simp) ?_
        refine AllReadyH.cons rfl (fun Kc hKc => ?_) AllReadyH.nil
        simp only [List.getElem_toArray, List.getElem_cons_succ, List.getElem_cons_zero]
        rw [if_pos (by rfl)]
        go_wp2_with fail
        have NV := fun p => fp_made wM2 n p (valsR L D R)
        have EM3 : Below wM2.heap.size wM2 (wM2.alloc (.cells (madeCells #[.slice none 0 0] n) 24)) := (Below.refl _ _).alloc (Nat.le_refl _) _
        have zwM3 : (wM2.alloc (.cells (madeCells #[.slice none 0 0] n) 24)).heap.size = wM2.heap.size + 1 := by simp
        generalize hn3 : wM2.alloc (.cells (madeCells #[.slice none 0 0] n) 24) = wM3 at *
        refine hKc.out _ _ trivial (fun hHeld => ?_)
        clear hKc Kc hn3
        replace X0 := X0.below EM3
        replace X1 := X1.below EM3
        replace B1 := below_then B1 EM3
        replace NK := fun p => (NK p).below EM3
        replace NM := fun p => (NM p).below EM3
        refine wpAnyH_take (i := 11) (v := (.slice (some ⟨wM2.heap.size, 0, none⟩) n n)) rfl (by kernel_rfl) (by kernel_rfl) (by kernel_rfl) (fun _ _ _ h => h) (Or.inl ⟨by rfl, ?_⟩) (by assumption) ?_
        · intro w' hSw
          go_simp
        simp only [List.getElem_toArray, List.getElem_cons_succ, List.getElem_cons_zero, Act.put, List.setIfInBounds_toArray, List.set_cons_zero, List.set_cons_succ]
        refine wpAnyH_done (by kernel_rfl) ?_ _
        go_wp2_with fail
        go_meet
        case rel =>
          refine ⟨wM1.heap.size, wA.heap.size, wM2.heap.size, rfl, rfl, rfl, ⟨X0, X1, NM _, NK _, NV _, by omega, B1⟩⟩
      · simp only [List.getElem_toArray, List.getElem_cons_succ, List.getElem_cons_zero]
        rw [if_pos (by rfl)]
        go_wp2_with fail
        have NV := fun p => fp_made wM1 n p (valsR L D R)
        have EM2 : Below wM1.heap.size wM1 (wM1.alloc (.cells (madeCells #[.slice none 0 0] n) 24)) := (Below.refl _ _).alloc (Nat.le_refl _) _
        have zwM2 : (wM1.alloc (.cells (madeCells #[.slice none 0 0] n) 24)).heap.size = wM1.heap.size + 1 := by simp
        generalize hn2 : wM1.alloc (.cells (madeCells #[.slice none 0 0] n) 24) = wM2 at *
        refine hKc.out _ _ trivial (fun hHeld => ?_)
        clear hKc Kc hn2
        replace X0 := X0.below EM2
        replace X1 := X1.below EM2
        replace B1 := below_then B1 EM2
        replace NK := fun p => (NK p).below EM2
        refine wpAnyH_ready (rs := [2]) (by kernel_rfl) (by simp) ?_
        refine AllReadyH.cons rfl (fun Kc hKc => ?_) AllReadyH.nil
        simp only [List.getElem_toArray, List.getElem_cons_succ, List.getElem_cons_zero]
        rw [if_pos (by rfl)]
        go_wp2_with fail
        have NM := fun p => fp_made wM2 n p (madeR L D H Hd R)
        have EM3 : Below wM2.heap.size wM2 (wM2.alloc (.cells (madeCells #[.slice none 0 0] n) 24)) := (Below.refl _ _).alloc (Nat.le_refl _) _
        have zwM3 : (wM2.alloc (.cells (madeCells #[.slice none 0 0] n) 24)).heap.size = wM2.heap.size + 1 := by simp
        generalize hn3 : wM2.alloc (.cells (madeCells #[.slice none 0 0] n) 24) = wM3 at *
        refine hKc.out _ _ trivial (fun hHeld => ?_)
        clear hKc Kc hn3
        replace X0 := X0.below EM3
        replace X1 := X1.below EM3
        replace B1 := below_then B1 EM3
        replace NK := fun p => (NK p).below EM3
        replace NV := fun p => (NV p).below EM3
        refine wpAnyH_take (i := 9) (v := (.slice (some ⟨wM2.heap.size, 0, none⟩) n n)) rfl (by kernel_rfl) (by kernel_rfl) (by kernel_rfl) (fun _ _ _ h => h) (Or.inl ⟨by rfl, ?_⟩) (by assumption) ?_
        · intro w' hSw
          go_simp
        simp only [List.getElem_toArray, List.getElem_cons_succ, List.getElem_cons_zero, Act.put, List.setIfInBounds_toArray, List.set_cons_zero, List.set_cons_succ]
        refine wpAnyH_take (i := 10) (v := (.slice (some ⟨wA.heap.size, 0, none⟩) n n)) rfl (by kernel_rfl) (by kernel_rfl) (by kernel_rfl) (fun _ _ _ h => h) (Or.inl ⟨by rfl, ?_⟩) (by assumption) ?_
        · intro w' hSw
          go_simp
        simp only [List.getElem_toArray, List.getElem_cons_succ, List.getElem_cons_zero, Act.put, List.setIfInBounds_toArray, List.set_cons_zero, List.set_cons_succ]
        refine wpAnyH_take (i := 11) (v := (.slice (some ⟨wM1.heap.size, 0, none⟩) n n)) rfl (by kernel_rfl) (by kernel_rfl) (by kernel_rfl) (fun _ _ _ h => h) (Or.inl ⟨by rfl, ?_⟩) (by assumption) ?_
        · intro w' hSw
          go_simp
        simp only [List.getElem_toArray, List.getElem_cons_succ, List.getElem_cons_zero, Act.put, List.setIfInBounds_toArray, List.set_cons_zero, List.set_cons_succ]
        refine wpAnyH_done (by kernel_rfl) ?_ _
        go_wp2_with fail
        go_meet
        case rel =>
          refine ⟨wM2.heap.size, wA.heap.size, wM1.heap.size, rfl, rfl, rfl, ⟨X0, X1, NM _, NK _, NV _, by omega, B1⟩⟩
    · simp only [List.getElem_toArray, List.getElem_cons_succ, List.getElem_cons_zero]
      rw [if_pos (by rfl)]
      go_wp2_with fail
      have NV := fun p => fp_made wA n p (valsR L D R)
      have EM1 : Below wA.heap.size wA (wA.alloc (.cells (madeCells #[.slice none 0 0] n) 24)) := (Below.refl _ _).alloc (Nat.le_refl _) _
      have zwM1 : (wA.alloc (.cells (madeCells #[.slice none 0 0] n) 24)).heap.size = wA.heap.size + 1 := by simp
      generalize hn1 : wA.alloc (.cells (madeCells #[.slice none 0 0] n) 24) = wM1 at *
      refine hKc.out _ _ trivial (fun hHeld => ?_)
      clear hKc Kc hn1
      replace X0 := X0.below EM1
      replace X1 := X1.below EM1
      replace B1 := below_then B1 EM1
      refine wpAnyH_ready (rs := [2, 5]) (by kernel_rfl) (by simp) ?_
      refine AllReadyH.cons rfl (fun Kc hKc => ?_) (AllReadyH.cons rfl (fun Kc hKc => ?_) AllReadyH.nil)
      · simp only [List.getElem_toArray, List.getElem_cons_succ, List.getElem_cons_zero]
        rw [if_pos (by rfl)]
        go_wp2_with fail
        have NM := fun p => fp_made wM1 n p (madeR L D H Hd R)
        have EM2 : Below wM1.heap.size wM1 (wM1.alloc (.cells (madeCells #[.slice none 0 0] n) 24)) := (Below.refl _ _).alloc (Nat.le_refl _) _
        have zwM2 : (wM1.alloc (.cells (madeCells #[.slice none 0 0] n) 24)).heap.size = wM1.heap.size + 1 := by simp
        generalize hn2 : wM1.alloc (.cells (madeCells #[.slice none 0 0] n) 24) = wM2 at *
        refine hKc.out _ _ trivial (fun hHeld => ?_)
        clear hKc Kc hn2
        replace X0 := X0.below EM2
        replace X1 := X1.below EM2
        replace B1 := below_then B1 EM2
        replace NV := fun p => (NV p).below EM2
        refine wpAnyH_take (i := 9) (v := (.slice (some ⟨wM1.heap.size, 0, none⟩) n n)) rfl (by kernel_rfl) (by kernel_rfl) (by kernel_rfl) (fun _ _ _ h => h) (Or.inl ⟨by rfl, ?_⟩) (by assumption) ?_
        · intro w' hSw
          go_simp
        simp only [List.getElem_toArray, List.getElem_cons_succ, List.getElem_cons_zero, Act.put, List.setIfInBounds_toArray, List.set_cons_zero, List.set_cons_succ]
        refine wpAnyH_ready (rs := [5]) (by kernel_rfl) (by simp) ?_
        refine AllReadyH.cons rfl (fun Kc hKc => ?_) AllReadyH.nil
        simp only [List.getElem_toArray, List.getElem_cons_succ, List.getElem_cons_zero]
        rw [if_pos (by rfl)]
        go_wp2_with fail
        have NK := fun p => fp_made wM2 n p (keysR L D R)
        have EM3 : Below wM2.heap.size wM2 (wM2.alloc (.cells (madeCells #[.slice none 0 0] n) 24)) := (Below.refl _ _).alloc (Nat.le_refl _) _
        have zwM3 : (wM2.alloc (.cells (madeCells #[.slice none 0 0] n) 24)).heap.size = wM2.heap.size + 1 := by simp
        generalize hn3 : wM2.alloc (.cells (madeCells #[.slice none 0 0] n) 24) = wM3 at *
        refine hKc.out _ _ trivial (fun hHeld => ?_)
        clear hKc Kc hn3
        replace X0 := X0.below EM3
        replace X1 := X1.below EM3
        replace B1 := below_then B1 EM3
        replace NV := fun p => (NV p).below EM3
        replace NM := fun p => (NM p).below EM3
        refine wpAnyH_take (i := 10) (v := (.slice (some ⟨wM2.heap.size, 0, none⟩) n n)) rfl (by kernel_rfl) (by kernel_rfl) (by kernel_rfl) (fun _ _ _ h => h) (Or.inl ⟨by rfl, ?_⟩) (by assumption) ?_
        · intro w' hSw
          go_simp
        simp only [List.getElem_toArray, List.getElem_cons_succ, List.getElem_cons_zero, Act.put, List.setIfInBounds_toArray, List.set_cons_zero, List.set_cons_succ]
        refine wpAnyH_take (i := 11) (v := (.slice (some ⟨wA.heap.size, 0, none⟩) n n)) rfl (by kernel_rfl) (by kernel_rfl) (by kernel_rfl) (fun _ _ _ h => h) (Or.inl ⟨by rfl, ?_⟩) (by assumption) ?_
        · intro w' hSw
          go_simp
        simp only [List.getElem_toArray, List.getElem_cons_succ, List.getElem_cons_zero, Act.put, List.setIfInBounds_toArray, List.set_cons_zero, List.set_cons_succ]
        refine wpAnyH_done (by kernel_rfl) ?_ _
        go_wp2_with fail
        go_meet
        case rel =>
          refine ⟨wM1.heap.size, wM2.heap.size, wA.heap.size, rfl, rfl, rfl, ⟨X0, X1, NM _, NK _, NV _, by omega, B1⟩⟩
      · simp only [List.getElem_toArray, List.getElem_cons_succ, List.getElem_cons_zero]
        rw [if_pos (by rfl)]
        go_wp2_with fail
        have NK := fun p => fp_made wM1 n p (keysR L D R)
        have EM2 : Below wM1.heap.size wM1 (wM1.alloc (.cells (madeCells #[.slice none 0 0] n) 24)) := (Below.refl _ _).alloc (Nat.le_refl _) _
        have zwM2 : (wM1.alloc (.cells (madeCells #[.slice none 0 0] n) 24)).heap.size = wM1.heap.size + 1 := by simp
        generalize hn2 : wM1.alloc (.cells (madeCells #[.slice none 0 0] n) 24) = wM2 at *
        refine hKc.out _ _ trivial (fun hHeld => ?_)
        clear hKc Kc hn2
        replace X0 := X0.below EM2
        replace X1 := X1.below EM2
        replace B1 := below_then B1 EM2
        replace NV := fun p => (NV p).below EM2
        refine wpAnyH_ready (rs := [2]) (by kernel_rfl) (by simp) ?_
        refine AllReadyH.cons rfl (fun Kc hKc => ?_) AllReadyH.nil
        simp only [List.getElem_toArray, List.getElem_cons_succ, List.getElem_cons_zero]
        rw [if_pos (by rfl)]
        go_wp2_with fail
        have NM := fun p => fp_made wM2 n p (madeR L D H Hd R)
        have EM3 : Below wM2.heap.size wM2 (wM2.alloc (.cells (madeCells #[.slice none 0 0] n) 24)) := (Below.refl _ _).alloc (Nat.le_refl _) _
        have zwM3 : (wM2.alloc (.cells (madeCells #[.slice none 0 0] n) 24)).heap.size = wM2.heap.size + 1 := by simp
        generalize hn3 : wM2.alloc (.cells (madeCells #[.slice none 0 0] n) 24) = wM3 at *
        refine hKc.out _ _ trivial (fun hHeld => ?_)
        clear hKc Kc hn3
        replace X0 := X0.below EM3
        replace X1 := X1.below EM3
        replace B1 := below_then B1 EM3
        replace NV := fun p => (NV p).below EM3
        replace NK := fun p => (NK p).below EM3
        refine wpAnyH_take (i := 9) (v := (.slice (some ⟨wM2.heap.size, 0, none⟩) n n)) rfl (by kernel_rfl) (by kernel_rfl) (by kernel_rfl) (fun _ _ _ h => h) (Or.inl ⟨by rfl, ?_⟩) (by assumption) ?_
        · intro w' hSw
          go_simp
        simp only [List.getElem_toArray, List.getElem_cons_succ, List.getElem_cons_zero, Act.put, List.setIfInBounds_toArray, List.set_cons_zero, List.set_cons_succ]
        refine wpAnyH_take (i := 10) (v := (.slice (some ⟨wM1.heap.size, 0, none⟩) n n)) rfl (by kernel_rfl) (by kernel_rfl) (by kernel_rfl) (fun _ _ _ h => h) (Or.inl ⟨by rfl, ?_⟩) (by assumption) ?_
        · intro w' hSw
          go_simp
        simp only [List.getElem_toArray, List.getElem_cons_succ, List.getElem_cons_zero, Act.put, List.setIfInBounds_toArray, List.set_cons_zero, List.set_cons_succ]
        refine wpAnyH_take (i := 11) (v := (.slice (some ⟨wA.heap.size, 0, none⟩) n n)) rfl (by kernel_rfl) (by kernel_rfl) (by kernel_rfl) (fun _ _ _ h => h) (Or.inl ⟨by rfl, ?_⟩) (by assumption) ?_
        · intro w' hSw
          go_simp
        simp only [List.getElem_toArray, List.getElem_cons_succ, List.getElem_cons_zero, Act.put, List.setIfInBounds_toArray, List.set_cons_zero, List.set_cons_succ]
        refine wpAnyH_done (by kernel_rfl) ?_ _
        go_wp2_with fail
        go_meet
        case rel =>
          refine ⟨wM2.heap.size, wM1.heap.size, wA.heap.size, rfl, rfl, rfl, ⟨X0, X1, NM _, NK _, NV _, by omega, B1⟩⟩
  case rest =>
    obtain ⟨gm, gk, gv, rfl, rfl, rfl, G0⟩ := hcut
    clear X0 X1 B1 s1 hmk
    go_wp2_with fail
    go_loopg [22] n (fun r i wr => ∃ t : Nat, t ≤ n ∧ r = n - t ∧ i = .int .i64 t ∧ LI w wr #[.int .i64 Vo, .int .i64 (D : Int), .int .i64 (Hd : Int), .int .i64 H', .int .i64 Ly] bc gm gk gv n t (madeR L D H Hd R) (keysR L D R) (valsR L D R))
    case atStart => exact ⟨0, by omega, by omega, rfl, G0⟩
    case round =>
      obtain ⟨t, ht, rfl, rfl, G⟩ := hrel
      clear G0
      by_cases hlt : t < n
      · obtain ⟨xb, xo, rfl, hc⟩ := (HR.out wr G.kp).cells (by omega)
        obtain ⟨xr, xn, xc, hx, AX⟩ := hc t hlt
        obtain rfl : xn = D := by rw [← HL.out t hlt, AX.row.len]
        clear hc
        have ltm := G.m.lt
        have ltk := G.k.lt
        have ltv := G.v.lt
        have ne := G.ne
        have GY := G.below ((Below.refl _ _).drew)
        have AY := AX.below ((Below.refl _ _).drew)
        have KF := GY.k.front (by omega) (by rw [HK.out]; omega) (by omega)
        have VF := GY.v.front (by omega) (by rw [HV.out]; omega) (by omega)
        have kl : ∀ s, s < t → (rowOf ((keysR L xn R).take t) s).length = xn := fun s hs => by rw [rowOf_take hs, HKt.out s (by omega)]; exact apl_len _ _ _ _
        have vl : ∀ s, s < t → (rowOf ((valsR L xn R).take t) s).length = xn := fun s hs => by rw [rowOf_take hs, HVt.out s (by omega)]; exact apl_len _ _ _ _
        have tn : (t : Int) ≤ (n : Int) := by omega
        clear G AX
        go_wp2_with fail
        have hwA0 : wr.heap.size ≤ wr.drew.heap.size := Nat.le_refl _
        refine wp_region_held_drew (S := fun w' => Blk w' w.heap.size 23 #[.int .i64 Vo, .int .i64 (xn : Int), .int .i64 (Hd : Int), .int .i64 H', .int .i64 Ly] ∧ Blk w' (w.heap.size + 1) 60 bc) (by kernel_rfl) (⟨GY.x0, GY.x1⟩) (fun hHeld => ?_)
        generalize hA : wr.drew = wA at *
        clear hA
        refine wpAnyH_take (i := 0) (v := (.slice (some ⟨gm, 0, none⟩) n n)) rfl (by kernel_rfl) (by kernel_rfl) (by kernel_rfl) (fun _ _ _ h => h) (Or.inl ⟨by rfl, ?_⟩) (by assumption) ?_
        · intro w' hSw
          go_simp
        simp only [List.getElem_toArray, List.getElem_cons_zero, Act.put, List.setIfInBounds_toArray, List.set_cons_zero, List.set_cons_succ]
        refine wpAnyH_take (i := 1) (v := (.int .i64 (t : Int))) rfl (by kernel_rfl) (by kernel_rfl) (by kernel_rfl) (fun _ _ _ h => h) (Or.inl ⟨by rfl, ?_⟩) (by assumption) ?_
        · intro w' hSw
          go_simp
        simp only [List.getElem_toArray, List.getElem_cons_succ, List.getElem_cons_zero, Act.put, List.setIfInBounds_toArray, List.set_cons_zero, List.set_cons_succ]
        refine wpAnyH_take (i := 2) (v := (.slice (some ⟨gk, 0, none⟩) n n)) rfl (by kernel_rfl) (by kernel_rfl) (by kernel_rfl) (fun _ _ _ h => h) (Or.inl ⟨by rfl, ?_⟩) (by assumption) ?_
        · intro w' hSw
          go_simp
        simp only [List.getElem_toArray, List.getElem_cons_succ, List.getElem_cons_zero, Act.put, List.setIfInBounds_toArray, List.set_cons_zero, List.set_cons_succ]
        refine wpAnyH_take (i := 3) (v := (.int .i64 (t : Int))) rfl (by kernel_rfl) (by kernel_rfl) (by kernel_rfl) (fun _ _ _ h => h) (Or.inl ⟨by rfl, ?_⟩) (by assumption) ?_
        · intro w' hSw
          go_simp
        simp only [List.getElem_toArray, List.getElem_cons_succ, List.getElem_cons_zero, Act.put, List.setIfInBounds_toArray, List.set_cons_zero, List.set_cons_succ]
        refine wpAnyH_take (i := 4) (v := (.slice (some ⟨gv, 0, none⟩) n n)) rfl (by kernel_rfl) (by kernel_rfl) (by kernel_rfl) (fun _ _ _ h => h) (Or.inl ⟨by rfl, ?_⟩) (by assumption) ?_
        · intro w' hSw
          go_simp
        simp only [List.getElem_toArray, List.getElem_cons_succ, List.getElem_cons_zero, Act.put, List.setIfInBounds_toArray, List.set_cons_zero, List.set_cons_succ]
        refine wpAnyH_take (i := 5) (v := (.int .i64 (t : Int))) rfl (by kernel_rfl) (by kernel_rfl) (by kernel_rfl) (fun _ _ _ h => h) (Or.inl ⟨by rfl, ?_⟩) (by assumption) ?_
        · intro w' hSw
          go_simp
        simp only [List.getElem_toArray, List.getElem_cons_succ, List.getElem_cons_zero, Act.put, List.setIfInBounds_toArray, List.set_cons_zero, List.set_cons_succ]
        refine wpAnyH_take (i := 6) (v := (.agg #[.int .i64 Vo, .int .i64 (xn : Int), .int .i64 (Hd : Int), .int .i64 H', .int .i64 Ly])) rfl (by kernel_rfl) (by kernel_rfl) (by kernel_rfl) (fun _ _ _ h => h) (Or.inl ⟨by rfl, ?_⟩) (by assumption) ?_
        · intro w' hSw
          have cc0 : w'.cell? ⟨w.heap.size, 0, none⟩ = some (.int .i64 Vo) := hSw.1.cell 0 rfl
          have cc1 : w'.cell? ⟨w.heap.size, 1, none⟩ = some (.int .i64 (xn : Int)) := hSw.1.cell 1 rfl
          have cc2 : w'.cell? ⟨w.heap.size, 2, none⟩ = some (.int .i64 (Hd : Int)) := hSw.1.cell 2 rfl
          have cc3 : w'.cell? ⟨w.heap.size, 3, none⟩ = some (.int .i64 H') := hSw.1.cell 3 rfl
          have cc4 : w'.cell? ⟨w.heap.size, 4, none⟩ = some (.int .i64 Ly) := hSw.1.cell 4 rfl
          go_simp
        simp only [List.getElem_toArray, List.getElem_cons_succ, List.getElem_cons_zero, Act.put, List.setIfInBounds_toArray, List.set_cons_zero, List.set_cons_succ]
        refine wpAnyH_take (i := 7) (v := (.agg bc)) rfl (by kernel_rfl) (by kernel_rfl) (by kernel_rfl) (fun _ _ _ h => h) (Or.inl ⟨by rfl, ?_⟩) (by assumption) ?_
        · intro w' hSw
          exact yield_row 60 _ rfl (w.heap.size + 1) rfl bc (load_b hSw.2 siz)
        simp only [List.getElem_toArray, List.getElem_cons_succ, List.getElem_cons_zero, Act.put, List.setIfInBounds_toArray, List.set_cons_zero, List.set_cons_succ]
        refine wpAnyH_take (i := 8) (v := (.slice xr xn xc)) rfl (by kernel_rfl) (by kernel_rfl) (by kernel_rfl) (fun _ _ _ h => h) (Or.inl ⟨by rfl, ?_⟩) (by assumption) ?_
        · intro w' hSw
          go_simp
        simp only [List.getElem_toArray, List.getElem_cons_succ, List.getElem_cons_zero, Act.put, List.setIfInBounds_toArray, List.set_cons_zero, List.set_cons_succ]
        refine wpAnyH_take (i := 9) (v := (.slice (some ⟨gk, 0, none⟩) n n)) rfl (by kernel_rfl) (by kernel_rfl) (by kernel_rfl) (fun _ _ _ h => h) (Or.inl ⟨by rfl, ?_⟩) (by assumption) ?_
        · intro w' hSw
          go_simp
        simp only [List.getElem_toArray, List.getElem_cons_succ, List.getElem_cons_zero, Act.put, List.setIfInBounds_toArray, List.set_cons_zero, List.set_cons_succ]
        refine wpAnyH_take (i := 10) (v := (.int .i64 (t : Int))) rfl (by kernel_rfl) (by kernel_rfl) (by kernel_rfl) (fun _ _ _ h => h) (Or.inl ⟨by rfl, ?_⟩) (by assumption) ?_
        · intro w' hSw
          go_simp
        simp only [List.getElem_toArray, List.getElem_cons_succ, List.getElem_cons_zero, Act.put, List.setIfInBounds_toArray, List.set_cons_zero, List.set_cons_succ]
        refine wpAnyH_take (i := 11) (v := (.slice (some ⟨gk, 0, none⟩) t n)) rfl (by kernel_rfl) (by kernel_rfl) (by kernel_rfl) (fun _ _ _ h => h) (Or.inl ⟨by rfl, ?_⟩) (by assumption) ?_
        · intro w' hSw
          go_simp
        simp only [List.getElem_toArray, List.getElem_cons_succ, List.getElem_cons_zero, Act.put, List.setIfInBounds_toArray, List.set_cons_zero, List.set_cons_succ]
        refine wpAnyH_take (i := 12) (v := (.slice (some ⟨gv, 0, none⟩) n n)) rfl (by kernel_rfl) (by kernel_rfl) (by kernel_rfl) (fun _ _ _ h => h) (Or.inl ⟨by rfl, ?_⟩) (by assumption) ?_
        · intro w' hSw
          go_simp
        simp only [List.getElem_toArray, List.getElem_cons_succ, List.getElem_cons_zero, Act.put, List.setIfInBounds_toArray, List.set_cons_zero, List.set_cons_succ]
        refine wpAnyH_take (i := 13) (v := (.int .i64 (t : Int))) rfl (by kernel_rfl) (by kernel_rfl) (by kernel_rfl) (fun _ _ _ h => h) (Or.inl ⟨by rfl, ?_⟩) (by assumption) ?_
        · intro w' hSw
          go_simp
        simp only [List.getElem_toArray, List.getElem_cons_succ, List.getElem_cons_zero, Act.put, List.setIfInBounds_toArray, List.set_cons_zero, List.set_cons_succ]
        refine wpAnyH_take (i := 14) (v := (.slice (some ⟨gv, 0, none⟩) t n)) rfl (by kernel_rfl) (by kernel_rfl) (by kernel_rfl) (fun _ _ _ h => h) (Or.inl ⟨by rfl, ?_⟩) (by assumption) ?_
        · intro w' hSw
          go_simp
        simp only [List.getElem_toArray, List.getElem_cons_succ, List.getElem_cons_zero, Act.put, List.setIfInBounds_toArray, List.set_cons_zero, List.set_cons_succ]
        refine wpAnyH_ready (rs := [15]) (by kernel_rfl) (by simp) ?_
        refine AllReadyH.cons rfl (fun Kc hKc => ?_) AllReadyH.nil
        simp only [List.getElem_toArray, List.getElem_cons_succ, List.getElem_cons_zero]
        rw [if_pos (by rfl)]
        go_wp2_with fail
        refine (HO _ _ (rowOf R t) _ _ _ _ _ ((keysR L xn R).take t) ((valsR L xn R).take t) _ (HB.out _ GY.kp) (HT.out _ GY.kp) AY KF VF (fun h => by cases h) (fun h => by cases h) kl vl (by omega)).mono ?_
        rintro e w9 ⟨o1, o2, o3, rfl, F1, F2, F3, B9⟩
        have GZ := GY.below B9
        go_wp2_with fail
        refine hKc.out _ _ (⟨GZ.x0, GZ.x1⟩) (fun hHeld => ?_)
        clear hKc Kc
        refine wpAnyH_take (i := 16) (v := (.tuple #[.slice (some ⟨o1, 0, none⟩) xn xn, .slice (some ⟨o2, 0, none⟩) xn xn, .slice (some ⟨o3, 0, none⟩) xn xn])) rfl (by kernel_rfl) (by kernel_rfl) (by kernel_rfl) (fun _ _ _ h => h) (Or.inl ⟨by rfl, ?_⟩) (by assumption) ?_
        · intro w' hSw
          go_simp
        simp only [List.getElem_toArray, List.getElem_cons_succ, List.getElem_cons_zero, Act.put, List.setIfInBounds_toArray, List.set_cons_zero, List.set_cons_succ]
        refine wpAnyH_take (i := 17) (v := (.slice (some ⟨o1, 0, none⟩) xn xn)) rfl (by kernel_rfl) (by kernel_rfl) (by kernel_rfl) (fun _ _ _ h => h) (Or.inl ⟨by rfl, ?_⟩) (by assumption) ?_
        · intro w' hSw
          go_simp
        simp only [List.getElem_toArray, List.getElem_cons_succ, List.getElem_cons_zero, Act.put, List.setIfInBounds_toArray, List.set_cons_zero, List.set_cons_succ]
        refine wpAnyH_take (i := 18) (v := (.slice (some ⟨o2, 0, none⟩) xn xn)) rfl (by kernel_rfl) (by kernel_rfl) (by kernel_rfl) (fun _ _ _ h => h) (Or.inl ⟨by rfl, ?_⟩) (by assumption) ?_
        · intro w' hSw
          go_simp
        simp only [List.getElem_toArray, List.getElem_cons_succ, List.getElem_cons_zero, Act.put, List.setIfInBounds_toArray, List.set_cons_zero, List.set_cons_succ]
        refine wpAnyH_take (i := 19) (v := (.slice (some ⟨o3, 0, none⟩) xn xn)) rfl (by kernel_rfl) (by kernel_rfl) (by kernel_rfl) (fun _ _ _ h => h) (Or.inl ⟨by rfl, ?_⟩) (by assumption) ?_
        · intro w' hSw
          go_simp
        simp only [List.getElem_toArray, List.getElem_cons_succ, List.getElem_cons_zero, Act.put, List.setIfInBounds_toArray, List.set_cons_zero, List.set_cons_succ]
        refine wpAnyH_take (i := 20) (v := (.pointer (some ⟨gm, t, none⟩))) rfl (by kernel_rfl) (by kernel_rfl) (by kernel_rfl) (fun _ _ _ h => h) (Or.inl ⟨by rfl, ?_⟩) (by assumption) ?_
        · intro w' hSw
          go_simp
        simp only [List.getElem_toArray, List.getElem_cons_succ, List.getElem_cons_zero, Act.put, List.setIfInBounds_toArray, List.set_cons_zero, List.set_cons_succ]
        clear hHeld
        have f1b := F1.base
        have f2b := F2.base
        have f3b := F3.base
        have N1 : Hangs (offL w gm gk gv) w9 fun w => Arg w (some ⟨o1, 0, none⟩) xn xn (rowOf (madeR L xn H Hd R) t) := by
          rw [HMt.out t hlt]
          exact (F1.hangs.mono fun b _ e => by subst e; exact ⟨by omega, by omega, by omega, by omega⟩).imp fun _ h => h.arg
        have N2 : Hangs (offL w gm gk gv) w9 fun w => Arg w (some ⟨o2, 0, none⟩) xn xn (rowOf (keysR L xn R) t) := by
          rw [HKt.out t hlt]
          exact (F2.hangs.mono fun b _ e => by subst e; exact ⟨by omega, by omega, by omega, by omega⟩).imp fun _ h => h.arg
        have N3 : Hangs (offL w gm gk gv) w9 fun w => Arg w (some ⟨o3, 0, none⟩) xn xn (rowOf (valsR L xn R) t) := by
          rw [HVt.out t hlt]
          exact (F3.hangs.mono fun b _ e => by subst e; exact ⟨by omega, by omega, by omega, by omega⟩).imp fun _ h => h.arg
        have GN := GZ.next hlt N1 N2 N3
        have pm : ¬ offL w gm gk gv gm := fun h => h.2.1 rfl
        have pk : ¬ offL w gm gk gv gk := fun h => h.2.2.1 rfl
        have K1 := GZ.k.far (a := ⟨gm, t, none⟩) (by show gm ≠ gk; omega) pm (.slice (some ⟨o1, 0, none⟩) xn xn)
        have V1 := (GZ.v.far (a := ⟨gm, t, none⟩) (by show gm ≠ gv; omega) pm (.slice (some ⟨o1, 0, none⟩) xn xn)).far (a := ⟨gk, t, none⟩) (by show gk ≠ gv; omega) pk (.slice (some ⟨o2, 0, none⟩) xn xn)
        have fz1 := GZ.m.frozen t
        obtain ⟨u1, cu1⟩ := GZ.m.cell hlt
        have fz2 := K1.frozen t
        obtain ⟨u2, cu2⟩ := K1.cell hlt
        have fz3 := V1.frozen t
        obtain ⟨u3, cu3⟩ := V1.cell hlt
        have Q1 : Blk (w9.setCell ⟨gm, t, none⟩ (.slice (some ⟨o1, 0, none⟩) xn xn)) w.heap.size 23 #[.int .i64 Vo, .int .i64 (xn : Int), .int .i64 (Hd : Int), .int .i64 H', .int .i64 Ly] ∧ Blk (w9.setCell ⟨gm, t, none⟩ (.slice (some ⟨o1, 0, none⟩) xn xn)) (w.heap.size + 1) 60 bc := ⟨GZ.x0.other (by show _ ≠ gm; omega) _, GZ.x1.other (by show _ ≠ gm; omega) _⟩
        have Q2 : Blk ((w9.setCell ⟨gm, t, none⟩ (.slice (some ⟨o1, 0, none⟩) xn xn)).setCell ⟨gk, t, none⟩ (.slice (some ⟨o2, 0, none⟩) xn xn)) w.heap.size 23 #[.int .i64 Vo, .int .i64 (xn : Int), .int .i64 (Hd : Int), .int .i64 H', .int .i64 Ly] ∧ Blk ((w9.setCell ⟨gm, t, none⟩ (.slice (some ⟨o1, 0, none⟩) xn xn)).setCell ⟨gk, t, none⟩ (.slice (some ⟨o2, 0, none⟩) xn xn)) (w.heap.size + 1) 60 bc := ⟨Q1.1.other (by show _ ≠ gk; omega) _, Q1.2.other (by show _ ≠ gk; omega) _⟩
        clear K1 V1 N1 N2 N3 F1 F2 F3 f1b f2b f3b
        refine wpAnyH_ready (rs := [21]) (by kernel_rfl) (by simp) ?_
        refine AllReadyH.cons rfl (fun Kc hKc => ?_) AllReadyH.nil
        simp only [List.getElem_toArray, List.getElem_cons_succ, List.getElem_cons_zero]
        rw [if_pos (by rfl)]
        go_wp2_with fail
        refine hKc.out _ _ Q1 (fun hHeld => ?_)
        clear hKc Kc
        generalize hS1 : w9.setCell ⟨gm, t, none⟩ (.slice (some ⟨o1, 0, none⟩) xn xn) = wS1 at *
        refine wpAnyH_take (i := 22) (v := (.pointer (some ⟨gk, t, none⟩))) rfl (by kernel_rfl) (by kernel_rfl) (by kernel_rfl) (fun _ _ _ h => h) (Or.inl ⟨by rfl, ?_⟩) (by assumption) ?_
        · intro w' hSw
          go_simp
        simp only [List.getElem_toArray, List.getElem_cons_succ, List.getElem_cons_zero, Act.put, List.setIfInBounds_toArray, List.set_cons_zero, List.set_cons_succ]
        refine wpAnyH_ready (rs := [23]) (by kernel_rfl) (by simp) ?_
        refine AllReadyH.cons rfl (fun Kc hKc => ?_) AllReadyH.nil
        simp only [List.getElem_toArray, List.getElem_cons_succ, List.getElem_cons_zero]
        rw [if_pos (by rfl)]
        go_wp2_with fail
        refine hKc.out _ _ Q2 (fun hHeld => ?_)
        clear hKc Kc
        generalize hS2 : wS1.setCell ⟨gk, t, none⟩ (.slice (some ⟨o2, 0, none⟩) xn xn) = wS2 at *
        refine wpAnyH_take (i := 24) (v := (.pointer (some ⟨gv, t, none⟩))) rfl (by kernel_rfl) (by kernel_rfl) (by kernel_rfl) (fun _ _ _ h => h) (Or.inl ⟨by rfl, ?_⟩) (by assumption) ?_
        · intro w' hSw
          go_simp
        simp only [List.getElem_toArray, List.getElem_cons_succ, List.getElem_cons_zero, Act.put, List.setIfInBounds_toArray, List.set_cons_zero, List.set_cons_succ]
        refine wpAnyH_ready (rs := [25]) (by kernel_rfl) (by simp) ?_
        refine AllReadyH.cons rfl (fun Kc hKc => ?_) AllReadyH.nil
        simp only [List.getElem_toArray, List.getElem_cons_succ, List.getElem_cons_zero]
        rw [if_pos (by rfl)]
        go_wp2_with fail
        refine hKc.out _ _ ⟨GN.x0, GN.x1⟩ (fun hHeld => ?_)
        clear hKc Kc
        refine wpAnyH_done (by kernel_rfl) ?_ _
        go_wp2_with fail
        go_roundg (n - (t + 1))
        case measure => omega
        case rel => exact ⟨t + 1, by omega, rfl, by go_num, GN⟩
      · obtain rfl : t = n := by omega
        obtain ⟨vm, NM⟩ := G.m.whole HM.out (by omega) (B := w.heap.size) (fun b hb => by have := hb.1; omega) (by have := G.ne; omega)
        obtain ⟨vk, NK⟩ := G.k.whole HK.out (by omega) (B := w.heap.size) (fun b hb => by have := hb.1; omega) (by have := G.ne; omega)
        obtain ⟨vv, NV⟩ := G.v.whole HV.out (by omega) (B := w.heap.size) (fun b hb => by have := hb.1; omega) (by have := G.ne; omega)
        have KP := G.kp
        clear G
        go_wp2
        go_ret3
        exact ⟨gm, gk, gv, vm, vk, vv, rfl, NM, NK, NV, KP⟩
end Go.Proofs.YtmdjlaileakbeaaGreatDoor

/- A made model as numbers that fit, and what becomes of them where one row is of another length. -/
namespace Go.Proofs.YtmdjlaileakbeaaGreatDoor
open Go.ChangeShapes Go.WideShapes Go.ChangeAt Go.RowKit
def rs (g n : Nat) : Sl := ⟨some ⟨g, 0, none⟩, n, n⟩
def mkB (D H f q k v o s u d : Nat) : Bk := ⟨rs f D, ⟨D, D, rs q (D * D)⟩, ⟨D, D, rs k (D * D)⟩, ⟨D, D, rs v (D * D)⟩, ⟨D, D, rs o (D * D)⟩, rs s D, ⟨H, D, rs u (H * D)⟩, ⟨D, H, rs d (D * H)⟩⟩
theorem mkB_cells (D H f q k v o s u d : Nat) : (mkB D H f q k v o s u d).cells = madeB D H f q k v o s u d := rfl
def mkW (V D L ge gB gl go : Nat) : Wt := ⟨⟨V, D, rs ge (V * D)⟩, rs gB L, rs gl D, ⟨V, D, rs go (V * D)⟩⟩
theorem mkW_cells (V D L ge gB gl go : Nat) : (mkW V D L ge gB gl go).cells = wCells V D (rv ge (V * D)) (rv gB L) (rv gl D) (rv go (V * D)) V D := rfl
theorem i64_nat {n : Nat} (h : n ≤ 4096) : I64 (n : Int) := by unfold I64; omega
theorem mkB_ok {D H f q k v o s u d : Nat} (h1 : D ≤ 4096) (h2 : H ≤ 4096) : (mkB D H f q k v o s u d).Ok :=
  ⟨by show D ≤ _; omega, ⟨i64_nat h1, i64_nat h1⟩, ⟨i64_nat h1, i64_nat h1⟩, ⟨i64_nat h1, i64_nat h1⟩, ⟨i64_nat h1, i64_nat h1⟩, by show D ≤ _; omega, ⟨i64_nat h2, i64_nat h1⟩, ⟨i64_nat h1, i64_nat h2⟩⟩
theorem mkW_ok {V D L ge gB gl go : Nat} (h1 : V ≤ 4096) (h2 : D ≤ 4096) : (mkW V D L ge gB gl go).Ok := ⟨⟨i64_nat h1, i64_nat h2⟩, by show D ≤ _; omega, ⟨i64_nat h1, i64_nat h2⟩⟩
theorem sides_yes {r c : Nat} (g : Nat) (h1 : 1 ≤ r) (h2 : r ≤ 128) (h3 : 1 ≤ c) (h4 : c ≤ 128) : sidesB ⟨r, c, rs g (r * c)⟩ r c = true := by
  unfold sidesB
  rw [decide_eq_true ⟨chk_ok h1 h2 h3 h4 rfl, rfl, rfl⟩]
theorem sides_no {r c : Nat} (s : Sl) (R K : Int) (h : s.n ≠ r * c) : sidesB ⟨r, c, s⟩ R K = false := by
  unfold sidesB
  refine decide_eq_false fun hh => ?_
  obtain ⟨r', c', e1, e2, _, _, _, _, e3⟩ := chk_zero hh.1
  simp only at e1 e2 e3
  obtain rfl : r = r' := by omega
  obtain rfl : c = c' := by omega
  exact h e3
theorem mkB_fits {D H f q k v o s u d : Nat} (h1 : 1 ≤ D) (h2 : D ≤ 128) (h3 : 1 ≤ H) (h4 : H ≤ 128) : bkB D H (mkB D H f q k v o s u d) = true := by
  unfold bkB mkB
  simp only [rs]
  have e1 := fun g => sides_yes (r := D) (c := D) g h1 h2 h1 h2
  have e2 := sides_yes (r := H) (c := D) u h3 h4 h1 h2
  have e3 := sides_yes (r := D) (c := H) d h1 h2 h3 h4
  unfold rs at e1 e2 e3
  rw [e1, e1, e1, e1, e2, e3]
  simp
/-- A made model's layers. -/
structure MadeL (w : World) (B seed i0 gB D H L : Nat) (bs : List Bk) : Prop where
  len : bs.length = L
  at_ : ∀ (t : Nat) (x : Bk), bs[t]? = some x → w.rangeAt gB (t * 20) x.cells.toList ∧ ∃ f q k v o s u d, x = mkB D H f q k v o s u d ∧ MadeB w B seed (i0 + t * lenB D H) D H f q k v o s u d
theorem madeL_of {w : World} {B seed i0 gB D H : Nat} : ∀ (L : Nat), (∀ j, j < L → ∃ f q k v o s u d, w.rangeAt gB (j * 20) (madeB D H f q k v o s u d).toList ∧ MadeB w B seed (i0 + j * lenB D H) D H f q k v o s u d) → ∃ bs, MadeL w B seed i0 gB D H L bs
  | 0, _ => ⟨[], rfl, fun t x h => by simp at h⟩
  | L + 1, h => by
    obtain ⟨bs, hl, ha⟩ := madeL_of L (fun j hj => h j (by omega))
    obtain ⟨f, q, k, v, o, s, u, d, hr, hm⟩ := h L (by omega)
    refine ⟨bs ++ [mkB D H f q k v o s u d], by simp [hl], fun t x hx => ?_⟩
    rcases Nat.lt_or_ge t L with h1 | h1
    · rw [List.getElem?_append_left (by omega)] at hx
      exact ha t x hx
    · rw [List.getElem?_append_right (by omega)] at hx
      have ht : t - bs.length = 0 := by
        rcases Nat.eq_zero_or_pos (t - bs.length) with h2 | h2
        · exact h2
        · rw [List.getElem?_eq_none (by simp; omega)] at hx; cases hx
      rw [ht] at hx
      simp at hx
      subst hx
      obtain rfl : t = L := by omega
      exact ⟨hr, f, q, k, v, o, s, u, d, rfl, hm⟩
theorem MadeL.blocks {w : World} {B seed i0 gB D H L : Nat} {bs : List Bk} (h : MadeL w B seed i0 gB D H L bs) (hL : L ≤ 4) (h1 : D ≤ 4096) (h2 : H ≤ 4096) : BlocksAt w (rs gB L) bs :=
  ⟨h.len, by show L ≤ _; omega, fun x hx => by
    obtain ⟨t, ht⟩ := List.mem_iff_getElem?.1 hx
    obtain ⟨_, f, q, k, v, o, s, u, d, rfl, _⟩ := h.at_ t x ht
    exact mkB_ok h1 h2, fun _ => ⟨gB, 0, rfl, fun t x hx => by rw [Nat.zero_add]; exact (h.at_ t x hx).1⟩⟩
theorem MadeL.below {w w' : World} {B seed i0 gB D H L : Nat} {bs : List Bk} (h : MadeL w B seed i0 gB D H L bs) (hg : gB < w.heap.size) (hb : Below w.heap.size w w') : MadeL w' B seed i0 gB D H L bs :=
  ⟨h.len, fun t x hx => by
    obtain ⟨r, f, q, k, v, o, s, u, d, e, m⟩ := h.at_ t x hx
    exact ⟨rangeAt_block r (hb.block gB hg), f, q, k, v, o, s, u, d, e, m.of (Nat.le_refl _) (fun F => hb.block _ F.lt)⟩⟩
/-- A made model fits. -/
theorem made_fits {w : World} {C : Cfg} {B seed i0 V D H L ge gB gl go : Nat} {bs : List Bk} (h : MadeL w B seed i0 gB D H L bs) (e1 : C.V = V) (e2 : C.D = D) (e4 : C.H = H) (e5 : C.L = L) (hs : shapeN C.V C.D C.Hd C.H C.L = 0) :
    checkN C.V C.D C.Hd C.H C.L (mkW V D L ge gB gl go) bs = 0 := by
  have hk := shape_ok hs
  unfold checkN
  rw [if_neg (by rw [hs]; simp), e1, e2, e4, e5]
  have : fitsB V D H L (mkW V D L ge gB gl go) bs = true := by
    unfold fitsB mkW
    simp only [rs]
    have s1 := sides_yes (r := V) (c := D) ge (by omega) (by omega) (by omega) (by omega)
    have s2 := sides_yes (r := V) (c := D) go (by omega) (by omega) (by omega) (by omega)
    unfold rs at s1 s2
    rw [s1, s2]
    simp only [decide_true, Bool.true_and, List.all_eq_true]
    intro x hx
    obtain ⟨t, ht⟩ := List.mem_iff_getElem?.1 hx
    obtain ⟨_, f, q, k, v, o, s, u, d, rfl, _⟩ := h.at_ t x ht
    exact mkB_fits (by omega) (by omega) (by omega) (by omega)
  rw [if_pos this]
theorem check_four {V D Hd H L : Int} {W : Wt} {bs : List Bk} (hs : shapeN V D Hd H L = 0) (hf : fitsB V D H L W bs = false) : checkN V D Hd H L W bs = 4 := by
  unfold checkN
  rw [if_neg (by rw [hs]; simp), if_neg (by rw [hf]; simp)]
/-- A cell of a range is written over. -/
theorem rangeAt_set {w : World} {g o : Nat} {cs : List Value} (h : w.rangeAt g o cs) {i : Nat} (hi : i < cs.length) (v : Value) : (w.setCell ⟨g, o + i, none⟩ v).rangeAt g o (cs.set i v) := fun j u hj => by
  rw [List.getElem?_set] at hj
  by_cases e : i = j
  · subst e
    rw [if_pos rfl, if_pos hi] at hj
    have := h i _ (List.getElem?_eq_getElem hi)
    rw [World.cell?_setCell_same _ _ _ this, ← hj]
  · rw [if_neg e] at hj
    rw [World.cell?_setCell_other _ _ _ _ (by simp <;> omega)]
    exact h j u hj
theorem rangeAt_apart {w : World} {g o : Nat} {cs : List Value} (h : w.rangeAt g o cs) {i : Nat} (hi : i < o ∨ o + cs.length ≤ i) (v : Value) : (w.setCell ⟨g, i, none⟩ v).rangeAt g o cs := fun j u hj => by
  have hjl : j < cs.length := (List.getElem?_eq_some_iff.1 hj).1
  rw [World.cell?_setCell_other _ _ _ _ (by simp <;> omega)]
  exact h j u hj
/-- The layers where one cell of the last is written over. -/
theorem MadeL.last {w : World} {B seed i0 gB D H L : Nat} {bs : List Bk} (h : MadeL w B seed i0 gB D H L bs) (h0 : 1 ≤ L) (hL : L ≤ 4) (h1 : D ≤ 4096) (h2 : H ≤ 4096) {x x' : Bk} (hx : bs[L - 1]? = some x) {i : Nat} (hi : i < 20) (s : Sl) (hc : x'.cells.toList = x.cells.toList.set i s.v) (ho : x'.Ok) (hb : bkB D H x' = false) :
    ∃ bs', BlocksAt (w.setCell ⟨gB, (L - 1) * 20 + i, none⟩ s.v) (rs gB L) bs' ∧ bs'.all (bkB D H) = false := by
  have hlen := h.len
  refine ⟨bs.set (L - 1) x', ⟨by simp [hlen, rs], by show L ≤ _; omega, fun y hy => ?_, fun _ => ⟨gB, 0, rfl, fun t y hy => ?_⟩⟩, ?_⟩
  · rcases List.mem_or_eq_of_mem_set hy with hy | rfl
    · obtain ⟨t, ht⟩ := List.mem_iff_getElem?.1 hy
      obtain ⟨_, f, q, k, v, o, s, u, d, rfl, _⟩ := h.at_ t y ht
      exact mkB_ok h1 h2
    · exact ho
  · rw [Nat.zero_add]
    rw [List.getElem?_set] at hy
    by_cases e : L - 1 = t
    · subst e
      rw [if_pos rfl, if_pos (by omega)] at hy
      obtain rfl := Option.some.inj hy
      rw [hc]
      exact rangeAt_set (h.at_ (L - 1) x hx).1 hi _
    · rw [if_neg e] at hy
      have ht : t < bs.length := (List.getElem?_eq_some_iff.1 hy).1
      exact rangeAt_apart (h.at_ t y hy).1 (Or.inr (by show t * 20 + 20 ≤ _; omega)) _
  · rw [← Bool.not_eq_true]
    intro ha
    have := List.all_eq_true.1 ha x' (List.mem_iff_getElem?.2 ⟨L - 1, by rw [List.getElem?_set, if_pos rfl, if_pos (by omega)]⟩)
    rw [hb] at this
    cases this
/-- A row of a made model that may be written over: what Check answers then. -/
structure Wanted (w : World) (g9 : Nat) (C : Cfg) (base ga oa gd n : Nat) : Prop where
  cell : w.cell? ⟨ga, oa, none⟩ = some (.slice (some ⟨gd, 0, none⟩) n n)
  froz : w.frozen? ⟨ga, oa, none⟩ = false
  row : ∃ B A, Fresh w B gd n n A
  pos : 1 ≤ n ∧ n ≤ 4096
  low : base ≤ ga
  eff : ∀ w', Below w.heap.size w w' → ∀ s : Sl, s.n ≠ n → s.n ≤ 9223372036854775807 → ∃ W' bs', Blk (w'.setCell ⟨ga, oa, none⟩ s.v) g9 29 W'.cells ∧ W'.Ok ∧ BlocksAt (w'.setCell ⟨ga, oa, none⟩ s.v) W'.b bs' ∧ checkN C.V C.D C.Hd C.H C.L W' bs' = 4
theorem Wanted.below {w w' : World} {g9 : Nat} {C : Cfg} {base ga oa gd n : Nat} (h : Wanted w g9 C base ga oa gd n) (hb : Below w.heap.size w w') : Wanted w' g9 C base ga oa gd n := by
  have hlt : ga < w.heap.size := by simpa using World.block_lt_of_cell? w _ h.cell
  obtain ⟨B, A, F⟩ := h.row
  exact ⟨(hb.cell (p := ⟨ga, oa, none⟩) hlt).trans h.cell, (World.frozen?_of_block (w := w) (hb.block ga hlt)).trans h.froz, ⟨B, A, F.below hb⟩, h.pos, h.low, fun w2 h2 => h.eff w2 (below_then hb h2)⟩
/-- Where the rows of a model lie. -/
def ptrN (g9 gB L : Nat) : Nat → Nat × Nat
  | 0 => (g9, 2)
  | 1 => (g9, 4)
  | 2 => (g9, 7)
  | 3 => (gB, (L - 1) * 20 + 0)
  | 4 => (gB, (L - 1) * 20 + 3)
  | 5 => (gB, (L - 1) * 20 + 6)
  | 6 => (gB, (L - 1) * 20 + 9)
  | 7 => (gB, (L - 1) * 20 + 12)
  | 8 => (gB, (L - 1) * 20 + 13)
  | 9 => (gB, (L - 1) * 20 + 16)
  | _ => (gB, (L - 1) * 20 + 19)
theorem blocks_other {w : World} {b : Sl} {bs : List Bk} {gB : Nat} (h : BlocksAt w b bs) (hb : ∀ g o, b.ao = some ⟨g, o, none⟩ → g = gB) {a : Addr} (ha : gB ≠ a.block) (v : Value) : BlocksAt (w.setCell a v) b bs := by
  refine ⟨h.len, h.max, h.ok, fun hn => ?_⟩
  obtain ⟨g, o, e, hc⟩ := h.cells hn
  refine ⟨g, o, e, fun t x hx => rangeAt_block (hc t x hx) (Below.heap_setCell _ _ _ _ (by rw [hb g o e]; exact ha))⟩
section
variable {w : World} {C : Cfg} {B seed i0 V D H L ge gB gl go g9 base : Nat} {bs : List Bk}
theorem wanted_top (h : MadeL w B seed i0 gB D H L bs) (X : Blk w g9 29 (mkW V D L ge gB gl go).cells) (hne : gB ≠ g9) (hgB : gB < w.heap.size) (hlow : base ≤ g9)
    (e1 : C.V = V) (e2 : C.D = D) (e4 : C.H = H) (e5 : C.L = L) (hs : shapeN C.V C.D C.Hd C.H C.L = 0) (i gd n : Nat)
    (hc : (mkW V D L ge gB gl go).cells[i]? = some (.slice (some ⟨gd, 0, none⟩) n n)) (hF : ∃ B A, Fresh w B gd n n A) (hn : 1 ≤ n ∧ n ≤ 4096)
    (he : ∀ s : Sl, s.n ≠ n → s.n ≤ 9223372036854775807 → ∃ W' : Wt, W'.cells = (mkW V D L ge gB gl go).cells.setIfInBounds i s.v ∧ W'.Ok ∧ W'.b = rs gB L ∧ fitsB V D H L W' bs = false) :
    Wanted w g9 C base g9 i gd n := by
  have hk := shape_ok hs
  refine ⟨X.cell i hc, X.frozen i, hF, hn, hlow, fun w' hb s h1 h2 => ?_⟩
  obtain ⟨W', c1, c2, c3, c4⟩ := he s h1 h2
  refine ⟨W', bs, ?_, c2, ?_, ?_⟩
  · rw [c1]; exact (X.below hb).set i _
  · rw [c3]
    exact blocks_other ((h.below hgB hb).blocks (by omega) (by omega) (by omega)) (fun g o e => by cases e; rfl) (by exact hne) _
  · rw [e1, e2, e4, e5] at hs ⊢
    exact check_four hs c4
theorem wanted_deep (h : MadeL w B seed i0 gB D H L bs) (X : Blk w g9 29 (mkW V D L ge gB gl go).cells) (hne : gB ≠ g9) (hgB : gB < w.heap.size) (hfr : ∀ o, w.frozen? ⟨gB, o, none⟩ = false) (hlow : base ≤ gB)
    (e1 : C.V = V) (e2 : C.D = D) (e4 : C.H = H) (e5 : C.L = L) (hs : shapeN C.V C.D C.Hd C.H C.L = 0) (x : Bk) (hx : bs[L - 1]? = some x) (i gd n : Nat) (hi : i < 20)
    (hc : x.cells.toList[i]? = some (.slice (some ⟨gd, 0, none⟩) n n)) (hF : ∃ B A, Fresh w B gd n n A) (hn : 1 ≤ n ∧ n ≤ 4096)
    (he : ∀ s : Sl, s.n ≠ n → s.n ≤ 9223372036854775807 → ∃ x' : Bk, x'.cells.toList = x.cells.toList.set i s.v ∧ x'.Ok ∧ bkB D H x' = false) :
    Wanted w g9 C base gB ((L - 1) * 20 + i) gd n := by
  have hk := shape_ok hs
  refine ⟨(h.at_ (L - 1) x hx).1 i _ hc, hfr _, hF, hn, hlow, fun w' hb s h1 h2 => ?_⟩
  obtain ⟨x', c1, c2, c3⟩ := he s h1 h2
  obtain ⟨bs', b1, b2⟩ := (h.below hgB hb).last (by omega) (by omega) (by omega) (by omega) hx hi s c1 c2 c3
  refine ⟨mkW V D L ge gB gl go, bs', (X.below hb).other (by show g9 ≠ gB; omega) _, mkW_ok (by omega) (by omega), b1, ?_⟩
  rw [e1, e2, e4, e5] at hs ⊢
  refine check_four hs ?_
  unfold fitsB
  rw [b2]
  simp
theorem wanted_all (M : MadeW w B seed V D H L ge gB gl go) (h : MadeL w B seed i0 gB D H L bs) (X : Blk w g9 29 (mkW V D L ge gB gl go).cells) (hl1 : base ≤ g9) (hl2 : base ≤ B)
    (e1 : C.V = V) (e2 : C.D = D) (e4 : C.H = H) (e5 : C.L = L) (hs : shapeN C.V C.D C.Hd C.H C.L = 0) (i : Nat) (hi : i < 11) :
    ∃ gd n, Wanted w g9 C base (ptrN g9 gB L i).1 (ptrN g9 gB L i).2 gd n := by
  have hk := shape_ok hs
  obtain ⟨cs, hB, _⟩ := M.bl
  have hgB : gB < w.heap.size := (Array.getElem?_eq_some_iff.1 hB).1
  have hne : gB ≠ g9 := by
    rintro rfl
    unfold Blk at X
    rw [hB] at X
    simp at X
  have hfr : ∀ o, w.frozen? ⟨gB, o, none⟩ = false := fun o => Blk.frozen (T := 60) (cs := cs) hB o
  have hlow : base ≤ gB := Nat.le_trans hl2 M.base
  have p1 : 1 ≤ V * D ∧ V * D ≤ 4096 := ⟨Nat.mul_pos (by omega) (by omega), Nat.le_trans (Nat.mul_le_mul (show V ≤ 64 by omega) (show D ≤ 32 by omega)) (by omega)⟩
  have p2 : 1 ≤ D * D ∧ D * D ≤ 4096 := ⟨Nat.mul_pos (by omega) (by omega), Nat.le_trans (Nat.mul_le_mul (show D ≤ 32 by omega) (show D ≤ 32 by omega)) (by omega)⟩
  have p3 : 1 ≤ H * D ∧ H * D ≤ 4096 := ⟨Nat.mul_pos (by omega) (by omega), Nat.le_trans (Nat.mul_le_mul (show H ≤ 64 by omega) (show D ≤ 32 by omega)) (by omega)⟩
  have p4 : 1 ≤ D * H ∧ D * H ≤ 4096 := ⟨Nat.mul_pos (by omega) (by omega), Nat.le_trans (Nat.mul_le_mul (show D ≤ 32 by omega) (show H ≤ 64 by omega)) (by omega)⟩
  have p5 : 1 ≤ D ∧ D ≤ 4096 := by omega
  have iV : I64 (V : Int) := i64_nat (by omega)
  have iD : I64 (D : Int) := i64_nat (by omega)
  have iH : I64 (H : Int) := i64_nat (by omega)
  have hD : D ≤ 9223372036854775807 := by omega
  obtain ⟨x, hx⟩ : ∃ x, bs[L - 1]? = some x := ⟨_, List.getElem?_eq_getElem (by rw [h.len]; omega)⟩
  obtain ⟨_, f, q, k, v, o, s, u, d, rfl, MB⟩ := h.at_ (L - 1) x hx
  have top := wanted_top (base := base) h X hne hgB hl1 e1 e2 e4 e5 hs
  have deep := wanted_deep (base := base) h X hne hgB hfr hlow e1 e2 e4 e5 hs _ hx
  have hor : i = 0 ∨ i = 1 ∨ i = 2 ∨ i = 3 ∨ i = 4 ∨ i = 5 ∨ i = 6 ∨ i = 7 ∨ i = 8 ∨ i = 9 ∨ i = 10 := by omega
  rcases hor with rfl | rfl | rfl | rfl | rfl | rfl | rfl | rfl | rfl | rfl | rfl
  · refine ⟨ge, V * D, top 2 ge (V * D) rfl ⟨_, _, M.e⟩ p1 (fun t h1 h2 => ⟨⟨⟨V, D, t⟩, rs gB L, rs gl D, ⟨V, D, rs go (V * D)⟩⟩, rfl, ⟨⟨iV, iD⟩, hD, ⟨iV, iD⟩⟩, rfl, ?_⟩)⟩
    unfold fitsB; simp only; rw [sides_no t _ _ h1]; simp
  · refine ⟨gl, D, top 4 gl D rfl ⟨_, _, M.l⟩ p5 (fun t h1 h2 => ⟨⟨⟨V, D, rs ge (V * D)⟩, rs gB L, t, ⟨V, D, rs go (V * D)⟩⟩, rfl, ⟨⟨iV, iD⟩, h2, ⟨iV, iD⟩⟩, rfl, ?_⟩)⟩
    unfold fitsB; simp only; rw [decide_eq_false (show ¬ ((t.n : Int) = D) by omega)]; simp
  · refine ⟨go, V * D, top 7 go (V * D) rfl ⟨_, _, M.o⟩ p1 (fun t h1 h2 => ⟨⟨⟨V, D, rs ge (V * D)⟩, rs gB L, rs gl D, ⟨V, D, t⟩⟩, rfl, ⟨⟨iV, iD⟩, hD, ⟨iV, iD⟩⟩, rfl, ?_⟩)⟩
    unfold fitsB; simp only; rw [sides_no t _ _ h1]; simp
  · refine ⟨f, D, deep 0 f (D) (by omega) rfl ⟨_, _, MB.f⟩ p5 (fun t h1 h2 => ⟨⟨t, ⟨D, D, rs q (D * D)⟩, ⟨D, D, rs k (D * D)⟩, ⟨D, D, rs v (D * D)⟩, ⟨D, D, rs o (D * D)⟩, rs s D, ⟨H, D, rs u (H * D)⟩, ⟨D, H, rs d (D * H)⟩⟩, rfl, ⟨h2, ⟨iD, iD⟩, ⟨iD, iD⟩, ⟨iD, iD⟩, ⟨iD, iD⟩, hD, ⟨iH, iD⟩, ⟨iD, iH⟩⟩, ?_⟩)⟩
    unfold bkB; simp only; rw [decide_eq_false (show ¬ ((t.n : Int) = D) by omega)]; simp
  · refine ⟨q, D * D, deep 3 q (D * D) (by omega) rfl ⟨_, _, MB.q⟩ p2 (fun t h1 h2 => ⟨⟨rs f D, ⟨D, D, t⟩, ⟨D, D, rs k (D * D)⟩, ⟨D, D, rs v (D * D)⟩, ⟨D, D, rs o (D * D)⟩, rs s D, ⟨H, D, rs u (H * D)⟩, ⟨D, H, rs d (D * H)⟩⟩, rfl, ⟨hD, ⟨iD, iD⟩, ⟨iD, iD⟩, ⟨iD, iD⟩, ⟨iD, iD⟩, hD, ⟨iH, iD⟩, ⟨iD, iH⟩⟩, ?_⟩)⟩
    unfold bkB; simp only; rw [sides_no t _ _ h1]; simp
  · refine ⟨k, D * D, deep 6 k (D * D) (by omega) rfl ⟨_, _, MB.k⟩ p2 (fun t h1 h2 => ⟨⟨rs f D, ⟨D, D, rs q (D * D)⟩, ⟨D, D, t⟩, ⟨D, D, rs v (D * D)⟩, ⟨D, D, rs o (D * D)⟩, rs s D, ⟨H, D, rs u (H * D)⟩, ⟨D, H, rs d (D * H)⟩⟩, rfl, ⟨hD, ⟨iD, iD⟩, ⟨iD, iD⟩, ⟨iD, iD⟩, ⟨iD, iD⟩, hD, ⟨iH, iD⟩, ⟨iD, iH⟩⟩, ?_⟩)⟩
    unfold bkB; simp only; rw [sides_no t _ _ h1]; simp
  · refine ⟨v, D * D, deep 9 v (D * D) (by omega) rfl ⟨_, _, MB.v⟩ p2 (fun t h1 h2 => ⟨⟨rs f D, ⟨D, D, rs q (D * D)⟩, ⟨D, D, rs k (D * D)⟩, ⟨D, D, t⟩, ⟨D, D, rs o (D * D)⟩, rs s D, ⟨H, D, rs u (H * D)⟩, ⟨D, H, rs d (D * H)⟩⟩, rfl, ⟨hD, ⟨iD, iD⟩, ⟨iD, iD⟩, ⟨iD, iD⟩, ⟨iD, iD⟩, hD, ⟨iH, iD⟩, ⟨iD, iH⟩⟩, ?_⟩)⟩
    unfold bkB; simp only; rw [sides_no t _ _ h1]; simp
  · refine ⟨o, D * D, deep 12 o (D * D) (by omega) rfl ⟨_, _, MB.o⟩ p2 (fun t h1 h2 => ⟨⟨rs f D, ⟨D, D, rs q (D * D)⟩, ⟨D, D, rs k (D * D)⟩, ⟨D, D, rs v (D * D)⟩, ⟨D, D, t⟩, rs s D, ⟨H, D, rs u (H * D)⟩, ⟨D, H, rs d (D * H)⟩⟩, rfl, ⟨hD, ⟨iD, iD⟩, ⟨iD, iD⟩, ⟨iD, iD⟩, ⟨iD, iD⟩, hD, ⟨iH, iD⟩, ⟨iD, iH⟩⟩, ?_⟩)⟩
    unfold bkB; simp only; rw [sides_no t _ _ h1]; simp
  · refine ⟨s, D, deep 13 s (D) (by omega) rfl ⟨_, _, MB.s⟩ p5 (fun t h1 h2 => ⟨⟨rs f D, ⟨D, D, rs q (D * D)⟩, ⟨D, D, rs k (D * D)⟩, ⟨D, D, rs v (D * D)⟩, ⟨D, D, rs o (D * D)⟩, t, ⟨H, D, rs u (H * D)⟩, ⟨D, H, rs d (D * H)⟩⟩, rfl, ⟨hD, ⟨iD, iD⟩, ⟨iD, iD⟩, ⟨iD, iD⟩, ⟨iD, iD⟩, h2, ⟨iH, iD⟩, ⟨iD, iH⟩⟩, ?_⟩)⟩
    unfold bkB; simp only; rw [decide_eq_false (show ¬ ((t.n : Int) = D) by omega)]; simp
  · refine ⟨u, H * D, deep 16 u (H * D) (by omega) rfl ⟨_, _, MB.u⟩ p3 (fun t h1 h2 => ⟨⟨rs f D, ⟨D, D, rs q (D * D)⟩, ⟨D, D, rs k (D * D)⟩, ⟨D, D, rs v (D * D)⟩, ⟨D, D, rs o (D * D)⟩, rs s D, ⟨H, D, t⟩, ⟨D, H, rs d (D * H)⟩⟩, rfl, ⟨hD, ⟨iD, iD⟩, ⟨iD, iD⟩, ⟨iD, iD⟩, ⟨iD, iD⟩, hD, ⟨iH, iD⟩, ⟨iD, iH⟩⟩, ?_⟩)⟩
    unfold bkB; simp only; rw [sides_no t _ _ h1]; simp
  · refine ⟨d, D * H, deep 19 d (D * H) (by omega) rfl ⟨_, _, MB.d⟩ p4 (fun t h1 h2 => ⟨⟨rs f D, ⟨D, D, rs q (D * D)⟩, ⟨D, D, rs k (D * D)⟩, ⟨D, D, rs v (D * D)⟩, ⟨D, D, rs o (D * D)⟩, rs s D, ⟨H, D, rs u (H * D)⟩, ⟨D, H, t⟩⟩, rfl, ⟨hD, ⟨iD, iD⟩, ⟨iD, iD⟩, ⟨iD, iD⟩, ⟨iD, iD⟩, hD, ⟨iH, iD⟩, ⟨iD, iH⟩⟩, ?_⟩)⟩
    unfold bkB; simp only; rw [sides_no t _ _ h1]; simp
end
end Go.Proofs.YtmdjlaileakbeaaGreatDoor

/- Package step: Feed: a token more. -/
namespace Go.Proofs.YtmdjlaileakbeaaGreatDoor
open Go.ChangeShapes Go.WideShapes Go.ChangeAt Go.RowKit
/-- A model's numbers that fit their configuration. -/
structure Good (w : World) (V D Hd H L : Nat) (W : Wt) (bs : List Bk) (M : Mdl) : Prop where
  wt : WtAt w V D H W bs M
  ok : W.Ok
  len : bs.length = L
  shape : shapeN V D Hd H L = 0
  chk : checkN V D Hd H L W bs = 0
theorem Good.below {w w' : World} {V D Hd H L : Nat} {W : Wt} {bs : List Bk} {M : Mdl} (h : Good w V D Hd H L W bs M) (hb : Below w.heap.size w w') : Good w' V D Hd H L W bs M := ⟨h.wt.below hb, h.ok, h.len, h.shape, h.chk⟩
theorem shape_mod {V D Hd H L : Nat} (h : shapeN V D Hd H L = 0) : D % Hd = 0 := by
  have hk := shape_ok h
  unfold shapeN at h
  rw [if_neg (by omega), if_neg (by omega)] at h
  have h9 : (D : Int).tmod (Hd : Int) = 0 := by simpa using h
  have h8 := Int.ofNat_tmod D Hd
  omega
theorem check_good {w : World} {V D Hd H L : Nat} {W : Wt} {bs : List Bk} {M : Mdl} (h : Good w V D Hd H L W bs M) :
   Calls Tryz.prog 20 #[.agg (cfgC V D Hd H L), .agg W.cells] w fun e w' => e = .returned (.int .i64 0) ∧ Below w.heap.size w w' := by
  have hk := shape_ok h.shape
  have := mcheck_any ⟨V, D, Hd, H, L⟩ ⟨i64_nat (by omega), i64_nat (by omega), i64_nat (by omega), i64_nat (by omega), i64_nat (by omega)⟩ W bs w h.ok h.wt.b
  rw [h.chk] at this
  exact this
theorem fit_feed {M : Mdl} {V D H Hd L : Nat} {X : Vw} {tok : Nat} (hf : VwFit V D L X) (ht : tok < V) (hl : X.T.length ≤ 127) : VwFit V D L (feedV M D H Hd L X tok) := by
  have kl : ∀ l, l < L → (X.K.getD l []).length = X.T.length ∧ ∀ t, t < X.T.length → (rowOf (X.K.getD l []) t).length = D := fun l h => fit_list hf.k hf.ks h
  have vl : ∀ l, l < L → (X.V.getD l []).length = X.T.length ∧ ∀ t, t < X.T.length → (rowOf (X.V.getD l []) t).length = D := fun l h => fit_list hf.v hf.vs h
  have tl : (feedV M D H Hd L X tok).T.length = X.T.length + 1 := by unfold feedV; simp
  refine ⟨by rw [tl]; omega, ?_, ?_, ?_, ?_, ?_⟩
  · unfold feedV
    simp only [List.all_append, hf.toks, Bool.true_and, List.all_cons, List.all_nil, Bool.and_true]
    unfold tokB
    exact decide_eq_true (by omega)
  · rw [tl, if_neg (by omega)]; unfold feedV newK; simp
  · rw [tl, if_neg (by omega)]; unfold feedV newV; simp
  · intro R hR
    rw [tl]
    unfold feedV newK at hR
    simp only [List.mem_map, List.mem_range] at hR
    obtain ⟨l, h1, rfl⟩ := hR
    obtain ⟨q1, q2⟩ := kl l h1
    exact ⟨by rw [List.length_append, q1]; rfl, rowOf_snoc_len q1 q2 (apl_len _ _ _ _)⟩
  · intro R hR
    rw [tl]
    unfold feedV newV at hR
    simp only [List.mem_map, List.mem_range] at hR
    obtain ⟨l, h1, rfl⟩ := hR
    obtain ⟨q1, q2⟩ := vl l h1
    exact ⟨by rw [List.length_append, q1]; rfl, rowOf_snoc_len q1 q2 (apl_len _ _ _ _)⟩
theorem results_blk3 {fn : Func} {p u v : Tmp} {ty : TypeId} (h : fn.results = #[.cell p ty, .tmp u, .tmp v]) (tmps : Array Value) (w : World) (g : Nat) (cs : Array Value)
    (hp : tmps.getD p undef = .pointer (some ⟨g, 0, none⟩)) (hl : (loadVar ty ⟨g, 0, none⟩).run Tryz.prog w = .ok (.agg cs) w) :
    (results fn tmps).run Tryz.prog w = .ok (.tuple #[.agg cs, tmps.getD u undef, tmps.getD v undef]) w := by
  have hp' : tmps[p]?.getD undef = .pointer (some ⟨g, 0, none⟩) := by simpa using hp
  simp [results, h, hp', asAddr, hl]
theorem load_v {w : World} {g : Nat} {cs : Array Value} (h : Blk w g 35 cs) (hs : cs.size = 3) : (loadVar 35 ⟨g, 0, none⟩).run Tryz.prog w = .ok (.agg cs) w :=
  run_loadVar_row w g _ _ cs _ _ h Tryz.underlying35 rfl (by rw [hs]; exact Tryz.infoV)
/-- The cells of no view. -/
def noV : Array Value := #[.slice none 0 0, .slice none 0 0, .slice none 0 0]
set_option maxRecDepth 100000 in
set_option maxHeartbeats 800000 in
theorem feed_big (V D Hd H L : Nat) (W : Wt) (bs : List Bk) (M : Mdl) (v : VwV) (X : Vw) (tok : Int) (w : World) (hb : X.T.length = 128) (hG : Good w V D Hd H L W bs M) (hv : VwAt w v X) (hf : VwFit V D L X) :
   Calls Tryz.prog 6 #[.agg (cfgC V D Hd H L), .agg W.cells, .agg v.cells, .int .i64 tok] w fun e w' => e = .returned (.tuple #[.agg noV, .slice none 0 0, .int .i64 2]) ∧ Below w.heap.size w w' := by
  obtain ⟨q1, q2, q3, q4, q5, q6, q7, q8, q9, q10⟩ := shape_ok hG.shape
  have hlen := hv.t.row.len
  have most := hf.most
  have CK := fun (wv : World) (hb : Below w.heap.size w wv) => check_good (hG.below hb)
  have CF := fun (wv : World) (hb : Below w.heap.size w wv) => sfits_ok V D Hd H L v X wv (hv.below hb) hf (by omega)
  obtain ⟨⟨ta, n, tz⟩, ⟨ka, kn, kz⟩, ⟨va, vn, vz⟩⟩ := v
  simp only at hlen
  unfold VwV.cells Sl.v cfgC at CF
  unfold cfgC at CK
  simp only at CF
  show Calls Tryz.prog 6 #[.agg #[.int .i64 (V : Int), .int .i64 (D : Int), .int .i64 (Hd : Int), .int .i64 (H : Int), .int .i64 (L : Int)], .agg W.cells, .agg #[.slice ta n tz, .slice ka kn kz, .slice va vn vz], .int .i64 tok] w _
  have siz : W.cells.size = 8 := rfl
  generalize hws : W.cells = ws at *
  have X0 := blk_new w 23 #[.int .i64 (V : Int), .int .i64 (D : Int), .int .i64 (Hd : Int), .int .i64 (H : Int), .int .i64 (L : Int)]
  have B0 : Below w.heap.size w (w.alloc (.cells #[.int .i64 (V : Int), .int .i64 (D : Int), .int .i64 (Hd : Int), .int .i64 (H : Int), .int .i64 (L : Int)] 23)) := (Below.refl _ _).alloc (Nat.le_refl _) _
  have s0 : (w.alloc (.cells #[.int .i64 (V : Int), .int .i64 (D : Int), .int .i64 (Hd : Int), .int .i64 (H : Int), .int .i64 (L : Int)] 23)).heap.size = w.heap.size + 1 := by simp
  generalize hw0 : w.alloc (.cells #[.int .i64 (V : Int), .int .i64 (D : Int), .int .i64 (Hd : Int), .int .i64 (H : Int), .int .i64 (L : Int)] 23) = w0 at *
  have X1 := blk_new w0 29 ws
  have B1 : Below w0.heap.size w0 (w0.alloc (.cells ws 29)) := (Below.refl _ _).alloc (Nat.le_refl _) _
  have s1 : (w0.alloc (.cells ws 29)).heap.size = w0.heap.size + 1 := by simp
  rw [s0] at X1 s1
  generalize hw1 : w0.alloc (.cells ws 29) = w1 at *
  have X2 := blk_new w1 35 #[.slice ta n tz, .slice ka kn kz, .slice va vn vz]
  have B2 : Below w1.heap.size w1 (w1.alloc (.cells #[.slice ta n tz, .slice ka kn kz, .slice va vn vz] 35)) := (Below.refl _ _).alloc (Nat.le_refl _) _
  have s2 : (w1.alloc (.cells #[.slice ta n tz, .slice ka kn kz, .slice va vn vz] 35)).heap.size = w1.heap.size + 1 := by simp
  rw [s1] at X2 s2
  generalize hw2 : w1.alloc (.cells #[.slice ta n tz, .slice ka kn kz, .slice va vn vz] 35) = w2 at *
  have X3 := blk_new w2 35 #[.slice none 0 0, .slice none 0 0, .slice none 0 0]
  have B3 : Below w2.heap.size w2 (w2.alloc (.cells #[.slice none 0 0, .slice none 0 0, .slice none 0 0] 35)) := (Below.refl _ _).alloc (Nat.le_refl _) _
  have s3 : (w2.alloc (.cells #[.slice none 0 0, .slice none 0 0, .slice none 0 0] 35)).heap.size = w2.heap.size + 1 := by simp
  rw [s2] at X3 s3
  generalize hw3 : w2.alloc (.cells #[.slice none 0 0, .slice none 0 0, .slice none 0 0] 35) = w3 at *
  replace X0 := ((X0.below B1).below B2).below B3
  replace X1 := (X1.below B2).below B3
  replace X2 := X2.below B3
  replace B3 := below_then (below_then (below_then B0 B1) B2) B3
  have hn : (128 : Int) ≤ (n : Int) := by omega
  have a0 : w3.cell? ⟨w.heap.size, 0, none⟩ = some (.int .i64 (V : Int)) := X0.cell 0 rfl
  have a1 : w3.cell? ⟨w.heap.size, 1, none⟩ = some (.int .i64 (D : Int)) := X0.cell 1 rfl
  have a2 : w3.cell? ⟨w.heap.size, 2, none⟩ = some (.int .i64 (Hd : Int)) := X0.cell 2 rfl
  have a3 : w3.cell? ⟨w.heap.size, 3, none⟩ = some (.int .i64 (H : Int)) := X0.cell 3 rfl
  have a4 : w3.cell? ⟨w.heap.size, 4, none⟩ = some (.int .i64 (L : Int)) := X0.cell 4 rfl
  go_enter Tryz.func6, Tryz.ntmps6
  go_wp2_with (refine wpList_load_row rfl 29 _ rfl (w.heap.size + 1) rfl 29 ws (0, 0) _ X1 Tryz.underlying29 rfl (by rw [siz]; exact Tryz.infoW) ?_)
  refine (CK _ B3).mono ?_
  rintro e w4 ⟨rfl, B4⟩
  replace X0 := X0.below B4
  replace X1 := X1.below B4
  replace X2 := X2.below B4
  replace X3 := X3.below B4
  have D4 := below_then B3 B4
  clear a0 a1 a2 a3 a4 B3 B4 CK hw0 hw1 hw2 hw3 B0 B1 B2 s0 s1 s2 s3
  have a0 : w4.cell? ⟨w.heap.size, 0, none⟩ = some (.int .i64 (V : Int)) := X0.cell 0 rfl
  have a1 : w4.cell? ⟨w.heap.size, 1, none⟩ = some (.int .i64 (D : Int)) := X0.cell 1 rfl
  have a2 : w4.cell? ⟨w.heap.size, 2, none⟩ = some (.int .i64 (Hd : Int)) := X0.cell 2 rfl
  have a3 : w4.cell? ⟨w.heap.size, 3, none⟩ = some (.int .i64 (H : Int)) := X0.cell 3 rfl
  have a4 : w4.cell? ⟨w.heap.size, 4, none⟩ = some (.int .i64 (L : Int)) := X0.cell 4 rfl
  have b0 : w4.cell? ⟨w.heap.size + 1 + 1, 0, none⟩ = some (.slice ta n tz) := X2.cell 0 rfl
  have b1 : w4.cell? ⟨w.heap.size + 1 + 1, 1, none⟩ = some (.slice ka kn kz) := X2.cell 1 rfl
  have b2 : w4.cell? ⟨w.heap.size + 1 + 1, 2, none⟩ = some (.slice va vn vz) := X2.cell 2 rfl
  go_wp2_with fail
  refine (CF _ D4).mono ?_
  rintro e w5 ⟨rfl, B5⟩
  replace X0 := X0.below B5
  replace X1 := X1.below B5
  replace X2 := X2.below B5
  replace X3 := X3.below B5
  have D5 := below_then D4 B5
  clear a0 a1 a2 a3 a4 b0 b1 b2 D4 B5 CF
  have a0 : w5.cell? ⟨w.heap.size, 0, none⟩ = some (.int .i64 (V : Int)) := X0.cell 0 rfl
  have a1 : w5.cell? ⟨w.heap.size, 1, none⟩ = some (.int .i64 (D : Int)) := X0.cell 1 rfl
  have a2 : w5.cell? ⟨w.heap.size, 2, none⟩ = some (.int .i64 (Hd : Int)) := X0.cell 2 rfl
  have a3 : w5.cell? ⟨w.heap.size, 3, none⟩ = some (.int .i64 (H : Int)) := X0.cell 3 rfl
  have a4 : w5.cell? ⟨w.heap.size, 4, none⟩ = some (.int .i64 (L : Int)) := X0.cell 4 rfl
  have b0 : w5.cell? ⟨w.heap.size + 1 + 1, 0, none⟩ = some (.slice ta n tz) := X2.cell 0 rfl
  have b1 : w5.cell? ⟨w.heap.size + 1 + 1, 1, none⟩ = some (.slice ka kn kz) := X2.cell 1 rfl
  have b2 : w5.cell? ⟨w.heap.size + 1 + 1, 2, none⟩ = some (.slice va vn vz) := X2.cell 2 rfl
  have hall : Array.all (#[.slice none 0 0, .slice none 0 0, .slice none 0 0] : Array Value) (fun v => v.oneCell') = true := by simp [Value.oneCell']
  go_wp2_with (refine wpList_store_row rfl 35 _ _ rfl (w.heap.size + 1 + 1 + 1) #[.slice none 0 0, .slice none 0 0, .slice none 0 0] rfl rfl 35 _ X3 Tryz.infoV rfl hall ?_)
  refine bodyPost_ret (results_blk3 rfl _ _ (w.heap.size + 1 + 1 + 1) _ rfl (load_v (X3.row _) rfl)) rfl ?_
  exact ⟨rfl, below_setRow D5 (by omega) _⟩
set_option maxRecDepth 100000 in
set_option maxHeartbeats 800000 in
theorem feed_tok (V D Hd H L : Nat) (W : Wt) (bs : List Bk) (M : Mdl) (v : VwV) (X : Vw) (tok : Int) (w : World) (hl : X.T.length ≤ 127) (hb : tokB V tok = false) (hG : Good w V D Hd H L W bs M) (hv : VwAt w v X) (hf : VwFit V D L X) :
   Calls Tryz.prog 6 #[.agg (cfgC V D Hd H L), .agg W.cells, .agg v.cells, .int .i64 tok] w fun e w' => e = .returned (.tuple #[.agg noV, .slice none 0 0, .int .i64 7]) ∧ Below w.heap.size w w' := by
  obtain ⟨q1, q2, q3, q4, q5, q6, q7, q8, q9, q10⟩ := shape_ok hG.shape
  have hlen := hv.t.row.len
  have most := hf.most
  have CK := fun (wv : World) (hb : Below w.heap.size w wv) => check_good (hG.below hb)
  have CF := fun (wv : World) (hb : Below w.heap.size w wv) => sfits_ok V D Hd H L v X wv (hv.below hb) hf (by omega)
  have CI := fun (wv : World) => isToken_any V D Hd H L tok wv
  obtain ⟨⟨ta, n, tz⟩, ⟨ka, kn, kz⟩, ⟨va, vn, vz⟩⟩ := v
  simp only at hlen
  unfold VwV.cells Sl.v cfgC at CF
  unfold cfgC at CK CI
  simp only at CF
  show Calls Tryz.prog 6 #[.agg #[.int .i64 (V : Int), .int .i64 (D : Int), .int .i64 (Hd : Int), .int .i64 (H : Int), .int .i64 (L : Int)], .agg W.cells, .agg #[.slice ta n tz, .slice ka kn kz, .slice va vn vz], .int .i64 tok] w _
  have siz : W.cells.size = 8 := rfl
  generalize hws : W.cells = ws at *
  have X0 := blk_new w 23 #[.int .i64 (V : Int), .int .i64 (D : Int), .int .i64 (Hd : Int), .int .i64 (H : Int), .int .i64 (L : Int)]
  have B0 : Below w.heap.size w (w.alloc (.cells #[.int .i64 (V : Int), .int .i64 (D : Int), .int .i64 (Hd : Int), .int .i64 (H : Int), .int .i64 (L : Int)] 23)) := (Below.refl _ _).alloc (Nat.le_refl _) _
  have s0 : (w.alloc (.cells #[.int .i64 (V : Int), .int .i64 (D : Int), .int .i64 (Hd : Int), .int .i64 (H : Int), .int .i64 (L : Int)] 23)).heap.size = w.heap.size + 1 := by simp
  generalize hw0 : w.alloc (.cells #[.int .i64 (V : Int), .int .i64 (D : Int), .int .i64 (Hd : Int), .int .i64 (H : Int), .int .i64 (L : Int)] 23) = w0 at *
  have X1 := blk_new w0 29 ws
  have B1 : Below w0.heap.size w0 (w0.alloc (.cells ws 29)) := (Below.refl _ _).alloc (Nat.le_refl _) _
  have s1 : (w0.alloc (.cells ws 29)).heap.size = w0.heap.size + 1 := by simp
  rw [s0] at X1 s1
  generalize hw1 : w0.alloc (.cells ws 29) = w1 at *
  have X2 := blk_new w1 35 #[.slice ta n tz, .slice ka kn kz, .slice va vn vz]
  have B2 : Below w1.heap.size w1 (w1.alloc (.cells #[.slice ta n tz, .slice ka kn kz, .slice va vn vz] 35)) := (Below.refl _ _).alloc (Nat.le_refl _) _
  have s2 : (w1.alloc (.cells #[.slice ta n tz, .slice ka kn kz, .slice va vn vz] 35)).heap.size = w1.heap.size + 1 := by simp
  rw [s1] at X2 s2
  generalize hw2 : w1.alloc (.cells #[.slice ta n tz, .slice ka kn kz, .slice va vn vz] 35) = w2 at *
  have X3 := blk_new w2 35 #[.slice none 0 0, .slice none 0 0, .slice none 0 0]
  have B3 : Below w2.heap.size w2 (w2.alloc (.cells #[.slice none 0 0, .slice none 0 0, .slice none 0 0] 35)) := (Below.refl _ _).alloc (Nat.le_refl _) _
  have s3 : (w2.alloc (.cells #[.slice none 0 0, .slice none 0 0, .slice none 0 0] 35)).heap.size = w2.heap.size + 1 := by simp
  rw [s2] at X3 s3
  generalize hw3 : w2.alloc (.cells #[.slice none 0 0, .slice none 0 0, .slice none 0 0] 35) = w3 at *
  replace X0 := ((X0.below B1).below B2).below B3
  replace X1 := (X1.below B2).below B3
  replace X2 := X2.below B3
  replace B3 := below_then (below_then (below_then B0 B1) B2) B3
  have hn : ¬ (128 ≤ (n : Int)) := by omega
  have a0 : w3.cell? ⟨w.heap.size, 0, none⟩ = some (.int .i64 (V : Int)) := X0.cell 0 rfl
  have a1 : w3.cell? ⟨w.heap.size, 1, none⟩ = some (.int .i64 (D : Int)) := X0.cell 1 rfl
  have a2 : w3.cell? ⟨w.heap.size, 2, none⟩ = some (.int .i64 (Hd : Int)) := X0.cell 2 rfl
  have a3 : w3.cell? ⟨w.heap.size, 3, none⟩ = some (.int .i64 (H : Int)) := X0.cell 3 rfl
  have a4 : w3.cell? ⟨w.heap.size, 4, none⟩ = some (.int .i64 (L : Int)) := X0.cell 4 rfl
  go_enter Tryz.func6, Tryz.ntmps6
  go_wp2_with (refine wpList_load_row rfl 29 _ rfl (w.heap.size + 1) rfl 29 ws (0, 0) _ X1 Tryz.underlying29 rfl (by rw [siz]; exact Tryz.infoW) ?_)
  refine (CK _ B3).mono ?_
  rintro e w4 ⟨rfl, B4⟩
  replace X0 := X0.below B4
  replace X1 := X1.below B4
  replace X2 := X2.below B4
  replace X3 := X3.below B4
  have D4 := below_then B3 B4
  clear a0 a1 a2 a3 a4 B3 B4 CK hw0 hw1 hw2 hw3 B0 B1 B2 s0 s1 s2 s3
  have a0 : w4.cell? ⟨w.heap.size, 0, none⟩ = some (.int .i64 (V : Int)) := X0.cell 0 rfl
  have a1 : w4.cell? ⟨w.heap.size, 1, none⟩ = some (.int .i64 (D : Int)) := X0.cell 1 rfl
  have a2 : w4.cell? ⟨w.heap.size, 2, none⟩ = some (.int .i64 (Hd : Int)) := X0.cell 2 rfl
  have a3 : w4.cell? ⟨w.heap.size, 3, none⟩ = some (.int .i64 (H : Int)) := X0.cell 3 rfl
  have a4 : w4.cell? ⟨w.heap.size, 4, none⟩ = some (.int .i64 (L : Int)) := X0.cell 4 rfl
  have b0 : w4.cell? ⟨w.heap.size + 1 + 1, 0, none⟩ = some (.slice ta n tz) := X2.cell 0 rfl
  have b1 : w4.cell? ⟨w.heap.size + 1 + 1, 1, none⟩ = some (.slice ka kn kz) := X2.cell 1 rfl
  have b2 : w4.cell? ⟨w.heap.size + 1 + 1, 2, none⟩ = some (.slice va vn vz) := X2.cell 2 rfl
  go_wp2_with fail
  refine (CF _ D4).mono ?_
  rintro e w5 ⟨rfl, B5⟩
  replace X0 := X0.below B5
  replace X1 := X1.below B5
  replace X2 := X2.below B5
  replace X3 := X3.below B5
  have D5 := below_then D4 B5
  clear a0 a1 a2 a3 a4 b0 b1 b2 D4 B5 CF
  have a0 : w5.cell? ⟨w.heap.size, 0, none⟩ = some (.int .i64 (V : Int)) := X0.cell 0 rfl
  have a1 : w5.cell? ⟨w.heap.size, 1, none⟩ = some (.int .i64 (D : Int)) := X0.cell 1 rfl
  have a2 : w5.cell? ⟨w.heap.size, 2, none⟩ = some (.int .i64 (Hd : Int)) := X0.cell 2 rfl
  have a3 : w5.cell? ⟨w.heap.size, 3, none⟩ = some (.int .i64 (H : Int)) := X0.cell 3 rfl
  have a4 : w5.cell? ⟨w.heap.size, 4, none⟩ = some (.int .i64 (L : Int)) := X0.cell 4 rfl
  have b0 : w5.cell? ⟨w.heap.size + 1 + 1, 0, none⟩ = some (.slice ta n tz) := X2.cell 0 rfl
  have b1 : w5.cell? ⟨w.heap.size + 1 + 1, 1, none⟩ = some (.slice ka kn kz) := X2.cell 1 rfl
  have b2 : w5.cell? ⟨w.heap.size + 1 + 1, 2, none⟩ = some (.slice va vn vz) := X2.cell 2 rfl
  go_wp2_with fail
  refine (CI _).mono ?_
  rintro e w6 ⟨rfl, B6⟩
  rw [hb]
  replace X3 := X3.below B6
  have D6 := below_then D5 B6
  clear a0 a1 a2 a3 a4 b0 b1 b2 D5 CI
  have hall : Array.all (#[.slice none 0 0, .slice none 0 0, .slice none 0 0] : Array Value) (fun v => v.oneCell') = true := by simp [Value.oneCell']
  go_wp2_with (refine wpList_store_row rfl 35 _ _ rfl (w.heap.size + 1 + 1 + 1) #[.slice none 0 0, .slice none 0 0, .slice none 0 0] rfl rfl 35 _ X3 Tryz.infoV rfl hall ?_)
  refine bodyPost_ret (results_blk3 rfl _ _ (w.heap.size + 1 + 1 + 1) _ rfl (load_v (X3.row _) rfl)) rfl ?_
  exact ⟨rfl, below_setRow D6 (by omega) _⟩
set_option maxRecDepth 100000 in
set_option maxHeartbeats 800000 in
theorem feed_ok (V D Hd H L : Nat) (W : Wt) (bs : List Bk) (M : Mdl) (v : VwV) (X : Vw) (tok : Nat) (w : World) (hT : Tab w) (hl : X.T.length ≤ 127) (ht : tok < V) (hG : Good w V D Hd H L W bs M) (hv : VwAt w v X) (hf : VwFit V D L X) :
   Calls Tryz.prog 6 #[.agg (cfgC V D Hd H L), .agg W.cells, .agg v.cells, .int .i64 tok] w fun e w' => ∃ vv g, e = .returned (.tuple #[.agg (VwV.cells vv), .slice (some ⟨g, 0, none⟩) V V, .int .i64 0]) ∧ New w.heap.size w' (fun w => VwAt w vv (feedV M D H Hd L X tok)) ∧ Fresh w' w.heap.size g V V (likR M V D (feedX M D H Hd L X tok)) ∧ Below w.heap.size w w' := by
  obtain ⟨q1, q2, q3, q4, q5, q6, q7, q8, q9, q10⟩ := shape_ok hG.shape
  have hlen := hv.t.row.len
  have most := hf.most
  have CK := fun (wv : World) (hb : Below w.heap.size w wv) => check_good (hG.below hb)
  have CF := fun (wv : World) (hb : Below w.heap.size w wv) => sfits_ok V D Hd H L v X wv (hv.below hb) hf (by omega)
  have CI := fun (wv : World) => isToken_any V D Hd H L tok wv
  have htb : tokB V tok = true := by unfold tokB; exact decide_eq_true (by omega)
  have CG := fun (wv : World) (hb : Below w.heap.size w wv) => goOn_any V D Hd H L W bs M v X tok wv (hT.next hb) (hG.wt.below hb) (hv.below hb) hf hl ht (by omega) hG.len (by omega) (by omega) (by omega) (by omega) (by omega) (shape_mod hG.shape) (by omega)
  have CL := fun (wv : World) (hb : Below w.heap.size w wv) (xo : Option Addr) (cx : Nat) (Xr : List Int) (hX : RowAt wv xo D Xr) => likes_any V D H W bs M xo cx Xr wv (hG.wt.below hb) hX (by omega) (by omega)
  have hn0 : v.t.n ≤ 127 := by omega
  obtain ⟨⟨ta, n, tz⟩, ⟨ka, kn, kz⟩, ⟨va, vn, vz⟩⟩ := v
  simp only at hlen
  unfold VwV.cells Sl.v cfgC at CF
  unfold cfgC at CK CI CG
  unfold VwV.cells Sl.v at CG
  simp only at CG hn0
  simp only at CF
  show Calls Tryz.prog 6 #[.agg #[.int .i64 (V : Int), .int .i64 (D : Int), .int .i64 (Hd : Int), .int .i64 (H : Int), .int .i64 (L : Int)], .agg W.cells, .agg #[.slice ta n tz, .slice ka kn kz, .slice va vn vz], .int .i64 tok] w _
  have siz : W.cells.size = 8 := rfl
  generalize hws : W.cells = ws at *
  have X0 := blk_new w 23 #[.int .i64 (V : Int), .int .i64 (D : Int), .int .i64 (Hd : Int), .int .i64 (H : Int), .int .i64 (L : Int)]
  have B0 : Below w.heap.size w (w.alloc (.cells #[.int .i64 (V : Int), .int .i64 (D : Int), .int .i64 (Hd : Int), .int .i64 (H : Int), .int .i64 (L : Int)] 23)) := (Below.refl _ _).alloc (Nat.le_refl _) _
  have s0 : (w.alloc (.cells #[.int .i64 (V : Int), .int .i64 (D : Int), .int .i64 (Hd : Int), .int .i64 (H : Int), .int .i64 (L : Int)] 23)).heap.size = w.heap.size + 1 := by simp
  generalize hw0 : w.alloc (.cells #[.int .i64 (V : Int), .int .i64 (D : Int), .int .i64 (Hd : Int), .int .i64 (H : Int), .int .i64 (L : Int)] 23) = w0 at *
  have X1 := blk_new w0 29 ws
  have B1 : Below w0.heap.size w0 (w0.alloc (.cells ws 29)) := (Below.refl _ _).alloc (Nat.le_refl _) _
  have s1 : (w0.alloc (.cells ws 29)).heap.size = w0.heap.size + 1 := by simp
  rw [s0] at X1 s1
  generalize hw1 : w0.alloc (.cells ws 29) = w1 at *
  have X2 := blk_new w1 35 #[.slice ta n tz, .slice ka kn kz, .slice va vn vz]
  have B2 : Below w1.heap.size w1 (w1.alloc (.cells #[.slice ta n tz, .slice ka kn kz, .slice va vn vz] 35)) := (Below.refl _ _).alloc (Nat.le_refl _) _
  have s2 : (w1.alloc (.cells #[.slice ta n tz, .slice ka kn kz, .slice va vn vz] 35)).heap.size = w1.heap.size + 1 := by simp
  rw [s1] at X2 s2
  generalize hw2 : w1.alloc (.cells #[.slice ta n tz, .slice ka kn kz, .slice va vn vz] 35) = w2 at *
  have X3 := blk_new w2 35 #[.slice none 0 0, .slice none 0 0, .slice none 0 0]
  have B3 : Below w2.heap.size w2 (w2.alloc (.cells #[.slice none 0 0, .slice none 0 0, .slice none 0 0] 35)) := (Below.refl _ _).alloc (Nat.le_refl _) _
  have s3 : (w2.alloc (.cells #[.slice none 0 0, .slice none 0 0, .slice none 0 0] 35)).heap.size = w2.heap.size + 1 := by simp
  rw [s2] at X3 s3
  generalize hw3 : w2.alloc (.cells #[.slice none 0 0, .slice none 0 0, .slice none 0 0] 35) = w3 at *
  replace X0 := ((X0.below B1).below B2).below B3
  replace X1 := (X1.below B2).below B3
  replace X2 := X2.below B3
  replace B3 := below_then (below_then (below_then B0 B1) B2) B3
  have hn : ¬ (128 ≤ (n : Int)) := by omega
  have a0 : w3.cell? ⟨w.heap.size, 0, none⟩ = some (.int .i64 (V : Int)) := X0.cell 0 rfl
  have a1 : w3.cell? ⟨w.heap.size, 1, none⟩ = some (.int .i64 (D : Int)) := X0.cell 1 rfl
  have a2 : w3.cell? ⟨w.heap.size, 2, none⟩ = some (.int .i64 (Hd : Int)) := X0.cell 2 rfl
  have a3 : w3.cell? ⟨w.heap.size, 3, none⟩ = some (.int .i64 (H : Int)) := X0.cell 3 rfl
  have a4 : w3.cell? ⟨w.heap.size, 4, none⟩ = some (.int .i64 (L : Int)) := X0.cell 4 rfl
  go_enter Tryz.func6, Tryz.ntmps6
  go_wp2_with (refine wpList_load_row rfl 29 _ rfl (w.heap.size + 1) rfl 29 ws (0, 0) _ X1 Tryz.underlying29 rfl (by rw [siz]; exact Tryz.infoW) ?_)
  refine (CK _ B3).mono ?_
  rintro e w4 ⟨rfl, B4⟩
  replace X0 := X0.below B4
  replace X1 := X1.below B4
  replace X2 := X2.below B4
  replace X3 := X3.below B4
  have D4 := below_then B3 B4
  clear a0 a1 a2 a3 a4 B3 B4 CK hw0 hw1 hw2 hw3 B0 B1 B2 s0 s1 s2 s3
  have a0 : w4.cell? ⟨w.heap.size, 0, none⟩ = some (.int .i64 (V : Int)) := X0.cell 0 rfl
  have a1 : w4.cell? ⟨w.heap.size, 1, none⟩ = some (.int .i64 (D : Int)) := X0.cell 1 rfl
  have a2 : w4.cell? ⟨w.heap.size, 2, none⟩ = some (.int .i64 (Hd : Int)) := X0.cell 2 rfl
  have a3 : w4.cell? ⟨w.heap.size, 3, none⟩ = some (.int .i64 (H : Int)) := X0.cell 3 rfl
  have a4 : w4.cell? ⟨w.heap.size, 4, none⟩ = some (.int .i64 (L : Int)) := X0.cell 4 rfl
  have b0 : w4.cell? ⟨w.heap.size + 1 + 1, 0, none⟩ = some (.slice ta n tz) := X2.cell 0 rfl
  have b1 : w4.cell? ⟨w.heap.size + 1 + 1, 1, none⟩ = some (.slice ka kn kz) := X2.cell 1 rfl
  have b2 : w4.cell? ⟨w.heap.size + 1 + 1, 2, none⟩ = some (.slice va vn vz) := X2.cell 2 rfl
  go_wp2_with fail
  refine (CF _ D4).mono ?_
  rintro e w5 ⟨rfl, B5⟩
  replace X0 := X0.below B5
  replace X1 := X1.below B5
  replace X2 := X2.below B5
  replace X3 := X3.below B5
  have D5 := below_then D4 B5
  clear a0 a1 a2 a3 a4 b0 b1 b2 D4 B5 CF
  have a0 : w5.cell? ⟨w.heap.size, 0, none⟩ = some (.int .i64 (V : Int)) := X0.cell 0 rfl
  have a1 : w5.cell? ⟨w.heap.size, 1, none⟩ = some (.int .i64 (D : Int)) := X0.cell 1 rfl
  have a2 : w5.cell? ⟨w.heap.size, 2, none⟩ = some (.int .i64 (Hd : Int)) := X0.cell 2 rfl
  have a3 : w5.cell? ⟨w.heap.size, 3, none⟩ = some (.int .i64 (H : Int)) := X0.cell 3 rfl
  have a4 : w5.cell? ⟨w.heap.size, 4, none⟩ = some (.int .i64 (L : Int)) := X0.cell 4 rfl
  have b0 : w5.cell? ⟨w.heap.size + 1 + 1, 0, none⟩ = some (.slice ta n tz) := X2.cell 0 rfl
  have b1 : w5.cell? ⟨w.heap.size + 1 + 1, 1, none⟩ = some (.slice ka kn kz) := X2.cell 1 rfl
  have b2 : w5.cell? ⟨w.heap.size + 1 + 1, 2, none⟩ = some (.slice va vn vz) := X2.cell 2 rfl
  go_wp2_with fail
  refine (CI _).mono ?_
  rintro e w6 ⟨rfl, B6⟩
  rw [htb]
  replace X0 := X0.below B6
  replace X1 := X1.below B6
  replace X2 := X2.below B6
  replace X3 := X3.below B6
  have D6 := below_then D5 B6
  clear a0 a1 a2 a3 a4 b0 b1 b2 D5 CI B6
  have a0 : w6.cell? ⟨w.heap.size, 0, none⟩ = some (.int .i64 (V : Int)) := X0.cell 0 rfl
  have a1 : w6.cell? ⟨w.heap.size, 1, none⟩ = some (.int .i64 (D : Int)) := X0.cell 1 rfl
  have a2 : w6.cell? ⟨w.heap.size, 2, none⟩ = some (.int .i64 (Hd : Int)) := X0.cell 2 rfl
  have a3 : w6.cell? ⟨w.heap.size, 3, none⟩ = some (.int .i64 (H : Int)) := X0.cell 3 rfl
  have a4 : w6.cell? ⟨w.heap.size, 4, none⟩ = some (.int .i64 (L : Int)) := X0.cell 4 rfl
  have b0 : w6.cell? ⟨w.heap.size + 1 + 1, 0, none⟩ = some (.slice ta n tz) := X2.cell 0 rfl
  have b1 : w6.cell? ⟨w.heap.size + 1 + 1, 1, none⟩ = some (.slice ka kn kz) := X2.cell 1 rfl
  have b2 : w6.cell? ⟨w.heap.size + 1 + 1, 2, none⟩ = some (.slice va vn vz) := X2.cell 2 rfl
  go_wp2_with (refine wpList_load_row rfl 29 _ rfl (w.heap.size + 1) rfl 29 ws (0, 0) _ X1 Tryz.underlying29 rfl (by rw [siz]; exact Tryz.infoW) ?_)
  refine (CG _ D6).mono ?_
  rintro e w7 ⟨vv, gx, cx, rfl, N7, F7, B7⟩
  obtain ⟨⟨ta2, n2, tz2⟩, ⟨ka2, kn2, kz2⟩, ⟨va2, vn2, vz2⟩⟩ := vv
  have z6 := X3.lt
  replace X1 := X1.below B7
  replace X3 := X3.below B7
  have s6 := D6.size
  have D7 := below_then D6 B7
  clear a0 a1 a2 a3 a4 b0 b1 b2 CG X0 X2
  have N7' := N7
  replace F7 := F7.mono s6
  have XA := blk_new w7 35 #[.slice none 0 0, .slice none 0 0, .slice none 0 0]
  have BA : Below w7.heap.size w7 (w7.alloc (.cells #[.slice none 0 0, .slice none 0 0, .slice none 0 0] 35)) := (Below.refl _ _).alloc (Nat.le_refl _) _
  generalize hwa : w7.alloc (.cells #[.slice none 0 0, .slice none 0 0, .slice none 0 0] 35) = wa at *
  have XB := XA.row #[.slice ta2 n2 tz2, .slice ka2 kn2 kz2, .slice va2 vn2 vz2]
  have BB := below_setRow BA (Nat.le_refl _) #[.slice ta2 n2 tz2, .slice ka2 kn2 kz2, .slice va2 vn2 vz2]
  generalize hwb : wa.setRow w7.heap.size #[.slice ta2 n2 tz2, .slice ka2 kn2 kz2, .slice va2 vn2 vz2] = wb at *
  have hall : Array.all (#[.slice ta2 n2 tz2, .slice ka2 kn2 kz2, .slice va2 vn2 vz2] : Array Value) (fun v => v.oneCell') = true := by simp [Value.oneCell']
  have z3 := X3.lt
  replace X1 := (X1.below BB).below ((Below.refl _ _).drew)
  replace X3 := (X3.below BB).below ((Below.refl _ _).drew)
  replace N7' := (N7'.below BB).below ((Below.refl _ _).drew)
  replace F7 := (F7.below BB).drew
  have DB := (below_then D7 BB).drew
  go_wp2_with (refine wpList_store_row rfl 35 _ _ rfl w7.heap.size #[.slice ta2 n2 tz2, .slice ka2 kn2 kz2, .slice va2 vn2 vz2] rfl rfl 35 _ XA Tryz.infoV rfl hall ?_; rw [hwb])
  replace XB := XB.below ((Below.refl _ _).drew)
  clear hwa hwb XA BA
  refine wp_region_held_drew (S := fun w' => Blk w' w7.heap.size 35 #[.slice ta2 n2 tz2, .slice ka2 kn2 kz2, .slice va2 vn2 vz2] ∧ Blk w' (w.heap.size + 1) 29 ws) (by kernel_rfl) (⟨XB, X1⟩) (fun hHeld => ?_)
  refine wpAnyH_take (i := 0) (v := (.agg #[.slice ta2 n2 tz2, .slice ka2 kn2 kz2, .slice va2 vn2 vz2])) rfl (by kernel_rfl) (by kernel_rfl) (by kernel_rfl) (fun _ _ _ h => h) (Or.inl ⟨by rfl, ?_⟩) (by assumption) ?_
  · intro w' hSw
    exact yield_row 35 _ rfl w7.heap.size rfl _ (load_v hSw.1 rfl)
  simp only [List.getElem_toArray, List.getElem_cons_zero, Act.put, List.setIfInBounds_toArray, List.set_cons_zero, List.set_cons_succ]
  refine wpAnyH_take (i := 1) (v := (.agg ws)) rfl (by kernel_rfl) (by kernel_rfl) (by kernel_rfl) (fun _ _ _ h => h) (Or.inl ⟨by rfl, ?_⟩) (by assumption) ?_
  · intro w' hSw
    exact yield_row 29 _ rfl (w.heap.size + 1) rfl ws (load_w hSw.2 siz)
  simp only [List.getElem_toArray, List.getElem_cons_succ, List.getElem_cons_zero, Act.put, List.setIfInBounds_toArray, List.set_cons_zero, List.set_cons_succ]
  refine wpAnyH_take (i := 2) (v := (.slice (some ⟨gx, 0, none⟩) D cx)) rfl (by kernel_rfl) (by kernel_rfl) (by kernel_rfl) (fun _ _ _ h => h) (Or.inl ⟨by rfl, ?_⟩) (by assumption) ?_
  · intro w' hSw
    go_simp
  simp only [List.getElem_toArray, List.getElem_cons_succ, List.getElem_cons_zero, Act.put, List.setIfInBounds_toArray, List.set_cons_zero, List.set_cons_succ]
  refine wpAnyH_ready (rs := [3]) (by kernel_rfl) (by simp) ?_
  refine AllReadyH.cons rfl (fun Kc hKc => ?_) AllReadyH.nil
  simp only [List.getElem_toArray, List.getElem_cons_succ, List.getElem_cons_zero]
  rw [if_pos (by rfl)]
  go_wp2_with fail
  refine (CL _ DB _ _ _ F7.rowAt).mono ?_
  rintro e wd ⟨gl, rfl, FL, BL⟩
  replace XB := XB.below BL
  replace X1 := X1.below BL
  replace X3 := X3.below BL
  replace N7' := N7'.below BL
  have sB := DB.size
  replace FL := FL.mono sB
  have DL := below_then DB BL
  go_wp2_with fail
  refine hKc.out _ _ (⟨XB, X1⟩) (fun hHeld => ?_)
  clear hKc Kc
  refine wpAnyH_ready (rs := [4]) (by kernel_rfl) (by simp) ?_
  refine AllReadyH.cons rfl (fun Kc hKc => ?_) AllReadyH.nil
  simp only [List.getElem_toArray, List.getElem_cons_succ, List.getElem_cons_zero]
  rw [if_pos (by rfl)]
  refine wp_store_row 35 _ _ rfl (w.heap.size + 1 + 1 + 1) #[.slice ta2 n2 tz2, .slice ka2 kn2 kz2, .slice va2 vn2 vz2] rfl rfl 35 _ X3 Tryz.infoV rfl hall ?_
  have so : ∀ b, b ≠ w.heap.size + 1 + 1 + 1 → (wd.setRow (w.heap.size + 1 + 1 + 1) #[.slice ta2 n2 tz2, .slice ka2 kn2 kz2, .slice va2 vn2 vz2]).heap[b]? = wd.heap[b]? := fun b hb => setRow_other _ _ _ _ hb
  refine hKc.out _ _ (⟨Blk.of_block XB (so _ (by omega)), Blk.of_block X1 (so _ (by omega))⟩) (fun hHeld => ?_)
  clear hKc Kc
  refine wpAnyH_take (i := 5) (v := (.slice (some ⟨gl, 0, none⟩) V V)) rfl (by kernel_rfl) (by kernel_rfl) (by kernel_rfl) (fun _ _ _ h => h) (Or.inl ⟨by rfl, ?_⟩) (by assumption) ?_
  · intro w' hSw
    go_simp
  simp only [List.getElem_toArray, List.getElem_cons_succ, List.getElem_cons_zero, Act.put, List.setIfInBounds_toArray, List.set_cons_zero, List.set_cons_succ]
  refine wpAnyH_take (i := 6) (v := (.int .i64 0)) rfl (by kernel_rfl) (by kernel_rfl) (by kernel_rfl) (fun _ _ _ h => h) (Or.inl ⟨by rfl, ?_⟩) (by assumption) ?_
  · intro w' hSw
    go_simp
  simp only [List.getElem_toArray, List.getElem_cons_succ, List.getElem_cons_zero, Act.put, List.setIfInBounds_toArray, List.set_cons_zero, List.set_cons_succ]
  refine wpAnyH_done (by kernel_rfl) ?_ _
  go_wp2
  refine bodyPost_ret (results_blk3 rfl _ _ (w.heap.size + 1 + 1 + 1) _ rfl (load_v (X3.row _) rfl)) rfl ?_
  refine ⟨⟨⟨ta2, n2, tz2⟩, ⟨ka2, kn2, kz2⟩, ⟨va2, vn2, vz2⟩⟩, gl, rfl, ?_, ?_, below_setRow DL (by omega) _⟩
  · exact (N7'.row z6 _).mono s6
  · exact FL.of_block (so gl (FL.ne X3 (by decide)))
end Go.Proofs.YtmdjlaileakbeaaGreatDoor

/- Package step: All: several tokens more. -/
namespace Go.Proofs.YtmdjlaileakbeaaGreatDoor
open Go.ChangeShapes Go.WideShapes Go.ChangeAt Go.RowKit
/-- The view behind several tokens more, and what is liked behind the last one. -/
def feedAll (M : Mdl) (D H Hd L : Nat) (X : Vw) (A : List Int) : Vw := A.foldl (fun X t => feedV M D H Hd L X t.toNat) X
def likAt (M : Mdl) (V D H Hd L : Nat) (X : Vw) (A : List Int) : Nat → List Int
  | 0 => []
  | k + 1 => likR M V D (feedX M D H Hd L (feedAll M D H Hd L X (A.take k)) (el A k).toNat)
theorem feedAll_step (M : Mdl) (D H Hd L : Nat) (X : Vw) {A : List Int} {k : Nat} (h : k < A.length) : feedAll M D H Hd L X (A.take (k + 1)) = feedV M D H Hd L (feedAll M D H Hd L X (A.take k)) (el A k).toNat := by
  have e : A[k]? = some (el A k) := by unfold el; simp [List.getD_eq_getElem?_getD, List.getElem?_eq_getElem h]
  unfold feedAll
  rw [List.take_add_one, e, List.foldl_append]
  rfl
theorem feedAll_len (M : Mdl) (D H Hd L : Nat) (A : List Int) : ∀ X : Vw, (feedAll M D H Hd L X A).T.length = X.T.length + A.length := by
  induction A with
  | nil => intro X; rfl
  | cons a A ih =>
    intro X
    show (feedAll M D H Hd L (feedV M D H Hd L X a.toNat) A).T.length = _
    rw [ih]
    unfold feedV
    simp
    omega
theorem feedAll_fit {M : Mdl} {V D H Hd L : Nat} {A : List Int} : ∀ {X : Vw}, VwFit V D L X → A.all (tokB V) = true → X.T.length + A.length ≤ 128 → VwFit V D L (feedAll M D H Hd L X A) := by
  induction A with
  | nil => intro X hf _ _; exact hf
  | cons a A ih =>
    intro X hf ha hl
    simp only [List.all_cons, Bool.and_eq_true] at ha
    simp only [List.length_cons] at hl
    have ht : 0 ≤ a ∧ a < V := by have := ha.1; unfold tokB at this; simpa using this
    show VwFit V D L (feedAll M D H Hd L (feedV M D H Hd L X a.toNat) A)
    exact ih (fit_feed hf (by omega) (by omega)) ha.2 (by unfold feedV; simp; omega)
theorem vwv_one (v : VwV) : v.cells.all (·.oneCell') = true := by simp [VwV.cells, Sl.v, Value.oneCell']
theorem vwv_size (v : VwV) : v.cells.size = 3 := rfl
theorem prompt_ok {V : Int} {A : List Int} (h : promptN V A = 0) : 1 ≤ A.length ∧ A.length ≤ 128 ∧ A.all (tokB V) = true := by
  unfold promptN at h
  split at h
  · omega
  · split at h
    · omega
    · split at h
      · rename_i h1 h2 h3; exact ⟨by omega, by omega, h3⟩
      · omega
/-- Within All: boxes, and the view behind k tokens. -/
structure AI (w wr : World) (V D H Hd L : Nat) (cfg ws : Array Value) (M : Mdl) (X : Vw) (A : List Int) (k : Nat) (vv : VwV) (lv : Value) : Prop where
  x0 : Blk wr w.heap.size 23 cfg
  x1 : Blk wr (w.heap.size + 1) 29 ws
  x2 : Blk wr (w.heap.size + 2) 35 vv.cells
  x3 : Blk wr (w.heap.size + 3) 35 #[.slice none 0 0, .slice none 0 0, .slice none 0 0]
  at_ : VwAt wr vv (feedAll M D H Hd L X (A.take k))
  new : 0 < k → New (w.heap.size + 4) wr (fun w => VwAt w vv (feedAll M D H Hd L X (A.take k))) ∧ ∃ g, lv = .slice (some ⟨g, 0, none⟩) V V ∧ Fresh wr (w.heap.size + 4) g V V (likAt M V D H Hd L X A k)
  kp : Below w.heap.size w wr
  sz : w.heap.size + 3 < wr.heap.size
end Go.Proofs.YtmdjlaileakbeaaGreatDoor
