/- Contracts of the program's functions, part 7 of 13: what each call returns and leaves of memory. -/
import Derived.Test.YtcanjlofnpnhkaaGreatDoorPk6
/- Package step: goOn: the view behind one token more. -/
namespace Go.Proofs.YtcanjlofnpnhkaaGreatDoor
open Go.ChangeShapes Go.WideShapes Go.ChangeAt Go.RowKit
def layD : Lay := ⟨[], [], [], [], [], [], [], []⟩
def layAt (M : Mdl) (l : Nat) : Lay := M.Ls.getD l layD
/-- The row that l layers make of a first one, behind the lists K and V of n rows each. -/
def xRow (M : Mdl) (D H Hd n : Nat) (K V : List (List (List Int))) (x : List Int) : Nat → List Int
  | 0 => x
  | l + 1 => oneR (layAt M l) D H Hd (xRow M D H Hd n K V x l) (K.getD l []) (V.getD l []) n
def newK (M : Mdl) (D H Hd n L : Nat) (K V : List (List (List Int))) (x : List Int) : List (List (List Int)) := (List.range L).map fun l => K.getD l [] ++ [keyR (layAt M l) D (xRow M D H Hd n K V x l)]
def newV (M : Mdl) (D H Hd n L : Nat) (K V : List (List (List Int))) (x : List Int) : List (List (List Int)) := (List.range L).map fun l => V.getD l [] ++ [valR (layAt M l) D (xRow M D H Hd n K V x l)]
theorem newK_at (M : Mdl) (D H Hd n L : Nat) (K V : List (List (List Int))) (x : List Int) {l : Nat} (h : l < L) : (newK M D H Hd n L K V x).getD l [] = K.getD l [] ++ [keyR (layAt M l) D (xRow M D H Hd n K V x l)] := by
  unfold newK
  rw [List.getD_eq_getElem?_getD, List.getElem?_map, List.getElem?_range h]
  rfl
theorem newV_at (M : Mdl) (D H Hd n L : Nat) (K V : List (List (List Int))) (x : List Int) {l : Nat} (h : l < L) : (newV M D H Hd n L K V x).getD l [] = V.getD l [] ++ [valR (layAt M l) D (xRow M D H Hd n K V x l)] := by
  unfold newV
  rw [List.getD_eq_getElem?_getD, List.getElem?_map, List.getElem?_range h]
  rfl
/-- The view behind one token more, and the row that the last layer makes of it. -/
def feedV (M : Mdl) (D H Hd L : Nat) (X : Vw) (tok : Nat) : Vw := ⟨X.T ++ [(tok : Int)], newK M D H Hd X.T.length L X.K X.V (begR M.E D tok X.T.length), newV M D H Hd X.T.length L X.K X.V (begR M.E D tok X.T.length)⟩
def feedX (M : Mdl) (D H Hd L : Nat) (X : Vw) (tok : Nat) : List Int := xRow M D H Hd X.T.length X.K X.V (begR M.E D tok X.T.length) L
/-- The blocks that a new view's lists may hang on. -/
def offB (w : World) (gk gv gN : Nat) (tv : Value) (b : Nat) : Prop := w.heap.size + 3 < b ∧ b ≠ gk ∧ b ≠ gv ∧ b ≠ gN ∧ tv.ownBlock ≠ some b
theorem load_b {w : World} {g : Nat} {cs : Array Value} (h : Blk w g 80 cs) (hs : cs.size = 20) : (loadVar 80 ⟨g, 0, none⟩).run Tryz.prog w = .ok (.agg cs) w :=
  run_loadVar_row w g _ _ cs _ _ h Tryz.underlying80 rfl (by rw [hs]; exact Tryz.infoB)
theorem yield_row {w : World} {a : Act} {o : Oper} (ty : TypeId) (x : Operand) (ho : o.op = .load ty x) (g : Nat) (hx : a.eval x = .pointer (some ⟨g, 0, none⟩)) (cs : Array Value) (hl : (loadVar ty ⟨g, 0, none⟩).run Tryz.prog w = .ok (.agg cs) w) : (execOp a.eval o).run Tryz.prog w = .ok (.value (.agg cs)) w := by
  unfold execOp
  simp only [ho, hx, Instr.loadAt, Instr.sureAddr, Sem.run_bind, Sem.run_pure, Result.andThen_ok, hl]
/-- Within goOn: boxes, the new view, and its lists up to layer t. -/
structure GI (w wr : World) (cfg ws : Array Value) (gN gk gv L t : Nat) (tv : Value) (T : List Int) (A1 A2 C1 C2 : List (List (List Int))) : Prop where
  x0 : Blk wr w.heap.size 23 cfg
  x1 : Blk wr (w.heap.size + 1) 40 ws
  x3 : Blk wr (w.heap.size + 3) 48 #[.slice none 0 0, .slice none 0 0, .slice none 0 0]
  xn : Blk wr gN 48 #[tv, .slice (some ⟨gk, 0, none⟩) L L, .slice (some ⟨gv, 0, none⟩) L L]
  o : IOwn wr (w.heap.size + 4) tv T.length T
  k : KV wr gk L t (offB w gk gv gN tv) A1 C1
  v : KV wr gv L t (offB w gk gv gN tv) A2 C2
  ne : w.heap.size + 3 < gk ∧ w.heap.size + 3 < gv ∧ w.heap.size + 3 < gN ∧ gk ≠ gv ∧ gk ≠ gN ∧ gv ≠ gN ∧ tv.ownBlock ≠ some gk ∧ tv.ownBlock ≠ some gv ∧ tv.ownBlock ≠ some gN
  kp : Below w.heap.size w wr
theorem GI.below {w wr w' : World} {cfg ws : Array Value} {gN gk gv L t : Nat} {tv : Value} {T : List Int} {A1 A2 C1 C2 : List (List (List Int))} (h : GI w wr cfg ws gN gk gv L t tv T A1 A2 C1 C2) (hb : Below wr.heap.size wr w') : GI w w' cfg ws gN gk gv L t tv T A1 A2 C1 C2 :=
  ⟨h.x0.below hb, h.x1.below hb, h.x3.below hb, h.xn.below hb, owns_below h.o hb, h.k.below hb, h.v.below hb, h.ne, below_then h.kp hb⟩
/-- A layer more. -/
theorem GI.next {w wr : World} {cfg ws : Array Value} {gN gk gv L t : Nat} {tv : Value} {T : List Int} {A1 A2 C1 C2 : List (List (List Int))} (h : GI w wr cfg ws gN gk gv L t tv T A1 A2 C1 C2) (ht : t < L) {r1 r2 n1 n2 c1 c2 : Nat} {vs1 vs2 : List Value} (k1 : n1 ≤ c1) (k2 : c1 ≤ 9223372036854775807) (N1 : Hangs (offB w gk gv gN tv) wr fun w => GridV w (some ⟨r1, 0, none⟩) n1 vs1 (A1.getD t []))
    (l1 : n2 ≤ c2) (l2 : c2 ≤ 9223372036854775807) (N2 : Hangs (offB w gk gv gN tv) wr fun w => GridV w (some ⟨r2, 0, none⟩) n2 vs2 (A2.getD t [])) :
    GI w ((wr.setCell ⟨gk, t, none⟩ (.slice (some ⟨r1, 0, none⟩) n1 c1)).setCell ⟨gv, t, none⟩ (.slice (some ⟨r2, 0, none⟩) n2 c2)) cfg ws gN gk gv L (t + 1) tv T A1 A2 C1 C2 := by
  obtain ⟨e1, e2, e3, e4, e5, e6, e7, e8, e9⟩ := h.ne
  have pk : ¬ offB w gk gv gN tv gk := fun h => h.2.1 rfl
  have pv : ¬ offB w gk gv gN tv gv := fun h => h.2.2.1 rfl
  refine ⟨(h.x0.other (by show _ ≠ gk; omega) _).other (by show _ ≠ gv; omega) _, (h.x1.other (by show _ ≠ gk; omega) _).other (by show _ ≠ gv; omega) _, (h.x3.other (by show _ ≠ gk; omega) _).other (by show _ ≠ gv; omega) _, (h.xn.other (by show _ ≠ gk; omega) _).other (by show _ ≠ gv; omega) _, ?_, ?_, ?_, h.ne, ?_⟩
  · refine owns_mono h.o (Nat.le_refl _) fun b hb => ?_
    rw [Below.heap_setCell _ _ _ _ (by rintro rfl; exact e8 hb), Below.heap_setCell _ _ _ _ (by rintro rfl; exact e7 hb)]
  · exact (h.k.step ht pk (fun h => by cases h) k1 k2 N1).far (by show gv ≠ gk; omega) pv _
  · exact (h.v.far (by show gk ≠ gv; omega) pk _).step ht pv (fun h => by cases h) l1 l2 (N2.set pk _)
  · exact (h.kp.setCell (p := ⟨gk, t, none⟩) (by show w.heap.size ≤ gk; omega) _).setCell (p := ⟨gv, t, none⟩) (by show w.heap.size ≤ gv; omega) _
theorem Fresh.arg_off {wr w : World} {B g n c : Nat} {A : List Int} {gk gv gN : Nat} {tv : Value} (h : Fresh wr B g n c A) (hB : w.heap.size + 3 < B) (h1 : g ≠ gk) (h2 : g ≠ gv) (h3 : g ≠ gN) (h4 : tv.ownBlock ≠ some g) : Hangs (offB w gk gv gN tv) wr fun w => Arg w (some ⟨g, 0, none⟩) n c A :=
  (h.hangs.mono fun b _ e => by subst e; have := h.base; exact ⟨by omega, h1, h2, h3, h4⟩).imp fun _ h => h.arg
theorem kv_made (w : World) (L : Nat) (p : Nat → Prop) (A C : List (List (List Int))) (hC : C = []) : KV (w.alloc (.cells (madeCells #[.slice none 0 0] L) 105)) w.heap.size L 0 p A C := by
  subst hC
  refine ⟨_, heap_alloc_new _ _, by simp [madeCells], fun t ht => by omega, fun t _ ht => ⟨none, 0, [], ?_, fun _ => rfl, fun _ _ => gridV_nil _ _⟩⟩
  simp [madeCells, ht, Nat.mod_one]
theorem getD_set_true (l : Array Bool) (z : Nat) : (l.setIfInBounds z true).getD z true = true := by
  rcases Nat.lt_or_ge z l.size with h | h
  · simp [h]
  · simp [h]
theorem cell_keep {w w' : World} {a : Addr} {v : Value} (h : w.cell? a = some v) (hb : Below w.heap.size w w') : w'.cell? a = some v := by
  rw [World.cell?_of_block (hb.block _ (World.block_lt_of_cell? w _ h))]
  exact h
theorem Hangs.grown {p : Nat → Prop} {w w' : World} {Φ : World → Prop} (h : Hangs p w Φ) {r : Option Nat} (hg : w.grownBy w' r) (hr : ∀ b, p b → some b ≠ r) : Hangs p w' Φ := fun w2 h2 =>
  h w2 fun b h3 h4 => (h2 b h3 (Nat.lt_of_lt_of_le h4 hg.size)).trans (hg.block b h4 (hr b h3))
theorem KV.grown {w w' : World} {g m i : Nat} {p : Nat → Prop} {A C : List (List (List Int))} (h : KV w g m i p A C) {r : Option Nat} (hg : w.grownBy w' r) (hr : ∀ b, p b → some b ≠ r) (hgr : some g ≠ r) : KV w' g m i p A C := by
  have hl := h.lt
  obtain ⟨cs, h1, h2, h3, h4⟩ := h.row
  exact ⟨cs, (hg.block g hl hgr).trans h1, h2, fun t ht => let ⟨ro, n, c, vs, e, q1, q2, q3, N⟩ := h3 t ht; ⟨ro, n, c, vs, e, q1, q2, q3, N.grown hg hr⟩, fun t ht h5 => let ⟨ro, n, vs, e, q1, N⟩ := h4 t ht h5; ⟨ro, n, vs, e, q1, N.grown hg hr⟩⟩
/-- Lists that were all told anew, as they read. -/
theorem KV.cube {w : World} {g m : Nat} {p : Nat → Prop} {A C : List (List (List Int))} (h : KV w g m m p A C) (hl : A.length = m) (hm : m ≤ 9223372036854775807) {B : Nat} (hp : ∀ b, p b → B ≤ b) (hB : B ≤ g) : New B w fun w => CubeAt w (some ⟨g, 0, none⟩) m A := by
  intro w2 h2
  have hlt := h.lt
  obtain ⟨cs, h1, hs, h3, _⟩ := h.row
  have hg := (h2 g hB hlt).trans h1
  refine ⟨hl, hm, fun _ => ⟨g, 0, rfl, fun t R hR => ?_⟩⟩
  have ht : t < m := by rw [← hl]; exact (List.getElem?_eq_some_iff.1 hR).1
  obtain ⟨ro, n, c, vs, e, q1, q2, q3, N⟩ := h3 t ht
  have eR : A.getD t [] = R := by rw [List.getD_eq_getElem?_getD, hR]; rfl
  rw [eR] at N
  refine ⟨ro, n, c, ?_, q1, q2, q3, (N w2 fun b hb hb2 => h2 b (hp b hb) hb2).grid⟩
  rw [Nat.zero_add]
  unfold World.cell?
  simp only [hg]
  exact e
theorem owns_slice {w : World} {B n : Nat} {e : TypeId} {v : Value} {xs : List Value} (h : w.ownsRow B e 1 v n xs) : ∃ a c, v = .slice a n c := by
  rcases h.2 with ⟨h3, h4⟩ | ⟨g, cap, cur, hv, _⟩
  · exact ⟨none, 0, by rw [h3, h4]⟩
  · exact ⟨_, _, hv⟩
/-- What lists of a view that fits are like. -/
theorem fit_list {D L n : Nat} {K : List (List (List Int))} (hk : K.length = if n = 0 then 0 else L) (ks : ∀ R ∈ K, R.length = n ∧ ∀ t, t < n → (rowOf R t).length = D) {l : Nat} (hl : l < L) : (K.getD l []).length = n ∧ ∀ t, t < n → (rowOf (K.getD l []) t).length = D := by
  by_cases h0 : n = 0
  · rw [if_pos h0] at hk
    obtain rfl : K = [] := List.length_eq_zero_iff.1 hk
    subst h0
    exact ⟨rfl, fun t ht => by omega⟩
  · rw [if_neg h0] at hk
    have e : K.getD l [] = K[l]'(by omega) := by rw [List.getD_eq_getElem?_getD, List.getElem?_eq_getElem (by omega)]; rfl
    rw [e]
    exact ks _ (List.getElem_mem _)
set_option maxRecDepth 100000 in
set_option maxHeartbeats 6400000 in
theorem goOn_any (V D Hd H L : Nat) (W : Wt) (bs : List Bk) (M : Mdl) (v : VwV) (X : Vw) (tok : Nat) (w : World) (hT : Tab w) (hW : WtAt w V D H W bs M) (hv : VwAt w v X) (hf : VwFit V D L X) (hl : X.T.length ≤ 127) (ht : tok < V) (hV : V ≤ 4096) (hL : bs.length = L) (hL2 : L ≤ 4096) (h1 : 1 ≤ D) (h2 : D ≤ 32) (g1 : 1 ≤ Hd) (g2 : Hd ≤ 4) (hd : D % Hd = 0) (hH : H ≤ 128) :
   Calls Tryz.prog 48 #[.agg (cfgC V D Hd H L), .agg W.cells, .agg v.cells, .int .i64 tok] w fun e w' => ∃ vv gx cx, e = .returned (.tuple #[.agg (VwV.cells vv), .slice (some ⟨gx, 0, none⟩) D cx]) ∧ New w.heap.size w' (fun w => VwAt w vv (feedV M D H Hd L X tok)) ∧ Fresh w' w.heap.size gx D cx (feedX M D H Hd L X tok) ∧ Below w.heap.size w w' := by
  have HT : Hid (∀ wv, Below w.heap.size w wv → Tab wv) := fun wv hb => hT.next hb
  have HW : Hid (∀ wv, Below w.heap.size w wv → WtAt wv V D H W bs M) := fun wv hb => hW.below hb
  have KL : Hid (∀ l, l < L → (X.K.getD l []).length = X.T.length ∧ ∀ t, t < X.T.length → (rowOf (X.K.getD l []) t).length = D) := fun l h => fit_list hf.k hf.ks h
  have VL : Hid (∀ l, l < L → (X.V.getD l []).length = X.T.length ∧ ∀ t, t < X.T.length → (rowOf (X.V.getD l []) t).length = D) := fun l h => fit_list hf.v hf.vs h
  have cpK : ∀ R ∈ X.K, R.length ≤ 4096 ∧ ∀ t, t < R.length → (rowOf R t).length ≤ 1048576 := fun R hR => by
    obtain ⟨q1, q2⟩ := hf.ks R hR
    exact ⟨by omega, fun t ht => by rw [q2 t (by omega)]; omega⟩
  have cpV : ∀ R ∈ X.V, R.length ≤ 4096 ∧ ∀ t, t < R.length → (rowOf R t).length ≤ 1048576 := fun R hR => by
    obtain ⟨q1, q2⟩ := hf.vs R hR
    exact ⟨by omega, fun t ht => by rw [q2 t (by omega)]; omega⟩
  have kE : Hid (X.K.length = if X.T.length = 0 then 0 else L) := hf.k
  have vE : Hid (X.V.length = if X.T.length = 0 then 0 else L) := hf.v
  have tb : ∀ k, -9223372036854775808 ≤ el X.T k ∧ el X.T k ≤ 9223372036854775807 := hv.t.row.small
  have len := hv.t.row.len
  have klen := hv.k.len
  have vlen := hv.v.len
  have blen := hW.b.len
  have k4 : X.K.length ≤ 4096 := by rw [kE.out]; split <;> omega
  have v4 : X.V.length ≤ 4096 := by rw [vE.out]; split <;> omega
  clear hT hf
  obtain ⟨⟨ta, n, tz⟩, ⟨ka, kn, kz⟩, ⟨va, vn, vz⟩⟩ := v
  have W5 := hW.b
  clear hW
  simp only at len klen vlen
  subst klen vlen
  have LN : Hid (X.T.length = n) := len
  have HA1 : Hid (newK M D H Hd X.T.length L X.K X.V (begR M.E D tok X.T.length) = newK M D H Hd X.T.length L X.K X.V (begR M.E D tok X.T.length)) := rfl
  obtain ⟨x0, hx0⟩ : ∃ x0, x0 = begR M.E D tok X.T.length := ⟨_, rfl⟩
  have HX0 : Hid (begR M.E D tok n = x0) := by show _ = _; rw [hx0, LN.out]
  have HFX : Hid (feedX M D H Hd L X tok = xRow M D H Hd X.T.length X.K X.V x0 L) := by show _ = _; rw [hx0]; rfl
  obtain ⟨A1, hA1⟩ : ∃ A1, A1 = newK M D H Hd X.T.length L X.K X.V (begR M.E D tok X.T.length) := ⟨_, rfl⟩
  obtain ⟨A2, hA2⟩ : ∃ A2, A2 = newV M D H Hd X.T.length L X.K X.V (begR M.E D tok X.T.length) := ⟨_, rfl⟩
  have HE : Hid (feedV M D H Hd L X tok = ⟨X.T ++ [(tok : Int)], A1, A2⟩) := by show _ = _; rw [hA1, hA2]; rfl
  have K1 : Hid (∀ l, l < L → A1.getD l [] = X.K.getD l [] ++ [keyR (layAt M l) D (xRow M D H Hd X.T.length X.K X.V x0 l)]) := fun l h => by rw [hA1, hx0]; exact newK_at _ _ _ _ _ _ _ _ _ h
  have K2 : Hid (∀ l, l < L → A2.getD l [] = X.V.getD l [] ++ [valR (layAt M l) D (xRow M D H Hd X.T.length X.K X.V x0 l)]) := fun l h => by rw [hA2, hx0]; exact newV_at _ _ _ _ _ _ _ _ _ h
  have L1 : Hid (A1.length = L) := by show _ = _; rw [hA1]; simp [newK]
  have L2 : Hid (A2.length = L) := by show _ = _; rw [hA2]; simp [newV]
  clear HA1 hA1 hA2 hx0
  show Calls Tryz.prog 48 #[.agg #[.int .i64 (V : Int), .int .i64 (D : Int), .int .i64 (Hd : Int), .int .i64 (H : Int), .int .i64 (L : Int)], .agg W.cells, .agg #[.slice ta n tz, .slice ka X.K.length kz, .slice va X.V.length vz], .int .i64 tok] w _
  have siz : W.cells.size = 8 := rfl
  have wone : W.cells.all (·.oneCell') = true := by simp [Wt.cells, Sl.v, Value.oneCell']
  have CB := fun (wv : World) (hb : Below w.heap.size w wv) => begin_any V D H W bs M tok n wv (HW.out wv hb) ht (by omega)
  obtain ⟨we, ⟨ba, bn, bz⟩, wl, wo⟩ := W
  simp only at blen W5
  have wb : (Wt.cells ⟨we, ⟨ba, bn, bz⟩, wl, wo⟩)[3]? = some (.slice ba bn bz) := rfl
  generalize hws : Wt.cells ⟨we, ⟨ba, bn, bz⟩, wl, wo⟩ = ws at *
  have X0 := blk_new w 23 #[.int .i64 (V : Int), .int .i64 (D : Int), .int .i64 (Hd : Int), .int .i64 (H : Int), .int .i64 (L : Int)]
  have B0 : Below w.heap.size w (w.alloc (.cells #[.int .i64 (V : Int), .int .i64 (D : Int), .int .i64 (Hd : Int), .int .i64 (H : Int), .int .i64 (L : Int)] 23)) := (Below.refl _ _).alloc (Nat.le_refl _) _
  have s0 : (w.alloc (.cells #[.int .i64 (V : Int), .int .i64 (D : Int), .int .i64 (Hd : Int), .int .i64 (H : Int), .int .i64 (L : Int)] 23)).heap.size = w.heap.size + 1 := by simp
  generalize hw0 : w.alloc (.cells #[.int .i64 (V : Int), .int .i64 (D : Int), .int .i64 (Hd : Int), .int .i64 (H : Int), .int .i64 (L : Int)] 23) = w0 at *
  have X1 := blk_new w0 40 ws
  have B1 : Below w0.heap.size w0 (w0.alloc (.cells ws 40)) := (Below.refl _ _).alloc (Nat.le_refl _) _
  have s1 : (w0.alloc (.cells ws 40)).heap.size = w0.heap.size + 1 := by simp
  rw [s0] at X1 s1
  generalize hw1 : w0.alloc (.cells ws 40) = w1 at *
  have X2 := blk_new w1 48 #[.slice ta n tz, .slice ka X.K.length kz, .slice va X.V.length vz]
  have B2 : Below w1.heap.size w1 (w1.alloc (.cells #[.slice ta n tz, .slice ka X.K.length kz, .slice va X.V.length vz] 48)) := (Below.refl _ _).alloc (Nat.le_refl _) _
  have s2 : (w1.alloc (.cells #[.slice ta n tz, .slice ka X.K.length kz, .slice va X.V.length vz] 48)).heap.size = w1.heap.size + 1 := by simp
  rw [s1] at X2 s2
  generalize hw2 : w1.alloc (.cells #[.slice ta n tz, .slice ka X.K.length kz, .slice va X.V.length vz] 48) = w2 at *
  have X3 := blk_new w2 48 #[.slice none 0 0, .slice none 0 0, .slice none 0 0]
  have B3 : Below w2.heap.size w2 (w2.alloc (.cells #[.slice none 0 0, .slice none 0 0, .slice none 0 0] 48)) := (Below.refl _ _).alloc (Nat.le_refl _) _
  have s3 : (w2.alloc (.cells #[.slice none 0 0, .slice none 0 0, .slice none 0 0] 48)).heap.size = w2.heap.size + 1 := by simp
  rw [s2] at X3 s3
  generalize hw3 : w2.alloc (.cells #[.slice none 0 0, .slice none 0 0, .slice none 0 0] 48) = w3 at *
  replace X0 := ((X0.below B1).below B2).below B3
  replace X1 := (X1.below B2).below B3
  replace X2 := X2.below B3
  replace B3 := below_then (below_then (below_then B0 B1) B2) B3
  have CC := scopy_any ⟨⟨ta, n, tz⟩, ⟨ka, X.K.length, kz⟩, ⟨va, X.V.length, vz⟩⟩ X A1 A2 w3 (hv.below B3) (by omega) k4 v4 cpK cpV
  unfold VwV.cells Sl.v at CC
  simp only at CC
  have c20 : w3.cell? ⟨w.heap.size + 1 + 1, 0, none⟩ = some (.slice ta n tz) := X2.cell 0 rfl
  have c21 : w3.cell? ⟨w.heap.size + 1 + 1, 1, none⟩ = some (.slice ka X.K.length kz) := X2.cell 1 rfl
  have c22 : w3.cell? ⟨w.heap.size + 1 + 1, 2, none⟩ = some (.slice va X.V.length vz) := X2.cell 2 rfl
  go_enter Tryz.func48, Tryz.ntmps48
  go_wp2_with fail
  refine CC.mono ?_
  rintro e w4 ⟨tv, gk, gv, rfl, O4, K4, V4, q1, q2, q3, B4⟩
  clear CC c20 c21 c22 hw0 hw1 hw2 hw3 B0 B1 B2 hv cpK cpV k4 v4 len
  replace X0 := X0.below B4
  replace X1 := X1.below B4
  replace X2 := X2.below B4
  replace X3 := X3.below B4
  have z4 := B4.size
  have zv := V4.lt
  have zo := fun b hb => (O4.lt b hb).1
  replace B4 := below_then B3 B4
  obtain ⟨ta', tc', rfl⟩ : ∃ a c, tv = .slice a n c := by
    rw [LN.out] at O4
    rcases O4.2 with ⟨h3, h4⟩ | ⟨g, cap, cur, hv, _⟩
    · exact ⟨none, 0, by rw [h3, h4]⟩
    · exact ⟨_, _, hv⟩
  have X5 := blk_new w4 48 #[.slice none 0 0, .slice none 0 0, .slice none 0 0]
  have B5 : Below w4.heap.size w4 (w4.alloc (.cells #[.slice none 0 0, .slice none 0 0, .slice none 0 0] 48)) := (Below.refl _ _).alloc (Nat.le_refl _) _
  generalize hw5 : w4.alloc (.cells #[.slice none 0 0, .slice none 0 0, .slice none 0 0] 48) = w5 at *
  have Y5 := X5.row #[.slice ta' n tc', .slice (some ⟨gk, 0, none⟩) X.K.length X.K.length, .slice (some ⟨gv, 0, none⟩) X.V.length X.V.length]
  have B6 := below_setRow B5 (Nat.le_refl _) #[.slice ta' n tc', .slice (some ⟨gk, 0, none⟩) X.K.length X.K.length, .slice (some ⟨gv, 0, none⟩) X.V.length X.V.length]
  have hall : Array.all (#[.slice ta' n tc', .slice (some ⟨gk, 0, none⟩) X.K.length X.K.length, .slice (some ⟨gv, 0, none⟩) X.V.length X.V.length] : Array Value) (fun v => v.oneCell') = true := by simp [Value.oneCell']
  generalize hw6 : w5.setRow w4.heap.size #[.slice ta' n tc', .slice (some ⟨gk, 0, none⟩) X.K.length X.K.length, .slice (some ⟨gv, 0, none⟩) X.V.length X.V.length] = w6 at *
  replace X0 := X0.below B6
  replace X1 := X1.below B6
  replace X2 := X2.below B6
  replace X3 := X3.below B6
  replace O4 := owns_below O4 B6
  replace K4 := K4.below B6
  replace V4 := (V4.mono (q := fun b => gv < b ∧ b < w4.heap.size) fun b hb h => ⟨h, hb⟩).below B6
  have z6 := B6.size
  have gNlt : w4.heap.size < w6.heap.size := Y5.lt
  have B7 := below_then B4 B6
  have c20 : w6.cell? ⟨w.heap.size + 1 + 1, 0, none⟩ = some (.slice ta n tz) := X2.cell 0 rfl
  go_upto_if 24 with (refine wpList_store_row rfl 48 _ _ rfl w4.heap.size _ rfl rfl 48 _ X5 Tryz.infoV rfl hall ?_; rw [hw6])
  clear hw5 X5 B5 hall hw6
  go_cut [] from 25 (fun wc => ∃ gk gv, Blk wc (w.heap.size + 1 + 1) 48 #[.slice ta n tz, .slice ka X.K.length kz, .slice va X.V.length vz] ∧ GI w wc #[.int .i64 (V : Int), .int .i64 (D : Int), .int .i64 (Hd : Int), .int .i64 (H : Int), .int .i64 (L : Int)] ws w4.heap.size gk gv L 0 (.slice ta' n tc') X.T A1 A2 X.K X.V)
  case first =>
    by_cases h0 : n = 0
    · subst h0
      have kE' := kE.out
      have vE' := vE.out
      rw [LN.out, if_pos rfl] at kE' vE'
      have eK : X.K = [] := List.length_eq_zero_iff.1 kE'
      have eV : X.V = [] := List.length_eq_zero_iff.1 vE'
      have HKV := fun (wv : World) (p : Nat → Prop) => kv_made wv L p A1 X.K eK
      have HVV := fun (wv : World) (p : Nat → Prop) => kv_made wv L p A2 X.V eV
      have hmk := run_make_row' (P := Tryz.prog) 26 105 (.slice none 0 0) 24 Tryz.underlying26 Tryz.infoList rfl .i64 .i64 L (by omega) (by omega)
      clear kE' vE' eK eV K4 V4
      have HQ3 : Hid (∀ b, Value.ownBlock (.slice ta' 0 tc') = some b → b < w4.heap.size) := fun b hb => by have := q3 b hb; omega
      replace X0 := X0.below ((Below.refl _ _).drew)
      replace X1 := X1.below ((Below.refl _ _).drew)
      replace X2 := X2.below ((Below.refl _ _).drew)
      replace X3 := X3.below ((Below.refl _ _).drew)
      replace Y5 := Y5.below ((Below.refl _ _).drew)
      replace O4 := owns_below O4 ((Below.refl _ _).drew)
      replace B7 := B7.drew
      go_wp2_with fail
      refine wp_region_held_drew (S := fun w' => Blk w' w.heap.size 23 #[.int .i64 (V : Int), .int .i64 (D : Int), .int .i64 (Hd : Int), .int .i64 (H : Int), .int .i64 (L : Int)]) (by kernel_rfl) (X0) (fun hHeld => ?_)
      refine wpAnyH_take (i := 0) (v := (.pointer (some ⟨w.heap.size, 4, none⟩))) rfl (by kernel_rfl) (by kernel_rfl) (by kernel_rfl) (fun _ _ _ h => h) (Or.inl ⟨by rfl, ?_⟩) (by assumption) ?_
      · intro w' hSw
        go_simp
      simp only [List.getElem_toArray, List.getElem_cons_zero, Act.put, List.setIfInBounds_toArray, List.set_cons_zero, List.set_cons_succ]
      refine wpAnyH_take (i := 1) (v := (.int .i64 (L : Int))) rfl (by kernel_rfl) (by kernel_rfl) (by kernel_rfl) (fun _ _ _ h => h) (Or.inl ⟨by rfl, ?_⟩) (by assumption) ?_
      · intro w' hSw
        have c4 : w'.cell? ⟨w.heap.size, 4, none⟩ = some (.int .i64 (L : Int)) := hSw.cell 4 rfl
        go_simp
      simp only [List.getElem_toArray, List.getElem_cons_succ, List.getElem_cons_zero, Act.put, List.setIfInBounds_toArray, List.set_cons_zero, List.set_cons_succ]
      refine wpAnyH_take (i := 3) (v := (.pointer (some ⟨w.heap.size, 4, none⟩))) rfl (by kernel_rfl) (by kernel_rfl) (by kernel_rfl) (fun _ _ _ h => h) (Or.inl ⟨by rfl, ?_⟩) (by assumption) ?_
      · intro w' hSw
        go_simp
      simp only [List.getElem_toArray, List.getElem_cons_succ, List.getElem_cons_zero, Act.put, List.setIfInBounds_toArray, List.set_cons_zero, List.set_cons_succ]
      refine wpAnyH_take (i := 4) (v := (.int .i64 (L : Int))) rfl (by kernel_rfl) (by kernel_rfl) (by kernel_rfl) (fun _ _ _ h => h) (Or.inl ⟨by rfl, ?_⟩) (by assumption) ?_
      · intro w' hSw
        have c4 : w'.cell? ⟨w.heap.size, 4, none⟩ = some (.int .i64 (L : Int)) := hSw.cell 4 rfl
        go_simp
      simp only [List.getElem_toArray, List.getElem_cons_succ, List.getElem_cons_zero, Act.put, List.setIfInBounds_toArray, List.set_cons_zero, List.set_cons_succ]
      refine wpAnyH_ready (rs := [2, 5]) (by kernel_rfl) (by simp) ?_
      refine AllReadyH.cons rfl (fun Kc hKc => ?_) (AllReadyH.cons rfl (fun Kc hKc => ?_) AllReadyH.nil)
      · simp only [List.getElem_toArray, List.getElem_cons_succ, List.getElem_cons_zero]
        rw [if_pos (by rfl)]
        go_wp2_with fail
        have N1 : ∀ p, KV (w6.alloc (.cells (madeCells #[.slice none 0 0] L) 105)).drew w6.heap.size L 0 p A1 X.K := fun p => HKV w6.drew p
        have E1 : Below w6.drew.heap.size w6.drew (w6.alloc (.cells (madeCells #[.slice none 0 0] L) 105)).drew := ((Below.refl _ w6.drew).alloc (Nat.le_refl _) _ : Below w6.drew.heap.size w6.drew (w6.drew.alloc _))
        have zz1 : (w6.alloc (.cells (madeCells #[.slice none 0 0] L) 105)).drew.heap.size = w6.heap.size + 1 := by simp
        generalize hwa : (w6.alloc (.cells (madeCells #[.slice none 0 0] L) 105)).drew = wa at *
        refine hKc.out _ _ (X0.below E1) (fun hHeld => ?_)
        clear hKc Kc hwa
        refine wpAnyH_ready (rs := [5]) (by kernel_rfl) (by simp) ?_
        refine AllReadyH.cons rfl (fun Kc hKc => ?_) AllReadyH.nil
        simp only [List.getElem_toArray, List.getElem_cons_succ, List.getElem_cons_zero]
        rw [if_pos (by rfl)]
        go_wp2_with fail
        have N2 : ∀ p, KV (wa.alloc (.cells (madeCells #[.slice none 0 0] L) 105)) (w6.heap.size + 1) L 0 p A2 X.V := fun p => by have hh := HVV wa p; rw [zz1] at hh; exact hh
        have E2 : Below wa.heap.size wa (wa.alloc (.cells (madeCells #[.slice none 0 0] L) 105)) := (Below.refl _ _).alloc (Nat.le_refl _) _
        have zz2 : (wa.alloc (.cells (madeCells #[.slice none 0 0] L) 105)).heap.size = wa.heap.size + 1 := by simp
        generalize hwb : wa.alloc (.cells (madeCells #[.slice none 0 0] L) 105) = wb at *
        have E3 := below_then E1 E2
        refine hKc.out _ _ (X0.below E3) (fun hHeld => ?_)
        clear hKc Kc hwb hmk HKV HVV
        refine wpAnyH_take (i := 6) (v := (.agg #[.slice (some ⟨w6.heap.size, 0, none⟩) L L, .slice (some ⟨w6.heap.size + 1, 0, none⟩) L L])) rfl (by kernel_rfl) (by kernel_rfl) (by kernel_rfl) (fun _ _ _ h => h) (Or.inl ⟨by rfl, ?_⟩) (by assumption) ?_
        · intro w' hSw
          go_simp
        simp only [List.getElem_toArray, List.getElem_cons_succ, List.getElem_cons_zero, Act.put, List.setIfInBounds_toArray, List.set_cons_zero, List.set_cons_succ]
        refine wpAnyH_take (i := 7) (v := (.pointer (some ⟨w4.heap.size, 1, none⟩))) rfl (by kernel_rfl) (by kernel_rfl) (by kernel_rfl) (fun _ _ _ h => h) (Or.inl ⟨by rfl, ?_⟩) (by assumption) ?_
        · intro w' hSw
          go_simp
        simp only [List.getElem_toArray, List.getElem_cons_succ, List.getElem_cons_zero, Act.put, List.setIfInBounds_toArray, List.set_cons_zero, List.set_cons_succ]
        have Z5 := Y5.below E3
        have fz1 := Z5.frozen 1
        have fz2 := Z5.frozen 2
        have cz1 : wb.cell? ⟨w4.heap.size, 1, none⟩ = some (.slice (some ⟨gk, 0, none⟩) X.K.length X.K.length) := Z5.cell 1 rfl
        have cz2 : wb.cell? ⟨w4.heap.size, 2, none⟩ = some (.slice (some ⟨gv, 0, none⟩) X.V.length X.V.length) := Z5.cell 2 rfl
        refine wpAnyH_ready (rs := [8]) (by kernel_rfl) (by simp) ?_
        refine AllReadyH.cons rfl (fun Kc hKc => ?_) AllReadyH.nil
        simp only [List.getElem_toArray, List.getElem_cons_succ, List.getElem_cons_zero]
        rw [if_pos (by rfl)]
        go_wp2_with fail
        have XX0 := ((X0.below E3).other (a := ⟨w4.heap.size, 1, none⟩) (by show _ ≠ w4.heap.size; omega) (.slice (some ⟨w6.heap.size, 0, none⟩) L L)).other (a := ⟨w4.heap.size, 2, none⟩) (by show _ ≠ w4.heap.size; omega) (.slice (some ⟨w6.heap.size + 1, 0, none⟩) L L)
        refine hKc.out _ _ XX0 (fun hHeld => ?_)
        clear hKc Kc
        refine wpAnyH_done (by kernel_rfl) ?_ _
        go_wp2_with fail
        go_meet
        case rel =>
          refine ⟨w6.heap.size, w6.heap.size + 1, ((X2.below E3).other (by show _ ≠ w4.heap.size; omega) _).other (by show _ ≠ w4.heap.size; omega) _, ⟨XX0, ((X1.below E3).other (by show _ ≠ w4.heap.size; omega) _).other (by show _ ≠ w4.heap.size; omega) _, ((X3.below E3).other (by show _ ≠ w4.heap.size; omega) _).other (by show _ ≠ w4.heap.size; omega) _, (Z5.set 1 _).set 2 _, ?_, ?_, ?_, ?_, ((below_then B7 E3).setCell (p := ⟨w4.heap.size, 1, none⟩) (by show w.heap.size ≤ w4.heap.size; omega) _).setCell (p := ⟨w4.heap.size, 2, none⟩) (by show w.heap.size ≤ w4.heap.size; omega) _⟩⟩
          · refine owns_mono (owns_below O4 E3) (by omega) fun b hb => ?_
            have := HQ3.out b hb
            rw [Below.heap_setCell _ _ _ _ (by show b ≠ w4.heap.size; omega), Below.heap_setCell _ _ _ _ (by show b ≠ w4.heap.size; omega)]
          · exact (((N1 _).below E2).far (by show w4.heap.size ≠ _; omega) (fun h => h.2.2.2.1 rfl) _).far (by show w4.heap.size ≠ _; omega) (fun h => h.2.2.2.1 rfl) _
          · exact ((N2 _).far (by show w4.heap.size ≠ _; omega) (fun h => h.2.2.2.1 rfl) _).far (by show w4.heap.size ≠ _; omega) (fun h => h.2.2.2.1 rfl) _
          · refine ⟨by omega, by omega, by omega, by omega, by omega, by omega, fun hh => ?_, fun hh => ?_, fun hh => ?_⟩
            · have := HQ3.out _ hh; omega
            · have := HQ3.out _ hh; omega
            · have := HQ3.out _ hh; omega
      · simp only [List.getElem_toArray, List.getElem_cons_succ, List.getElem_cons_zero]
        rw [if_pos (by rfl)]
        go_wp2_with fail
        have N1 : ∀ p, KV (w6.alloc (.cells (madeCells #[.slice none 0 0] L) 105)).drew w6.heap.size L 0 p A2 X.V := fun p => HVV w6.drew p
        have E1 : Below w6.drew.heap.size w6.drew (w6.alloc (.cells (madeCells #[.slice none 0 0] L) 105)).drew := ((Below.refl _ w6.drew).alloc (Nat.le_refl _) _ : Below w6.drew.heap.size w6.drew (w6.drew.alloc _))
        have zz1 : (w6.alloc (.cells (madeCells #[.slice none 0 0] L) 105)).drew.heap.size = w6.heap.size + 1 := by simp
        generalize hwa : (w6.alloc (.cells (madeCells #[.slice none 0 0] L) 105)).drew = wa at *
        refine hKc.out _ _ (X0.below E1) (fun hHeld => ?_)
        clear hKc Kc hwa
        refine wpAnyH_ready (rs := [2]) (by kernel_rfl) (by simp) ?_
        refine AllReadyH.cons rfl (fun Kc hKc => ?_) AllReadyH.nil
        simp only [List.getElem_toArray, List.getElem_cons_succ, List.getElem_cons_zero]
        rw [if_pos (by rfl)]
        go_wp2_with fail
        have N2 : ∀ p, KV (wa.alloc (.cells (madeCells #[.slice none 0 0] L) 105)) (w6.heap.size + 1) L 0 p A1 X.K := fun p => by have hh := HKV wa p; rw [zz1] at hh; exact hh
        have E2 : Below wa.heap.size wa (wa.alloc (.cells (madeCells #[.slice none 0 0] L) 105)) := (Below.refl _ _).alloc (Nat.le_refl _) _
        have zz2 : (wa.alloc (.cells (madeCells #[.slice none 0 0] L) 105)).heap.size = wa.heap.size + 1 := by simp
        generalize hwb : wa.alloc (.cells (madeCells #[.slice none 0 0] L) 105) = wb at *
        have E3 := below_then E1 E2
        refine hKc.out _ _ (X0.below E3) (fun hHeld => ?_)
        clear hKc Kc hwb hmk HKV HVV
        refine wpAnyH_take (i := 6) (v := (.agg #[.slice (some ⟨w6.heap.size + 1, 0, none⟩) L L, .slice (some ⟨w6.heap.size, 0, none⟩) L L])) rfl (by kernel_rfl) (by kernel_rfl) (by kernel_rfl) (fun _ _ _ h => h) (Or.inl ⟨by rfl, ?_⟩) (by assumption) ?_
        · intro w' hSw
          go_simp
        simp only [List.getElem_toArray, List.getElem_cons_succ, List.getElem_cons_zero, Act.put, List.setIfInBounds_toArray, List.set_cons_zero, List.set_cons_succ]
        refine wpAnyH_take (i := 7) (v := (.pointer (some ⟨w4.heap.size, 1, none⟩))) rfl (by kernel_rfl) (by kernel_rfl) (by kernel_rfl) (fun _ _ _ h => h) (Or.inl ⟨by rfl, ?_⟩) (by assumption) ?_
        · intro w' hSw
          go_simp
        simp only [List.getElem_toArray, List.getElem_cons_succ, List.getElem_cons_zero, Act.put, List.setIfInBounds_toArray, List.set_cons_zero, List.set_cons_succ]
        have Z5 := Y5.below E3
        have fz1 := Z5.frozen 1
        have fz2 := Z5.frozen 2
        have cz1 : wb.cell? ⟨w4.heap.size, 1, none⟩ = some (.slice (some ⟨gk, 0, none⟩) X.K.length X.K.length) := Z5.cell 1 rfl
        have cz2 : wb.cell? ⟨w4.heap.size, 2, none⟩ = some (.slice (some ⟨gv, 0, none⟩) X.V.length X.V.length) := Z5.cell 2 rfl
        refine wpAnyH_ready (rs := [8]) (by kernel_rfl) (by simp) ?_
        refine AllReadyH.cons rfl (fun Kc hKc => ?_) AllReadyH.nil
        simp only [List.getElem_toArray, List.getElem_cons_succ, List.getElem_cons_zero]
        rw [if_pos (by rfl)]
        go_wp2_with fail
        have XX0 := ((X0.below E3).other (a := ⟨w4.heap.size, 1, none⟩) (by show _ ≠ w4.heap.size; omega) (.slice (some ⟨w6.heap.size + 1, 0, none⟩) L L)).other (a := ⟨w4.heap.size, 2, none⟩) (by show _ ≠ w4.heap.size; omega) (.slice (some ⟨w6.heap.size, 0, none⟩) L L)
        refine hKc.out _ _ XX0 (fun hHeld => ?_)
        clear hKc Kc
        refine wpAnyH_done (by kernel_rfl) ?_ _
        go_wp2_with fail
        go_meet
        case rel =>
          refine ⟨w6.heap.size + 1, w6.heap.size, ((X2.below E3).other (by show _ ≠ w4.heap.size; omega) _).other (by show _ ≠ w4.heap.size; omega) _, ⟨XX0, ((X1.below E3).other (by show _ ≠ w4.heap.size; omega) _).other (by show _ ≠ w4.heap.size; omega) _, ((X3.below E3).other (by show _ ≠ w4.heap.size; omega) _).other (by show _ ≠ w4.heap.size; omega) _, (Z5.set 1 _).set 2 _, ?_, ?_, ?_, ?_, ((below_then B7 E3).setCell (p := ⟨w4.heap.size, 1, none⟩) (by show w.heap.size ≤ w4.heap.size; omega) _).setCell (p := ⟨w4.heap.size, 2, none⟩) (by show w.heap.size ≤ w4.heap.size; omega) _⟩⟩
          · refine owns_mono (owns_below O4 E3) (by omega) fun b hb => ?_
            have := HQ3.out b hb
            rw [Below.heap_setCell _ _ _ _ (by show b ≠ w4.heap.size; omega), Below.heap_setCell _ _ _ _ (by show b ≠ w4.heap.size; omega)]
          · exact ((N2 _).far (by show w4.heap.size ≠ _; omega) (fun h => h.2.2.2.1 rfl) _).far (by show w4.heap.size ≠ _; omega) (fun h => h.2.2.2.1 rfl) _
          · exact (((N1 _).below E2).far (by show w4.heap.size ≠ _; omega) (fun h => h.2.2.2.1 rfl) _).far (by show w4.heap.size ≠ _; omega) (fun h => h.2.2.2.1 rfl) _
          · refine ⟨by omega, by omega, by omega, by omega, by omega, by omega, fun hh => ?_, fun hh => ?_, fun hh => ?_⟩
            · have := HQ3.out _ hh; omega
            · have := HQ3.out _ hh; omega
            · have := HQ3.out _ hh; omega
    · have h0' : ((n : Int) == 0) = false := by simpa using h0
      have kE' := kE.out
      have vE' := vE.out
      rw [LN.out, if_neg h0] at kE' vE'
      rw [kE', vE'] at Y5
      rw [kE'] at K4
      rw [vE'] at V4
      clear kE' vE'
      go_wp2_with fail
      go_meet
      case rel =>
        refine ⟨gk, gv, X2, ⟨X0, X1, X3, Y5, owns_mono O4 (by omega) fun _ _ => rfl, K4.mono fun b hb h => ?_, V4.mono fun b hb h => ?_, ?_, B7⟩⟩
        · refine ⟨by omega, by omega, by omega, by omega, fun hh => ?_⟩
          have := q3 b hh
          omega
        · refine ⟨by omega, by omega, by omega, ?_, fun hh => ?_⟩
          · omega
          · have := q3 b hh
            omega
        · refine ⟨by omega, by omega, by omega, by omega, by omega, by omega, fun hh => ?_, fun hh => ?_, fun hh => ?_⟩
          · have := q3 _ hh; omega
          · have := q3 _ hh; omega
          · have := q3 _ hh; omega
  case rest =>
    obtain ⟨gk', gv', X2', G⟩ := hcut
    clear X0 X1 X2 X3 Y5 O4 K4 V4 q1 q2 q3 zv zo z4 z6 gNlt B3 B4 B6 B7 c20 s0 s1 s2 s3
    generalize gk' = gk at *
    generalize gv' = gv at *
    generalize w4.heap.size = gN at *
    replace G := G.below ((Below.refl _ _).drew)
    replace X2' := X2'.below ((Below.refl _ _).drew)
    go_wp2_with fail
    refine wp_region_held_drew (S := fun w' => Blk w' gN 48 #[.slice ta' n tc', .slice (some ⟨gk, 0, none⟩) L L, .slice (some ⟨gv, 0, none⟩) L L]) (by kernel_rfl) (G.xn) (fun hHeld => ?_)
    refine wpAnyH_take (i := 0) (v := (.pointer (some ⟨gN, 1, none⟩))) rfl (by kernel_rfl) (by kernel_rfl) (by kernel_rfl) (fun _ _ _ h => h) (Or.inl ⟨by rfl, ?_⟩) (by assumption) ?_
    · intro w' hSw
      go_simp
    simp only [List.getElem_toArray, List.getElem_cons_zero, Act.put, List.setIfInBounds_toArray, List.set_cons_zero, List.set_cons_succ]
    refine wpAnyH_take (i := 1) (v := (.pointer (some ⟨gN, 1, none⟩))) rfl (by kernel_rfl) (by kernel_rfl) (by kernel_rfl) (fun _ _ _ h => h) (Or.inl ⟨by rfl, ?_⟩) (by assumption) ?_
    · intro w' hSw
      go_simp
    simp only [List.getElem_toArray, List.getElem_cons_succ, List.getElem_cons_zero, Act.put, List.setIfInBounds_toArray, List.set_cons_zero, List.set_cons_succ]
    refine wpAnyH_take (i := 2) (v := (.slice (some ⟨gk, 0, none⟩) L L)) rfl (by kernel_rfl) (by kernel_rfl) (by kernel_rfl) (fun _ _ _ h => h) (Or.inl ⟨by rfl, ?_⟩) (by assumption) ?_
    · intro w' hSw
      have c1 : w'.cell? ⟨gN, 1, none⟩ = some (.slice (some ⟨gk, 0, none⟩) L L) := hSw.cell 1 rfl
      go_simp
    simp only [List.getElem_toArray, List.getElem_cons_succ, List.getElem_cons_zero, Act.put, List.setIfInBounds_toArray, List.set_cons_zero, List.set_cons_succ]
    refine wpAnyH_take (i := 3) (v := (.pointer (some ⟨gN, 1, none⟩))) rfl (by kernel_rfl) (by kernel_rfl) (by kernel_rfl) (fun _ _ _ h => h) (Or.inl ⟨by rfl, ?_⟩) (by assumption) ?_
    · intro w' hSw
      go_simp
    simp only [List.getElem_toArray, List.getElem_cons_succ, List.getElem_cons_zero, Act.put, List.setIfInBounds_toArray, List.set_cons_zero, List.set_cons_succ]
    refine wpAnyH_take (i := 4) (v := (.pointer (some ⟨gN, 2, none⟩))) rfl (by kernel_rfl) (by kernel_rfl) (by kernel_rfl) (fun _ _ _ h => h) (Or.inl ⟨by rfl, ?_⟩) (by assumption) ?_
    · intro w' hSw
      go_simp
    simp only [List.getElem_toArray, List.getElem_cons_succ, List.getElem_cons_zero, Act.put, List.setIfInBounds_toArray, List.set_cons_zero, List.set_cons_succ]
    refine wpAnyH_take (i := 5) (v := (.slice (some ⟨gv, 0, none⟩) L L)) rfl (by kernel_rfl) (by kernel_rfl) (by kernel_rfl) (fun _ _ _ h => h) (Or.inl ⟨by rfl, ?_⟩) (by assumption) ?_
    · intro w' hSw
      have c2 : w'.cell? ⟨gN, 2, none⟩ = some (.slice (some ⟨gv, 0, none⟩) L L) := hSw.cell 2 rfl
      go_simp
    simp only [List.getElem_toArray, List.getElem_cons_succ, List.getElem_cons_zero, Act.put, List.setIfInBounds_toArray, List.set_cons_zero, List.set_cons_succ]
    refine wpAnyH_take (i := 6) (v := (.slice (some ⟨gk, 0, none⟩) L L)) rfl (by kernel_rfl) (by kernel_rfl) (by kernel_rfl) (fun _ _ _ h => h) (Or.inl ⟨by rfl, ?_⟩) (by assumption) ?_
    · intro w' hSw
      go_simp
    simp only [List.getElem_toArray, List.getElem_cons_succ, List.getElem_cons_zero, Act.put, List.setIfInBounds_toArray, List.set_cons_zero, List.set_cons_succ]
    refine wpAnyH_take (i := 7) (v := (.slice (some ⟨gv, 0, none⟩) L L)) rfl (by kernel_rfl) (by kernel_rfl) (by kernel_rfl) (fun _ _ _ h => h) (Or.inl ⟨by rfl, ?_⟩) (by assumption) ?_
    · intro w' hSw
      go_simp
    simp only [List.getElem_toArray, List.getElem_cons_succ, List.getElem_cons_zero, Act.put, List.setIfInBounds_toArray, List.set_cons_zero, List.set_cons_succ]
    refine wpAnyH_done (by kernel_rfl) ?_ _
    clear hHeld
    generalize wc.drew = wd at *
    have c20 : wd.cell? ⟨w.heap.size + 1 + 1, 0, none⟩ = some (.slice ta n tz) := X2'.cell 0 rfl
    have G1 := G.x1
    go_wp2_with (refine wpList_load_row rfl 40 _ rfl (w.heap.size + 1) rfl 40 ws (0, 0) _ G1 Tryz.underlying40 rfl (by rw [siz]; exact Tryz.infoW) ?_)
    refine (CB _ G.kp).mono ?_
    rintro e we' ⟨gx0, cx0, rfl, F0, BD⟩
    rw [HX0.out] at F0
    have sD := G.kp.size
    replace F0 := F0.mono sD
    replace G := G.below BD
    clear X2' c20 G1 CB BD HX0
    have c3 : we'.cell? ⟨w.heap.size + 1, 3, none⟩ = some (.slice ba bn bz) := G.x1.cell 3 wb
    have hbn : L = bn := by rw [← hL, blen]
    subst hbn
    go_wp2_with fail
    go_loopg [48, 13] L (fun r i s wr => ∃ t gx cx : Nat, t ≤ L ∧ r = L - t ∧ i = .int .i64 t ∧ s = .slice (some ⟨gx, 0, none⟩) D cx ∧ GI w wr #[.int .i64 (V : Int), .int .i64 (D : Int), .int .i64 (Hd : Int), .int .i64 (H : Int), .int .i64 (L : Int)] ws gN gk gv L t (.slice ta' n tc') X.T A1 A2 X.K X.V ∧ Fresh wr w.heap.size gx D cx (xRow M D H Hd X.T.length X.K X.V x0 t))
    case atStart => exact ⟨0, _, _, by omega, by omega, rfl, rfl, G, F0⟩
    case round =>
      obtain ⟨t, gx, cx, htl, rfl, rfl, rfl, G, F0⟩ := hrel
      clear c3 sD
      by_cases hlt : t < L
      · obtain ⟨x, hx⟩ : ∃ x, bs[t]? = some x := ⟨_, List.getElem?_eq_getElem (by omega)⟩
        have WW := HW.out wr G.kp
        obtain ⟨Lx, hLx, BK⟩ := WW.ls t x hx
        have HLx : Hid (layAt M t = Lx) := by show _ = _; unfold layAt; rw [List.getD_eq_getElem?_getD, hLx]; rfl
        obtain ⟨g, o, e0, hc⟩ := WW.b.cells (by show 0 < L; omega)
        simp only at e0
        subst e0
        have r0 := hc t x hx
        clear hc hLx WW
        have HO := fun (xo : Option Addr) (cx : Nat) (Xr : List Int) (ko vo : Option Addr) (m ck cv : Nat) (Kr Vr : List (List Int)) (wv : World) (hb : BkAt wv D H x Lx) h1' h2' h3' h4' h5' h6' h7' h8' h9' => one_any V D Hd H H L x Lx xo cx Xr ko vo m ck cv Kr Vr wv h1' hb h2' h3' h4' h5' h6' h7' h8' h9' h1 h2 g1 g2 hd hH
        unfold cfgC at HO
        have one := bk_one x
        have siz2 := bk_size x
        generalize x.cells = cs at *
        have XZ := blk_new wr 80 #[.slice none 0 0, .int .i64 0, .int .i64 0, .slice none 0 0, .int .i64 0, .int .i64 0, .slice none 0 0, .int .i64 0, .int .i64 0, .slice none 0 0, .int .i64 0, .int .i64 0, .slice none 0 0, .slice none 0 0, .int .i64 0, .int .i64 0, .slice none 0 0, .int .i64 0, .int .i64 0, .slice none 0 0]
        have BZ : Below wr.heap.size wr (wr.alloc (.cells #[.slice none 0 0, .int .i64 0, .int .i64 0, .slice none 0 0, .int .i64 0, .int .i64 0, .slice none 0 0, .int .i64 0, .int .i64 0, .slice none 0 0, .int .i64 0, .int .i64 0, .slice none 0 0, .slice none 0 0, .int .i64 0, .int .i64 0, .slice none 0 0, .int .i64 0, .int .i64 0, .slice none 0 0] 80)) := (Below.refl _ _).alloc (Nat.le_refl _) _
        generalize hwz : wr.alloc (.cells #[.slice none 0 0, .int .i64 0, .int .i64 0, .slice none 0 0, .int .i64 0, .int .i64 0, .slice none 0 0, .int .i64 0, .int .i64 0, .slice none 0 0, .int .i64 0, .int .i64 0, .slice none 0 0, .slice none 0 0, .int .i64 0, .int .i64 0, .slice none 0 0, .int .i64 0, .int .i64 0, .slice none 0 0] 80) = wz at *
        have XR := XZ.row cs
        have BR := below_setRow BZ (Nat.le_refl _) cs
        generalize hwy : wz.setRow wr.heap.size cs = wy at *
        have HL : Hid (cs.toList.toArray = cs) := by show _ = _; simp
        obtain ⟨ko, nK, vK, cK, zK, NK⟩ := G.k.at hlt
        obtain ⟨vo, nV, vV, cV, zV, NV⟩ := G.v.at hlt
        obtain ⟨lK, rK⟩ := KL.out t hlt
        obtain ⟨lV, rV⟩ := VL.out t hlt
        obtain rfl : nK = X.T.length := by rw [← lK, NK.now.grid.len]
        obtain rfl : nV = X.T.length := by rw [← lV, NV.now.grid.len]
        have ltk := G.k.lt
        have ltv := G.v.lt
        have ltn := G.xn.lt
        have lto := fun b hb => (G.o.lt b hb).2
        have sW := G.kp.size
        have ne := G.ne
        have GY := (G.below BR).below ((Below.refl _ _).drew)
        have FY := (F0.below BR).drew
        have XY := XR.below ((Below.refl _ _).drew)
        have KY := (NK.below BR).below ((Below.refl _ _).drew)
        have VY := (NV.below BR).below ((Below.refl _ _).drew)
        have BY := (BK.below BR).below ((Below.refl _ _).drew)
        have cKY : wy.drew.cell? ⟨gk, t, none⟩ = some (.slice ko X.T.length X.T.length) := by
          have hb := BR.drew.block gk ltk
          rw [World.cell?_of_block (by exact hb)]
          exact cK
        have cVY : wy.drew.cell? ⟨gv, t, none⟩ = some (.slice vo X.T.length X.T.length) := by
          have hb := BR.drew.block gv ltv
          rw [World.cell?_of_block (by exact hb)]
          exact cV
        have sY := BR.size
        clear G F0 NK NV BK BZ cK cV
        go_wp2_with (first | (refine wpList_load_mid rfl 80 _ rfl g (o + t * 20) rfl cs.toList _ r0 Tryz.underlying80 rfl (by rw [Array.length_toList, siz2]; exact Tryz.infoB) ?_; rw [HL.out]) | (refine wpList_store_row rfl 80 _ _ rfl wr.heap.size cs rfl rfl 80 _ XZ (by rw [siz2]; exact Tryz.infoB) siz2.symm one ?_; rw [hwy]))
        clear hwz hwy XZ XR r0 HL
        refine wp_region_held_drew (S := fun w' => Blk w' w.heap.size 23 #[.int .i64 (V : Int), .int .i64 (D : Int), .int .i64 (Hd : Int), .int .i64 (H : Int), .int .i64 (L : Int)] ∧ Blk w' wr.heap.size 80 cs ∧ w'.cell? ⟨gk, t, none⟩ = some (.slice ko X.T.length X.T.length) ∧ w'.cell? ⟨gv, t, none⟩ = some (.slice vo X.T.length X.T.length)) (by kernel_rfl) (⟨GY.x0, XY, cKY, cVY⟩) (fun hHeld => ?_)
        refine wpAnyH_take (i := 0) (v := (.agg #[.int .i64 (V : Int), .int .i64 (D : Int), .int .i64 (Hd : Int), .int .i64 (H : Int), .int .i64 (L : Int)])) rfl (by kernel_rfl) (by kernel_rfl) (by kernel_rfl) (fun _ _ _ h => h) (Or.inl ⟨by rfl, ?_⟩) (by assumption) ?_
        · intro w' hSw
          have cc0 : w'.cell? ⟨w.heap.size, 0, none⟩ = some (.int .i64 (V : Int)) := hSw.1.cell 0 rfl
          have cc1 : w'.cell? ⟨w.heap.size, 1, none⟩ = some (.int .i64 (D : Int)) := hSw.1.cell 1 rfl
          have cc2 : w'.cell? ⟨w.heap.size, 2, none⟩ = some (.int .i64 (Hd : Int)) := hSw.1.cell 2 rfl
          have cc3 : w'.cell? ⟨w.heap.size, 3, none⟩ = some (.int .i64 (H : Int)) := hSw.1.cell 3 rfl
          have cc4 : w'.cell? ⟨w.heap.size, 4, none⟩ = some (.int .i64 (L : Int)) := hSw.1.cell 4 rfl
          go_simp
        simp only [List.getElem_toArray, List.getElem_cons_zero, Act.put, List.setIfInBounds_toArray, List.set_cons_zero, List.set_cons_succ]
        refine wpAnyH_take (i := 1) (v := (.agg cs)) rfl (by kernel_rfl) (by kernel_rfl) (by kernel_rfl) (fun _ _ _ h => h) (Or.inl ⟨by rfl, ?_⟩) (by assumption) ?_
        · intro w' hSw
          exact yield_row 80 _ rfl wr.heap.size rfl cs (load_b hSw.2.1 siz2)
        simp only [List.getElem_toArray, List.getElem_cons_succ, List.getElem_cons_zero, Act.put, List.setIfInBounds_toArray, List.set_cons_zero, List.set_cons_succ]
        refine wpAnyH_take (i := 2) (v := (.slice (some ⟨gx, 0, none⟩) D cx)) rfl (by kernel_rfl) (by kernel_rfl) (by kernel_rfl) (fun _ _ _ h => h) (Or.inl ⟨by rfl, ?_⟩) (by assumption) ?_
        · intro w' hSw
          go_simp
        simp only [List.getElem_toArray, List.getElem_cons_succ, List.getElem_cons_zero, Act.put, List.setIfInBounds_toArray, List.set_cons_zero, List.set_cons_succ]
        refine wpAnyH_take (i := 3) (v := (.slice (some ⟨gk, 0, none⟩) L L)) rfl (by kernel_rfl) (by kernel_rfl) (by kernel_rfl) (fun _ _ _ h => h) (Or.inl ⟨by rfl, ?_⟩) (by assumption) ?_
        · intro w' hSw
          go_simp
        simp only [List.getElem_toArray, List.getElem_cons_succ, List.getElem_cons_zero, Act.put, List.setIfInBounds_toArray, List.set_cons_zero, List.set_cons_succ]
        refine wpAnyH_take (i := 4) (v := (.int .i64 (t : Int))) rfl (by kernel_rfl) (by kernel_rfl) (by kernel_rfl) (fun _ _ _ h => h) (Or.inl ⟨by rfl, ?_⟩) (by assumption) ?_
        · intro w' hSw
          go_simp
        simp only [List.getElem_toArray, List.getElem_cons_succ, List.getElem_cons_zero, Act.put, List.setIfInBounds_toArray, List.set_cons_zero, List.set_cons_succ]
        refine wpAnyH_take (i := 5) (v := (.pointer (some ⟨gk, t, none⟩))) rfl (by kernel_rfl) (by kernel_rfl) (by kernel_rfl) (fun _ _ _ h => h) (Or.inl ⟨by rfl, ?_⟩) (by assumption) ?_
        · intro w' hSw
          go_simp
        simp only [List.getElem_toArray, List.getElem_cons_succ, List.getElem_cons_zero, Act.put, List.setIfInBounds_toArray, List.set_cons_zero, List.set_cons_succ]
        refine wpAnyH_take (i := 6) (v := (.slice ko X.T.length X.T.length)) rfl (by kernel_rfl) (by kernel_rfl) (by kernel_rfl) (fun _ _ _ h => h) (Or.inl ⟨by rfl, ?_⟩) (by assumption) ?_
        · intro w' hSw
          have ck := hSw.2.2.1
          go_simp
        simp only [List.getElem_toArray, List.getElem_cons_succ, List.getElem_cons_zero, Act.put, List.setIfInBounds_toArray, List.set_cons_zero, List.set_cons_succ]
        refine wpAnyH_take (i := 7) (v := (.slice (some ⟨gv, 0, none⟩) L L)) rfl (by kernel_rfl) (by kernel_rfl) (by kernel_rfl) (fun _ _ _ h => h) (Or.inl ⟨by rfl, ?_⟩) (by assumption) ?_
        · intro w' hSw
          go_simp
        simp only [List.getElem_toArray, List.getElem_cons_succ, List.getElem_cons_zero, Act.put, List.setIfInBounds_toArray, List.set_cons_zero, List.set_cons_succ]
        refine wpAnyH_take (i := 8) (v := (.int .i64 (t : Int))) rfl (by kernel_rfl) (by kernel_rfl) (by kernel_rfl) (fun _ _ _ h => h) (Or.inl ⟨by rfl, ?_⟩) (by assumption) ?_
        · intro w' hSw
          go_simp
        simp only [List.getElem_toArray, List.getElem_cons_succ, List.getElem_cons_zero, Act.put, List.setIfInBounds_toArray, List.set_cons_zero, List.set_cons_succ]
        refine wpAnyH_take (i := 9) (v := (.pointer (some ⟨gv, t, none⟩))) rfl (by kernel_rfl) (by kernel_rfl) (by kernel_rfl) (fun _ _ _ h => h) (Or.inl ⟨by rfl, ?_⟩) (by assumption) ?_
        · intro w' hSw
          go_simp
        simp only [List.getElem_toArray, List.getElem_cons_succ, List.getElem_cons_zero, Act.put, List.setIfInBounds_toArray, List.set_cons_zero, List.set_cons_succ]
        refine wpAnyH_take (i := 10) (v := (.slice vo X.T.length X.T.length)) rfl (by kernel_rfl) (by kernel_rfl) (by kernel_rfl) (fun _ _ _ h => h) (Or.inl ⟨by rfl, ?_⟩) (by assumption) ?_
        · intro w' hSw
          have cv := hSw.2.2.2
          go_simp
        simp only [List.getElem_toArray, List.getElem_cons_succ, List.getElem_cons_zero, Act.put, List.setIfInBounds_toArray, List.set_cons_zero, List.set_cons_succ]
        refine wpAnyH_ready (rs := [11]) (by kernel_rfl) (by simp) ?_
        refine AllReadyH.cons rfl (fun Kc hKc => ?_) AllReadyH.nil
        simp only [List.getElem_toArray, List.getElem_cons_succ, List.getElem_cons_zero]
        rw [if_pos (by rfl)]
        go_wp2_with fail
        refine (HO _ _ (xRow M D H Hd X.T.length X.K X.V x0 t) _ _ _ _ _ (X.K.getD t []) (X.V.getD t []) _ BY (HT.out _ GY.kp) FY.arg KY.now.grid VY.now.grid zK zV rK rV hl).mono ?_
        rintro e w9 ⟨o1, o2, o3, rfl, F1, F2, F3, B9⟩
        have GZ := GY.below B9
        have KZ := KY.below B9
        have VZ := VY.below B9
        have cKZ : w9.cell? ⟨gk, t, none⟩ = some (.slice ko X.T.length X.T.length) := by
          rw [World.cell?_of_block (by exact B9.block gk (Nat.lt_of_lt_of_le ltk sY))]
          exact cKY
        have cVZ : w9.cell? ⟨gv, t, none⟩ = some (.slice vo X.T.length X.T.length) := by
          rw [World.cell?_of_block (by exact B9.block gv (Nat.lt_of_lt_of_le ltv sY))]
          exact cVY
        go_wp2_with fail
        refine hKc.out _ _ (⟨GZ.x0, XY.below B9, cKZ, cVZ⟩) (fun hHeld => ?_)
        clear hKc Kc
        refine wpAnyH_take (i := 12) (v := (.tuple #[.slice (some ⟨o1, 0, none⟩) D D, .slice (some ⟨o2, 0, none⟩) D D, .slice (some ⟨o3, 0, none⟩) D D])) rfl (by kernel_rfl) (by kernel_rfl) (by kernel_rfl) (fun _ _ _ h => h) (Or.inl ⟨by rfl, ?_⟩) (by assumption) ?_
        · intro w' hSw
          go_simp
        simp only [List.getElem_toArray, List.getElem_cons_succ, List.getElem_cons_zero, Act.put, List.setIfInBounds_toArray, List.set_cons_zero, List.set_cons_succ]
        refine wpAnyH_take (i := 13) (v := (.slice (some ⟨o1, 0, none⟩) D D)) rfl (by kernel_rfl) (by kernel_rfl) (by kernel_rfl) (fun _ _ _ h => h) (Or.inl ⟨by rfl, ?_⟩) (by assumption) ?_
        · intro w' hSw
          go_simp
        simp only [List.getElem_toArray, List.getElem_cons_succ, List.getElem_cons_zero, Act.put, List.setIfInBounds_toArray, List.set_cons_zero, List.set_cons_succ]
        refine wpAnyH_take (i := 14) (v := (.slice (some ⟨o2, 0, none⟩) D D)) rfl (by kernel_rfl) (by kernel_rfl) (by kernel_rfl) (fun _ _ _ h => h) (Or.inl ⟨by rfl, ?_⟩) (by assumption) ?_
        · intro w' hSw
          go_simp
        simp only [List.getElem_toArray, List.getElem_cons_succ, List.getElem_cons_zero, Act.put, List.setIfInBounds_toArray, List.set_cons_zero, List.set_cons_succ]
        refine wpAnyH_take (i := 15) (v := (.slice (some ⟨o3, 0, none⟩) D D)) rfl (by kernel_rfl) (by kernel_rfl) (by kernel_rfl) (fun _ _ _ h => h) (Or.inl ⟨by rfl, ?_⟩) (by assumption) ?_
        · intro w' hSw
          go_simp
        simp only [List.getElem_toArray, List.getElem_cons_succ, List.getElem_cons_zero, Act.put, List.setIfInBounds_toArray, List.set_cons_zero, List.set_cons_succ]
        refine wpAnyH_take (i := 16) (v := (.slice (some ⟨o1, 0, none⟩) D D)) rfl (by kernel_rfl) (by kernel_rfl) (by kernel_rfl) (fun _ _ _ h => h) (Or.inl ⟨by rfl, ?_⟩) (by assumption) ?_
        · intro w' hSw
          go_simp
        simp only [List.getElem_toArray, List.getElem_cons_succ, List.getElem_cons_zero, Act.put, List.setIfInBounds_toArray, List.set_cons_zero, List.set_cons_succ]
        refine wpAnyH_take (i := 17) (v := (.slice (some ⟨o2, 0, none⟩) D D)) rfl (by kernel_rfl) (by kernel_rfl) (by kernel_rfl) (fun _ _ _ h => h) (Or.inl ⟨by rfl, ?_⟩) (by assumption) ?_
        · intro w' hSw
          go_simp
        simp only [List.getElem_toArray, List.getElem_cons_succ, List.getElem_cons_zero, Act.put, List.setIfInBounds_toArray, List.set_cons_zero, List.set_cons_succ]
        refine wpAnyH_take (i := 18) (v := (.slice (some ⟨o3, 0, none⟩) D D)) rfl (by kernel_rfl) (by kernel_rfl) (by kernel_rfl) (fun _ _ _ h => h) (Or.inl ⟨by rfl, ?_⟩) (by assumption) ?_
        · intro w' hSw
          go_simp
        simp only [List.getElem_toArray, List.getElem_cons_succ, List.getElem_cons_zero, Act.put, List.setIfInBounds_toArray, List.set_cons_zero, List.set_cons_succ]
        refine wpAnyH_done (by kernel_rfl) ?_ _
        clear hHeld HO one siz2 GY FY XY KY VY BY cKY cVY
        have f1b := F1.base
        have f2b := F2.base
        have f3b := F3.base
        have sY2 : wr.heap.size ≤ wy.drew.heap.size := sY
        have s9 := B9.size
        replace F1 : Fresh w9 w.heap.size o1 D D (xRow M D H Hd X.T.length X.K X.V x0 (t + 1)) := by
          have e : xRow M D H Hd X.T.length X.K X.V x0 (t + 1) = oneR Lx D H Hd (xRow M D H Hd X.T.length X.K X.V x0 t) (X.K.getD t []) (X.V.getD t []) X.T.length := by rw [← HLx.out]; rfl
          rw [e]
          exact F1.mono (by omega)
        have AK : Hangs (offB w gk gv gN (.slice ta' n tc')) w9 fun w => Arg w (some ⟨o2, 0, none⟩) D D (keyR Lx D (xRow M D H Hd X.T.length X.K X.V x0 t)) := F2.arg_off (by omega) (by omega) (by omega) (by omega) (fun hh => by have := lto _ hh; omega)
        have AV : Hangs (offB w gk gv gN (.slice ta' n tc')) w9 fun w => Arg w (some ⟨o3, 0, none⟩) D D (valR Lx D (xRow M D H Hd X.T.length X.K X.V x0 t)) := F3.arg_off (by omega) (by omega) (by omega) (by omega) (fun hh => by have := lto _ hh; omega)
        have E1 := K1.out t hlt
        have E2 := K2.out t hlt
        rw [HLx.out] at E1 E2
        have HOF : Hid (∀ b, w9.heap.size ≤ b → offB w gk gv gN (.slice ta' n tc') b) := fun b hb => ⟨by omega, by omega, by omega, by omega, fun hh => by have := lto _ hh; omega⟩
        generalize hkr : keyR Lx D (xRow M D H Hd X.T.length X.K X.V x0 t) = kr at *
        generalize hvr : valR Lx D (xRow M D H Hd X.T.length X.K X.V x0 t) = vr at *
        clear F2 F3 hkr hvr f2b f3b HLx
        replace GZ := GZ.below ((Below.refl _ _).drew)
        replace KZ := KZ.below ((Below.refl _ _).drew)
        replace VZ := VZ.below ((Below.refl _ _).drew)
        replace F1 := F1.drew
        replace AK := AK.below ((Below.refl _ _).drew)
        replace AV := AV.below ((Below.refl _ _).drew)
        replace cKZ : w9.drew.cell? ⟨gk, t, none⟩ = some (.slice ko X.T.length X.T.length) := cKZ
        replace cVZ : w9.drew.cell? ⟨gv, t, none⟩ = some (.slice vo X.T.length X.T.length) := cVZ
        have hw9 : w9.heap.size ≤ w9.drew.heap.size := Nat.le_refl _
        go_wp2_with fail
        refine wp_region_late (S := fun w' => w'.cell? ⟨gk, t, none⟩ = some (.slice ko X.T.length X.T.length) ∧ w'.cell? ⟨gv, t, none⟩ = some (.slice vo X.T.length X.T.length)) 21 (by kernel_rfl) ⟨cKZ, cVZ⟩ (fun hHeld => ?_)
        generalize hA : w9.drew = wA at *
        refine wpLate_pure (i := 0) (v := (.slice (some ⟨gk, 0, none⟩) L L)) rfl (by decide) (by kernel_rfl) (by kernel_rfl) (by kernel_rfl) (fun _ _ _ h => h) (Or.inl ⟨by rfl, ?_⟩) (fun _ => by assumption) ?_
        · intro w' _
          go_simp
        simp only [List.getElem_toArray, List.getElem_cons_zero, Act.put, List.setIfInBounds_toArray, List.set_cons_zero, List.set_cons_succ]
        refine wpLate_pure (i := 1) (v := (.int .i64 (t : Int))) rfl (by decide) (by kernel_rfl) (by kernel_rfl) (by kernel_rfl) (fun _ _ _ h => h) (Or.inl ⟨by rfl, ?_⟩) (fun _ => by assumption) ?_
        · intro w' _
          go_simp
        simp only [List.getElem_toArray, List.getElem_cons_succ, List.getElem_cons_zero, Act.put, List.setIfInBounds_toArray, List.set_cons_zero, List.set_cons_succ]
        refine wpLate_pure (i := 2) (v := (.slice (some ⟨gv, 0, none⟩) L L)) rfl (by decide) (by kernel_rfl) (by kernel_rfl) (by kernel_rfl) (fun _ _ _ h => h) (Or.inl ⟨by rfl, ?_⟩) (fun _ => by assumption) ?_
        · intro w' _
          go_simp
        simp only [List.getElem_toArray, List.getElem_cons_succ, List.getElem_cons_zero, Act.put, List.setIfInBounds_toArray, List.set_cons_zero, List.set_cons_succ]
        refine wpLate_pure (i := 3) (v := (.int .i64 (t : Int))) rfl (by decide) (by kernel_rfl) (by kernel_rfl) (by kernel_rfl) (fun _ _ _ h => h) (Or.inl ⟨by rfl, ?_⟩) (fun _ => by assumption) ?_
        · intro w' _
          go_simp
        simp only [List.getElem_toArray, List.getElem_cons_succ, List.getElem_cons_zero, Act.put, List.setIfInBounds_toArray, List.set_cons_zero, List.set_cons_succ]
        refine wpLate_pure (i := 4) (v := (.slice (some ⟨o1, 0, none⟩) D D)) rfl (by decide) (by kernel_rfl) (by kernel_rfl) (by kernel_rfl) (fun _ _ _ h => h) (Or.inl ⟨by rfl, ?_⟩) (fun _ => by assumption) ?_
        · intro w' _
          go_simp
        simp only [List.getElem_toArray, List.getElem_cons_succ, List.getElem_cons_zero, Act.put, List.setIfInBounds_toArray, List.set_cons_zero, List.set_cons_succ]
        refine wpLate_pure (i := 5) (v := (.slice (some ⟨gk, 0, none⟩) L L)) rfl (by decide) (by kernel_rfl) (by kernel_rfl) (by kernel_rfl) (fun _ _ _ h => h) (Or.inl ⟨by rfl, ?_⟩) (fun _ => by assumption) ?_
        · intro w' _
          go_simp
        simp only [List.getElem_toArray, List.getElem_cons_succ, List.getElem_cons_zero, Act.put, List.setIfInBounds_toArray, List.set_cons_zero, List.set_cons_succ]
        refine wpLate_pure (i := 6) (v := (.int .i64 (t : Int))) rfl (by decide) (by kernel_rfl) (by kernel_rfl) (by kernel_rfl) (fun _ _ _ h => h) (Or.inl ⟨by rfl, ?_⟩) (fun _ => by assumption) ?_
        · intro w' _
          go_simp
        simp only [List.getElem_toArray, List.getElem_cons_succ, List.getElem_cons_zero, Act.put, List.setIfInBounds_toArray, List.set_cons_zero, List.set_cons_succ]
        refine wpLate_pure (i := 7) (v := (.pointer (some ⟨gk, t, none⟩))) rfl (by decide) (by kernel_rfl) (by kernel_rfl) (by kernel_rfl) (fun _ _ _ h => h) (Or.inl ⟨by rfl, ?_⟩) (fun _ => by assumption) ?_
        · intro w' _
          go_simp
        simp only [List.getElem_toArray, List.getElem_cons_succ, List.getElem_cons_zero, Act.put, List.setIfInBounds_toArray, List.set_cons_zero, List.set_cons_succ]
        refine wpLate_take (i := 8) (v := (.slice ko X.T.length X.T.length)) rfl (by kernel_rfl) (by kernel_rfl) (by kernel_rfl) (by kernel_rfl) (by kernel_rfl) (fun _ _ _ h => h) (Or.inl ⟨by rfl, ?_⟩) (by assumption) ?_
        · intro w' hSw
          have ck := hSw.1
          go_simp
        simp only [List.getElem_toArray, List.getElem_cons_succ, List.getElem_cons_zero, Act.put, List.setIfInBounds_toArray, List.set_cons_zero, List.set_cons_succ]
        refine wpLate_pure (i := 9) (v := (.slice (some ⟨o2, 0, none⟩) D D)) rfl (by decide) (by kernel_rfl) (by kernel_rfl) (by kernel_rfl) (fun _ _ _ h => h) (Or.inl ⟨by rfl, ?_⟩) (fun _ => by assumption) ?_
        · intro w' _
          go_simp
        simp only [List.getElem_toArray, List.getElem_cons_succ, List.getElem_cons_zero, Act.put, List.setIfInBounds_toArray, List.set_cons_zero, List.set_cons_succ]
        refine wpLate_pure (i := 12) (v := (.slice (some ⟨gv, 0, none⟩) L L)) rfl (by decide) (by kernel_rfl) (by kernel_rfl) (by kernel_rfl) (fun _ _ _ h => h) (Or.inl ⟨by rfl, ?_⟩) (fun _ => by assumption) ?_
        · intro w' _
          go_simp
        simp only [List.getElem_toArray, List.getElem_cons_succ, List.getElem_cons_zero, Act.put, List.setIfInBounds_toArray, List.set_cons_zero, List.set_cons_succ]
        refine wpLate_pure (i := 13) (v := (.int .i64 (t : Int))) rfl (by decide) (by kernel_rfl) (by kernel_rfl) (by kernel_rfl) (fun _ _ _ h => h) (Or.inl ⟨by rfl, ?_⟩) (fun _ => by assumption) ?_
        · intro w' _
          go_simp
        simp only [List.getElem_toArray, List.getElem_cons_succ, List.getElem_cons_zero, Act.put, List.setIfInBounds_toArray, List.set_cons_zero, List.set_cons_succ]
        refine wpLate_pure (i := 14) (v := (.pointer (some ⟨gv, t, none⟩))) rfl (by decide) (by kernel_rfl) (by kernel_rfl) (by kernel_rfl) (fun _ _ _ h => h) (Or.inl ⟨by rfl, ?_⟩) (fun _ => by assumption) ?_
        · intro w' _
          go_simp
        simp only [List.getElem_toArray, List.getElem_cons_succ, List.getElem_cons_zero, Act.put, List.setIfInBounds_toArray, List.set_cons_zero, List.set_cons_succ]
        refine wpLate_take (i := 15) (v := (.slice vo X.T.length X.T.length)) rfl (by kernel_rfl) (by kernel_rfl) (by kernel_rfl) (by kernel_rfl) (by kernel_rfl) (fun _ _ _ h => h) (Or.inl ⟨by rfl, ?_⟩) (by assumption) ?_
        · intro w' hSw
          have cv := hSw.2
          go_simp
        simp only [List.getElem_toArray, List.getElem_cons_succ, List.getElem_cons_zero, Act.put, List.setIfInBounds_toArray, List.set_cons_zero, List.set_cons_succ]
        refine wpLate_pure (i := 16) (v := (.slice (some ⟨o3, 0, none⟩) D D)) rfl (by decide) (by kernel_rfl) (by kernel_rfl) (by kernel_rfl) (fun _ _ _ h => h) (Or.inl ⟨by rfl, ?_⟩) (fun _ => by assumption) ?_
        · intro w' _
          go_simp
        simp only [List.getElem_toArray, List.getElem_cons_succ, List.getElem_cons_zero, Act.put, List.setIfInBounds_toArray, List.set_cons_zero, List.set_cons_succ]
        clear hA
        refine wpLate_ready (rs := [10, 17]) (by kernel_rfl) (by simp) ?_
        refine wpLate_cons rfl (fun Kc hKc => ?_) (wpLate_cons rfl (fun Kc hKc => ?_) wpLate_nil)
        · simp only [List.getElem_toArray, List.getElem_cons_succ, List.getElem_cons_zero]
          rw [if_pos (by rfl)]
          go_wp2_with fail
          have XB1 := blk_new wA 35 #[.slice (some ⟨o2, 0, none⟩) D D]
          have EB1 : Below wA.heap.size wA (wA.alloc (.cells #[.slice (some ⟨o2, 0, none⟩) D D] 35)) := (Below.refl _ _).alloc (Nat.le_refl _) _
          generalize hn1 : wA.alloc (.cells #[.slice (some ⟨o2, 0, none⟩) D D] 35) = wB1 at *
          replace GZ := GZ.below EB1
          replace KZ := KZ.below EB1
          replace VZ := VZ.below EB1
          replace F1 := F1.below EB1
          replace AK := AK.below EB1
          replace AV := AV.below EB1
          replace cKZ := cell_keep cKZ EB1
          replace cVZ := cell_keep cVZ EB1
          have zwB1 := EB1.size
          refine hKc.out _ _ (fun _ _ => ⟨cKZ, cVZ⟩) ?_
          clear hKc Kc hn1
          refine wpLate_ready (rs := [11, 17]) (by kernel_rfl) (by simp) ?_
          refine wpLate_cons rfl (fun Kc hKc => ?_) (wpLate_cons rfl (fun Kc hKc => ?_) wpLate_nil)
          · simp only [List.getElem_toArray, List.getElem_cons_succ, List.getElem_cons_zero]
            rw [if_pos (by rfl)]
            have rc1 := HOF.out wB1.heap.size (by omega)
            refine wp_append_full _ _ rfl (offB w gk gv gN (.slice ta' n tc')) ko X.T.length vK _ rfl zK KZ (wA.heap.size) o2 D D kr rfl (XB1.cell 0 rfl) AK (by omega) rc1 ?_
            intro c1 wB2 c1a c1b N1 EB2
            replace GZ := GZ.below EB2
            replace KZ := KZ.below EB2
            replace VZ := VZ.below EB2
            replace F1 := F1.below EB2
            replace AK := AK.below EB2
            replace AV := AV.below EB2
            replace cKZ := cell_keep cKZ EB2
            replace cVZ := cell_keep cVZ EB2
            replace XB1 := XB1.below EB2
            have zwB2 := EB2.size
            refine hKc.out _ _ (fun _ _ => ⟨cKZ, cVZ⟩) ?_
            clear hKc Kc
            refine wpLate_ready (rs := [17]) (by kernel_rfl) (by simp) ?_
            refine wpLate_cons rfl (fun Kc hKc => ?_) wpLate_nil
            simp only [List.getElem_toArray, List.getElem_cons_succ, List.getElem_cons_zero]
            rw [if_pos (by rfl)]
            go_wp2_with fail
            have XB2 := blk_new wB2 35 #[.slice (some ⟨o3, 0, none⟩) D D]
            have EB3 : Below wB2.heap.size wB2 (wB2.alloc (.cells #[.slice (some ⟨o3, 0, none⟩) D D] 35)) := (Below.refl _ _).alloc (Nat.le_refl _) _
            generalize hn3 : wB2.alloc (.cells #[.slice (some ⟨o3, 0, none⟩) D D] 35) = wB3 at *
            replace GZ := GZ.below EB3
            replace KZ := KZ.below EB3
            replace VZ := VZ.below EB3
            replace F1 := F1.below EB3
            replace AK := AK.below EB3
            replace AV := AV.below EB3
            replace cKZ := cell_keep cKZ EB3
            replace cVZ := cell_keep cVZ EB3
            replace XB1 := XB1.below EB3
            replace N1 := N1.below EB3
            have zwB3 := EB3.size
            refine hKc.out _ _ (fun _ _ => ⟨cKZ, cVZ⟩) ?_
            clear hKc Kc hn3
            refine wpLate_ready (rs := [18]) (by kernel_rfl) (by simp) ?_
            refine wpLate_cons rfl (fun Kc hKc => ?_) wpLate_nil
            simp only [List.getElem_toArray, List.getElem_cons_succ, List.getElem_cons_zero]
            rw [if_pos (by rfl)]
            have rc2 := HOF.out wB3.heap.size (by omega)
            refine wp_append_full _ _ rfl (offB w gk gv gN (.slice ta' n tc')) vo X.T.length vV _ rfl zV VZ (wB2.heap.size) o3 D D vr rfl (XB2.cell 0 rfl) AV (by omega) rc2 ?_
            intro c2 wB4 c2a c2b N2 EB4
            replace GZ := GZ.below EB4
            replace KZ := KZ.below EB4
            replace VZ := VZ.below EB4
            replace F1 := F1.below EB4
            replace AK := AK.below EB4
            replace AV := AV.below EB4
            replace cKZ := cell_keep cKZ EB4
            replace cVZ := cell_keep cVZ EB4
            replace XB1 := XB1.below EB4
            replace N1 := N1.below EB4
            replace XB2 := XB2.below EB4
            have zwB4 := EB4.size
            refine hKc.out _ _ (fun _ _ => ⟨cKZ, cVZ⟩) ?_
            clear hKc Kc
            refine wpLate_pure (i := 19) (v := (.slice (some ⟨o1, 0, none⟩) D D)) rfl (by decide) (by kernel_rfl) (by kernel_rfl) (by kernel_rfl) (fun _ _ _ h => h) (Or.inl ⟨by rfl, ?_⟩) (fun _ => ⟨cKZ, cVZ⟩) ?_
            · intro w' _
              go_simp
            simp only [List.getElem_toArray, List.getElem_cons_succ, List.getElem_cons_zero, Act.put, List.setIfInBounds_toArray, List.set_cons_zero, List.set_cons_succ]
            refine wpLate_pure (i := 20) (v := (.pointer (some ⟨gk, t, none⟩))) rfl (by decide) (by kernel_rfl) (by kernel_rfl) (by kernel_rfl) (fun _ _ _ h => h) (Or.inl ⟨by rfl, ?_⟩) (fun _ => ⟨cKZ, cVZ⟩) ?_
            · intro w' _
              go_simp
            simp only [List.getElem_toArray, List.getElem_cons_succ, List.getElem_cons_zero, Act.put, List.setIfInBounds_toArray, List.set_cons_zero, List.set_cons_succ]
            have fz1 := GZ.k.frozen t
            have fz2 := (GZ.v.far (a := ⟨gk, t, none⟩) (by show gk ≠ gv; omega) (fun h => h.2.1 rfl) (.slice (some ⟨wB1.heap.size, 0, none⟩) (X.T.length + 1) c1)).frozen t
            have cV2 : (wB4.setCell ⟨gk, t, none⟩ (.slice (some ⟨wB1.heap.size, 0, none⟩) (X.T.length + 1) c1)).cell? ⟨gv, t, none⟩ = some (.slice vo X.T.length X.T.length) := by
              rw [World.cell?_setCell_far _ _ _ _ (by show gk ≠ gv; omega)]
              exact cVZ
            have GN := GZ.next hlt c1a c1b (by rw [E1]; exact N1) c2a c2b (by rw [E2]; exact N2)
            have FN := (F1.setOther (a := ⟨gk, t, none⟩) (by show o1 ≠ gk; omega) (.slice (some ⟨wB1.heap.size, 0, none⟩) (X.T.length + 1) c1)).setOther (a := ⟨gv, t, none⟩) (by show o1 ≠ gv; omega) (.slice (some ⟨wB3.heap.size, 0, none⟩) (X.T.length + 1) c2)
            clear E1 E2 N1 N2
            refine wpLate_ready (rs := [21]) (by kernel_rfl) (by simp) ?_
            refine wpLate_cons rfl (fun Kc hKc => ?_) wpLate_nil
            simp only [List.getElem_toArray, List.getElem_cons_succ, List.getElem_cons_zero]
            rw [if_pos (by rfl)]
            go_wp2_with fail
            refine hKc.out _ _ (fun h _ => absurd rfl h) ?_
            clear hKc Kc
            generalize hS1 : wB4.setCell ⟨gk, t, none⟩ (.slice (some ⟨wB1.heap.size, 0, none⟩) (X.T.length + 1) c1) = wS at *
            refine wpLate_ready (rs := [22]) (by kernel_rfl) (by simp) ?_
            refine wpLate_cons rfl (fun Kc hKc => ?_) wpLate_nil
            simp only [List.getElem_toArray, List.getElem_cons_succ, List.getElem_cons_zero]
            rw [if_pos (by rfl)]
            go_wp2_with fail
            refine hKc.out _ _ (fun _ h => by rw [getD_set_true] at h; cases h) ?_
            clear hKc Kc
            refine wpLate_ready (rs := [23]) (by kernel_rfl) (by simp) ?_
            refine wpLate_cons rfl (fun Kc hKc => ?_) wpLate_nil
            simp only [List.getElem_toArray, List.getElem_cons_succ, List.getElem_cons_zero]
            rw [if_pos (by rfl)]
            go_wp2_with fail
            refine hKc.out _ _ (fun _ h => by rw [getD_set_ne true (by decide), getD_set_true] at h; cases h) ?_
            clear hKc Kc
            refine wpLate_done (by kernel_rfl) ?_ _
            go_wp2_with fail
            go_roundg (L - (t + 1))
            case measure => omega
            case rel => exact ⟨t + 1, o1, D, by omega, rfl, by go_num, rfl, GN, FN⟩
          · simp only [List.getElem_toArray, List.getElem_cons_succ, List.getElem_cons_zero]
            rw [if_pos (by rfl)]
            go_wp2_with fail
            have XB2 := blk_new wB1 35 #[.slice (some ⟨o3, 0, none⟩) D D]
            have EB2 : Below wB1.heap.size wB1 (wB1.alloc (.cells #[.slice (some ⟨o3, 0, none⟩) D D] 35)) := (Below.refl _ _).alloc (Nat.le_refl _) _
            generalize hn2 : wB1.alloc (.cells #[.slice (some ⟨o3, 0, none⟩) D D] 35) = wB2 at *
            replace GZ := GZ.below EB2
            replace KZ := KZ.below EB2
            replace VZ := VZ.below EB2
            replace F1 := F1.below EB2
            replace AK := AK.below EB2
            replace AV := AV.below EB2
            replace cKZ := cell_keep cKZ EB2
            replace cVZ := cell_keep cVZ EB2
            replace XB1 := XB1.below EB2
            have zwB2 := EB2.size
            refine hKc.out _ _ (fun _ _ => ⟨cKZ, cVZ⟩) ?_
            clear hKc Kc hn2
            refine wpLate_ready (rs := [11]) (by kernel_rfl) (by simp) ?_
            refine wpLate_cons rfl (fun Kc hKc => ?_) wpLate_nil
            simp only [List.getElem_toArray, List.getElem_cons_succ, List.getElem_cons_zero]
            rw [if_pos (by rfl)]
            have rc1 := HOF.out wB2.heap.size (by omega)
            refine wp_append_full _ _ rfl (offB w gk gv gN (.slice ta' n tc')) ko X.T.length vK _ rfl zK KZ (wA.heap.size) o2 D D kr rfl (XB1.cell 0 rfl) AK (by omega) rc1 ?_
            intro c1 wB3 c1a c1b N1 EB3
            replace GZ := GZ.below EB3
            replace KZ := KZ.below EB3
            replace VZ := VZ.below EB3
            replace F1 := F1.below EB3
            replace AK := AK.below EB3
            replace AV := AV.below EB3
            replace cKZ := cell_keep cKZ EB3
            replace cVZ := cell_keep cVZ EB3
            replace XB1 := XB1.below EB3
            replace XB2 := XB2.below EB3
            have zwB3 := EB3.size
            refine hKc.out _ _ (fun _ _ => ⟨cKZ, cVZ⟩) ?_
            clear hKc Kc
            refine wpLate_ready (rs := [18]) (by kernel_rfl) (by simp) ?_
            refine wpLate_cons rfl (fun Kc hKc => ?_) wpLate_nil
            simp only [List.getElem_toArray, List.getElem_cons_succ, List.getElem_cons_zero]
            rw [if_pos (by rfl)]
            have rc2 := HOF.out wB3.heap.size (by omega)
            refine wp_append_full _ _ rfl (offB w gk gv gN (.slice ta' n tc')) vo X.T.length vV _ rfl zV VZ (wB1.heap.size) o3 D D vr rfl (XB2.cell 0 rfl) AV (by omega) rc2 ?_
            intro c2 wB4 c2a c2b N2 EB4
            replace GZ := GZ.below EB4
            replace KZ := KZ.below EB4
            replace VZ := VZ.below EB4
            replace F1 := F1.below EB4
            replace AK := AK.below EB4
            replace AV := AV.below EB4
            replace cKZ := cell_keep cKZ EB4
            replace cVZ := cell_keep cVZ EB4
            replace XB1 := XB1.below EB4
            replace XB2 := XB2.below EB4
            replace N1 := N1.below EB4
            have zwB4 := EB4.size
            refine hKc.out _ _ (fun _ _ => ⟨cKZ, cVZ⟩) ?_
            clear hKc Kc
            refine wpLate_pure (i := 19) (v := (.slice (some ⟨o1, 0, none⟩) D D)) rfl (by decide) (by kernel_rfl) (by kernel_rfl) (by kernel_rfl) (fun _ _ _ h => h) (Or.inl ⟨by rfl, ?_⟩) (fun _ => ⟨cKZ, cVZ⟩) ?_
            · intro w' _
              go_simp
            simp only [List.getElem_toArray, List.getElem_cons_succ, List.getElem_cons_zero, Act.put, List.setIfInBounds_toArray, List.set_cons_zero, List.set_cons_succ]
            refine wpLate_pure (i := 20) (v := (.pointer (some ⟨gk, t, none⟩))) rfl (by decide) (by kernel_rfl) (by kernel_rfl) (by kernel_rfl) (fun _ _ _ h => h) (Or.inl ⟨by rfl, ?_⟩) (fun _ => ⟨cKZ, cVZ⟩) ?_
            · intro w' _
              go_simp
            simp only [List.getElem_toArray, List.getElem_cons_succ, List.getElem_cons_zero, Act.put, List.setIfInBounds_toArray, List.set_cons_zero, List.set_cons_succ]
            have fz1 := GZ.k.frozen t
            have fz2 := (GZ.v.far (a := ⟨gk, t, none⟩) (by show gk ≠ gv; omega) (fun h => h.2.1 rfl) (.slice (some ⟨wB2.heap.size, 0, none⟩) (X.T.length + 1) c1)).frozen t
            have cV2 : (wB4.setCell ⟨gk, t, none⟩ (.slice (some ⟨wB2.heap.size, 0, none⟩) (X.T.length + 1) c1)).cell? ⟨gv, t, none⟩ = some (.slice vo X.T.length X.T.length) := by
              rw [World.cell?_setCell_far _ _ _ _ (by show gk ≠ gv; omega)]
              exact cVZ
            have GN := GZ.next hlt c1a c1b (by rw [E1]; exact N1) c2a c2b (by rw [E2]; exact N2)
            have FN := (F1.setOther (a := ⟨gk, t, none⟩) (by show o1 ≠ gk; omega) (.slice (some ⟨wB2.heap.size, 0, none⟩) (X.T.length + 1) c1)).setOther (a := ⟨gv, t, none⟩) (by show o1 ≠ gv; omega) (.slice (some ⟨wB3.heap.size, 0, none⟩) (X.T.length + 1) c2)
            clear E1 E2 N1 N2
            refine wpLate_ready (rs := [21]) (by kernel_rfl) (by simp) ?_
            refine wpLate_cons rfl (fun Kc hKc => ?_) wpLate_nil
            simp only [List.getElem_toArray, List.getElem_cons_succ, List.getElem_cons_zero]
            rw [if_pos (by rfl)]
            go_wp2_with fail
            refine hKc.out _ _ (fun h _ => absurd rfl h) ?_
            clear hKc Kc
            generalize hS1 : wB4.setCell ⟨gk, t, none⟩ (.slice (some ⟨wB2.heap.size, 0, none⟩) (X.T.length + 1) c1) = wS at *
            refine wpLate_ready (rs := [22]) (by kernel_rfl) (by simp) ?_
            refine wpLate_cons rfl (fun Kc hKc => ?_) wpLate_nil
            simp only [List.getElem_toArray, List.getElem_cons_succ, List.getElem_cons_zero]
            rw [if_pos (by rfl)]
            go_wp2_with fail
            refine hKc.out _ _ (fun _ h => by rw [getD_set_true] at h; cases h) ?_
            clear hKc Kc
            refine wpLate_ready (rs := [23]) (by kernel_rfl) (by simp) ?_
            refine wpLate_cons rfl (fun Kc hKc => ?_) wpLate_nil
            simp only [List.getElem_toArray, List.getElem_cons_succ, List.getElem_cons_zero]
            rw [if_pos (by rfl)]
            go_wp2_with fail
            refine hKc.out _ _ (fun _ h => by rw [getD_set_ne true (by decide), getD_set_true] at h; cases h) ?_
            clear hKc Kc
            refine wpLate_done (by kernel_rfl) ?_ _
            go_wp2_with fail
            go_roundg (L - (t + 1))
            case measure => omega
            case rel => exact ⟨t + 1, o1, D, by omega, rfl, by go_num, rfl, GN, FN⟩
        · simp only [List.getElem_toArray, List.getElem_cons_succ, List.getElem_cons_zero]
          rw [if_pos (by rfl)]
          go_wp2_with fail
          have XB2 := blk_new wA 35 #[.slice (some ⟨o3, 0, none⟩) D D]
          have EB1 : Below wA.heap.size wA (wA.alloc (.cells #[.slice (some ⟨o3, 0, none⟩) D D] 35)) := (Below.refl _ _).alloc (Nat.le_refl _) _
          generalize hn1 : wA.alloc (.cells #[.slice (some ⟨o3, 0, none⟩) D D] 35) = wB1 at *
          replace GZ := GZ.below EB1
          replace KZ := KZ.below EB1
          replace VZ := VZ.below EB1
          replace F1 := F1.below EB1
          replace AK := AK.below EB1
          replace AV := AV.below EB1
          replace cKZ := cell_keep cKZ EB1
          replace cVZ := cell_keep cVZ EB1
          have zwB1 := EB1.size
          refine hKc.out _ _ (fun _ _ => ⟨cKZ, cVZ⟩) ?_
          clear hKc Kc hn1
          refine wpLate_ready (rs := [10]) (by kernel_rfl) (by simp) ?_
          refine wpLate_cons rfl (fun Kc hKc => ?_) wpLate_nil
          simp only [List.getElem_toArray, List.getElem_cons_succ, List.getElem_cons_zero]
          rw [if_pos (by rfl)]
          go_wp2_with fail
          have XB1 := blk_new wB1 35 #[.slice (some ⟨o2, 0, none⟩) D D]
          have EB2 : Below wB1.heap.size wB1 (wB1.alloc (.cells #[.slice (some ⟨o2, 0, none⟩) D D] 35)) := (Below.refl _ _).alloc (Nat.le_refl _) _
          generalize hn2 : wB1.alloc (.cells #[.slice (some ⟨o2, 0, none⟩) D D] 35) = wB2 at *
          replace GZ := GZ.below EB2
          replace KZ := KZ.below EB2
          replace VZ := VZ.below EB2
          replace F1 := F1.below EB2
          replace AK := AK.below EB2
          replace AV := AV.below EB2
          replace cKZ := cell_keep cKZ EB2
          replace cVZ := cell_keep cVZ EB2
          replace XB2 := XB2.below EB2
          have zwB2 := EB2.size
          refine hKc.out _ _ (fun _ _ => ⟨cKZ, cVZ⟩) ?_
          clear hKc Kc hn2
          refine wpLate_ready (rs := [11]) (by kernel_rfl) (by simp) ?_
          refine wpLate_cons rfl (fun Kc hKc => ?_) wpLate_nil
          simp only [List.getElem_toArray, List.getElem_cons_succ, List.getElem_cons_zero]
          rw [if_pos (by rfl)]
          have rc1 := HOF.out wB2.heap.size (by omega)
          refine wp_append_full _ _ rfl (offB w gk gv gN (.slice ta' n tc')) ko X.T.length vK _ rfl zK KZ (wB1.heap.size) o2 D D kr rfl (XB1.cell 0 rfl) AK (by omega) rc1 ?_
          intro c1 wB3 c1a c1b N1 EB3
          replace GZ := GZ.below EB3
          replace KZ := KZ.below EB3
          replace VZ := VZ.below EB3
          replace F1 := F1.below EB3
          replace AK := AK.below EB3
          replace AV := AV.below EB3
          replace cKZ := cell_keep cKZ EB3
          replace cVZ := cell_keep cVZ EB3
          replace XB2 := XB2.below EB3
          replace XB1 := XB1.below EB3
          have zwB3 := EB3.size
          refine hKc.out _ _ (fun _ _ => ⟨cKZ, cVZ⟩) ?_
          clear hKc Kc
          refine wpLate_ready (rs := [18]) (by kernel_rfl) (by simp) ?_
          refine wpLate_cons rfl (fun Kc hKc => ?_) wpLate_nil
          simp only [List.getElem_toArray, List.getElem_cons_succ, List.getElem_cons_zero]
          rw [if_pos (by rfl)]
          have rc2 := HOF.out wB3.heap.size (by omega)
          refine wp_append_full _ _ rfl (offB w gk gv gN (.slice ta' n tc')) vo X.T.length vV _ rfl zV VZ (wA.heap.size) o3 D D vr rfl (XB2.cell 0 rfl) AV (by omega) rc2 ?_
          intro c2 wB4 c2a c2b N2 EB4
          replace GZ := GZ.below EB4
          replace KZ := KZ.below EB4
          replace VZ := VZ.below EB4
          replace F1 := F1.below EB4
          replace AK := AK.below EB4
          replace AV := AV.below EB4
          replace cKZ := cell_keep cKZ EB4
          replace cVZ := cell_keep cVZ EB4
          replace XB2 := XB2.below EB4
          replace XB1 := XB1.below EB4
          replace N1 := N1.below EB4
          have zwB4 := EB4.size
          refine hKc.out _ _ (fun _ _ => ⟨cKZ, cVZ⟩) ?_
          clear hKc Kc
          refine wpLate_pure (i := 19) (v := (.slice (some ⟨o1, 0, none⟩) D D)) rfl (by decide) (by kernel_rfl) (by kernel_rfl) (by kernel_rfl) (fun _ _ _ h => h) (Or.inl ⟨by rfl, ?_⟩) (fun _ => ⟨cKZ, cVZ⟩) ?_
          · intro w' _
            go_simp
          simp only [List.getElem_toArray, List.getElem_cons_succ, List.getElem_cons_zero, Act.put, List.setIfInBounds_toArray, List.set_cons_zero, List.set_cons_succ]
          refine wpLate_pure (i := 20) (v := (.pointer (some ⟨gk, t, none⟩))) rfl (by decide) (by kernel_rfl) (by kernel_rfl) (by kernel_rfl) (fun _ _ _ h => h) (Or.inl ⟨by rfl, ?_⟩) (fun _ => ⟨cKZ, cVZ⟩) ?_
          · intro w' _
            go_simp
          simp only [List.getElem_toArray, List.getElem_cons_succ, List.getElem_cons_zero, Act.put, List.setIfInBounds_toArray, List.set_cons_zero, List.set_cons_succ]
          have fz1 := GZ.k.frozen t
          have fz2 := (GZ.v.far (a := ⟨gk, t, none⟩) (by show gk ≠ gv; omega) (fun h => h.2.1 rfl) (.slice (some ⟨wB2.heap.size, 0, none⟩) (X.T.length + 1) c1)).frozen t
          have cV2 : (wB4.setCell ⟨gk, t, none⟩ (.slice (some ⟨wB2.heap.size, 0, none⟩) (X.T.length + 1) c1)).cell? ⟨gv, t, none⟩ = some (.slice vo X.T.length X.T.length) := by
            rw [World.cell?_setCell_far _ _ _ _ (by show gk ≠ gv; omega)]
            exact cVZ
          have GN := GZ.next hlt c1a c1b (by rw [E1]; exact N1) c2a c2b (by rw [E2]; exact N2)
          have FN := (F1.setOther (a := ⟨gk, t, none⟩) (by show o1 ≠ gk; omega) (.slice (some ⟨wB2.heap.size, 0, none⟩) (X.T.length + 1) c1)).setOther (a := ⟨gv, t, none⟩) (by show o1 ≠ gv; omega) (.slice (some ⟨wB3.heap.size, 0, none⟩) (X.T.length + 1) c2)
          clear E1 E2 N1 N2
          refine wpLate_ready (rs := [21]) (by kernel_rfl) (by simp) ?_
          refine wpLate_cons rfl (fun Kc hKc => ?_) wpLate_nil
          simp only [List.getElem_toArray, List.getElem_cons_succ, List.getElem_cons_zero]
          rw [if_pos (by rfl)]
          go_wp2_with fail
          refine hKc.out _ _ (fun h _ => absurd rfl h) ?_
          clear hKc Kc
          generalize hS1 : wB4.setCell ⟨gk, t, none⟩ (.slice (some ⟨wB2.heap.size, 0, none⟩) (X.T.length + 1) c1) = wS at *
          refine wpLate_ready (rs := [22]) (by kernel_rfl) (by simp) ?_
          refine wpLate_cons rfl (fun Kc hKc => ?_) wpLate_nil
          simp only [List.getElem_toArray, List.getElem_cons_succ, List.getElem_cons_zero]
          rw [if_pos (by rfl)]
          go_wp2_with fail
          refine hKc.out _ _ (fun _ h => by rw [getD_set_true] at h; cases h) ?_
          clear hKc Kc
          refine wpLate_ready (rs := [23]) (by kernel_rfl) (by simp) ?_
          refine wpLate_cons rfl (fun Kc hKc => ?_) wpLate_nil
          simp only [List.getElem_toArray, List.getElem_cons_succ, List.getElem_cons_zero]
          rw [if_pos (by rfl)]
          go_wp2_with fail
          refine hKc.out _ _ (fun _ h => by rw [getD_set_ne true (by decide), getD_set_true] at h; cases h) ?_
          clear hKc Kc
          refine wpLate_done (by kernel_rfl) ?_ _
          go_wp2_with fail
          go_roundg (L - (t + 1))
          case measure => omega
          case rel => exact ⟨t + 1, o1, D, by omega, rfl, by go_num, rfl, GN, FN⟩
      · obtain rfl : t = L := by omega
        have GX := G.xn
        have ltn := GX.lt
        have GO := G.o
        have ne := G.ne
        have hx13 : ∀ j u, ([(tok : Int)].map (Value.int .i64))[j]? = some u → (wr.alloc (.cells #[.int .i64 (tok : Int)] 3)).cell? ((Addr.mk wr.heap.size 0 none).add j) = some u := by
          intro j u hj
          match j, hj with
          | 0, hj =>
            simp at hj
            subst hj
            have e := heap_alloc_new wr (.cells #[.int .i64 (tok : Int)] 3)
            have e2 : (Addr.mk wr.heap.size 0 none).add 0 = ⟨wr.heap.size, 0, none⟩ := by simp [Addr.add]
            rw [e2]
            unfold World.cell?
            simp only [e]
            rfl
        have EB : Below wr.heap.size wr (wr.alloc (.cells #[.int .i64 (tok : Int)] 3)) := (Below.refl _ _).alloc (Nat.le_refl _) _
        have GB := G.below EB
        have FB := F0.below EB
        have sz := G.kp.size
        have cN0 : wr.cell? ⟨gN, 0, none⟩ = some (.slice ta' n tc') := GX.cell 0 rfl
        obtain ⟨i0, hi, hz0, hz1, hz2⟩ := info_parts Tryz.infoInt
        generalize hwB : wr.alloc (.cells #[.int .i64 (tok : Int)] 3) = wB at *
        have zB := EB.size
        have hnN : some gN ≠ Value.ownBlock (.slice ta' n tc') := fun h => ne.2.2.2.2.2.2.2.2 h.symm
        have hnk : some gk ≠ Value.ownBlock (.slice ta' n tc') := fun h => ne.2.2.2.2.2.2.1 h.symm
        have hnv : some gv ≠ Value.ownBlock (.slice ta' n tc') := fun h => ne.2.2.2.2.2.2.2.1 h.symm
        have h4 : ∀ b, Value.ownBlock (.slice ta' n tc') = some b → w.heap.size + 4 ≤ b := fun b hb => (GO.lt b hb).1
        have hEnd : Hid (∀ (ta2 : Option Addr) (tc2 : Nat) (wC : World), wC.ownsRow (w.heap.size + 4) 3 1 (.slice ta2 (X.T.length + 1) tc2) (X.T.length + 1) (X.T.map (Value.int .i64) ++ [(tok : Int)].map (Value.int .i64)) → wB.grownBy wC (Value.ownBlock (.slice ta' n tc')) →
            Blk wC gN 48 #[.slice ta' n tc', .slice (some ⟨gk, 0, none⟩) t t, .slice (some ⟨gv, 0, none⟩) t t] ∧ Blk wC (w.heap.size + 3) 48 #[.slice none 0 0, .slice none 0 0, .slice none 0 0] ∧
            New w.heap.size ((wC.setCell ⟨gN, 0, none⟩ (.slice ta2 (X.T.length + 1) tc2)).setRow (w.heap.size + 3) #[.slice ta2 (X.T.length + 1) tc2, .slice (some ⟨gk, 0, none⟩) t t, .slice (some ⟨gv, 0, none⟩) t t]) (fun w => VwAt w ⟨⟨ta2, X.T.length + 1, tc2⟩, ⟨some ⟨gk, 0, none⟩, t, t⟩, ⟨some ⟨gv, 0, none⟩, t, t⟩⟩ ⟨X.T ++ [(tok : Int)], A1, A2⟩) ∧
            Fresh ((wC.setCell ⟨gN, 0, none⟩ (.slice ta2 (X.T.length + 1) tc2)).setRow (w.heap.size + 3) #[.slice ta2 (X.T.length + 1) tc2, .slice (some ⟨gk, 0, none⟩) t t, .slice (some ⟨gv, 0, none⟩) t t]) w.heap.size gx D cx (xRow M D H Hd X.T.length X.K X.V x0 t) ∧ Below w.heap.size w ((wC.setCell ⟨gN, 0, none⟩ (.slice ta2 (X.T.length + 1) tc2)).setRow (w.heap.size + 3) #[.slice ta2 (X.T.length + 1) tc2, .slice (some ⟨gk, 0, none⟩) t t, .slice (some ⟨gv, 0, none⟩) t t])) := fun ta2 tc2 wC O3 G3 => by
          have BC : Below w.heap.size w wC := GB.kp.grown G3 (GB.kp.size) (fun k hk => by have := h4 k hk; omega)
          have XN := Blk.of_block GB.xn (G3.block gN GB.xn.lt hnN)
          have X3 := Blk.of_block GB.x3 (G3.block _ GB.x3.lt (fun h => by have := h4 _ h.symm; omega))
          have KC := GB.k.grown G3 (fun b hb h => hb.2.2.2.2 h.symm) hnk
          have VC := GB.v.grown G3 (fun b hb h => hb.2.2.2.2 h.symm) hnv
          have hgx : ∀ b T cs, wB.heap[b]? = some (.cells cs T (0, 0)) → T ≠ 106 → gx ≠ b := fun b T cs h1 h2 => FB.ne h1 h2
          have FC : Fresh wC w.heap.size gx D cx (xRow M D H Hd X.T.length X.K X.V x0 t) := FB.of_block (G3.block gx FB.lt (fun h => by
            obtain ⟨_, h9⟩ := GB.o
            rcases h9 with ⟨h10, _⟩ | ⟨g, cap, cur, hv, _, hh, _⟩
            · rw [h10] at h; cases h
            · rw [hv] at h
              simp only [Value.ownBlock, Option.some.injEq] at h
              exact hgx g _ _ hh (by decide) h))
          have so : ∀ b, b ≠ gN → b ≠ w.heap.size + 3 → ((wC.setCell ⟨gN, 0, none⟩ (.slice ta2 (X.T.length + 1) tc2)).setRow (w.heap.size + 3) #[.slice ta2 (X.T.length + 1) tc2, .slice (some ⟨gk, 0, none⟩) t t, .slice (some ⟨gv, 0, none⟩) t t]).heap[b]? = wC.heap[b]? := fun b hb1 hb2 => by
            rw [setRow_other _ _ _ _ hb2, Below.heap_setCell _ _ _ _ (by exact hb1)]
          have KD := KC.other (w' := (wC.setCell ⟨gN, 0, none⟩ (.slice ta2 (X.T.length + 1) tc2)).setRow (w.heap.size + 3) #[.slice ta2 (X.T.length + 1) tc2, .slice (some ⟨gk, 0, none⟩) t t, .slice (some ⟨gv, 0, none⟩) t t]) (by simp [World.setRow, World.setCell]) (so gk (by omega) (by omega)) (fun b hb => so b hb.2.2.2.1 (by have := hb.1; omega))
          have VD := VC.other (w' := (wC.setCell ⟨gN, 0, none⟩ (.slice ta2 (X.T.length + 1) tc2)).setRow (w.heap.size + 3) #[.slice ta2 (X.T.length + 1) tc2, .slice (some ⟨gk, 0, none⟩) t t, .slice (some ⟨gv, 0, none⟩) t t]) (by simp [World.setRow, World.setCell]) (so gv (by omega) (by omega)) (fun b hb => so b hb.2.2.2.1 (by have := hb.1; omega))
          refine ⟨XN, X3, ?_, ?_, ?_⟩
          · have NK := KD.cube L1.out (by omega) (B := w.heap.size) (fun b hb => by have := hb.1; omega) (by omega)
            have NV := VD.cube L2.out (by omega) (B := w.heap.size) (fun b hb => by have := hb.1; omega) (by omega)
            intro w2 h2w
            refine ⟨?_, NK w2 h2w, NV w2 h2w⟩
            have O4 : IOwn w2 (w.heap.size + 4) (.slice ta2 (X.T.length + 1) tc2) (X.T.length + 1) (X.T ++ [(tok : Int)]) := by
              unfold IOwn
              rw [List.map_append]
              refine owns_mono O3 (Nat.le_refl _) fun b hb => ?_
              have hb1 := (O3.lt b hb).1
              have hb2 := (O3.lt b hb).2
              rw [h2w b (by omega) (by simpa [World.setRow, World.setCell] using hb2)]
              refine so b (fun e => ?_) (by omega)
              subst e
              obtain ⟨_, h9⟩ := O3
              rcases h9 with ⟨h10, _⟩ | ⟨g, cap, cur, hv, _, hh, _⟩
              · rw [h10] at hb; cases hb
              · rw [hv] at hb
                simp only [Value.ownBlock, Option.some.injEq] at hb
                subst hb
                unfold Blk at XN
                rw [XN] at hh
                simp at hh
            obtain ⟨ao, c, e, A⟩ := O4.arg (fun k => by
              rcases Nat.lt_or_ge k X.T.length with h | h
              · rw [el_append_left h]; exact tb k
              · unfold el
                rw [List.getD_eq_getElem?_getD, List.getElem?_append_right h]
                rcases Nat.eq_zero_or_pos (k - X.T.length) with h0 | h0
                · rw [h0]; simp; omega
                · rw [List.getElem?_eq_none (by simp; omega)]; simp)
            simp only [Value.slice.injEq, true_and] at e
            obtain ⟨rfl, rfl⟩ := e
            exact A
          · exact FC.of_block (so gx (FC.ne XN (by decide)) (FC.ne X3 (by decide)))
          · exact below_setRow (BC.setCell (p := ⟨gN, 0, none⟩) (by show w.heap.size ≤ gN; omega) _) (by omega) _
        have hall : ∀ (a : Option Addr) (c : Nat), Array.all (#[.slice a (X.T.length + 1) c, .slice (some ⟨gk, 0, none⟩) t t, .slice (some ⟨gv, 0, none⟩) t t] : Array Value) (fun v => v.oneCell') = true := fun a c => by simp [Value.oneCell']
        go_wp2_with (first | (at_builtin; refine wpList_append_own _ rfl _ _ 25 rfl (w.heap.size + 4) 3 i0 (.int .i64 0) 1 8 Tryz.underlying25 hi hz0 hz1 hz2 rfl (by decide) _ X.T.length _ rfl GB.o ⟨wr.heap.size, 0, none⟩ 1 1 ([(tok : Int)].map (Value.int .i64)) rfl rfl hx13 (ints_oneCell _ _) (by unfold maxLen; omega) (by omega) (by omega) ?_; intro v' wC O3 G3 N3; obtain ⟨ta2, tc2, rfl⟩ := owns_slice O3; obtain ⟨XN, X3, NW, FW, BW⟩ := hEnd.out ta2 tc2 wC O3 G3; have cC0 : wC.cell? ⟨gN, 0, none⟩ = some (.slice ta' n tc') := XN.cell 0 rfl; have fC0 := XN.frozen 0; have XD := XN.set 0 (.slice ta2 (X.T.length + 1) tc2); have X4 := X3.other (a := ⟨gN, 0, none⟩) (by show _ ≠ gN; omega) (.slice ta2 (X.T.length + 1) tc2)) | (refine wpList_load_row rfl 48 _ rfl gN rfl 48 #[.slice ta2 (X.T.length + 1) tc2, .slice (some ⟨gk, 0, none⟩) t t, .slice (some ⟨gv, 0, none⟩) t t] (0, 0) _ XD Tryz.underlying48 rfl Tryz.infoV ?_) | (refine wpList_store_row rfl 48 _ _ rfl (w.heap.size + 3) #[.slice ta2 (X.T.length + 1) tc2, .slice (some ⟨gk, 0, none⟩) t t, .slice (some ⟨gv, 0, none⟩) t t] rfl rfl 48 _ X4 Tryz.infoV rfl (hall _ _) ?_))
        have hlv : (loadVar 48 ⟨w.heap.size + 3, 0, none⟩).run Tryz.prog ((wC.setCell ⟨gN, 0, none⟩ (.slice ta2 (X.T.length + 1) tc2)).setRow (w.heap.size + 3) #[.slice ta2 (X.T.length + 1) tc2, .slice (some ⟨gk, 0, none⟩) t t, .slice (some ⟨gv, 0, none⟩) t t]) = .ok (.agg #[.slice ta2 (X.T.length + 1) tc2, .slice (some ⟨gk, 0, none⟩) t t, .slice (some ⟨gv, 0, none⟩) t t]) _ := run_loadVar_row _ _ _ _ _ _ _ (X4.row _) Tryz.underlying48 rfl Tryz.infoV
        refine bodyPost_ret (results_blk rfl _ _ (w.heap.size + 3) _ rfl hlv) rfl ?_
        rw [HE.out, HFX.out]
        exact ⟨⟨⟨ta2, X.T.length + 1, tc2⟩, ⟨some ⟨gk, 0, none⟩, t, t⟩, ⟨some ⟨gv, 0, none⟩, t, t⟩⟩, gx, cx, rfl, NW, FW, BW⟩
end Go.Proofs.YtcanjlofnpnhkaaGreatDoor
