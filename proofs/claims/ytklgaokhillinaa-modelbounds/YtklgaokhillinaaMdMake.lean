/- A model's numbers, made from a seed. -/
import Derived.Test.YtklgaokhillinaaMdShape
import Derived.Deep.MidRow
import Derived.Laws.ResultCell
import Derived.Laws.CopyOwn
import Derived.Deep.RegionLaw
namespace Go.Proofs.Ytklgaokhillinaa
open Go.ChangeShapes Go.WideShapes Go.ChangeAt Go.RowKit
theorem Try.infoW : (Try.prog.info? 29).map (·.size) = some 8 := by kernel_rfl
theorem results_blk {fn : Func} {p u : Tmp} {ty : TypeId} (h : fn.results = #[.cell p ty, .tmp u]) (tmps : Array Value) (w : World) (g : Nat) (cs : Array Value)
    (hp : tmps.getD p undef = .pointer (some ⟨g, 0, none⟩)) (hl : (loadVar ty ⟨g, 0, none⟩).run Try.prog w = .ok (.agg cs) w) :
    (results fn tmps).run Try.prog w = .ok (.tuple #[.agg cs, tmps.getD u undef]) w := by
  rw [results_cell_tmp h, hp]
  simp only [asAddr, Result.andThen]
  simp [hl]
theorem load_w {w : World} {g : Nat} {cs : Array Value} (h : Blk w g 29 cs) (hs : cs.size = 8) : (loadVar 29 ⟨g, 0, none⟩).run Try.prog w = .ok (.agg cs) w :=
  run_loadVar_row w g _ _ cs _ _ h Try.underlying29 rfl (by rw [hs]; exact Try.infoW)
/-- The cells of no model. -/
def noW : Array Value := #[.int .i64 0, .int .i64 0, .slice none 0 0, .slice none 0 0, .slice none 0 0, .int .i64 0, .int .i64 0, .slice none 0 0]
set_option maxHeartbeats 800000 in
theorem make_bad (V D Hd H L : Int) (seed : Nat) (w : World) (b1 : I64 V) (b2 : I64 D) (b3 : I64 Hd) (b4 : I64 H) (b5 : I64 L) (hf : shapeN V D Hd H L ≠ 0) :
   Calls Try.prog 16 #[.agg (cfgC V D Hd H L), .int .u64 (seed : Int)] w fun e w' => e = .returned (.tuple #[.agg noW, .int .i64 (shapeN V D Hd H L)]) ∧ Below w.heap.size w w' := by
  have hf' : (shapeN V D Hd H L == 0) = false := by simpa using hf
  have C := fun wv => shape_any V D Hd H L wv b1 b2 b3 b4 b5
  generalize shapeN V D Hd H L = q at *
  have X0 := blk_new w 23 (cfgC V D Hd H L)
  have B0 : Below w.heap.size w (w.alloc (.cells (cfgC V D Hd H L) 23)) := (Below.refl _ _).alloc (Nat.le_refl _) _
  have s0 : (w.alloc (.cells (cfgC V D Hd H L) 23)).heap.size = w.heap.size + 1 := by simp
  unfold cfgC at *
  generalize hw0 : w.alloc (.cells #[.int .i64 V, .int .i64 D, .int .i64 Hd, .int .i64 H, .int .i64 L] 23) = w0 at *
  have X1 := blk_new w0 29 noW
  have B1 : Below w0.heap.size w0 (w0.alloc (.cells noW 29)) := (Below.refl _ _).alloc (Nat.le_refl _) _
  unfold noW at *
  generalize hw1 : w0.alloc (.cells #[.int .i64 0, .int .i64 0, .slice none 0 0, .slice none 0 0, .slice none 0 0, .int .i64 0, .int .i64 0, .slice none 0 0] 29) = w1 at *
  rw [s0] at X1
  replace X0 := X0.below B1
  replace B1 := below_then B0 B1
  have c0 : w1.cell? ⟨w.heap.size, 0, none⟩ = some (.int .i64 V) := X0.cell 0 rfl
  have c1 : w1.cell? ⟨w.heap.size, 1, none⟩ = some (.int .i64 D) := X0.cell 1 rfl
  have c2 : w1.cell? ⟨w.heap.size, 2, none⟩ = some (.int .i64 Hd) := X0.cell 2 rfl
  have c3 : w1.cell? ⟨w.heap.size, 3, none⟩ = some (.int .i64 H) := X0.cell 3 rfl
  have c4 : w1.cell? ⟨w.heap.size, 4, none⟩ = some (.int .i64 L) := X0.cell 4 rfl
  go_enter Try.func16, Try.ntmps16
  go_wp2_with fail
  refine (C w1).mono ?_
  rintro e w2 ⟨rfl, B2⟩
  replace X1 := X1.below B2
  replace B2 := below_then B1 B2
  clear hw0 hw1 c0 c1 c2 c3 c4 X0 B0 B1
  have hall : Array.all (#[.int .i64 0, .int .i64 0, .slice none 0 0, .slice none 0 0, .slice none 0 0, .int .i64 0, .int .i64 0, .slice none 0 0] : Array Value) (fun v => v.oneCell') = true := by simp [Value.oneCell']
  go_wp2_with (refine wpList_store_row rfl 29 _ _ rfl (w.heap.size + 1) #[.int .i64 0, .int .i64 0, .slice none 0 0, .slice none 0 0, .slice none 0 0, .int .i64 0, .int .i64 0, .slice none 0 0] rfl rfl 29 _ X1 Try.infoW rfl hall ?_)
  refine bodyPost_ret (results_blk rfl _ _ (w.heap.size + 1) _ rfl (load_w (X1.row _) rfl)) rfl ?_
  exact ⟨rfl, below_setRow B2 (by omega) _⟩
/-! What a store into the middle of a block leaves as it was. -/
theorem setCells_other (b : Nat) : ∀ (vs : List Value) (o : Nat) (w : World) (k : Nat), k ≠ b → (w.setCells b o vs).heap[k]? = w.heap[k]?
  | [], _, _, _, _ => rfl
  | v :: r, o, w, k, h => by rw [World.setCells, setCells_other b r (o + 1) _ k h, Below.heap_setCell _ _ _ _ (by exact h)]
theorem setCells_block (b : Nat) (T : TypeId) : ∀ (vs : List Value) (o : Nat) (w : World) (cs : Array Value), w.heap[b]? = some (.cells cs T (0, 0)) → ∃ cs', (w.setCells b o vs).heap[b]? = some (.cells cs' T (0, 0)) ∧ cs'.size = cs.size
  | [], _, _, cs, h => ⟨cs, h, rfl⟩
  | v :: r, o, w, cs, h => by
    obtain ⟨cs', h1, h2⟩ := setCells_block b T r (o + 1) (w.setCell ⟨b, o, none⟩ v) (cs.setIfInBounds o v) (by simp [World.setCell, Array.getElem?_modify, h])
    exact ⟨cs', h1, by simpa using h2⟩
theorem setCells_rest (b : Nat) : ∀ (vs : List Value) (o : Nat) (w : World), (w.setCells b o vs).os = w.os ∧ (w.setCells b o vs).tape = w.tape ∧ (w.setCells b o vs).output = w.output ∧ (w.setCells b o vs).heap.size = w.heap.size
  | [], _, _ => ⟨rfl, rfl, rfl, rfl⟩
  | v :: r, o, w => by
    obtain ⟨h1, h2, h3, h4⟩ := setCells_rest b r (o + 1) (w.setCell ⟨b, o, none⟩ v)
    exact ⟨h1, h2, h3, by rw [World.setCells, h4]; simp [World.setCell]⟩
theorem Below.setCells {B : Nat} {w w' : World} (h : Below B w w') {b : Nat} (hb : B ≤ b) (o : Nat) (vs : List Value) : Below B w (w'.setCells b o vs) := by
  obtain ⟨h1, h2, h3, h4⟩ := setCells_rest b vs o w'
  exact ⟨h1.trans h.os, h2.trans h.tape, h3.trans h.output, by rw [h4]; exact h.size, fun k hk => by rw [setCells_other b vs o w' k (by omega)]; exact h.block k hk⟩
theorem there_of {w : World} {b n : Nat} {T : TypeId} {cs : Array Value} (h : w.heap[b]? = some (.cells cs T (0, 0))) (o : Nat) (hn : o + n ≤ cs.size) : w.there b o n := fun j hj => by
  refine ⟨?_, ?_⟩
  · unfold World.cell?; simp only [h]; simp; omega
  · unfold World.frozen?; simp only [h]; rfl
theorem rangeAt_block {w w' : World} {b o : Nat} {cs : List Value} (h : w.rangeAt b o cs) (e : w'.heap[b]? = w.heap[b]?) : w'.rangeAt b o cs := fun j v hv => by rw [World.cell?_of_block (w := w) e]; exact h j v hv
theorem MadeB.of {w w' : World} {B B' seed i D H f q k v o s u d : Nat} (h : MadeB w B seed i D H f q k v o s u d) (hB : B' ≤ B) (hk : ∀ {g n c : Nat} {A : List Int}, Fresh w B g n c A → w'.heap[g]? = w.heap[g]?) : MadeB w' B' seed i D H f q k v o s u d :=
  ⟨(h.f.of_block (hk h.f)).mono hB, (h.q.of_block (hk h.q)).mono hB, (h.k.of_block (hk h.k)).mono hB, (h.v.of_block (hk h.v)).mono hB, (h.o.of_block (hk h.o)).mono hB, (h.s.of_block (hk h.s)).mono hB, (h.u.of_block (hk h.u)).mono hB, (h.d.of_block (hk h.d)).mono hB⟩
/-- A row of numbers lies in no block of another type. -/
theorem Fresh.ne {w : World} {B g n c : Nat} {A : List Int} (h : Fresh w B g n c A) {b : Nat} {T : TypeId} {cs : Array Value} (hb : w.heap[b]? = some (.cells cs T (0, 0))) (hT : T ≠ 55) : g ≠ b := by
  rintro rfl
  obtain ⟨c9, h9, _⟩ := h.row
  rw [hb] at h9
  simp at h9
  exact hT h9.2
/-- The cells of a model whose first matrix and layers were made. -/
def wCells (V D : Nat) (e b l o : Value) (V' D' : Int) : Array Value := #[.int .i64 V, .int .i64 D, e, b, l, .int .i64 V', .int .i64 D', o]
/-- The first t layers of a model that is made. -/
structure MkAt (w wr : World) (V D : Nat) (Hd : Int) (H : Nat) (Ly : Int) (L seed gS ge gB t : Nat) : Prop where
  x0 : Blk wr w.heap.size 23 (cfgC V D Hd H Ly)
  x1 : Blk wr (w.heap.size + 1) 29 noW
  xw : Blk wr (gS + 1) 29 (wCells V D (rv ge (V * D)) (rv gB L) (.slice none 0 0) (.slice none 0 0) 0 0)
  src : SrcAt wr gS (stN seed (V * D + t * lenB D H))
  e : Fresh wr w.heap.size ge (V * D) (V * D) (numR seed 0 (V * D) 131072)
  bl : ∃ cs : Array Value, wr.heap[gB]? = some (.cells cs 57 (0, 0)) ∧ cs.size = L * 20
  bs : ∀ j, j < t → ∃ f q k v o s u d, wr.rangeAt gB (j * 20) (madeB D H f q k v o s u d).toList ∧ MadeB wr w.heap.size seed (V * D + j * lenB D H) D H f q k v o s u d
  kp : Below w.heap.size w wr
/-- A model that was made: its rows. -/
structure MadeW (w : World) (B seed V D H L ge gB gl go : Nat) : Prop where
  e : Fresh w B ge (V * D) (V * D) (numR seed 0 (V * D) 131072)
  bl : ∃ cs : Array Value, w.heap[gB]? = some (.cells cs 57 (0, 0)) ∧ cs.size = L * 20
  base : B ≤ gB
  bs : ∀ j, j < L → ∃ f q k v o s u d, w.rangeAt gB (j * 20) (madeB D H f q k v o s u d).toList ∧ MadeB w B seed (V * D + j * lenB D H) D H f q k v o s u d
  l : Fresh w B gl D D (gainR seed (V * D + L * lenB D H) D)
  o : Fresh w B go (V * D) (V * D) (numR seed (V * D + L * lenB D H + D) (V * D) 65536)
theorem madeB_len (D H f q k v o s u d : Nat) : (madeB D H f q k v o s u d).toList.length = 20 := rfl
theorem MkAt.step {w wr w' : World} {V D : Nat} {Hd : Int} {H : Nat} {Ly : Int} {L seed gS ge gB t : Nat} (h : MkAt w wr V D Hd H Ly L seed gS ge gB t) (g1 : w.heap.size + 1 < gS) (g2 : gS + 1 < gB) (ht : t < L)
    {f q k v o s u d : Nat} (hm : MadeB w' wr.heap.size seed (V * D + t * lenB D H) D H f q k v o s u d) (hs : SrcAt w' gS (stN seed (V * D + t * lenB D H + lenB D H))) (hk : But gS wr w') (ms : List Value) (hms : (madeB D H f q k v o s u d).toList = ms) :
    MkAt w (w'.setCells gB (t * 20) ms) V D Hd H Ly L seed gS ge gB (t + 1) ∧ w'.there gB (t * 20) 20 := by
  have hml : ms.length = 20 := by rw [← hms]; exact madeB_len _ _ _ _ _ _ _ _ _ _
  obtain ⟨cs, hc1, hc2⟩ := h.bl
  have hlt : gB < wr.heap.size := (Array.getElem?_eq_some_iff.1 hc1).1
  have hc3 : w'.heap[gB]? = some (.cells cs 57 (0, 0)) := (hk.block gB hlt (by omega)).trans hc1
  have sz := h.kp.size
  have so : ∀ b, b ≠ gB → (w'.setCells gB (t * 20) ms).heap[b]? = w'.heap[b]? := fun b hb => setCells_other gB _ _ _ b hb
  have ht2 : t * 20 + 20 ≤ L * 20 := by omega
  have th : w'.there gB (t * 20) 20 := there_of hc3 _ (by omega)
  have hsrc := h.src
  unfold SrcAt Blk at hsrc
  have fr : ∀ {B g n c : Nat} {A : List Int}, Fresh wr B g n c A → (w'.setCells gB (t * 20) ms).heap[g]? = wr.heap[g]? := fun {B g n c A} F => by
    have hne : g ≠ gS := F.ne hsrc (by decide)
    rw [so g (F.ne hc1 (by decide))]
    exact hk.block g F.lt hne
  have hx0 := h.x0.lt
  have hx1 := h.x1.lt
  have hxw := h.xw.lt
  refine ⟨⟨?_, ?_, ?_, ?_, ?_, ?_, ?_, ?_⟩, th⟩
  · exact Blk.of_block h.x0 ((so _ (by omega)).trans (hk.block _ hx0 (by omega)))
  · exact Blk.of_block h.x1 ((so _ (by omega)).trans (hk.block _ hx1 (by omega)))
  · exact Blk.of_block h.xw ((so _ (by omega)).trans (hk.block _ hxw (by omega)))
  · have e : V * D + (t + 1) * lenB D H = V * D + t * lenB D H + lenB D H := by rw [Nat.add_mul, Nat.one_mul, Nat.add_assoc]
    rw [e]
    exact Blk.of_block hs (so _ (by omega))
  · exact h.e.of_block (fr h.e)
  · obtain ⟨cs', h1, h2⟩ := setCells_block gB 57 ms (t * 20) w' cs hc3
    exact ⟨cs', h1, by omega⟩
  · intro j hj
    rcases Nat.lt_or_ge j t with hjt | hjt
    · obtain ⟨f', q', k', v', o', s', u', d', r1, r2⟩ := h.bs j hjt
      refine ⟨f', q', k', v', o', s', u', d', World.rangeAt_setCells_apart (rangeAt_block r1 (hk.block gB hlt (by omega))) _ _ _ (Or.inr (Or.inl ?_)), r2.of (Nat.le_refl _) (fun F => fr F)⟩
      rw [madeB_len]
      omega
    · obtain rfl : j = t := by omega
      refine ⟨f, q, k, v, o, s, u, d, ?_, hm.of sz (fun F => so _ (F.ne hc3 (by decide)))⟩
      rw [hms]
      exact World.rangeAt_setCells_same _ _ _ _ (by rw [hml]; exact th)
  · exact Below.setCells (h.kp.trans (hk.below sz (by omega))) (by omega) _ _
end Go.Proofs.Ytklgaokhillinaa
