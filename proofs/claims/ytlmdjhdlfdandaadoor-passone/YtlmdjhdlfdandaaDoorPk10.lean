/- Contracts of the program's functions, part 10 of 10: what each call returns and leaves of memory. -/
import Derived.Test.YtlmdjhdlfdandaaDoorPk9
import Derived.Test.YtlmdjhdlfdandaaDoorPk6
import Derived.Test.YtlmdjhdlfdandaaDoorPk5
import Derived.Test.YtlmdjhdlfdandaaDoorPk3
import Derived.Test.YtlmdjhdlfdandaaDoorPk1
import Derived.LaidMore
import Derived.Lib.LaidTab
import Derived.Stop.Joined
/- The document's model, made from a seed. Laid by tools/genrmake.py. -/
namespace Go.Proofs.YtlmdjhdlfdandaaDoor
open Go.ChangeShapes Go.WideShapes Go.ChangeAt Go.RowKit
/-- A slice that is a row of the call's own. -/
def FR (w : World) (B : Nat) (s : Sl) (n : Nat) (A : List Int) : Prop := ∃ g, s.ao = some ⟨g, 0, none⟩ ∧ s.n = n ∧ Fresh w B g n s.c A
theorem FR.below {w w' : World} {B : Nat} {s : Sl} {n : Nat} {A : List Int} (h : FR w B s n A) (hb : Below w.heap.size w w') : FR w' B s n A := by
  obtain ⟨g, h1, h2, F⟩ := h
  exact ⟨g, h1, h2, F.below hb⟩
theorem FR.keep {w w' : World} {B b : Nat} {T : TypeId} {cs : Array Value} {s : Sl} {n : Nat} {A : List Int} (h : FR w B s n A) (hb : Blk w b T cs) (hT : T ≠ 55) (so : ∀ k, k ≠ b → w'.heap[k]? = w.heap[k]?) : FR w' B s n A := by
  obtain ⟨g, h1, h2, F⟩ := h
  exact ⟨g, h1, h2, F.of_block (so g (F.ne hb hT))⟩
theorem FR.row {w : World} {B : Nat} {s : Sl} {n : Nat} {A : List Int} (h : FR w B s n A) : RowAt w s.ao n A := by
  obtain ⟨g, h1, _, F⟩ := h
  rw [h1]; exact F.rowAt
theorem FR.mono {w : World} {B B' : Nat} {s : Sl} {n : Nat} {A : List Int} (h : FR w B s n A) (hB : B' ≤ B) : FR w B' s n A := by
  obtain ⟨g, h1, h2, F⟩ := h
  exact ⟨g, h1, h2, F.mono hB⟩
structure FM (w : World) (B : Nat) (m : Mt) (r c n : Nat) (A : List Int) : Prop where
  r : m.r = r
  c : m.c = c
  d : FR w B m.d n A
/-- A layer of the document's model. -/
structure MadeR (w : World) (B seed i D H : Nat) (x : Bk) : Prop where
  f : FR w B x.f D (gainR seed i D)
  q : FM w B x.q D D (D * D) (numR seed (i + D) (D * D) 65536)
  k : FM w B x.k D D (D * D) (numR seed (i + D + D * D) (D * D) 65536)
  v : FM w B x.v D D (D * D) (numR seed (i + D + D * D + D * D) (D * D) 65536)
  o : FM w B x.o D D (D * D) (numR seed (i + D + D * D + D * D + D * D) (D * D) 65536)
  s : FR w B x.s D (gainR seed (i + D + D * D + D * D + D * D + D * D) D)
  u : FM w B x.u H D (H * D) (numR seed (i + D + D * D + D * D + D * D + D * D + D) (H * D) 65536)
  d : FM w B x.d D H (D * H) (numR seed (i + D + D * D + D * D + D * D + D * D + D + H * D) (D * H) 65536)
theorem MadeR.below {w w' : World} {B seed i D H : Nat} {x : Bk} (h : MadeR w B seed i D H x) (hb : Below w.heap.size w w') : MadeR w' B seed i D H x :=
  ⟨h.f.below hb, ⟨h.q.r, h.q.c, h.q.d.below hb⟩, ⟨h.k.r, h.k.c, h.k.d.below hb⟩, ⟨h.v.r, h.v.c, h.v.d.below hb⟩, ⟨h.o.r, h.o.c, h.o.d.below hb⟩, h.s.below hb, ⟨h.u.r, h.u.c, h.u.d.below hb⟩, ⟨h.d.r, h.d.c, h.d.d.below hb⟩⟩
theorem MadeR.keep {w w' : World} {B b seed i D H : Nat} {T : TypeId} {cs : Array Value} {x : Bk} (h : MadeR w B seed i D H x) (hb : Blk w b T cs) (hT : T ≠ 55) (so : ∀ k, k ≠ b → w'.heap[k]? = w.heap[k]?) : MadeR w' B seed i D H x :=
  ⟨h.f.keep hb hT so, ⟨h.q.r, h.q.c, h.q.d.keep hb hT so⟩, ⟨h.k.r, h.k.c, h.k.d.keep hb hT so⟩, ⟨h.v.r, h.v.c, h.v.d.keep hb hT so⟩, ⟨h.o.r, h.o.c, h.o.d.keep hb hT so⟩, h.s.keep hb hT so, ⟨h.u.r, h.u.c, h.u.d.keep hb hT so⟩, ⟨h.d.r, h.d.c, h.d.d.keep hb hT so⟩⟩
theorem gain_tab (seed i n : Nat) : (tab n fun j => numN seed (i + j) 16384 + ((65536 : Nat) : Int)) = gainR seed i n := tab_congr fun j _ => by rw [Int.add_comm]; rfl
/-- One layer of the document's model, laid into block g8: the eight calls. -/
theorem lenB_le {D H : Nat} (h1 : D ≤ 32) (h2 : H ≤ 64) : lenB D H ≤ 8256 ∧ D * D ≤ 1024 ∧ H * D ≤ 2048 ∧ D * H ≤ 2048 := by
  have a1 : D * D ≤ 32 * 32 := Nat.mul_le_mul h1 h1
  have a2 : H * D ≤ 64 * 32 := Nat.mul_le_mul h2 h1
  have a3 : D * H ≤ 32 * 64 := Nat.mul_le_mul h1 h2
  unfold lenB
  omega

theorem OwnB.ne {w : World} {B : Nat} {s : Sl} {bs : List Bk} (h : OwnB w B s bs) {b : Nat} {T : TypeId} {cs : Array Value} (hb : w.heap[b]? = some (.cells cs T (0, 0))) (hT : T ≠ 86) : some b ≠ s.v.ownBlock := by
  intro e
  rcases h.own.2 with ⟨h0, _⟩ | ⟨g, cap, cur, hv, _, hh, _⟩
  · rw [h0] at e; simp [Value.ownBlock] at e
  · rw [hv] at e
    simp [Value.ownBlock] at e
    subst e
    rw [hb] at hh
    simp at hh
    exact hT hh.2
theorem OwnB.keep {w w' : World} {B b : Nat} {T : TypeId} {cs : Array Value} {s : Sl} {bs : List Bk} (h : OwnB w B s bs) (hb : Blk w b T cs) (hT : T ≠ 86) (so : ∀ k, k ≠ b → w'.heap[k]? = w.heap[k]?) : OwnB w' B s bs := by
  have hne := h.ne hb hT
  obtain ⟨h1, h2⟩ := h.own
  refine ⟨⟨h1, h2.imp id ?_⟩, h.ok, h.few⟩
  rintro ⟨g, cap, cur, hv, hg, hh, r⟩
  exact ⟨g, cap, cur, hv, hg, by rw [so g (fun e => hne (by rw [hv, e]; rfl))]; exact hh, r⟩
theorem OwnB.mono {w : World} {B B' : Nat} {s : Sl} {bs : List Bk} (h : OwnB w B s bs) (hB : B' ≤ B) : OwnB w B' s bs := by
  obtain ⟨h1, h2⟩ := h.own
  refine ⟨⟨h1, h2.imp id ?_⟩, h.ok, h.few⟩
  rintro ⟨g, cap, cur, hv, hg, r⟩
  exact ⟨g, cap, cur, hv, by omega, r⟩
/-- append(out, block): nothing turns but the row of layers. -/
theorem wpList_append_block2 {w : World} {ops : Array Oper} {rest : List Oper} {o : Oper} {a : Act} {Q : Exit → Act → World → Prop} (hgd : o.guard = none) (s x : Operand)
    (ho : o.op = .call { callee := .builtin .append, args := #[s, x], argTypes := #[63, 63] })
    (B : Nat) (S : Sl) (bs : List Bk) (hs : a.eval s = S.v) (hF : OwnB w B S bs) (bo : Nat) (y : Bk) (hx : a.eval x = .slice (some ⟨bo, 0, none⟩) 1 1) (hX : Blk w bo 86 y.cells) (hy : y.Ok)
    (hlen : S.n + 1 ≤ 1000000) (hB : B ≤ w.heap.size)
    (h : ∀ S' w', S'.n = S.n + 1 → OwnB w' B S' (bs ++ [y]) → Below B w w' → (∀ (k : Nat) (T : TypeId) (cs : Array Value), w.heap[k]? = some (.cells cs T (0, 0)) → T ≠ 86 → w'.heap[k]? = w.heap[k]?) → wpList Tryd.prog ops Q rest (a.put o.dst S'.v) w') : wpList Tryd.prog ops Q (o :: rest) a w := by
  obtain ⟨i0, hi, hz0, hz1, hz2⟩ := info_parts Tryd.infoRB
  refine wpList_append_own w hgd s x 63 ho B 86 i0 (.agg #[.slice none 0 0, .int .i64 0, .int .i64 0, .slice none 0 0, .int .i64 0, .int .i64 0, .slice none 0 0, .int .i64 0, .int .i64 0, .slice none 0 0, .int .i64 0, .int .i64 0, .slice none 0 0, .slice none 0 0, .int .i64 0, .int .i64 0, .slice none 0 0, .int .i64 0, .int .i64 0, .slice none 0 0]) 20 288 Tryd.underlying63 hi hz0 hz1 hz2 rfl (by decide) _ S.n _ hs hF.own ⟨bo, 0, none⟩ 1 1 y.cells.toList hx rfl ?_ ?_ (by unfold maxLen; omega) (by omega) hB ?_
  · intro j u hj
    rw [Addr.add_mid, Nat.zero_add]
    exact hX.cell j (by simpa using hj)
  · intro u hu
    exact (Array.all_eq_true_iff_forall_mem.1 (bk_one y)) u (by simpa using hu)
  · intro v' w' hown hg hnil
    have hb : Below B w w' := (Below.refl _ _).grown hg hB (fun k hk => (hF.own.lt k hk).1)
    have hk : ∀ (k : Nat) (T : TypeId) (cs : Array Value), w.heap[k]? = some (.cells cs T (0, 0)) → T ≠ 86 → w'.heap[k]? = w.heap[k]? := fun k T cs h1 h2 => hg.block k (Array.getElem?_eq_some_iff.1 h1).1 (hF.ne h1 h2)
    have e : flat bs ++ y.cells.toList = flat (bs ++ [y]) := by unfold flat; rw [List.flatMap_append]; simp
    rw [e] at hown
    obtain ⟨h1, h2⟩ := hown
    rcases h2 with ⟨h3, h4⟩ | ⟨g', c', cur, hv, hr⟩
    · omega
    · subst hv
      exact h ⟨some ⟨g', 0, none⟩, S.n + 1, c'⟩ w' rfl ⟨⟨h1, Or.inr ⟨g', c', cur, rfl, hr⟩⟩, fun z hz => (List.mem_append.1 hz).elim (hF.ok z) (fun h => by simp at h; subst h; exact hy), hlen⟩ hb hk
theorem FR.type {w w' : World} {B : Nat} {s : Sl} {n : Nat} {A : List Int} (h : FR w B s n A) (hk : ∀ (k : Nat) (T : TypeId) (cs : Array Value), w.heap[k]? = some (.cells cs T (0, 0)) → T ≠ 86 → w'.heap[k]? = w.heap[k]?) : FR w' B s n A := by
  obtain ⟨g, h1, h2, F⟩ := h
  obtain ⟨c9, h9, _⟩ := F.row
  exact ⟨g, h1, h2, F.of_block (hk g _ _ h9 (by decide))⟩
theorem MadeR.type {w w' : World} {B seed i D H : Nat} {x : Bk} (h : MadeR w B seed i D H x) (hk : ∀ (k : Nat) (T : TypeId) (cs : Array Value), w.heap[k]? = some (.cells cs T (0, 0)) → T ≠ 86 → w'.heap[k]? = w.heap[k]?) : MadeR w' B seed i D H x :=
  ⟨h.f.type hk, ⟨h.q.r, h.q.c, h.q.d.type hk⟩, ⟨h.k.r, h.k.c, h.k.d.type hk⟩, ⟨h.v.r, h.v.c, h.v.d.type hk⟩, ⟨h.o.r, h.o.c, h.o.d.type hk⟩, h.s.type hk, ⟨h.u.r, h.u.c, h.u.d.type hk⟩, ⟨h.d.r, h.d.c, h.d.d.type hk⟩⟩
theorem set3_other {w : World} {b o1 o2 o3 : Nat} {v1 v2 v3 : Value} : ∀ k, k ≠ b → (((w.setCell ⟨b, o1, none⟩ v1).setCell ⟨b, o2, none⟩ v2).setCell ⟨b, o3, none⟩ v3).heap[k]? = w.heap[k]? := fun k hk => by
  rw [Below.heap_setCell _ _ _ _ (by exact hk), Below.heap_setCell _ _ _ _ (by exact hk), Below.heap_setCell _ _ _ _ (by exact hk)]
theorem set1_other {w : World} {b o1 : Nat} {v1 : Value} : ∀ k, k ≠ b → (w.setCell ⟨b, o1, none⟩ v1).heap[k]? = w.heap[k]? := fun k hk => by
  rw [Below.heap_setCell _ _ _ _ (by exact hk)]
/-- One layer that is being made: its block, and that all elder ones stand. -/
theorem Below.set3 {B : Nat} {w w' : World} (h : Below B w w') {b : Nat} (hb : B ≤ b) (o1 o2 o3 : Nat) (v1 v2 v3 : Value) : Below B w (((w'.setCell ⟨b, o1, none⟩ v1).setCell ⟨b, o2, none⟩ v2).setCell ⟨b, o3, none⟩ v3) :=
  ((h.setCell (p := ⟨b, o1, none⟩) (by exact hb) _).setCell (p := ⟨b, o2, none⟩) (by exact hb) _).setCell (p := ⟨b, o3, none⟩) (by exact hb) _

set_option maxRecDepth 100000 in
set_option maxHeartbeats 6400000 in
theorem rmake_any (V D Hd H L : Nat) (seed : Nat) (w : World) (hf : shapeN V D Hd H L = 0) :
   Calls Tryd.prog 22 #[.agg (cfgC V D Hd H L), .int .u64 (seed : Int)] w fun e w' => ∃ (E S Ls O : Sl) (bs : List Bk), e = .returned (.agg (Wt.cells ⟨⟨V, D, E⟩, S, Ls, ⟨V, D, O⟩⟩)) ∧ S.n = L ∧ OwnB w' w.heap.size S bs ∧ (∀ j x, bs[j]? = some x → MadeR w' w.heap.size seed (V * D + j * lenB D H) D H x) ∧ FR w' w.heap.size E (V * D) (numR seed 0 (V * D) 131072) ∧ FR w' w.heap.size Ls D (gainR seed (V * D + L * lenB D H) D) ∧ FR w' w.heap.size O (V * D) (numR seed (V * D + L * lenB D H + D) (V * D) 65536) ∧ Below w.heap.size w w' := by
  have hk := shape_ok hf
  obtain ⟨l1, l2, l3, l4⟩ := lenB_le (D := D) (H := H) (by omega) (by omega)
  have vd : V * D ≤ 64 * 32 := Nat.mul_le_mul (by omega) (by omega)
  have X0 := blk_new w 23 (cfgC V D Hd H L)
  have B0 : Below w.heap.size w (w.alloc (.cells (cfgC V D Hd H L) 23)) := (Below.refl _ _).alloc (Nat.le_refl _) _
  have s0 : (w.alloc (.cells (cfgC V D Hd H L) 23)).heap.size = w.heap.size + 1 := by simp
  unfold cfgC at *
  generalize hw0 : w.alloc (.cells #[.int .i64 V, .int .i64 D, .int .i64 Hd, .int .i64 H, .int .i64 L] 23) = w0 at *
  have X1 := blk_new w0 65 #[.int .i64 0, .int .i64 0, .slice none 0 0, .slice none 0 0, .slice none 0 0, .int .i64 0, .int .i64 0, .slice none 0 0]
  have B1 : Below w0.heap.size w0 (w0.alloc (.cells #[.int .i64 0, .int .i64 0, .slice none 0 0, .slice none 0 0, .slice none 0 0, .int .i64 0, .int .i64 0, .slice none 0 0] 65)) := (Below.refl _ _).alloc (Nat.le_refl _) _
  have s1 : (w0.alloc (.cells #[.int .i64 0, .int .i64 0, .slice none 0 0, .slice none 0 0, .slice none 0 0, .int .i64 0, .int .i64 0, .slice none 0 0] 65)).heap.size = w0.heap.size + 1 := by simp
  rw [s0] at X1 s1
  generalize hw1 : w0.alloc (.cells #[.int .i64 0, .int .i64 0, .slice none 0 0, .slice none 0 0, .slice none 0 0, .int .i64 0, .int .i64 0, .slice none 0 0] 65) = w1 at *
  have X5 := blk_new w1 65 #[.int .i64 0, .int .i64 0, .slice none 0 0, .slice none 0 0, .slice none 0 0, .int .i64 0, .int .i64 0, .slice none 0 0]
  have B2 : Below w1.heap.size w1 (w1.alloc (.cells #[.int .i64 0, .int .i64 0, .slice none 0 0, .slice none 0 0, .slice none 0 0, .int .i64 0, .int .i64 0, .slice none 0 0] 65)) := (Below.refl _ _).alloc (Nat.le_refl _) _
  have s2 : (w1.alloc (.cells #[.int .i64 0, .int .i64 0, .slice none 0 0, .slice none 0 0, .slice none 0 0, .int .i64 0, .int .i64 0, .slice none 0 0] 65)).heap.size = w1.heap.size + 1 := by simp
  rw [s1] at X5 s2
  generalize hw2 : w1.alloc (.cells #[.int .i64 0, .int .i64 0, .slice none 0 0, .slice none 0 0, .slice none 0 0, .int .i64 0, .int .i64 0, .slice none 0 0] 65) = w2 at *
  have Y5 := X5.row #[.int .i64 0, .int .i64 0, .slice none 0 0, .slice none 0 0, .slice none 0 0, .int .i64 0, .int .i64 0, .slice none 0 0]
  have B3 := below_setRow B2 (by omega : w1.heap.size ≤ w.heap.size + 1 + 1) #[.int .i64 0, .int .i64 0, .slice none 0 0, .slice none 0 0, .slice none 0 0, .int .i64 0, .int .i64 0, .slice none 0 0]
  have s3 : (w2.setRow (w.heap.size + 1 + 1) #[.int .i64 0, .int .i64 0, .slice none 0 0, .slice none 0 0, .slice none 0 0, .int .i64 0, .int .i64 0, .slice none 0 0]).heap.size = w.heap.size + 1 + 1 + 1 := by simp [World.setRow]; omega
  generalize hw3 : w2.setRow (w.heap.size + 1 + 1) #[.int .i64 0, .int .i64 0, .slice none 0 0, .slice none 0 0, .slice none 0 0, .int .i64 0, .int .i64 0, .slice none 0 0] = w3 at *
  have hall8 : Array.all (#[.int .i64 0, .int .i64 0, .slice none 0 0, .slice none 0 0, .slice none 0 0, .int .i64 0, .int .i64 0, .slice none 0 0] : Array Value) (fun v => v.oneCell') = true := by simp [Value.oneCell']
  replace X0 := (X0.below B1).below B3
  replace X1 := X1.below B3
  replace B3 := below_then (below_then B0 B1) B3
  have c0 : w3.cell? ⟨w.heap.size, 0, none⟩ = some (.int .i64 V) := X0.cell 0 rfl
  have c1 : w3.cell? ⟨w.heap.size, 1, none⟩ = some (.int .i64 D) := X0.cell 1 rfl
  go_enter Tryd.func22, Tryd.ntmps22
  go_wp2_with (refine wpList_store_row rfl 65 _ _ rfl (w.heap.size + 1 + 1) #[.int .i64 0, .int .i64 0, .slice none 0 0, .slice none 0 0, .slice none 0 0, .int .i64 0, .int .i64 0, .slice none 0 0] rfl rfl 65 _ X5 Tryd.infoRW rfl hall8 ?_; rw [hw3])
  clear hw0 hw1 hw2 hw3 c0 c1 X5 B0 B1 B2 s0 s1 s2
  refine (rsquare_any seed 0 V D 131072 _ (by omega) (by omega) (by omega) (by omega) (by omega)).mono ?_
  rintro e w4 ⟨ge, ce, rfl, FE, B4⟩
  unfold matV
  rw [Nat.zero_add]

  have sz4 := B4.size
  replace FE : FR w4 w.heap.size ⟨some ⟨ge, 0, none⟩, V * D, ce⟩ (V * D) (numR seed 0 (V * D) 131072) := ⟨ge, rfl, rfl, FE.mono (by omega)⟩
  replace X0 := X0.below B4
  replace X1 := X1.below B4
  replace Y5 := Y5.below B4
  replace B4 := below_then B3 B4
  have XM := blk_new w4 29 #[.int .i64 0, .int .i64 0, .slice none 0 0]
  have BM : Below w4.heap.size w4 (w4.alloc (.cells #[.int .i64 0, .int .i64 0, .slice none 0 0] 29)) := (Below.refl _ _).alloc (Nat.le_refl _) _
  have sm : (w4.alloc (.cells #[.int .i64 0, .int .i64 0, .slice none 0 0] 29)).heap.size = w4.heap.size + 1 := by simp
  generalize hw5 : w4.alloc (.cells #[.int .i64 0, .int .i64 0, .slice none 0 0] 29) = w5 at *
  replace FE := FE.below BM
  replace X0 := X0.below BM
  replace X1 := X1.below BM
  replace Y5 := Y5.below BM
  replace B4 := below_then B4 BM
  have f0 := XM.frozen 0
  have f1 := XM.frozen 1
  have f2 := XM.frozen 2
  have d0 : w5.cell? ⟨w4.heap.size, 0, none⟩ = some (.int .i64 0) := XM.cell 0 rfl
  have d1 : w5.cell? ⟨w4.heap.size, 1, none⟩ = some (.int .i64 0) := XM.cell 1 rfl
  have d2 : w5.cell? ⟨w4.heap.size, 2, none⟩ = some (.slice none 0 0) := XM.cell 2 rfl
  have so : ∀ k, k ≠ w4.heap.size → (((w5.setCell ⟨w4.heap.size, 0, none⟩ (.int .i64 V)).setCell ⟨w4.heap.size, 1, none⟩ (.int .i64 D)).setCell ⟨w4.heap.size, 2, none⟩ (.slice (some ⟨ge, 0, none⟩) (V * D) ce)).heap[k]? = w5.heap[k]? := set3_other
  have XM2 : Blk (((w5.setCell ⟨w4.heap.size, 0, none⟩ (.int .i64 V)).setCell ⟨w4.heap.size, 1, none⟩ (.int .i64 D)).setCell ⟨w4.heap.size, 2, none⟩ (.slice (some ⟨ge, 0, none⟩) (V * D) ce)) w4.heap.size 29 #[.int .i64 V, .int .i64 D, .slice (some ⟨ge, 0, none⟩) (V * D) ce] := ((XM.set 0 _).set 1 _).set 2 _
  have B5 := Below.set3 B4 (by omega : w.heap.size ≤ w4.heap.size) 0 1 2 (.int .i64 V) (.int .i64 D) (.slice (some ⟨ge, 0, none⟩) (V * D) ce)
  have sm2 : (((w5.setCell ⟨w4.heap.size, 0, none⟩ (.int .i64 V)).setCell ⟨w4.heap.size, 1, none⟩ (.int .i64 D)).setCell ⟨w4.heap.size, 2, none⟩ (.slice (some ⟨ge, 0, none⟩) (V * D) ce)).heap.size = w5.heap.size := by simp [World.setCell]
  generalize hx5 : ((w5.setCell ⟨w4.heap.size, 0, none⟩ (.int .i64 V)).setCell ⟨w4.heap.size, 1, none⟩ (.int .i64 D)).setCell ⟨w4.heap.size, 2, none⟩ (.slice (some ⟨ge, 0, none⟩) (V * D) ce) = x5 at *
  replace FE := FE.keep XM (by decide) so
  replace X0 := X0.of_block (so _ (by omega))
  replace X1 := X1.of_block (so _ (by omega))
  replace Y5 := Y5.of_block (so _ (by omega))
  clear so XM B4 BM B3
  have m0 : x5.cell? ⟨w4.heap.size, 0, none⟩ = some (.int .i64 V) := XM2.cell 0 rfl
  have m1 : x5.cell? ⟨w4.heap.size, 1, none⟩ = some (.int .i64 D) := XM2.cell 1 rfl
  have m2 : x5.cell? ⟨w4.heap.size, 2, none⟩ = some (.slice (some ⟨ge, 0, none⟩) (V * D) ce) := XM2.cell 2 rfl
  have f3 := Y5.frozen 0
  have f4 := Y5.frozen 1
  have f5 := Y5.frozen 2
  have d3 : x5.cell? ⟨w.heap.size + 1 + 1, 0, none⟩ = some (.int .i64 0) := Y5.cell 0 rfl
  have d4 : x5.cell? ⟨w.heap.size + 1 + 1, 1, none⟩ = some (.int .i64 0) := Y5.cell 1 rfl
  have d5 : x5.cell? ⟨w.heap.size + 1 + 1, 2, none⟩ = some (.slice none 0 0) := Y5.cell 2 rfl
  have so : ∀ k, k ≠ w.heap.size + 1 + 1 → (((x5.setCell ⟨w.heap.size + 1 + 1, 0, none⟩ (.int .i64 V)).setCell ⟨w.heap.size + 1 + 1, 1, none⟩ (.int .i64 D)).setCell ⟨w.heap.size + 1 + 1, 2, none⟩ (.slice (some ⟨ge, 0, none⟩) (V * D) ce)).heap[k]? = x5.heap[k]? := set3_other
  have Y6 : Blk (((x5.setCell ⟨w.heap.size + 1 + 1, 0, none⟩ (.int .i64 V)).setCell ⟨w.heap.size + 1 + 1, 1, none⟩ (.int .i64 D)).setCell ⟨w.heap.size + 1 + 1, 2, none⟩ (.slice (some ⟨ge, 0, none⟩) (V * D) ce)) (w.heap.size + 1 + 1) 65 (Wt.cells ⟨⟨V, D, ⟨some ⟨ge, 0, none⟩, V * D, ce⟩⟩, ⟨none, 0, 0⟩, ⟨none, 0, 0⟩, ⟨0, 0, ⟨none, 0, 0⟩⟩⟩) := ((Y5.set 0 _).set 1 _).set 2 _
  have B6 := Below.set3 B5 (by omega : w.heap.size ≤ w.heap.size + 1 + 1) 0 1 2 (.int .i64 V) (.int .i64 D) (.slice (some ⟨ge, 0, none⟩) (V * D) ce)
  have sm3 : (((x5.setCell ⟨w.heap.size + 1 + 1, 0, none⟩ (.int .i64 V)).setCell ⟨w.heap.size + 1 + 1, 1, none⟩ (.int .i64 D)).setCell ⟨w.heap.size + 1 + 1, 2, none⟩ (.slice (some ⟨ge, 0, none⟩) (V * D) ce)).heap.size = x5.heap.size := by simp [World.setCell]
  generalize hx6 : ((x5.setCell ⟨w.heap.size + 1 + 1, 0, none⟩ (.int .i64 V)).setCell ⟨w.heap.size + 1 + 1, 1, none⟩ (.int .i64 D)).setCell ⟨w.heap.size + 1 + 1, 2, none⟩ (.slice (some ⟨ge, 0, none⟩) (V * D) ce) = x6 at *
  replace FE := FE.keep Y5 (by decide) so
  replace X0 := X0.of_block (so _ (by omega))
  replace X1 := X1.of_block (so _ (by omega))
  have s6 : w.heap.size + 1 + 1 + 1 ≤ x6.heap.size := by omega
  clear so XM2 B5 Y5 s3 sz4 sm sm2 sm3
  go_wp2_with fail
  clear hw5 hx5 hx6 f0 f1 f2 f3 f4 f5 d0 d1 d2 d3 d4 d5 m0 m1 m2

  go_loopg [7] L (fun r q wr => ∃ (t i : Nat) (pa : Option Addr) (pc : Nat) (bs : List Bk), t ≤ L ∧ r = L - t ∧ q = .int .i64 (i : Int) ∧ Hid (i = V * D + t * lenB D H) ∧ i ≤ 2048 + t * 8256 ∧ OwnB wr (w.heap.size + 1 + 1 + 1) ⟨pa, t, pc⟩ bs ∧ Hid (∀ j x, bs[j]? = some x → MadeR wr w.heap.size seed (V * D + j * lenB D H) D H x) ∧ FR wr w.heap.size ⟨some ⟨ge, 0, none⟩, V * D, ce⟩ (V * D) (numR seed 0 (V * D) 131072) ∧ Blk wr (w.heap.size + 1 + 1) 65 #[.int .i64 V, .int .i64 D, .slice (some ⟨ge, 0, none⟩) (V * D) ce, .slice pa t pc, .slice none 0 0, .int .i64 0, .int .i64 0, .slice none 0 0] ∧ Blk wr (w.heap.size + 1) 65 #[.int .i64 0, .int .i64 0, .slice none 0 0, .slice none 0 0, .slice none 0 0, .int .i64 0, .int .i64 0, .slice none 0 0] ∧ Blk wr w.heap.size 23 #[.int .i64 V, .int .i64 D, .int .i64 Hd, .int .i64 H, .int .i64 L] ∧ Below w.heap.size w wr ∧ w.heap.size + 1 + 1 + 1 ≤ wr.heap.size)
  case atStart => exact ⟨0, V * D, none, 0, [], by omega, by omega, by simp, (by show _ = _; rw [Nat.zero_mul, Nat.add_zero]), by omega, ownB_nil _ _, (fun j x h => by simp at h), FE, Y6, X1, X0, B6, s6⟩
  case round =>
    clear FE Y6 X1 X0 B6 s6
    obtain ⟨t, i, pa, pc, bs, ht, rfl, rfl, HI, bi, O1, HM, FE, Y6, X1, X0, B6, s6⟩ := hrel
    have c3 : wr.cell? ⟨w.heap.size + 1 + 1, 3, none⟩ = some (.slice pa t pc) := Y6.cell 3 rfl
    have c4 : wr.cell? ⟨w.heap.size, 4, none⟩ = some (.int .i64 L) := X0.cell 4 rfl
    have few := O1.few
    by_cases hlt : t < L
    · have XZ := blk_new wr 86 #[.slice none 0 0, .int .i64 0, .int .i64 0, .slice none 0 0, .int .i64 0, .int .i64 0, .slice none 0 0, .int .i64 0, .int .i64 0, .slice none 0 0, .int .i64 0, .int .i64 0, .slice none 0 0, .slice none 0 0, .int .i64 0, .int .i64 0, .slice none 0 0, .int .i64 0, .int .i64 0, .slice none 0 0]
      have BZ : Below wr.heap.size wr (wr.alloc (.cells #[.slice none 0 0, .int .i64 0, .int .i64 0, .slice none 0 0, .int .i64 0, .int .i64 0, .slice none 0 0, .int .i64 0, .int .i64 0, .slice none 0 0, .int .i64 0, .int .i64 0, .slice none 0 0, .slice none 0 0, .int .i64 0, .int .i64 0, .slice none 0 0, .int .i64 0, .int .i64 0, .slice none 0 0] 86)) := (Below.refl _ _).alloc (Nat.le_refl _) _
      generalize hwz : wr.alloc (.cells #[.slice none 0 0, .int .i64 0, .int .i64 0, .slice none 0 0, .int .i64 0, .int .i64 0, .slice none 0 0, .int .i64 0, .int .i64 0, .slice none 0 0, .int .i64 0, .int .i64 0, .slice none 0 0, .slice none 0 0, .int .i64 0, .int .i64 0, .slice none 0 0, .int .i64 0, .int .i64 0, .slice none 0 0] 86) = wz at *
      have X8 := XZ.row #[.slice none 0 0, .int .i64 0, .int .i64 0, .slice none 0 0, .int .i64 0, .int .i64 0, .slice none 0 0, .int .i64 0, .int .i64 0, .slice none 0 0, .int .i64 0, .int .i64 0, .slice none 0 0, .slice none 0 0, .int .i64 0, .int .i64 0, .slice none 0 0, .int .i64 0, .int .i64 0, .slice none 0 0]
      have K := below_setRow BZ (Nat.le_refl _) #[.slice none 0 0, .int .i64 0, .int .i64 0, .slice none 0 0, .int .i64 0, .int .i64 0, .slice none 0 0, .int .i64 0, .int .i64 0, .slice none 0 0, .int .i64 0, .int .i64 0, .slice none 0 0, .slice none 0 0, .int .i64 0, .int .i64 0, .slice none 0 0, .int .i64 0, .int .i64 0, .slice none 0 0]
      generalize hwy : wz.setRow wr.heap.size #[.slice none 0 0, .int .i64 0, .int .i64 0, .slice none 0 0, .int .i64 0, .int .i64 0, .slice none 0 0, .int .i64 0, .int .i64 0, .slice none 0 0, .int .i64 0, .int .i64 0, .slice none 0 0, .slice none 0 0, .int .i64 0, .int .i64 0, .slice none 0 0, .int .i64 0, .int .i64 0, .slice none 0 0] = wy at *
      have hallB : Array.all (#[.slice none 0 0, .int .i64 0, .int .i64 0, .slice none 0 0, .int .i64 0, .int .i64 0, .slice none 0 0, .int .i64 0, .int .i64 0, .slice none 0 0, .int .i64 0, .int .i64 0, .slice none 0 0, .slice none 0 0, .int .i64 0, .int .i64 0, .slice none 0 0, .int .i64 0, .int .i64 0, .slice none 0 0] : Array Value) (fun v => v.oneCell') = true := by simp [Value.oneCell']
      have c1 : wy.cell? ⟨w.heap.size, 1, none⟩ = some (.int .i64 D) := (X0.below K).cell 1 rfl
      go_wp2_with (refine wpList_store_row rfl 86 _ _ rfl wr.heap.size #[.slice none 0 0, .int .i64 0, .int .i64 0, .slice none 0 0, .int .i64 0, .int .i64 0, .slice none 0 0, .int .i64 0, .int .i64 0, .slice none 0 0, .int .i64 0, .int .i64 0, .slice none 0 0, .slice none 0 0, .int .i64 0, .int .i64 0, .slice none 0 0, .int .i64 0, .int .i64 0, .slice none 0 0] rfl rfl 86 _ XZ Tryd.infoRB1 rfl hallB ?_; rw [hwy])
      clear hwz hwy XZ BZ hallB c3 c4
      have ks := K.size
      refine (rrow_any seed i D 16384 65536 _ (by omega) (by omega) (by omega) (by omega) (by omega)).mono ?_
      rintro e v0 ⟨gf, cf, rfl, Ff, KB⟩
      obtain ⟨i0, Hi0⟩ : ∃ z, Hid (z = i + D) := ⟨_, rfl⟩
      have bi0 : i0 ≤ i + D := Nat.le_of_eq Hi0.out
      rw [← Hi0.out]
      replace Ff : FR v0 w.heap.size ⟨some ⟨gf, 0, none⟩, D, cf⟩ D (gainR seed i D) := ⟨gf, rfl, rfl, by rw [← gain_tab]; exact Ff.mono (by omega)⟩
      replace X8 := X8.below KB
      replace K := below_then K KB
      clear KB ks c1
      have fr0 := X8.frozen 0
      have cc0 : v0.cell? ⟨wr.heap.size, 0, none⟩ = some (.slice none 0 0) := X8.cell 0 rfl
      have so : ∀ k, k ≠ wr.heap.size → (v0.setCell ⟨wr.heap.size, 0, none⟩ (.slice (some ⟨gf, 0, none⟩) (D) cf)).heap[k]? = v0.heap[k]? := set1_other
      have X9 : Blk (v0.setCell ⟨wr.heap.size, 0, none⟩ (.slice (some ⟨gf, 0, none⟩) (D) cf)) wr.heap.size 86 #[.slice (some ⟨gf, 0, none⟩) (D) cf, .int .i64 0, .int .i64 0, .slice none 0 0, .int .i64 0, .int .i64 0, .slice none 0 0, .int .i64 0, .int .i64 0, .slice none 0 0, .int .i64 0, .int .i64 0, .slice none 0 0, .slice none 0 0, .int .i64 0, .int .i64 0, .slice none 0 0, .int .i64 0, .int .i64 0, .slice none 0 0] := (X8.set 0 (.slice (some ⟨gf, 0, none⟩) (D) cf))
      have K9 := K.setCell (p := ⟨wr.heap.size, 0, none⟩) (Nat.le_refl _) (.slice (some ⟨gf, 0, none⟩) (D) cf)
      generalize hx0 : v0.setCell ⟨wr.heap.size, 0, none⟩ (.slice (some ⟨gf, 0, none⟩) (D) cf) = x0 at *
      replace Ff := Ff.keep X8 (by decide) so
      replace X8 := X9
      replace K := K9
      clear X9 K9 so
      have c1 : x0.cell? ⟨w.heap.size, 1, none⟩ = some (.int .i64 D) := (X0.below K).cell 1 rfl
      go_wp2_with fail
      clear hx0 fr0 cc0
      have ks := K.size
      refine (rsquare_any seed i0 D D 65536 _ (by omega) (by omega) (by omega) (by omega) (by omega)).mono ?_
      rintro e v1 ⟨gq, cq, rfl, Fq, KB⟩
      unfold matV
      obtain ⟨i1, Hi1⟩ : ∃ z, Hid (z = i0 + D * D) := ⟨_, rfl⟩
      have bi1 : i1 ≤ i0 + D * D := Nat.le_of_eq Hi1.out
      rw [← Hi1.out]
      replace Fq : FR v1 w.heap.size ⟨some ⟨gq, 0, none⟩, D * D, cq⟩ (D * D) (numR seed i0 (D * D) 65536) := ⟨gq, rfl, rfl, Fq.mono (by omega)⟩
      replace Ff := Ff.below KB
      replace X8 := X8.below KB
      replace K := below_then K KB
      clear KB ks c1
      have fr0 := X8.frozen 1
      have cc0 : v1.cell? ⟨wr.heap.size, 1, none⟩ = some (.int .i64 0) := X8.cell 1 rfl
      have fr1 := X8.frozen 2
      have cc1 : v1.cell? ⟨wr.heap.size, 2, none⟩ = some (.int .i64 0) := X8.cell 2 rfl
      have fr2 := X8.frozen 3
      have cc2 : v1.cell? ⟨wr.heap.size, 3, none⟩ = some (.slice none 0 0) := X8.cell 3 rfl
      have so : ∀ k, k ≠ wr.heap.size → (((v1.setCell ⟨wr.heap.size, 1, none⟩ (.int .i64 D)).setCell ⟨wr.heap.size, 2, none⟩ (.int .i64 D)).setCell ⟨wr.heap.size, 3, none⟩ (.slice (some ⟨gq, 0, none⟩) (D * D) cq)).heap[k]? = v1.heap[k]? := set3_other
      have X9 : Blk (((v1.setCell ⟨wr.heap.size, 1, none⟩ (.int .i64 D)).setCell ⟨wr.heap.size, 2, none⟩ (.int .i64 D)).setCell ⟨wr.heap.size, 3, none⟩ (.slice (some ⟨gq, 0, none⟩) (D * D) cq)) wr.heap.size 86 #[.slice (some ⟨gf, 0, none⟩) (D) cf, .int .i64 D, .int .i64 D, .slice (some ⟨gq, 0, none⟩) (D * D) cq, .int .i64 0, .int .i64 0, .slice none 0 0, .int .i64 0, .int .i64 0, .slice none 0 0, .int .i64 0, .int .i64 0, .slice none 0 0, .slice none 0 0, .int .i64 0, .int .i64 0, .slice none 0 0, .int .i64 0, .int .i64 0, .slice none 0 0] := (((X8.set 1 (.int .i64 D)).set 2 (.int .i64 D)).set 3 (.slice (some ⟨gq, 0, none⟩) (D * D) cq))
      have K9 := Below.set3 K (Nat.le_refl _) 1 2 3 (.int .i64 D) (.int .i64 D) (.slice (some ⟨gq, 0, none⟩) (D * D) cq)
      generalize hx1 : ((v1.setCell ⟨wr.heap.size, 1, none⟩ (.int .i64 D)).setCell ⟨wr.heap.size, 2, none⟩ (.int .i64 D)).setCell ⟨wr.heap.size, 3, none⟩ (.slice (some ⟨gq, 0, none⟩) (D * D) cq) = x1 at *
      replace Ff := Ff.keep X8 (by decide) so
      replace Fq := Fq.keep X8 (by decide) so
      replace X8 := X9
      replace K := K9
      clear X9 K9 so
      have c1 : x1.cell? ⟨w.heap.size, 1, none⟩ = some (.int .i64 D) := (X0.below K).cell 1 rfl
      go_wp2_with fail
      clear hx1 fr0 cc0 fr1 cc1 fr2 cc2
      have ks := K.size
      refine (rsquare_any seed i1 D D 65536 _ (by omega) (by omega) (by omega) (by omega) (by omega)).mono ?_
      rintro e v2 ⟨gk, ck, rfl, Fk, KB⟩
      unfold matV
      obtain ⟨i2, Hi2⟩ : ∃ z, Hid (z = i1 + D * D) := ⟨_, rfl⟩
      have bi2 : i2 ≤ i1 + D * D := Nat.le_of_eq Hi2.out
      rw [← Hi2.out]
      replace Fk : FR v2 w.heap.size ⟨some ⟨gk, 0, none⟩, D * D, ck⟩ (D * D) (numR seed i1 (D * D) 65536) := ⟨gk, rfl, rfl, Fk.mono (by omega)⟩
      replace Ff := Ff.below KB
      replace Fq := Fq.below KB
      replace X8 := X8.below KB
      replace K := below_then K KB
      clear KB ks c1
      have fr0 := X8.frozen 4
      have cc0 : v2.cell? ⟨wr.heap.size, 4, none⟩ = some (.int .i64 0) := X8.cell 4 rfl
      have fr1 := X8.frozen 5
      have cc1 : v2.cell? ⟨wr.heap.size, 5, none⟩ = some (.int .i64 0) := X8.cell 5 rfl
      have fr2 := X8.frozen 6
      have cc2 : v2.cell? ⟨wr.heap.size, 6, none⟩ = some (.slice none 0 0) := X8.cell 6 rfl
      have so : ∀ k, k ≠ wr.heap.size → (((v2.setCell ⟨wr.heap.size, 4, none⟩ (.int .i64 D)).setCell ⟨wr.heap.size, 5, none⟩ (.int .i64 D)).setCell ⟨wr.heap.size, 6, none⟩ (.slice (some ⟨gk, 0, none⟩) (D * D) ck)).heap[k]? = v2.heap[k]? := set3_other
      have X9 : Blk (((v2.setCell ⟨wr.heap.size, 4, none⟩ (.int .i64 D)).setCell ⟨wr.heap.size, 5, none⟩ (.int .i64 D)).setCell ⟨wr.heap.size, 6, none⟩ (.slice (some ⟨gk, 0, none⟩) (D * D) ck)) wr.heap.size 86 #[.slice (some ⟨gf, 0, none⟩) (D) cf, .int .i64 D, .int .i64 D, .slice (some ⟨gq, 0, none⟩) (D * D) cq, .int .i64 D, .int .i64 D, .slice (some ⟨gk, 0, none⟩) (D * D) ck, .int .i64 0, .int .i64 0, .slice none 0 0, .int .i64 0, .int .i64 0, .slice none 0 0, .slice none 0 0, .int .i64 0, .int .i64 0, .slice none 0 0, .int .i64 0, .int .i64 0, .slice none 0 0] := (((X8.set 4 (.int .i64 D)).set 5 (.int .i64 D)).set 6 (.slice (some ⟨gk, 0, none⟩) (D * D) ck))
      have K9 := Below.set3 K (Nat.le_refl _) 4 5 6 (.int .i64 D) (.int .i64 D) (.slice (some ⟨gk, 0, none⟩) (D * D) ck)
      generalize hx2 : ((v2.setCell ⟨wr.heap.size, 4, none⟩ (.int .i64 D)).setCell ⟨wr.heap.size, 5, none⟩ (.int .i64 D)).setCell ⟨wr.heap.size, 6, none⟩ (.slice (some ⟨gk, 0, none⟩) (D * D) ck) = x2 at *
      replace Ff := Ff.keep X8 (by decide) so
      replace Fq := Fq.keep X8 (by decide) so
      replace Fk := Fk.keep X8 (by decide) so
      replace X8 := X9
      replace K := K9
      clear X9 K9 so
      have c1 : x2.cell? ⟨w.heap.size, 1, none⟩ = some (.int .i64 D) := (X0.below K).cell 1 rfl
      go_wp2_with fail
      clear hx2 fr0 cc0 fr1 cc1 fr2 cc2
      have ks := K.size
      refine (rsquare_any seed i2 D D 65536 _ (by omega) (by omega) (by omega) (by omega) (by omega)).mono ?_
      rintro e v3 ⟨gv, cv, rfl, Fv, KB⟩
      unfold matV
      obtain ⟨i3, Hi3⟩ : ∃ z, Hid (z = i2 + D * D) := ⟨_, rfl⟩
      have bi3 : i3 ≤ i2 + D * D := Nat.le_of_eq Hi3.out
      rw [← Hi3.out]
      replace Fv : FR v3 w.heap.size ⟨some ⟨gv, 0, none⟩, D * D, cv⟩ (D * D) (numR seed i2 (D * D) 65536) := ⟨gv, rfl, rfl, Fv.mono (by omega)⟩
      replace Ff := Ff.below KB
      replace Fq := Fq.below KB
      replace Fk := Fk.below KB
      replace X8 := X8.below KB
      replace K := below_then K KB
      clear KB ks c1
      have fr0 := X8.frozen 7
      have cc0 : v3.cell? ⟨wr.heap.size, 7, none⟩ = some (.int .i64 0) := X8.cell 7 rfl
      have fr1 := X8.frozen 8
      have cc1 : v3.cell? ⟨wr.heap.size, 8, none⟩ = some (.int .i64 0) := X8.cell 8 rfl
      have fr2 := X8.frozen 9
      have cc2 : v3.cell? ⟨wr.heap.size, 9, none⟩ = some (.slice none 0 0) := X8.cell 9 rfl
      have so : ∀ k, k ≠ wr.heap.size → (((v3.setCell ⟨wr.heap.size, 7, none⟩ (.int .i64 D)).setCell ⟨wr.heap.size, 8, none⟩ (.int .i64 D)).setCell ⟨wr.heap.size, 9, none⟩ (.slice (some ⟨gv, 0, none⟩) (D * D) cv)).heap[k]? = v3.heap[k]? := set3_other
      have X9 : Blk (((v3.setCell ⟨wr.heap.size, 7, none⟩ (.int .i64 D)).setCell ⟨wr.heap.size, 8, none⟩ (.int .i64 D)).setCell ⟨wr.heap.size, 9, none⟩ (.slice (some ⟨gv, 0, none⟩) (D * D) cv)) wr.heap.size 86 #[.slice (some ⟨gf, 0, none⟩) (D) cf, .int .i64 D, .int .i64 D, .slice (some ⟨gq, 0, none⟩) (D * D) cq, .int .i64 D, .int .i64 D, .slice (some ⟨gk, 0, none⟩) (D * D) ck, .int .i64 D, .int .i64 D, .slice (some ⟨gv, 0, none⟩) (D * D) cv, .int .i64 0, .int .i64 0, .slice none 0 0, .slice none 0 0, .int .i64 0, .int .i64 0, .slice none 0 0, .int .i64 0, .int .i64 0, .slice none 0 0] := (((X8.set 7 (.int .i64 D)).set 8 (.int .i64 D)).set 9 (.slice (some ⟨gv, 0, none⟩) (D * D) cv))
      have K9 := Below.set3 K (Nat.le_refl _) 7 8 9 (.int .i64 D) (.int .i64 D) (.slice (some ⟨gv, 0, none⟩) (D * D) cv)
      generalize hx3 : ((v3.setCell ⟨wr.heap.size, 7, none⟩ (.int .i64 D)).setCell ⟨wr.heap.size, 8, none⟩ (.int .i64 D)).setCell ⟨wr.heap.size, 9, none⟩ (.slice (some ⟨gv, 0, none⟩) (D * D) cv) = x3 at *
      replace Ff := Ff.keep X8 (by decide) so
      replace Fq := Fq.keep X8 (by decide) so
      replace Fk := Fk.keep X8 (by decide) so
      replace Fv := Fv.keep X8 (by decide) so
      replace X8 := X9
      replace K := K9
      clear X9 K9 so
      have c1 : x3.cell? ⟨w.heap.size, 1, none⟩ = some (.int .i64 D) := (X0.below K).cell 1 rfl
      go_wp2_with fail
      clear hx3 fr0 cc0 fr1 cc1 fr2 cc2
      have ks := K.size
      refine (rsquare_any seed i3 D D 65536 _ (by omega) (by omega) (by omega) (by omega) (by omega)).mono ?_
      rintro e v4 ⟨go, co, rfl, Fo, KB⟩
      unfold matV
      obtain ⟨i4, Hi4⟩ : ∃ z, Hid (z = i3 + D * D) := ⟨_, rfl⟩
      have bi4 : i4 ≤ i3 + D * D := Nat.le_of_eq Hi4.out
      rw [← Hi4.out]
      replace Fo : FR v4 w.heap.size ⟨some ⟨go, 0, none⟩, D * D, co⟩ (D * D) (numR seed i3 (D * D) 65536) := ⟨go, rfl, rfl, Fo.mono (by omega)⟩
      replace Ff := Ff.below KB
      replace Fq := Fq.below KB
      replace Fk := Fk.below KB
      replace Fv := Fv.below KB
      replace X8 := X8.below KB
      replace K := below_then K KB
      clear KB ks c1
      have fr0 := X8.frozen 10
      have cc0 : v4.cell? ⟨wr.heap.size, 10, none⟩ = some (.int .i64 0) := X8.cell 10 rfl
      have fr1 := X8.frozen 11
      have cc1 : v4.cell? ⟨wr.heap.size, 11, none⟩ = some (.int .i64 0) := X8.cell 11 rfl
      have fr2 := X8.frozen 12
      have cc2 : v4.cell? ⟨wr.heap.size, 12, none⟩ = some (.slice none 0 0) := X8.cell 12 rfl
      have so : ∀ k, k ≠ wr.heap.size → (((v4.setCell ⟨wr.heap.size, 10, none⟩ (.int .i64 D)).setCell ⟨wr.heap.size, 11, none⟩ (.int .i64 D)).setCell ⟨wr.heap.size, 12, none⟩ (.slice (some ⟨go, 0, none⟩) (D * D) co)).heap[k]? = v4.heap[k]? := set3_other
      have X9 : Blk (((v4.setCell ⟨wr.heap.size, 10, none⟩ (.int .i64 D)).setCell ⟨wr.heap.size, 11, none⟩ (.int .i64 D)).setCell ⟨wr.heap.size, 12, none⟩ (.slice (some ⟨go, 0, none⟩) (D * D) co)) wr.heap.size 86 #[.slice (some ⟨gf, 0, none⟩) (D) cf, .int .i64 D, .int .i64 D, .slice (some ⟨gq, 0, none⟩) (D * D) cq, .int .i64 D, .int .i64 D, .slice (some ⟨gk, 0, none⟩) (D * D) ck, .int .i64 D, .int .i64 D, .slice (some ⟨gv, 0, none⟩) (D * D) cv, .int .i64 D, .int .i64 D, .slice (some ⟨go, 0, none⟩) (D * D) co, .slice none 0 0, .int .i64 0, .int .i64 0, .slice none 0 0, .int .i64 0, .int .i64 0, .slice none 0 0] := (((X8.set 10 (.int .i64 D)).set 11 (.int .i64 D)).set 12 (.slice (some ⟨go, 0, none⟩) (D * D) co))
      have K9 := Below.set3 K (Nat.le_refl _) 10 11 12 (.int .i64 D) (.int .i64 D) (.slice (some ⟨go, 0, none⟩) (D * D) co)
      generalize hx4 : ((v4.setCell ⟨wr.heap.size, 10, none⟩ (.int .i64 D)).setCell ⟨wr.heap.size, 11, none⟩ (.int .i64 D)).setCell ⟨wr.heap.size, 12, none⟩ (.slice (some ⟨go, 0, none⟩) (D * D) co) = x4 at *
      replace Ff := Ff.keep X8 (by decide) so
      replace Fq := Fq.keep X8 (by decide) so
      replace Fk := Fk.keep X8 (by decide) so
      replace Fv := Fv.keep X8 (by decide) so
      replace Fo := Fo.keep X8 (by decide) so
      replace X8 := X9
      replace K := K9
      clear X9 K9 so
      have c1 : x4.cell? ⟨w.heap.size, 1, none⟩ = some (.int .i64 D) := (X0.below K).cell 1 rfl
      go_wp2_with fail
      clear hx4 fr0 cc0 fr1 cc1 fr2 cc2
      have ks := K.size
      refine (rrow_any seed i4 D 16384 65536 _ (by omega) (by omega) (by omega) (by omega) (by omega)).mono ?_
      rintro e v5 ⟨gs, cs, rfl, Fs, KB⟩
      obtain ⟨i5, Hi5⟩ : ∃ z, Hid (z = i4 + D) := ⟨_, rfl⟩
      have bi5 : i5 ≤ i4 + D := Nat.le_of_eq Hi5.out
      rw [← Hi5.out]
      replace Fs : FR v5 w.heap.size ⟨some ⟨gs, 0, none⟩, D, cs⟩ D (gainR seed i4 D) := ⟨gs, rfl, rfl, by rw [← gain_tab]; exact Fs.mono (by omega)⟩
      replace Ff := Ff.below KB
      replace Fq := Fq.below KB
      replace Fk := Fk.below KB
      replace Fv := Fv.below KB
      replace Fo := Fo.below KB
      replace X8 := X8.below KB
      replace K := below_then K KB
      clear KB ks c1
      have fr0 := X8.frozen 13
      have cc0 : v5.cell? ⟨wr.heap.size, 13, none⟩ = some (.slice none 0 0) := X8.cell 13 rfl
      have so : ∀ k, k ≠ wr.heap.size → (v5.setCell ⟨wr.heap.size, 13, none⟩ (.slice (some ⟨gs, 0, none⟩) (D) cs)).heap[k]? = v5.heap[k]? := set1_other
      have X9 : Blk (v5.setCell ⟨wr.heap.size, 13, none⟩ (.slice (some ⟨gs, 0, none⟩) (D) cs)) wr.heap.size 86 #[.slice (some ⟨gf, 0, none⟩) (D) cf, .int .i64 D, .int .i64 D, .slice (some ⟨gq, 0, none⟩) (D * D) cq, .int .i64 D, .int .i64 D, .slice (some ⟨gk, 0, none⟩) (D * D) ck, .int .i64 D, .int .i64 D, .slice (some ⟨gv, 0, none⟩) (D * D) cv, .int .i64 D, .int .i64 D, .slice (some ⟨go, 0, none⟩) (D * D) co, .slice (some ⟨gs, 0, none⟩) (D) cs, .int .i64 0, .int .i64 0, .slice none 0 0, .int .i64 0, .int .i64 0, .slice none 0 0] := (X8.set 13 (.slice (some ⟨gs, 0, none⟩) (D) cs))
      have K9 := K.setCell (p := ⟨wr.heap.size, 13, none⟩) (Nat.le_refl _) (.slice (some ⟨gs, 0, none⟩) (D) cs)
      generalize hx5 : v5.setCell ⟨wr.heap.size, 13, none⟩ (.slice (some ⟨gs, 0, none⟩) (D) cs) = x5 at *
      replace Ff := Ff.keep X8 (by decide) so
      replace Fq := Fq.keep X8 (by decide) so
      replace Fk := Fk.keep X8 (by decide) so
      replace Fv := Fv.keep X8 (by decide) so
      replace Fo := Fo.keep X8 (by decide) so
      replace Fs := Fs.keep X8 (by decide) so
      replace X8 := X9
      replace K := K9
      clear X9 K9 so
      have c1 : x5.cell? ⟨w.heap.size, 1, none⟩ = some (.int .i64 D) := (X0.below K).cell 1 rfl
      have c3 : x5.cell? ⟨w.heap.size, 3, none⟩ = some (.int .i64 H) := (X0.below K).cell 3 rfl
      go_wp2_with fail
      clear hx5 fr0 cc0
      have ks := K.size
      refine (rsquare_any seed i5 H D 65536 _ (by omega) (by omega) (by omega) (by omega) (by omega)).mono ?_
      rintro e v6 ⟨gu, cu, rfl, Fu, KB⟩
      unfold matV
      obtain ⟨i6, Hi6⟩ : ∃ z, Hid (z = i5 + H * D) := ⟨_, rfl⟩
      have bi6 : i6 ≤ i5 + H * D := Nat.le_of_eq Hi6.out
      rw [← Hi6.out]
      replace Fu : FR v6 w.heap.size ⟨some ⟨gu, 0, none⟩, H * D, cu⟩ (H * D) (numR seed i5 (H * D) 65536) := ⟨gu, rfl, rfl, Fu.mono (by omega)⟩
      replace Ff := Ff.below KB
      replace Fq := Fq.below KB
      replace Fk := Fk.below KB
      replace Fv := Fv.below KB
      replace Fo := Fo.below KB
      replace Fs := Fs.below KB
      replace X8 := X8.below KB
      replace K := below_then K KB
      clear KB ks c1 c3
      have fr0 := X8.frozen 14
      have cc0 : v6.cell? ⟨wr.heap.size, 14, none⟩ = some (.int .i64 0) := X8.cell 14 rfl
      have fr1 := X8.frozen 15
      have cc1 : v6.cell? ⟨wr.heap.size, 15, none⟩ = some (.int .i64 0) := X8.cell 15 rfl
      have fr2 := X8.frozen 16
      have cc2 : v6.cell? ⟨wr.heap.size, 16, none⟩ = some (.slice none 0 0) := X8.cell 16 rfl
      have so : ∀ k, k ≠ wr.heap.size → (((v6.setCell ⟨wr.heap.size, 14, none⟩ (.int .i64 H)).setCell ⟨wr.heap.size, 15, none⟩ (.int .i64 D)).setCell ⟨wr.heap.size, 16, none⟩ (.slice (some ⟨gu, 0, none⟩) (H * D) cu)).heap[k]? = v6.heap[k]? := set3_other
      have X9 : Blk (((v6.setCell ⟨wr.heap.size, 14, none⟩ (.int .i64 H)).setCell ⟨wr.heap.size, 15, none⟩ (.int .i64 D)).setCell ⟨wr.heap.size, 16, none⟩ (.slice (some ⟨gu, 0, none⟩) (H * D) cu)) wr.heap.size 86 #[.slice (some ⟨gf, 0, none⟩) (D) cf, .int .i64 D, .int .i64 D, .slice (some ⟨gq, 0, none⟩) (D * D) cq, .int .i64 D, .int .i64 D, .slice (some ⟨gk, 0, none⟩) (D * D) ck, .int .i64 D, .int .i64 D, .slice (some ⟨gv, 0, none⟩) (D * D) cv, .int .i64 D, .int .i64 D, .slice (some ⟨go, 0, none⟩) (D * D) co, .slice (some ⟨gs, 0, none⟩) (D) cs, .int .i64 H, .int .i64 D, .slice (some ⟨gu, 0, none⟩) (H * D) cu, .int .i64 0, .int .i64 0, .slice none 0 0] := (((X8.set 14 (.int .i64 H)).set 15 (.int .i64 D)).set 16 (.slice (some ⟨gu, 0, none⟩) (H * D) cu))
      have K9 := Below.set3 K (Nat.le_refl _) 14 15 16 (.int .i64 H) (.int .i64 D) (.slice (some ⟨gu, 0, none⟩) (H * D) cu)
      generalize hx6 : ((v6.setCell ⟨wr.heap.size, 14, none⟩ (.int .i64 H)).setCell ⟨wr.heap.size, 15, none⟩ (.int .i64 D)).setCell ⟨wr.heap.size, 16, none⟩ (.slice (some ⟨gu, 0, none⟩) (H * D) cu) = x6 at *
      replace Ff := Ff.keep X8 (by decide) so
      replace Fq := Fq.keep X8 (by decide) so
      replace Fk := Fk.keep X8 (by decide) so
      replace Fv := Fv.keep X8 (by decide) so
      replace Fo := Fo.keep X8 (by decide) so
      replace Fs := Fs.keep X8 (by decide) so
      replace Fu := Fu.keep X8 (by decide) so
      replace X8 := X9
      replace K := K9
      clear X9 K9 so
      have c1 : x6.cell? ⟨w.heap.size, 1, none⟩ = some (.int .i64 D) := (X0.below K).cell 1 rfl
      have c3 : x6.cell? ⟨w.heap.size, 3, none⟩ = some (.int .i64 H) := (X0.below K).cell 3 rfl
      go_wp2_with fail
      clear hx6 fr0 cc0 fr1 cc1 fr2 cc2
      have ks := K.size
      refine (rsquare_any seed i6 D H 65536 _ (by omega) (by omega) (by omega) (by omega) (by omega)).mono ?_
      rintro e v7 ⟨gd, cd, rfl, Fd, KB⟩
      unfold matV
      obtain ⟨i7, Hi7⟩ : ∃ z, Hid (z = i6 + D * H) := ⟨_, rfl⟩
      have bi7 : i7 ≤ i6 + D * H := Nat.le_of_eq Hi7.out
      rw [← Hi7.out]
      replace Fd : FR v7 w.heap.size ⟨some ⟨gd, 0, none⟩, D * H, cd⟩ (D * H) (numR seed i6 (D * H) 65536) := ⟨gd, rfl, rfl, Fd.mono (by omega)⟩
      replace Ff := Ff.below KB
      replace Fq := Fq.below KB
      replace Fk := Fk.below KB
      replace Fv := Fv.below KB
      replace Fo := Fo.below KB
      replace Fs := Fs.below KB
      replace Fu := Fu.below KB
      replace X8 := X8.below KB
      replace K := below_then K KB
      clear KB ks c1 c3
      have fr0 := X8.frozen 17
      have cc0 : v7.cell? ⟨wr.heap.size, 17, none⟩ = some (.int .i64 0) := X8.cell 17 rfl
      have fr1 := X8.frozen 18
      have cc1 : v7.cell? ⟨wr.heap.size, 18, none⟩ = some (.int .i64 0) := X8.cell 18 rfl
      have fr2 := X8.frozen 19
      have cc2 : v7.cell? ⟨wr.heap.size, 19, none⟩ = some (.slice none 0 0) := X8.cell 19 rfl
      have so : ∀ k, k ≠ wr.heap.size → (((v7.setCell ⟨wr.heap.size, 17, none⟩ (.int .i64 D)).setCell ⟨wr.heap.size, 18, none⟩ (.int .i64 H)).setCell ⟨wr.heap.size, 19, none⟩ (.slice (some ⟨gd, 0, none⟩) (D * H) cd)).heap[k]? = v7.heap[k]? := set3_other
      have X9 : Blk (((v7.setCell ⟨wr.heap.size, 17, none⟩ (.int .i64 D)).setCell ⟨wr.heap.size, 18, none⟩ (.int .i64 H)).setCell ⟨wr.heap.size, 19, none⟩ (.slice (some ⟨gd, 0, none⟩) (D * H) cd)) wr.heap.size 86 #[.slice (some ⟨gf, 0, none⟩) (D) cf, .int .i64 D, .int .i64 D, .slice (some ⟨gq, 0, none⟩) (D * D) cq, .int .i64 D, .int .i64 D, .slice (some ⟨gk, 0, none⟩) (D * D) ck, .int .i64 D, .int .i64 D, .slice (some ⟨gv, 0, none⟩) (D * D) cv, .int .i64 D, .int .i64 D, .slice (some ⟨go, 0, none⟩) (D * D) co, .slice (some ⟨gs, 0, none⟩) (D) cs, .int .i64 H, .int .i64 D, .slice (some ⟨gu, 0, none⟩) (H * D) cu, .int .i64 D, .int .i64 H, .slice (some ⟨gd, 0, none⟩) (D * H) cd] := (((X8.set 17 (.int .i64 D)).set 18 (.int .i64 H)).set 19 (.slice (some ⟨gd, 0, none⟩) (D * H) cd))
      have K9 := Below.set3 K (Nat.le_refl _) 17 18 19 (.int .i64 D) (.int .i64 H) (.slice (some ⟨gd, 0, none⟩) (D * H) cd)
      generalize hx7 : ((v7.setCell ⟨wr.heap.size, 17, none⟩ (.int .i64 D)).setCell ⟨wr.heap.size, 18, none⟩ (.int .i64 H)).setCell ⟨wr.heap.size, 19, none⟩ (.slice (some ⟨gd, 0, none⟩) (D * H) cd) = x7 at *
      replace Ff := Ff.keep X8 (by decide) so
      replace Fq := Fq.keep X8 (by decide) so
      replace Fk := Fk.keep X8 (by decide) so
      replace Fv := Fv.keep X8 (by decide) so
      replace Fo := Fo.keep X8 (by decide) so
      replace Fs := Fs.keep X8 (by decide) so
      replace Fu := Fu.keep X8 (by decide) so
      replace Fd := Fd.keep X8 (by decide) so
      replace X8 := X9
      replace K := K9
      clear X9 K9 so
      rw [Hi0.out] at Fq
      rw [Hi1.out, Hi0.out] at Fk
      rw [Hi2.out, Hi1.out, Hi0.out] at Fv
      rw [Hi3.out, Hi2.out, Hi1.out, Hi0.out] at Fo
      rw [Hi4.out, Hi3.out, Hi2.out, Hi1.out, Hi0.out] at Fs
      rw [Hi5.out, Hi4.out, Hi3.out, Hi2.out, Hi1.out, Hi0.out] at Fu
      rw [Hi6.out, Hi5.out, Hi4.out, Hi3.out, Hi2.out, Hi1.out, Hi0.out] at Fd
      have HY : Hid (MadeR x7 w.heap.size seed i D H ⟨⟨some ⟨gf, 0, none⟩, D, cf⟩, ⟨D, D, ⟨some ⟨gq, 0, none⟩, D * D, cq⟩⟩, ⟨D, D, ⟨some ⟨gk, 0, none⟩, D * D, ck⟩⟩, ⟨D, D, ⟨some ⟨gv, 0, none⟩, D * D, cv⟩⟩, ⟨D, D, ⟨some ⟨go, 0, none⟩, D * D, co⟩⟩, ⟨some ⟨gs, 0, none⟩, D, cs⟩, ⟨H, D, ⟨some ⟨gu, 0, none⟩, H * D, cu⟩⟩, ⟨D, H, ⟨some ⟨gd, 0, none⟩, D * H, cd⟩⟩⟩) := ⟨Ff, ⟨rfl, rfl, Fq⟩, ⟨rfl, rfl, Fk⟩, ⟨rfl, rfl, Fv⟩, ⟨rfl, rfl, Fo⟩, Fs, ⟨rfl, rfl, Fu⟩, ⟨rfl, rfl, Fd⟩⟩
      have H7 : Hid (i7 = V * D + (t + 1) * lenB D H) := by
        show _ = _
        rw [Hi7.out, Hi6.out, Hi5.out, Hi4.out, Hi3.out, Hi2.out, Hi1.out, Hi0.out, HI.out, Nat.add_mul, Nat.one_mul]
        generalize t * lenB D H = z
        unfold lenB
        omega
      have hb7 : i7 ≤ 2048 + (t + 1) * 8256 := by
        have e7 := H7.out
        have e8 := HI.out
        rw [Nat.add_mul, Nat.one_mul] at e7
        omega
      clear Ff Fq Fk Fv Fo Fs Fu Fd bi0 bi1 bi2 bi3 bi4 bi5 bi6 bi7 Hi0 Hi1 Hi2 Hi3 Hi4 Hi5 Hi6 Hi7
      have i64n : ∀ {n : Nat}, n ≤ 4096 → I64 (n : Int) := fun h => by unfold I64; omega
      have hyo : Bk.Ok ⟨⟨some ⟨gf, 0, none⟩, D, cf⟩, ⟨D, D, ⟨some ⟨gq, 0, none⟩, D * D, cq⟩⟩, ⟨D, D, ⟨some ⟨gk, 0, none⟩, D * D, ck⟩⟩, ⟨D, D, ⟨some ⟨gv, 0, none⟩, D * D, cv⟩⟩, ⟨D, D, ⟨some ⟨go, 0, none⟩, D * D, co⟩⟩, ⟨some ⟨gs, 0, none⟩, D, cs⟩, ⟨H, D, ⟨some ⟨gu, 0, none⟩, H * D, cu⟩⟩, ⟨D, H, ⟨some ⟨gd, 0, none⟩, D * H, cd⟩⟩⟩ := ⟨(by show D ≤ 9223372036854775807; omega), ⟨i64n (by omega), i64n (by omega)⟩, ⟨i64n (by omega), i64n (by omega)⟩, ⟨i64n (by omega), i64n (by omega)⟩, ⟨i64n (by omega), i64n (by omega)⟩, (by show D ≤ 9223372036854775807; omega), ⟨i64n (by omega), i64n (by omega)⟩, ⟨i64n (by omega), i64n (by omega)⟩⟩
      clear i64n
      have XN := blk_new x7 86 #[.slice (some ⟨gf, 0, none⟩) (D) cf, .int .i64 D, .int .i64 D, .slice (some ⟨gq, 0, none⟩) (D * D) cq, .int .i64 D, .int .i64 D, .slice (some ⟨gk, 0, none⟩) (D * D) ck, .int .i64 D, .int .i64 D, .slice (some ⟨gv, 0, none⟩) (D * D) cv, .int .i64 D, .int .i64 D, .slice (some ⟨go, 0, none⟩) (D * D) co, .slice (some ⟨gs, 0, none⟩) (D) cs, .int .i64 H, .int .i64 D, .slice (some ⟨gu, 0, none⟩) (H * D) cu, .int .i64 D, .int .i64 H, .slice (some ⟨gd, 0, none⟩) (D * H) cd]
      have BN : Below x7.heap.size x7 (x7.alloc (.cells #[.slice (some ⟨gf, 0, none⟩) (D) cf, .int .i64 D, .int .i64 D, .slice (some ⟨gq, 0, none⟩) (D * D) cq, .int .i64 D, .int .i64 D, .slice (some ⟨gk, 0, none⟩) (D * D) ck, .int .i64 D, .int .i64 D, .slice (some ⟨gv, 0, none⟩) (D * D) cv, .int .i64 D, .int .i64 D, .slice (some ⟨go, 0, none⟩) (D * D) co, .slice (some ⟨gs, 0, none⟩) (D) cs, .int .i64 H, .int .i64 D, .slice (some ⟨gu, 0, none⟩) (H * D) cu, .int .i64 D, .int .i64 H, .slice (some ⟨gd, 0, none⟩) (D * H) cd] 86)) := (Below.refl _ _).alloc (Nat.le_refl _) _
      generalize hwn : x7.alloc (.cells #[.slice (some ⟨gf, 0, none⟩) (D) cf, .int .i64 D, .int .i64 D, .slice (some ⟨gq, 0, none⟩) (D * D) cq, .int .i64 D, .int .i64 D, .slice (some ⟨gk, 0, none⟩) (D * D) ck, .int .i64 D, .int .i64 D, .slice (some ⟨gv, 0, none⟩) (D * D) cv, .int .i64 D, .int .i64 D, .slice (some ⟨go, 0, none⟩) (D * D) co, .slice (some ⟨gs, 0, none⟩) (D) cs, .int .i64 H, .int .i64 D, .slice (some ⟨gu, 0, none⟩) (H * D) cu, .int .i64 D, .int .i64 H, .slice (some ⟨gd, 0, none⟩) (D * H) cd] 86) = wn at *
      have c9 : x7.cell? ⟨w.heap.size + 1 + 1, 3, none⟩ = some (.slice pa t pc) := (Y6.below K).cell 3 rfl
      have KN := below_then K BN
      have Y6n := Y6.below KN
      have kn := KN.size
      go_wp2_with (first
        | (refine wpList_load_row rfl 86 _ rfl wr.heap.size rfl 86 #[.slice (some ⟨gf, 0, none⟩) (D) cf, .int .i64 D, .int .i64 D, .slice (some ⟨gq, 0, none⟩) (D * D) cq, .int .i64 D, .int .i64 D, .slice (some ⟨gk, 0, none⟩) (D * D) ck, .int .i64 D, .int .i64 D, .slice (some ⟨gv, 0, none⟩) (D * D) cv, .int .i64 D, .int .i64 D, .slice (some ⟨go, 0, none⟩) (D * D) co, .slice (some ⟨gs, 0, none⟩) (D) cs, .int .i64 H, .int .i64 D, .slice (some ⟨gu, 0, none⟩) (H * D) cu, .int .i64 D, .int .i64 H, .slice (some ⟨gd, 0, none⟩) (D * H) cd] (0, 0) _ X8 Tryd.underlying86 rfl Tryd.infoRB1 ?_)
        | (at_builtin; refine wpList_append_block2 rfl (.tmp 113) (.tmp 115) rfl (w.heap.size + 1 + 1 + 1) ⟨pa, t, pc⟩ bs rfl (O1.below KN) x7.heap.size ⟨⟨some ⟨gf, 0, none⟩, D, cf⟩, ⟨D, D, ⟨some ⟨gq, 0, none⟩, D * D, cq⟩⟩, ⟨D, D, ⟨some ⟨gk, 0, none⟩, D * D, ck⟩⟩, ⟨D, D, ⟨some ⟨gv, 0, none⟩, D * D, cv⟩⟩, ⟨D, D, ⟨some ⟨go, 0, none⟩, D * D, co⟩⟩, ⟨some ⟨gs, 0, none⟩, D, cs⟩, ⟨H, D, ⟨some ⟨gu, 0, none⟩, H * D, cu⟩⟩, ⟨D, H, ⟨some ⟨gd, 0, none⟩, D * H, cd⟩⟩⟩ rfl XN hyo (by show t + 1 ≤ 1000000; omega) (by omega) ?_; intro S' wp hS' O9 B9 T9; obtain ⟨pa', pn', pc'⟩ := S'; simp only at hS'; subst hS'; unfold Sl.v; have Y9 := Y6n.of_block (B9.block (w.heap.size + 1 + 1) (by omega)); have f9 := Y9.frozen 3; have d9 : wp.cell? ⟨w.heap.size + 1 + 1, 3, none⟩ = some (.slice pa t pc) := Y9.cell 3 rfl; have s9 := B9.size))
      go_roundg (L - (t + 1))
      case measure => omega
      case rel =>
        have so : ∀ k, k ≠ w.heap.size + 1 + 1 → (wp.setCell ⟨w.heap.size + 1 + 1, 3, none⟩ (.slice pa' (t + 1) pc')).heap[k]? = wp.heap[k]? := set1_other
        have lb : bs.length = t := O1.len
        refine ⟨t + 1, i7, pa', pc', bs ++ [⟨⟨some ⟨gf, 0, none⟩, D, cf⟩, ⟨D, D, ⟨some ⟨gq, 0, none⟩, D * D, cq⟩⟩, ⟨D, D, ⟨some ⟨gk, 0, none⟩, D * D, ck⟩⟩, ⟨D, D, ⟨some ⟨gv, 0, none⟩, D * D, cv⟩⟩, ⟨D, D, ⟨some ⟨go, 0, none⟩, D * D, co⟩⟩, ⟨some ⟨gs, 0, none⟩, D, cs⟩, ⟨H, D, ⟨some ⟨gu, 0, none⟩, H * D, cu⟩⟩, ⟨D, H, ⟨some ⟨gd, 0, none⟩, D * H, cd⟩⟩⟩], by omega, rfl, rfl, H7, hb7, O9.keep Y9 (by decide) so, (fun j x hx => ?_), ((FE.below KN).type T9).keep Y9 (by decide) so, Y9.set 3 _, ((X1.below KN).of_block (B9.block _ (by omega))).of_block (so _ (by omega)), ((X0.below KN).of_block (B9.block _ (by omega))).of_block (so _ (by omega)), ((below_then B6 KN).trans (B9.mono (by omega))).setCell (p := ⟨w.heap.size + 1 + 1, 3, none⟩) (by show w.heap.size ≤ w.heap.size + 1 + 1; omega) _, by simp [World.setCell]; omega⟩
        rcases Nat.lt_or_ge j bs.length with hj | hj
        · rw [List.getElem?_append_left hj] at hx
          exact (((HM.out j x hx).below KN).type T9).keep Y9 (by decide) so
        · rw [List.getElem?_append_right hj] at hx
          have hj2 := (List.getElem?_eq_some_iff.1 hx).1
          simp only [List.length_cons, List.length_nil] at hj2
          obtain rfl : j = t := by omega
          rw [lb, Nat.sub_self] at hx
          simp only [List.getElem?_cons_zero, Option.some.injEq] at hx
          subst hx
          rw [← HI.out]
          exact ((HY.out.below BN).type T9).keep Y9 (by decide) so
    · obtain rfl : L = t := by omega
      have c1 : wr.cell? ⟨w.heap.size, 1, none⟩ = some (.int .i64 D) := X0.cell 1 rfl
      go_wp2_with fail
      clear c3 c4 c1 hlt ht
      refine (rrow_any seed i D 16384 65536 _ (by omega) (by omega) (by omega) (by omega) (by omega)).mono ?_
      rintro e y0 ⟨gl, cl, rfl, Fl, KB⟩
      obtain ⟨i9, H9⟩ : ∃ z, Hid (z = i + D) := ⟨_, rfl⟩
      have bi9 : i9 ≤ i + D := Nat.le_of_eq H9.out
      rw [← H9.out]
      replace Fl : FR y0 w.heap.size ⟨some ⟨gl, 0, none⟩, D, cl⟩ D (gainR seed i D) := ⟨gl, rfl, rfl, by rw [← gain_tab]; exact Fl.mono (by omega)⟩
      have sy := KB.size
      replace HM : Hid (∀ j x, bs[j]? = some x → MadeR y0 w.heap.size seed (V * D + j * lenB D H) D H x) := fun j x hx => (HM.out j x hx).below KB
      replace O1 := O1.below KB
      replace FE := FE.below KB
      replace X0 := X0.below KB
      replace X1 := X1.below KB
      replace Y6 := Y6.below KB
      replace B6 := below_then B6 KB
      have fr := Y6.frozen 4
      have cc : y0.cell? ⟨w.heap.size + 1 + 1, 4, none⟩ = some (.slice none 0 0) := Y6.cell 4 rfl
      have so : ∀ k, k ≠ w.heap.size + 1 + 1 → (y0.setCell ⟨w.heap.size + 1 + 1, 4, none⟩ (.slice (some ⟨gl, 0, none⟩) D cl)).heap[k]? = y0.heap[k]? := set1_other
      have Y7 : Blk (y0.setCell ⟨w.heap.size + 1 + 1, 4, none⟩ (.slice (some ⟨gl, 0, none⟩) D cl)) (w.heap.size + 1 + 1) 65 #[.int .i64 V, .int .i64 D, .slice (some ⟨ge, 0, none⟩) (V * D) ce, .slice pa L pc, .slice (some ⟨gl, 0, none⟩) D cl, .int .i64 0, .int .i64 0, .slice none 0 0] := Y6.set 4 _
      have B7 := B6.setCell (p := ⟨w.heap.size + 1 + 1, 4, none⟩) (by show w.heap.size ≤ w.heap.size + 1 + 1; omega) (.slice (some ⟨gl, 0, none⟩) D cl)
      have sz : (y0.setCell ⟨w.heap.size + 1 + 1, 4, none⟩ (.slice (some ⟨gl, 0, none⟩) D cl)).heap.size = y0.heap.size := by simp [World.setCell]
      generalize hz0 : y0.setCell ⟨w.heap.size + 1 + 1, 4, none⟩ (.slice (some ⟨gl, 0, none⟩) D cl) = z0 at *
      replace HM : Hid (∀ j x, bs[j]? = some x → MadeR z0 w.heap.size seed (V * D + j * lenB D H) D H x) := fun j x hx => (HM.out j x hx).keep Y6 (by decide) so
      replace O1 := O1.keep Y6 (by decide) so
      replace FE := FE.keep Y6 (by decide) so
      replace Fl := Fl.keep Y6 (by decide) so
      replace X0 := X0.of_block (so _ (by omega))
      replace X1 := X1.of_block (so _ (by omega))
      have c0 : z0.cell? ⟨w.heap.size, 0, none⟩ = some (.int .i64 V) := X0.cell 0 rfl
      have c1 : z0.cell? ⟨w.heap.size, 1, none⟩ = some (.int .i64 D) := X0.cell 1 rfl
      clear KB so
      go_wp2_with fail
      clear hz0 fr cc c0 c1 Y6 B6
      refine (rsquare_any seed i9 V D 65536 _ (by omega) (by omega) (by omega) (by omega) (by omega)).mono ?_
      rintro e y1 ⟨gu, cu, rfl, Fu, KB⟩
      unfold matV
      replace Fu : FR y1 w.heap.size ⟨some ⟨gu, 0, none⟩, V * D, cu⟩ (V * D) (numR seed i9 (V * D) 65536) := ⟨gu, rfl, rfl, Fu.mono (by omega)⟩
      have sy1 := KB.size
      replace HM : Hid (∀ j x, bs[j]? = some x → MadeR y1 w.heap.size seed (V * D + j * lenB D H) D H x) := fun j x hx => (HM.out j x hx).below KB
      replace O1 := O1.below KB
      replace FE := FE.below KB
      replace Fl := Fl.below KB
      replace X1 := X1.below KB
      replace Y7 := Y7.below KB
      replace B7 := below_then B7 KB
      have fr0 := Y7.frozen 5
      have fr1 := Y7.frozen 6
      have fr2 := Y7.frozen 7
      have cc0 : y1.cell? ⟨w.heap.size + 1 + 1, 5, none⟩ = some (.int .i64 0) := Y7.cell 5 rfl
      have cc1 : y1.cell? ⟨w.heap.size + 1 + 1, 6, none⟩ = some (.int .i64 0) := Y7.cell 6 rfl
      have cc2 : y1.cell? ⟨w.heap.size + 1 + 1, 7, none⟩ = some (.slice none 0 0) := Y7.cell 7 rfl
      have so : ∀ k, k ≠ w.heap.size + 1 + 1 → (((y1.setCell ⟨w.heap.size + 1 + 1, 5, none⟩ (.int .i64 V)).setCell ⟨w.heap.size + 1 + 1, 6, none⟩ (.int .i64 D)).setCell ⟨w.heap.size + 1 + 1, 7, none⟩ (.slice (some ⟨gu, 0, none⟩) (V * D) cu)).heap[k]? = y1.heap[k]? := set3_other
      have Y8 : Blk (((y1.setCell ⟨w.heap.size + 1 + 1, 5, none⟩ (.int .i64 V)).setCell ⟨w.heap.size + 1 + 1, 6, none⟩ (.int .i64 D)).setCell ⟨w.heap.size + 1 + 1, 7, none⟩ (.slice (some ⟨gu, 0, none⟩) (V * D) cu)) (w.heap.size + 1 + 1) 65 #[.int .i64 V, .int .i64 D, .slice (some ⟨ge, 0, none⟩) (V * D) ce, .slice pa L pc, .slice (some ⟨gl, 0, none⟩) D cl, .int .i64 V, .int .i64 D, .slice (some ⟨gu, 0, none⟩) (V * D) cu] := ((Y7.set 5 _).set 6 _).set 7 _
      have B8 := Below.set3 B7 (by omega : w.heap.size ≤ w.heap.size + 1 + 1) 5 6 7 (.int .i64 V) (.int .i64 D) (.slice (some ⟨gu, 0, none⟩) (V * D) cu)
      generalize hz1 : ((y1.setCell ⟨w.heap.size + 1 + 1, 5, none⟩ (.int .i64 V)).setCell ⟨w.heap.size + 1 + 1, 6, none⟩ (.int .i64 D)).setCell ⟨w.heap.size + 1 + 1, 7, none⟩ (.slice (some ⟨gu, 0, none⟩) (V * D) cu) = z1 at *
      replace HM : Hid (∀ j x, bs[j]? = some x → MadeR z1 w.heap.size seed (V * D + j * lenB D H) D H x) := fun j x hx => (HM.out j x hx).keep Y7 (by decide) so
      replace O1 := O1.keep Y7 (by decide) so
      replace FE := FE.keep Y7 (by decide) so
      replace Fl := Fl.keep Y7 (by decide) so
      replace Fu := Fu.keep Y7 (by decide) so
      replace X1 := X1.of_block (so _ (by omega))
      clear KB so Y7 B7 X0
      have hall : Array.all (#[.int .i64 V, .int .i64 D, .slice (some ⟨ge, 0, none⟩) (V * D) ce, .slice pa L pc, .slice (some ⟨gl, 0, none⟩) D cl, .int .i64 V, .int .i64 D, .slice (some ⟨gu, 0, none⟩) (V * D) cu] : Array Value) (fun v => v.oneCell') = true := by simp [Value.oneCell']
      go_wp2_with (first | (refine wpList_load_row rfl 65 _ rfl (w.heap.size + 1 + 1) rfl 65 #[.int .i64 V, .int .i64 D, .slice (some ⟨ge, 0, none⟩) (V * D) ce, .slice pa L pc, .slice (some ⟨gl, 0, none⟩) D cl, .int .i64 V, .int .i64 D, .slice (some ⟨gu, 0, none⟩) (V * D) cu] (0, 0) _ Y8 Tryd.underlying65 rfl Tryd.infoRW ?_) | (refine wpList_store_row rfl 65 _ _ rfl (w.heap.size + 1) #[.int .i64 V, .int .i64 D, .slice (some ⟨ge, 0, none⟩) (V * D) ce, .slice pa L pc, .slice (some ⟨gl, 0, none⟩) D cl, .int .i64 V, .int .i64 D, .slice (some ⟨gu, 0, none⟩) (V * D) cu] rfl rfl 65 _ X1 Tryd.infoRW rfl hall ?_))
      refine bodyPost_ret (results_cell_row rfl _ _ (w.heap.size + 1) 65 #[.int .i64 V, .int .i64 D, .slice (some ⟨ge, 0, none⟩) (V * D) ce, .slice pa L pc, .slice (some ⟨gl, 0, none⟩) D cl, .int .i64 V, .int .i64 D, .slice (some ⟨gu, 0, none⟩) (V * D) cu] _ _ rfl (X1.row #[.int .i64 V, .int .i64 D, .slice (some ⟨ge, 0, none⟩) (V * D) ce, .slice pa L pc, .slice (some ⟨gl, 0, none⟩) D cl, .int .i64 V, .int .i64 D, .slice (some ⟨gu, 0, none⟩) (V * D) cu]) Tryd.underlying65 rfl Tryd.infoRW) rfl ?_
      have so : ∀ k, k ≠ w.heap.size + 1 → (z1.setRow (w.heap.size + 1) #[.int .i64 V, .int .i64 D, .slice (some ⟨ge, 0, none⟩) (V * D) ce, .slice pa L pc, .slice (some ⟨gl, 0, none⟩) D cl, .int .i64 V, .int .i64 D, .slice (some ⟨gu, 0, none⟩) (V * D) cu]).heap[k]? = z1.heap[k]? := fun k hk => setRow_other _ _ _ _ hk
      have e9 := H9.out
      have eI := HI.out
      rw [e9, eI] at Fu
      rw [eI] at Fl
      exact ⟨⟨some ⟨ge, 0, none⟩, V * D, ce⟩, ⟨pa, L, pc⟩, ⟨some ⟨gl, 0, none⟩, D, cl⟩, ⟨some ⟨gu, 0, none⟩, V * D, cu⟩, bs, rfl, rfl, (O1.keep X1 (by decide) so).mono (by omega), (fun j x hx => (HM.out j x hx).keep X1 (by decide) so), FE.keep X1 (by decide) so, Fl.keep X1 (by decide) so, Fu.keep X1 (by decide) so, below_setRow B8 (by omega) _⟩
end Go.Proofs.YtlmdjhdlfdandaaDoor

/- The awake check of the laws of layer 10 is true. -/
namespace Go.Proofs.YtlmdjhdlfdandaaDoor
open Go.ChangeShapes Go.WideShapes Go.ChangeAt Go.RowKit
theorem wt_one (W : Wt) : W.cells.all (·.oneCell') = true := by simp [Wt.cells, Sl.v, Value.oneCell']
theorem make_small (w : World) : Calls Tryd.prog 7 #[.agg #[.int .i64 2, .int .i64 1, .int .i64 1, .int .i64 1, .int .i64 1], .int .u64 1] w fun e w' => ∃ W bs M, e = .returned (.tuple #[.agg (Wt.cells W), .int .i64 0]) ∧ Good w' 2 1 1 1 1 W bs M ∧ Below w.heap.size w w' := by
  refine (make_any 2 1 1 1 1 1 w (by omega) (by decide)).mono ?_
  rintro e w' ⟨ge, gB, gl, go, rfl, M, B⟩
  obtain ⟨bs, G⟩ := made_good (Hd := 1) M (by decide)
  exact ⟨_, bs, _, rfl, G, B⟩
/-- An answer of one token. -/
theorem run_one {M : Mdl} {V D H Hd L : Nat} {P : List Int} {j : Nat} (h1 : overB (runS M V D H Hd L P j).Y 1 = true) (h2 : ∀ i, i < j → overB (runS M V D H Hd L P i).Y 1 = false) : j = 1 := by
  rcases Nat.lt_trichotomy j 1 with h | h | h
  · obtain rfl : j = 0 := by omega
    have e : (runS M V D H Hd L P 0).Y = [] := rfl
    rw [e] at h1
    exact absurd h1 (by decide)
  · exact h
  · have := over_not (h2 1 h)
    rw [runS_len] at this
    omega
end Go.Proofs.YtlmdjhdlfdandaaDoor

/- The document's model, made from a seed, and the awake check of the laws of layer 8. Written by tools/genraw8.py. -/
namespace Go.Proofs.YtlmdjhdlfdandaaDoor
open Go.ChangeShapes Go.WideShapes Go.ChangeAt Go.RowKit
theorem FR.slAt {w : World} {B : Nat} {s : Sl} {n : Nat} {A : List Int} (h : FR w B s n A) : SlAt w s n A := by
  obtain ⟨g, e, e2, F⟩ := h
  exact ⟨e2, by rw [e]; exact F.arg⟩
theorem FM.mtAt {w : World} {B : Nat} {m : Mt} {r c : Nat} {A : List Int} (h : FM w B m r c (r * c) A) (h1 : 1 ≤ r) (h2 : r ≤ 128) (h3 : 1 ≤ c) (h4 : c ≤ 128) : MtAt w m r c A := by
  obtain ⟨mr, mc, ⟨ao, n, ca⟩⟩ := m
  obtain ⟨e1, e2, ⟨g, e3, e4, F⟩⟩ := h
  simp only at e1 e2 e3 e4 F
  subst e1 e2 e3 e4
  exact ⟨g, 0, _, ca, rfl, h1, h2, h3, h4, rfl, F.fit, F.max, F.rowAt⟩
theorem MadeR.bkAt {w : World} {B seed i D H : Nat} {x : Bk} (h : MadeR w B seed i D H x) (h1 : 1 ≤ D) (h2 : D ≤ 128) (h3 : 1 ≤ H) (h4 : H ≤ 128) : BkAt w D H x (layS seed i D H) :=
  ⟨h.f.slAt, h.q.mtAt h1 h2 h1 h2, h.k.mtAt h1 h2 h1 h2, h.v.mtAt h1 h2 h1 h2, h.o.mtAt h1 h2 h1 h2, h.s.slAt, h.u.mtAt h3 h4 h1 h2, h.d.mtAt h1 h2 h3 h4⟩
theorem rmade_any (V D Hd H L : Nat) (seed : Nat) (w : World) (hf : shapeN V D Hd H L = 0) :
   Calls Tryd.prog 22 #[.agg (cfgC V D Hd H L), .int .u64 (seed : Int)] w fun e w' => ∃ (W : Wt) (bs : List Bk), e = .returned (.agg W.cells) ∧ WtAt w' V D H W bs (mdlS seed V D H L) ∧ bs.length = L ∧ Below w.heap.size w w' := by
  have hk := shape_ok hf
  refine (rmake_any V D Hd H L seed w hf).mono ?_
  rintro e w' ⟨E, S, Ls, O, bs, rfl, hS, OB, MB, hE, hL, hO, B⟩
  have hl : bs.length = L := by rw [OB.len, hS]
  refine ⟨_, bs, rfl, ⟨?_, OB.blocks, by unfold mdlS; simp [hl], fun t x hx => ?_, hL.slAt, ?_⟩, hl, B⟩
  · exact FM.mtAt ⟨rfl, rfl, hE⟩ (by omega) (by omega) (by omega) (by omega)
  · have ht : t < L := by rw [← hl]; exact (List.getElem?_eq_some_iff.1 hx).1
    refine ⟨layS seed (V * D + t * lenB D H) D H, ?_, (MB t x hx).bkAt (by omega) (by omega) (by omega) (by omega)⟩
    unfold mdlS
    simp only [List.getElem?_map, List.getElem?_range ht]
    rfl
  · exact FM.mtAt ⟨rfl, rfl, hO⟩ (by omega) (by omega) (by omega) (by omega)
/-- What is liked behind all tokens. -/
theorem rlikes_full (V D Hd H L n : Nat) (W : Wt) (bs : List Bk) (M : Mdl) (sr sk sv : Sl) (A : List Int) (w : World) (hW : WtAt w V D H W bs M) (hC : DCube w sr (fR M D H Hd L A)) (hn : A.length = n + 1) (h1 : 1 ≤ D) (h2 : D ≤ 5000) :
   Calls Tryd.prog 21 #[.agg W.cells, .agg #[sr.v, sk.v, sv.v]] w fun e w' => ∃ g cap, e = .returned (.slice (some ⟨g, 0, none⟩) V cap) ∧ Fresh w' w.heap.size g V cap (fullX M V D H Hd L A) ∧ Below w.heap.size w w' := by
  have e : fullX M V D H Hd L A = likR M V D (rowOf (rowsL M D H Hd A L) n) := by unfold fullX; rw [hn]; rfl
  have hne : ¬ A.length = 0 := by omega
  rw [e]
  refine rlikes_any V D H n L W bs M sr sk sv (fR M D H Hd L A) (rowsL M D H Hd A L) w hW hC ?_ ?_ ?_ ?_ h1 h2
  · unfold fR; rw [if_neg hne]; simp
  · unfold fR; rw [if_neg hne]; simp
  · rw [rowsL_len, hn]
  · exact rowsL_row M D H Hd A L n (by omega)
theorem make_small8 (w : World) : Calls Tryd.prog 7 #[.agg #[.int .i64 2, .int .i64 1, .int .i64 1, .int .i64 1, .int .i64 1], .int .u64 1] w fun e w' => ∃ W bs, e = .returned (.tuple #[.agg (Wt.cells W), .int .i64 0]) ∧ Good w' 2 1 1 1 1 W bs (mdlS 1 2 1 1 1) ∧ Below w.heap.size w w' := by
  refine (make_any 2 1 1 1 1 1 w (by omega) (by decide)).mono ?_
  rintro e w' ⟨ge, gB, gl, go, rfl, M, B⟩
  obtain ⟨bs, G⟩ := made_good (Hd := 1) M (by decide)
  exact ⟨_, bs, rfl, G, B⟩
theorem iarg_two {w : World} {g : Nat} {x y : Int} (h : Blk w g 3 #[.int .i64 x, .int .i64 y]) (hx : -9223372036854775808 ≤ x ∧ x ≤ 9223372036854775807) (hy : -9223372036854775808 ≤ y ∧ y ≤ 9223372036854775807) : IArg w (some ⟨g, 0, none⟩) 2 2 [x, y] := by
  refine ⟨⟨rfl, by omega, fun k => ?_, fun _ => ⟨g, 0, rfl, fun t ht => ?_⟩⟩, by omega, by omega, fun h => by cases h⟩
  · rcases k with _ | _ | k
    · exact hx
    · exact hy
    · simp [el]
  · rw [Nat.zero_add]
    rcases t with _ | _ | t
    · exact h.cell 0 rfl
    · exact h.cell 1 rfl
    · omega
set_option maxRecDepth 100000 in
set_option maxHeartbeats 4000000 in
theorem raw8_any (w : World) (hT : Tab w) : Calls Tryd.prog 10 #[] w fun e w' => e = .returned (.bool true) ∧ Below w.heap.size w w' := by
  have X0 := blk_new w 23 #[.int .i64 2, .int .i64 1, .int .i64 1, .int .i64 1, .int .i64 1]
  have B0 := below_alloc8 w (.cells #[.int .i64 2, .int .i64 1, .int .i64 1, .int .i64 1, .int .i64 1] 23)
  generalize hw0 : w.alloc (.cells #[.int .i64 2, .int .i64 1, .int .i64 1, .int .i64 1, .int .i64 1] 23) = w0 at *
  have a0 : w0.cell? ⟨w.heap.size, 0, none⟩ = some (.int .i64 2) := X0.cell 0 rfl
  have a1 : w0.cell? ⟨w.heap.size, 1, none⟩ = some (.int .i64 1) := X0.cell 1 rfl
  have a2 : w0.cell? ⟨w.heap.size, 2, none⟩ = some (.int .i64 1) := X0.cell 2 rfl
  have a3 : w0.cell? ⟨w.heap.size, 3, none⟩ = some (.int .i64 1) := X0.cell 3 rfl
  have a4 : w0.cell? ⟨w.heap.size, 4, none⟩ = some (.int .i64 1) := X0.cell 4 rfl
  have HT : Hid (∀ wv, Below w.heap.size w wv → Tab wv) := fun wv hb => hT.next hb
  clear hT
  go_enter Tryd.func10, Tryd.ntmps10
  go_wp2_with fail
  refine (make_small8 _).mono ?_
  rintro e w1 ⟨W, bs, rfl, G1, B1⟩
  replace X0 := X0.below B1
  have D1 := below_then B0 B1
  clear hw0 a0 a1 a2 a3 a4 B0 B1
  obtain ⟨M, hM⟩ : ∃ M, M = mdlS 1 2 1 1 1 := ⟨_, rfl⟩
  have HM : Hid (M = mdlS 1 2 1 1 1) := hM
  rw [← hM] at G1
  clear hM
  have siz : W.cells.size = 8 := rfl
  have one := wt_one W
  have CF := fun (wv : World) (hg : Good wv 2 1 1 1 1 W bs M) (hT : Tab wv) (ao : Option Addr) (ha : IArg wv ao 2 2 [1, 0]) => full_ok 2 1 1 1 1 W bs M ao 2 2 [1, 0] wv hg ha hT (by decide)
  have CN := fun (wv : World) (hg : Good wv 2 1 1 1 1 W bs M) => full_bad 2 1 1 1 1 W bs M none 0 0 [] wv hg (iarg_nil wv) (by decide)
  rw [show promptN ((2 : Nat) : Int) [] = 8 by decide] at CN
  unfold cfgC at CF CN
  generalize hws : W.cells = ws at *
  obtain ⟨XZ, XR, BR, sz⟩ := var3 w1 32 #[.int .i64 0, .int .i64 0, .slice none 0 0, .slice none 0 0, .slice none 0 0, .int .i64 0, .int .i64 0, .slice none 0 0] ws
  generalize hwz : w1.alloc (.cells #[.int .i64 0, .int .i64 0, .slice none 0 0, .slice none 0 0, .slice none 0 0, .int .i64 0, .int .i64 0, .slice none 0 0] 32) = wz at *
  generalize hwy : wz.setRow w1.heap.size ws = wy at *
  clear sz
  replace X0 := X0.below BR
  have D2 := below_then D1 BR
  have G2 := G1.below BR
  have XT := blk_new wy 3 #[.int .i64 1, .int .i64 0]
  have BT := below_alloc8 wy (.cells #[.int .i64 1, .int .i64 0] 3)
  generalize hwt : wy.alloc (.cells #[.int .i64 1, .int .i64 0] 3) = wt at *
  have a0 : wy.cell? ⟨w.heap.size, 0, none⟩ = some (.int .i64 2) := X0.cell 0 rfl
  have a1 : wy.cell? ⟨w.heap.size, 1, none⟩ = some (.int .i64 1) := X0.cell 1 rfl
  have a2 : wy.cell? ⟨w.heap.size, 2, none⟩ = some (.int .i64 1) := X0.cell 2 rfl
  have a3 : wy.cell? ⟨w.heap.size, 3, none⟩ = some (.int .i64 1) := X0.cell 3 rfl
  have a4 : wy.cell? ⟨w.heap.size, 4, none⟩ = some (.int .i64 1) := X0.cell 4 rfl
  have D3 := below_then D2 BT
  go_wp2_with (first
    | (refine wpList_store_row rfl 32 _ _ rfl w1.heap.size ws rfl rfl 32 _ XZ (by rw [siz]; exact Tryd.infoW) (by rw [siz]; rfl) one ?_; rw [hwy])
    | (refine wpList_load_row rfl 32 _ rfl w1.heap.size rfl 32 ws (0, 0) _ XR Tryd.underlying32 rfl (by rw [siz]; exact Tryd.infoW) ?_))
  refine (CF _ (G2.below BT) (HT.out _ D3) _ (iarg_two XT (by omega) (by omega))).mono ?_
  rintro e w4 ⟨gx, gK, gV, rfl, FX, _, _, B4⟩
  obtain ⟨XA, XB, VB, _⟩ := var3 w4 41 #[.slice none 0 0, .slice none 0 0] #[.slice (some ⟨gK, 0, none⟩) 1 1, .slice (some ⟨gV, 0, none⟩) 1 1]
  generalize hwA : w4.alloc (.cells #[.slice none 0 0, .slice none 0 0] 41) = wA at *
  generalize hwB : wA.setRow w4.heap.size #[.slice (some ⟨gK, 0, none⟩) 1 1, .slice (some ⟨gV, 0, none⟩) 1 1] = wB at *
  clear CF
  go_upto_region 4 with (refine wpList_store_row rfl 41 _ _ rfl w4.heap.size _ rfl rfl 41 _ XA Tryd.infoCa rfl (by simp [Value.oneCell']) ?_; rw [hwB])
  replace FX := FX.below VB
  replace X0 := ((X0.below BT).below B4).below VB
  replace XR := ((XR.below BT).below B4).below VB
  have G3 := ((G2.below BT).below B4).below VB
  have D4 := below_then (below_then D3 B4) VB
  have hfx : w.heap.size ≤ wB.heap.size := D4.size
  clear a0 a1 a2 a3 a4 XZ hwz hwy hwt BT BR G1 G2 XT D1 D2 D3 XA XB hwA hwB B4 VB
  have a0 : wB.cell? ⟨w.heap.size, 0, none⟩ = some (.int .i64 2) := X0.cell 0 rfl
  have a1 : wB.cell? ⟨w.heap.size, 1, none⟩ = some (.int .i64 1) := X0.cell 1 rfl
  have a2 : wB.cell? ⟨w.heap.size, 2, none⟩ = some (.int .i64 1) := X0.cell 2 rfl
  have a3 : wB.cell? ⟨w.heap.size, 3, none⟩ = some (.int .i64 1) := X0.cell 3 rfl
  have a4 : wB.cell? ⟨w.heap.size, 4, none⟩ = some (.int .i64 1) := X0.cell 4 rfl
  go_wp2_with (refine wpList_load_row rfl 32 _ rfl w1.heap.size rfl 32 ws (0, 0) _ XR Tryd.underlying32 rfl (by rw [siz]; exact Tryd.infoW) ?_)
  refine (CN _ G3).mono ?_
  rintro e w5 ⟨rfl, B5⟩
  obtain ⟨XA, XB, VB, _⟩ := var3 w5 41 #[.slice none 0 0, .slice none 0 0] #[.slice none 0 0, .slice none 0 0]
  generalize hwA : w5.alloc (.cells #[.slice none 0 0, .slice none 0 0] 41) = wA at *
  generalize hwB : wA.setRow w5.heap.size #[.slice none 0 0, .slice none 0 0] = wC at *
  go_upto_region 5 with (refine wpList_store_row rfl 41 _ _ rfl w5.heap.size _ rfl rfl 41 _ XA Tryd.infoCa rfl (by simp [Value.oneCell']) ?_; rw [hwB])
  have DC := below_then B5 VB
  replace FX := FX.below DC
  replace X0 := X0.below DC
  have D5 := below_then D4 DC
  clear a0 a1 a2 a3 a4 XA XB hwA hwB B5 VB DC CN XR G3 D4 hfx
  have E0 : Below w.heap.size w wC.drew := D5.drew
  have XE := X0.below ((Below.refl _ wC).drew)
  have FE := FX.drew
  have RM := fun (wv : World) => rmade_any 2 1 1 1 1 1 wv (by decide)
  have RF := fun (wv : World) (W : Wt) (bs : List Bk) (ao : Option Addr) (hW : WtAt wv 2 1 1 W bs M) (hb : bs.length = 1) (ha : IArg wv ao 2 2 [1, 0]) => rfull_any 2 1 1 1 1 2 2 ao W bs M [1, 0] wv hW hb ha (by intro k hk; rcases k with _ | _ | k; exact ⟨by decide, by decide⟩; exact ⟨by decide, by decide⟩; omega) (by omega) (by omega) (by omega) (by omega) (by omega) (by decide) (by omega) (by omega) (by omega)
  have RL := fun (wv : World) (W : Wt) (bs : List Bk) (sr sk sv : Sl) (hW : WtAt wv 2 1 1 W bs M) (hC : DCube wv sr (fR M 1 1 1 1 [1, 0])) => rlikes_full 2 1 1 1 1 1 W bs M sr sk sv [1, 0] wv hW hC rfl (by omega) (by omega)
  rw [← HM.out] at RM
  unfold cfgC at RM RF
  clear X0 FX D5
  refine wp_region_held_drew (S := fun w' => Blk w' w.heap.size 23 #[.int .i64 2, .int .i64 1, .int .i64 1, .int .i64 1, .int .i64 1]) (by kernel_rfl) (XE) (fun hHeld => ?_)
  generalize wC.drew = wd at *
  refine wpAnyH_take (i := 0) (v := (.int .i64 0)) rfl (by kernel_rfl) (by kernel_rfl) (by kernel_rfl) (fun _ _ _ h => h) (Or.inl ⟨by rfl, ?_⟩) (by assumption) ?_
  · intro w' hSw
    go_simp
  simp only [List.getElem_toArray, List.getElem_cons_zero, Act.put, List.setIfInBounds_toArray, List.set_cons_zero, List.set_cons_succ]
  refine wpAnyH_take (i := 1) (v := (.bool true)) rfl (by kernel_rfl) (by kernel_rfl) (by kernel_rfl) (fun _ _ _ h => h) (Or.inl ⟨by rfl, ?_⟩) (by assumption) ?_
  · intro w' hSw
    go_simp
  simp only [List.getElem_toArray, List.getElem_cons_succ, List.getElem_cons_zero, Act.put, List.setIfInBounds_toArray, List.set_cons_zero, List.set_cons_succ]
  refine wpAnyH_take (i := 2) (v := (.bool true)) rfl (by kernel_rfl) (by kernel_rfl) (by kernel_rfl) (fun _ _ _ h => h) (Or.inl ⟨by rfl, ?_⟩) (by assumption) ?_
  · intro w' hSw
    go_simp
  simp only [List.getElem_toArray, List.getElem_cons_succ, List.getElem_cons_zero, Act.put, List.setIfInBounds_toArray, List.set_cons_zero, List.set_cons_succ]
  refine wpAnyH_take (i := 3) (v := (.int .i64 0)) rfl (by kernel_rfl) (by kernel_rfl) (by kernel_rfl) (fun _ _ _ h => h) (Or.inl ⟨by rfl, ?_⟩) (by assumption) ?_
  · intro w' hSw
    go_simp
  simp only [List.getElem_toArray, List.getElem_cons_succ, List.getElem_cons_zero, Act.put, List.setIfInBounds_toArray, List.set_cons_zero, List.set_cons_succ]
  refine wpAnyH_take (i := 4) (v := (.bool true)) rfl (by kernel_rfl) (by kernel_rfl) (by kernel_rfl) (fun _ _ _ h => h) (Or.inl ⟨by rfl, ?_⟩) (by assumption) ?_
  · intro w' hSw
    go_simp
  simp only [List.getElem_toArray, List.getElem_cons_succ, List.getElem_cons_zero, Act.put, List.setIfInBounds_toArray, List.set_cons_zero, List.set_cons_succ]
  refine wpAnyH_take (i := 5) (v := (.bool true)) rfl (by kernel_rfl) (by kernel_rfl) (by kernel_rfl) (fun _ _ _ h => h) (Or.inl ⟨by rfl, ?_⟩) (by assumption) ?_
  · intro w' hSw
    go_simp
  simp only [List.getElem_toArray, List.getElem_cons_succ, List.getElem_cons_zero, Act.put, List.setIfInBounds_toArray, List.set_cons_zero, List.set_cons_succ]
  refine wpAnyH_take (i := 6) (v := (.bool true)) rfl (by kernel_rfl) (by kernel_rfl) (by kernel_rfl) (fun _ _ _ h => h) (Or.inl ⟨by rfl, ?_⟩) (by assumption) ?_
  · intro w' hSw
    go_simp
  simp only [List.getElem_toArray, List.getElem_cons_succ, List.getElem_cons_zero, Act.put, List.setIfInBounds_toArray, List.set_cons_zero, List.set_cons_succ]
  refine wpAnyH_take (i := 7) (v := (.int .i64 8)) rfl (by kernel_rfl) (by kernel_rfl) (by kernel_rfl) (fun _ _ _ h => h) (Or.inl ⟨by rfl, ?_⟩) (by assumption) ?_
  · intro w' hSw
    go_simp
  simp only [List.getElem_toArray, List.getElem_cons_succ, List.getElem_cons_zero, Act.put, List.setIfInBounds_toArray, List.set_cons_zero, List.set_cons_succ]
  refine wpAnyH_take (i := 8) (v := (.bool true)) rfl (by kernel_rfl) (by kernel_rfl) (by kernel_rfl) (fun _ _ _ h => h) (Or.inl ⟨by rfl, ?_⟩) (by assumption) ?_
  · intro w' hSw
    go_simp
  simp only [List.getElem_toArray, List.getElem_cons_succ, List.getElem_cons_zero, Act.put, List.setIfInBounds_toArray, List.set_cons_zero, List.set_cons_succ]
  refine wpAnyH_take (i := 9) (v := (.bool true)) rfl (by kernel_rfl) (by kernel_rfl) (by kernel_rfl) (fun _ _ _ h => h) (Or.inl ⟨by rfl, ?_⟩) (by assumption) ?_
  · intro w' hSw
    go_simp
  simp only [List.getElem_toArray, List.getElem_cons_succ, List.getElem_cons_zero, Act.put, List.setIfInBounds_toArray, List.set_cons_zero, List.set_cons_succ]
  refine wpAnyH_take (i := 10) (v := (.bool true)) rfl (by kernel_rfl) (by kernel_rfl) (by kernel_rfl) (fun _ _ _ h => h) (Or.inl ⟨by rfl, ?_⟩) (by assumption) ?_
  · intro w' hSw
    go_simp
  simp only [List.getElem_toArray, List.getElem_cons_succ, List.getElem_cons_zero, Act.put, List.setIfInBounds_toArray, List.set_cons_zero, List.set_cons_succ]
  refine wpAnyH_take (i := 11) (v := (.slice (some ⟨gx, 0, none⟩) 2 2)) rfl (by kernel_rfl) (by kernel_rfl) (by kernel_rfl) (fun _ _ _ h => h) (Or.inl ⟨by rfl, ?_⟩) (by assumption) ?_
  · intro w' hSw
    go_simp
  simp only [List.getElem_toArray, List.getElem_cons_succ, List.getElem_cons_zero, Act.put, List.setIfInBounds_toArray, List.set_cons_zero, List.set_cons_succ]
  refine wpAnyH_take (i := 12) (v := (.agg #[.int .i64 2, .int .i64 1, .int .i64 1, .int .i64 1, .int .i64 1])) rfl (by kernel_rfl) (by kernel_rfl) (by kernel_rfl) (fun _ _ _ h => h) (Or.inl ⟨by rfl, ?_⟩) (by assumption) ?_
  · intro w' hSw
    have c0 : w'.cell? ⟨w.heap.size, 0, none⟩ = some (.int .i64 2) := hSw.cell 0 rfl
    have c1 : w'.cell? ⟨w.heap.size, 1, none⟩ = some (.int .i64 1) := hSw.cell 1 rfl
    have c2 : w'.cell? ⟨w.heap.size, 2, none⟩ = some (.int .i64 1) := hSw.cell 2 rfl
    have c3 : w'.cell? ⟨w.heap.size, 3, none⟩ = some (.int .i64 1) := hSw.cell 3 rfl
    have c4 : w'.cell? ⟨w.heap.size, 4, none⟩ = some (.int .i64 1) := hSw.cell 4 rfl
    go_simp
  simp only [List.getElem_toArray, List.getElem_cons_succ, List.getElem_cons_zero, Act.put, List.setIfInBounds_toArray, List.set_cons_zero, List.set_cons_succ]
  refine wpAnyH_take (i := 14) (v := (.agg #[.int .i64 2, .int .i64 1, .int .i64 1, .int .i64 1, .int .i64 1])) rfl (by kernel_rfl) (by kernel_rfl) (by kernel_rfl) (fun _ _ _ h => h) (Or.inl ⟨by rfl, ?_⟩) (by assumption) ?_
  · intro w' hSw
    have c0 : w'.cell? ⟨w.heap.size, 0, none⟩ = some (.int .i64 2) := hSw.cell 0 rfl
    have c1 : w'.cell? ⟨w.heap.size, 1, none⟩ = some (.int .i64 1) := hSw.cell 1 rfl
    have c2 : w'.cell? ⟨w.heap.size, 2, none⟩ = some (.int .i64 1) := hSw.cell 2 rfl
    have c3 : w'.cell? ⟨w.heap.size, 3, none⟩ = some (.int .i64 1) := hSw.cell 3 rfl
    have c4 : w'.cell? ⟨w.heap.size, 4, none⟩ = some (.int .i64 1) := hSw.cell 4 rfl
    go_simp
  simp only [List.getElem_toArray, List.getElem_cons_succ, List.getElem_cons_zero, Act.put, List.setIfInBounds_toArray, List.set_cons_zero, List.set_cons_succ]
  refine wpAnyH_take (i := 15) (v := (.agg #[.int .i64 2, .int .i64 1, .int .i64 1, .int .i64 1, .int .i64 1])) rfl (by kernel_rfl) (by kernel_rfl) (by kernel_rfl) (fun _ _ _ h => h) (Or.inl ⟨by rfl, ?_⟩) (by assumption) ?_
  · intro w' hSw
    have c0 : w'.cell? ⟨w.heap.size, 0, none⟩ = some (.int .i64 2) := hSw.cell 0 rfl
    have c1 : w'.cell? ⟨w.heap.size, 1, none⟩ = some (.int .i64 1) := hSw.cell 1 rfl
    have c2 : w'.cell? ⟨w.heap.size, 2, none⟩ = some (.int .i64 1) := hSw.cell 2 rfl
    have c3 : w'.cell? ⟨w.heap.size, 3, none⟩ = some (.int .i64 1) := hSw.cell 3 rfl
    have c4 : w'.cell? ⟨w.heap.size, 4, none⟩ = some (.int .i64 1) := hSw.cell 4 rfl
    go_simp
  simp only [List.getElem_toArray, List.getElem_cons_succ, List.getElem_cons_zero, Act.put, List.setIfInBounds_toArray, List.set_cons_zero, List.set_cons_succ]
  refine wpAnyH_ready (rs := [13, 17]) (by kernel_rfl) (by simp) ?_
  refine AllReadyH.cons rfl (fun Kc hKc => ?_) (AllReadyH.cons rfl (fun Kc hKc => ?_) AllReadyH.nil)
  · simp only [List.getElem_toArray, List.getElem_cons_succ, List.getElem_cons_zero]
    rw [if_pos (by rfl)]
    go_wp2_with fail
    refine (RM _).mono ?_
    rintro e wn1 ⟨W1, bs1, rfl, WA1, hb1, Bn1⟩
    go_wp2_with fail
    have En1 := below_then E0 Bn1
    have Xn1 := XE.below Bn1
    have Fn1 := FE.below Bn1
    refine hKc.out _ _ (Xn1) (fun hHeld => ?_)
    clear hKc Kc
    refine wpAnyH_ready (rs := [16, 17]) (by kernel_rfl) (by simp) ?_
    refine AllReadyH.cons rfl (fun Kc hKc => ?_) (AllReadyH.cons rfl (fun Kc hKc => ?_) AllReadyH.nil)
    · simp only [List.getElem_toArray, List.getElem_cons_succ, List.getElem_cons_zero]
      rw [if_pos (by rfl)]
      go_wp2_with fail
      refine (RM _).mono ?_
      rintro e wn2 ⟨W2, bs2, rfl, WA2, hb2, Bn2⟩
      go_wp2_with fail
      have En2 := below_then En1 Bn2
      have Xn2 := Xn1.below Bn2
      have Fn2 := Fn1.below Bn2
      replace WA1 := WA1.below Bn2
      refine hKc.out _ _ (Xn2) (fun hHeld => ?_)
      clear hKc Kc
      refine wpAnyH_ready (rs := [17]) (by kernel_rfl) (by simp) ?_
      refine AllReadyH.cons rfl (fun Kc hKc => ?_) AllReadyH.nil
      simp only [List.getElem_toArray, List.getElem_cons_succ, List.getElem_cons_zero]
      rw [if_pos (by rfl)]
      go_wp2_with fail
      have XT3 := blk_new wn2 3 #[.int .i64 1, .int .i64 0]
      have Bn3 := below_alloc8 wn2 (.cells #[.int .i64 1, .int .i64 0] 3)
      generalize hwn3 : wn2.alloc (.cells #[.int .i64 1, .int .i64 0] 3) = wn3 at *
      clear hwn3
      have En3 := below_then En2 Bn3
      have Xn3 := Xn2.below Bn3
      have Fn3 := Fn2.below Bn3
      replace WA1 := WA1.below Bn3
      replace WA2 := WA2.below Bn3
      refine hKc.out _ _ (Xn3) (fun hHeld => ?_)
      clear hKc Kc
      refine wpAnyH_ready (rs := [18]) (by kernel_rfl) (by simp) ?_
      refine AllReadyH.cons rfl (fun Kc hKc => ?_) AllReadyH.nil
      simp only [List.getElem_toArray, List.getElem_cons_succ, List.getElem_cons_zero]
      rw [if_pos (by rfl)]
      go_wp2_with fail
      refine (RF _ W2 bs2 _ WA2 hb2 (iarg_two XT3 (by omega) (by omega))).mono ?_
      rintro e wf1 ⟨sr, sk, sv, rfl, C1, _, _, Bf1⟩
      go_wp2_with fail
      refine hKc.out _ _ (Xn3.below Bf1) (fun hHeld => ?_)
      clear hKc Kc
      refine wpAnyH_ready (rs := [19]) (by kernel_rfl) (by simp) ?_
      refine AllReadyH.cons rfl (fun Kc hKc => ?_) AllReadyH.nil
      simp only [List.getElem_toArray, List.getElem_cons_succ, List.getElem_cons_zero]
      rw [if_pos (by rfl)]
      go_wp2_with fail
      refine (RL _ W1 bs1 sr sk sv (WA1.below Bf1) C1).mono ?_
      rintro e wf2 ⟨gl2, cl2, rfl, FL, Bf2⟩
      go_wp2_with fail
      refine hKc.out _ _ ((Xn3.below Bf1).below Bf2) (fun hHeld => ?_)
      clear hKc Kc
      refine wpAnyH_ready (rs := [20]) (by kernel_rfl) (by simp) ?_
      refine AllReadyH.cons rfl (fun Kc hKc => ?_) AllReadyH.nil
      simp only [List.getElem_toArray, List.getElem_cons_succ, List.getElem_cons_zero]
      rw [if_pos (by rfl)]
      go_wp2_with fail
      refine (same_any _ _ 2 _ _ (fullX M 2 1 1 1 1 [1, 0]) _ ((Fn3.below Bf1).below Bf2).rowAt FL.rowAt).mono ?_
      rintro e wf3 ⟨rfl, m3, hm3⟩
      have Bf3 : Below wf2.heap.size wf2 wf3 := (by rw [hm3]; exact below_drewN (Below.refl _ _) m3)
      clear hm3
      go_wp2_with fail
      refine hKc.out _ _ (((Xn3.below Bf1).below Bf2).below Bf3) (fun hHeld => ?_)
      clear hKc Kc
      refine wpAnyH_take (i := 21) (v := (.bool true)) rfl (by kernel_rfl) (by kernel_rfl) (by kernel_rfl) (fun _ _ _ h => h) (Or.inl ⟨by rfl, ?_⟩) (by assumption) ?_
      · intro w' hSw
        go_simp
      simp only [List.getElem_toArray, List.getElem_cons_succ, List.getElem_cons_zero, Act.put, List.setIfInBounds_toArray, List.set_cons_zero, List.set_cons_succ]
      refine wpAnyH_ready (rs := [22]) (by kernel_rfl) (by simp) ?_
      refine AllReadyH.cons rfl (fun Kc hKc => ?_) AllReadyH.nil
      simp only [List.getElem_toArray, List.getElem_cons_succ, List.getElem_cons_zero]
      rw [if_pos (by rfl)]
      go_wp2_with fail
      refine hKc.out _ _ (((Xn3.below Bf1).below Bf2).below Bf3) (fun hHeld => ?_)
      clear hKc Kc
      refine wpAnyH_done (by kernel_rfl) ?_ _
      go_wp2
      go_ret
      exact ⟨rfl, below_then (below_then (below_then En3 Bf1) Bf2) Bf3⟩
    · simp only [List.getElem_toArray, List.getElem_cons_succ, List.getElem_cons_zero]
      rw [if_pos (by rfl)]
      go_wp2_with fail
      have XT4 := blk_new wn1 3 #[.int .i64 1, .int .i64 0]
      have Bn4 := below_alloc8 wn1 (.cells #[.int .i64 1, .int .i64 0] 3)
      generalize hwn4 : wn1.alloc (.cells #[.int .i64 1, .int .i64 0] 3) = wn4 at *
      clear hwn4
      have En4 := below_then En1 Bn4
      have Xn4 := Xn1.below Bn4
      have Fn4 := Fn1.below Bn4
      replace WA1 := WA1.below Bn4
      refine hKc.out _ _ (Xn4) (fun hHeld => ?_)
      clear hKc Kc
      refine wpAnyH_ready (rs := [16]) (by kernel_rfl) (by simp) ?_
      refine AllReadyH.cons rfl (fun Kc hKc => ?_) AllReadyH.nil
      simp only [List.getElem_toArray, List.getElem_cons_succ, List.getElem_cons_zero]
      rw [if_pos (by rfl)]
      go_wp2_with fail
      refine (RM _).mono ?_
      rintro e wn5 ⟨W5, bs5, rfl, WA5, hb5, Bn5⟩
      go_wp2_with fail
      have En5 := below_then En4 Bn5
      have Xn5 := Xn4.below Bn5
      have Fn5 := Fn4.below Bn5
      replace WA1 := WA1.below Bn5
      replace XT4 := XT4.below Bn5
      refine hKc.out _ _ (Xn5) (fun hHeld => ?_)
      clear hKc Kc
      refine wpAnyH_ready (rs := [18]) (by kernel_rfl) (by simp) ?_
      refine AllReadyH.cons rfl (fun Kc hKc => ?_) AllReadyH.nil
      simp only [List.getElem_toArray, List.getElem_cons_succ, List.getElem_cons_zero]
      rw [if_pos (by rfl)]
      go_wp2_with fail
      refine (RF _ W5 bs5 _ WA5 hb5 (iarg_two XT4 (by omega) (by omega))).mono ?_
      rintro e wf1 ⟨sr, sk, sv, rfl, C1, _, _, Bf1⟩
      go_wp2_with fail
      refine hKc.out _ _ (Xn5.below Bf1) (fun hHeld => ?_)
      clear hKc Kc
      refine wpAnyH_ready (rs := [19]) (by kernel_rfl) (by simp) ?_
      refine AllReadyH.cons rfl (fun Kc hKc => ?_) AllReadyH.nil
      simp only [List.getElem_toArray, List.getElem_cons_succ, List.getElem_cons_zero]
      rw [if_pos (by rfl)]
      go_wp2_with fail
      refine (RL _ W1 bs1 sr sk sv (WA1.below Bf1) C1).mono ?_
      rintro e wf2 ⟨gl2, cl2, rfl, FL, Bf2⟩
      go_wp2_with fail
      refine hKc.out _ _ ((Xn5.below Bf1).below Bf2) (fun hHeld => ?_)
      clear hKc Kc
      refine wpAnyH_ready (rs := [20]) (by kernel_rfl) (by simp) ?_
      refine AllReadyH.cons rfl (fun Kc hKc => ?_) AllReadyH.nil
      simp only [List.getElem_toArray, List.getElem_cons_succ, List.getElem_cons_zero]
      rw [if_pos (by rfl)]
      go_wp2_with fail
      refine (same_any _ _ 2 _ _ (fullX M 2 1 1 1 1 [1, 0]) _ ((Fn5.below Bf1).below Bf2).rowAt FL.rowAt).mono ?_
      rintro e wf3 ⟨rfl, m3, hm3⟩
      have Bf3 : Below wf2.heap.size wf2 wf3 := (by rw [hm3]; exact below_drewN (Below.refl _ _) m3)
      clear hm3
      go_wp2_with fail
      refine hKc.out _ _ (((Xn5.below Bf1).below Bf2).below Bf3) (fun hHeld => ?_)
      clear hKc Kc
      refine wpAnyH_take (i := 21) (v := (.bool true)) rfl (by kernel_rfl) (by kernel_rfl) (by kernel_rfl) (fun _ _ _ h => h) (Or.inl ⟨by rfl, ?_⟩) (by assumption) ?_
      · intro w' hSw
        go_simp
      simp only [List.getElem_toArray, List.getElem_cons_succ, List.getElem_cons_zero, Act.put, List.setIfInBounds_toArray, List.set_cons_zero, List.set_cons_succ]
      refine wpAnyH_ready (rs := [22]) (by kernel_rfl) (by simp) ?_
      refine AllReadyH.cons rfl (fun Kc hKc => ?_) AllReadyH.nil
      simp only [List.getElem_toArray, List.getElem_cons_succ, List.getElem_cons_zero]
      rw [if_pos (by rfl)]
      go_wp2_with fail
      refine hKc.out _ _ (((Xn5.below Bf1).below Bf2).below Bf3) (fun hHeld => ?_)
      clear hKc Kc
      refine wpAnyH_done (by kernel_rfl) ?_ _
      go_wp2
      go_ret
      exact ⟨rfl, below_then (below_then (below_then En5 Bf1) Bf2) Bf3⟩
  · simp only [List.getElem_toArray, List.getElem_cons_succ, List.getElem_cons_zero]
    rw [if_pos (by rfl)]
    go_wp2_with fail
    have XT6 := blk_new wd 3 #[.int .i64 1, .int .i64 0]
    have Bn6 := below_alloc8 wd (.cells #[.int .i64 1, .int .i64 0] 3)
    generalize hwn6 : wd.alloc (.cells #[.int .i64 1, .int .i64 0] 3) = wn6 at *
    clear hwn6
    have En6 := below_then E0 Bn6
    have Xn6 := XE.below Bn6
    have Fn6 := FE.below Bn6
    refine hKc.out _ _ (Xn6) (fun hHeld => ?_)
    clear hKc Kc
    refine wpAnyH_ready (rs := [13]) (by kernel_rfl) (by simp) ?_
    refine AllReadyH.cons rfl (fun Kc hKc => ?_) AllReadyH.nil
    simp only [List.getElem_toArray, List.getElem_cons_succ, List.getElem_cons_zero]
    rw [if_pos (by rfl)]
    go_wp2_with fail
    refine (RM _).mono ?_
    rintro e wn7 ⟨W7, bs7, rfl, WA7, hb7, Bn7⟩
    go_wp2_with fail
    have En7 := below_then En6 Bn7
    have Xn7 := Xn6.below Bn7
    have Fn7 := Fn6.below Bn7
    replace XT6 := XT6.below Bn7
    refine hKc.out _ _ (Xn7) (fun hHeld => ?_)
    clear hKc Kc
    refine wpAnyH_ready (rs := [16]) (by kernel_rfl) (by simp) ?_
    refine AllReadyH.cons rfl (fun Kc hKc => ?_) AllReadyH.nil
    simp only [List.getElem_toArray, List.getElem_cons_succ, List.getElem_cons_zero]
    rw [if_pos (by rfl)]
    go_wp2_with fail
    refine (RM _).mono ?_
    rintro e wn8 ⟨W8, bs8, rfl, WA8, hb8, Bn8⟩
    go_wp2_with fail
    have En8 := below_then En7 Bn8
    have Xn8 := Xn7.below Bn8
    have Fn8 := Fn7.below Bn8
    replace WA7 := WA7.below Bn8
    replace XT6 := XT6.below Bn8
    refine hKc.out _ _ (Xn8) (fun hHeld => ?_)
    clear hKc Kc
    refine wpAnyH_ready (rs := [18]) (by kernel_rfl) (by simp) ?_
    refine AllReadyH.cons rfl (fun Kc hKc => ?_) AllReadyH.nil
    simp only [List.getElem_toArray, List.getElem_cons_succ, List.getElem_cons_zero]
    rw [if_pos (by rfl)]
    go_wp2_with fail
    refine (RF _ W8 bs8 _ WA8 hb8 (iarg_two XT6 (by omega) (by omega))).mono ?_
    rintro e wf1 ⟨sr, sk, sv, rfl, C1, _, _, Bf1⟩
    go_wp2_with fail
    refine hKc.out _ _ (Xn8.below Bf1) (fun hHeld => ?_)
    clear hKc Kc
    refine wpAnyH_ready (rs := [19]) (by kernel_rfl) (by simp) ?_
    refine AllReadyH.cons rfl (fun Kc hKc => ?_) AllReadyH.nil
    simp only [List.getElem_toArray, List.getElem_cons_succ, List.getElem_cons_zero]
    rw [if_pos (by rfl)]
    go_wp2_with fail
    refine (RL _ W7 bs7 sr sk sv (WA7.below Bf1) C1).mono ?_
    rintro e wf2 ⟨gl2, cl2, rfl, FL, Bf2⟩
    go_wp2_with fail
    refine hKc.out _ _ ((Xn8.below Bf1).below Bf2) (fun hHeld => ?_)
    clear hKc Kc
    refine wpAnyH_ready (rs := [20]) (by kernel_rfl) (by simp) ?_
    refine AllReadyH.cons rfl (fun Kc hKc => ?_) AllReadyH.nil
    simp only [List.getElem_toArray, List.getElem_cons_succ, List.getElem_cons_zero]
    rw [if_pos (by rfl)]
    go_wp2_with fail
    refine (same_any _ _ 2 _ _ (fullX M 2 1 1 1 1 [1, 0]) _ ((Fn8.below Bf1).below Bf2).rowAt FL.rowAt).mono ?_
    rintro e wf3 ⟨rfl, m3, hm3⟩
    have Bf3 : Below wf2.heap.size wf2 wf3 := (by rw [hm3]; exact below_drewN (Below.refl _ _) m3)
    clear hm3
    go_wp2_with fail
    refine hKc.out _ _ (((Xn8.below Bf1).below Bf2).below Bf3) (fun hHeld => ?_)
    clear hKc Kc
    refine wpAnyH_take (i := 21) (v := (.bool true)) rfl (by kernel_rfl) (by kernel_rfl) (by kernel_rfl) (fun _ _ _ h => h) (Or.inl ⟨by rfl, ?_⟩) (by assumption) ?_
    · intro w' hSw
      go_simp
    simp only [List.getElem_toArray, List.getElem_cons_succ, List.getElem_cons_zero, Act.put, List.setIfInBounds_toArray, List.set_cons_zero, List.set_cons_succ]
    refine wpAnyH_ready (rs := [22]) (by kernel_rfl) (by simp) ?_
    refine AllReadyH.cons rfl (fun Kc hKc => ?_) AllReadyH.nil
    simp only [List.getElem_toArray, List.getElem_cons_succ, List.getElem_cons_zero]
    rw [if_pos (by rfl)]
    go_wp2_with fail
    refine hKc.out _ _ (((Xn8.below Bf1).below Bf2).below Bf3) (fun hHeld => ?_)
    clear hKc Kc
    refine wpAnyH_done (by kernel_rfl) ?_ _
    go_wp2
    go_ret
    exact ⟨rfl, below_then (below_then (below_then En8 Bf1) Bf2) Bf3⟩
end Go.Proofs.YtlmdjhdlfdandaaDoor

/- Small shapes, and rows of tokens that are the same. -/
namespace Go.Proofs.YtlmdjhdlfdandaaDoor
open Go.ChangeShapes Go.WideShapes Go.ChangeAt Go.RowKit
/-- Is a shape a small one? -/
def smallN (D H L : Int) : Int := if 8 < D ∨ 8 < H ∨ 2 < L then 0 else 1
theorem small8_any (V D Hd H L : Int) (w : World) : Calls Tryd.prog 8 #[.agg (cfgC V D Hd H L)] w fun e w' => e = .returned (.int .i64 (smallN D H L)) ∧ Below w.heap.size w w' := by
  have X0 := blk_new w 23 (cfgC V D Hd H L)
  have B0 : Below w.heap.size w (w.alloc (.cells (cfgC V D Hd H L) 23)) := (Below.refl _ _).alloc (Nat.le_refl _) _
  unfold cfgC at *
  generalize hw0 : w.alloc (.cells #[.int .i64 V, .int .i64 D, .int .i64 Hd, .int .i64 H, .int .i64 L] 23) = w0 at *
  have a1 : w0.cell? ⟨w.heap.size, 1, none⟩ = some (.int .i64 D) := X0.cell 1 rfl
  have a3 : w0.cell? ⟨w.heap.size, 3, none⟩ = some (.int .i64 H) := X0.cell 3 rfl
  have a4 : w0.cell? ⟨w.heap.size, 4, none⟩ = some (.int .i64 L) := X0.cell 4 rfl
  have HN : Hid (smallN D H L = if 8 < D ∨ 8 < H ∨ 2 < L then 0 else 1) := rfl
  generalize smallN D H L = res at *
  by_cases h1 : 8 < D
  · have HF : Hid (res = 0) := by show _ = _; rw [HN.out, if_pos (Or.inl h1)]
    clear HN
    go_enter Tryd.func8, Tryd.ntmps8
    go_wp2
    go_ret
    exact ⟨ret_int HF.out.symm, B0⟩
  · by_cases h2 : 8 < H
    · have HF : Hid (res = 0) := by show _ = _; rw [HN.out, if_pos (Or.inr (Or.inl h2))]
      clear HN
      go_enter Tryd.func8, Tryd.ntmps8
      go_wp2
      go_ret
      exact ⟨ret_int HF.out.symm, B0⟩
    · by_cases h3 : 2 < L
      · have HF : Hid (res = 0) := by show _ = _; rw [HN.out, if_pos (Or.inr (Or.inr h3))]
        clear HN
        go_enter Tryd.func8, Tryd.ntmps8
        go_wp2
        go_ret
        exact ⟨ret_int HF.out.symm, B0⟩
      · have HF : Hid (res = 1) := by show _ = _; rw [HN.out, if_neg (by omega)]
        clear HN
        go_enter Tryd.func8, Tryd.ntmps8
        go_wp2
        go_ret
        exact ⟨ret_int HF.out.symm, B0⟩
theorem IArg.drop {w : World} {b o n ca : Nat} {A : List Int} (h : IArg w (some ⟨b, o, none⟩) n ca A) {m : Nat} (hm : m ≤ n) : IRowAt w (some ⟨b, o + m, none⟩) (n - m) (A.drop m) := by
  have hl := h.row.len
  refine ⟨by rw [List.length_drop]; omega, by have := h.row.max; omega, fun k => ?_, fun hn => ?_⟩
  · rw [el_drop]; exact h.row.small _
  · obtain ⟨b', o', e, hc⟩ := h.row.cells (by omega)
    simp only [Option.some.injEq, Addr.mk.injEq, and_true] at e
    obtain ⟨rfl, rfl⟩ := e
    refine ⟨b, o + m, rfl, fun t ht => ?_⟩
    rw [el_drop, Nat.add_assoc]
    exact hc _ (by omega)
end Go.Proofs.YtlmdjhdlfdandaaDoor

/- The table of steps lies in its block, wherever the row's listed variable reads as listed. -/
namespace Go.Proofs.YtlmdjhdlfdandaaDoor
open Go.ChangeShapes Go.WideShapes Go.ChangeAt Go.RowKit
theorem gSteps : Tryd.prog.globalNamed "tiller/curve.steps" = some 0 := by kernel_rfl
theorem tSteps : (Tryd.prog.globals[0]?).map (·.type) = some 127 := by kernel_rfl
theorem cSteps : Tryd.prog.cellsOf 127 = 65 := by kernel_rfl
theorem cNum : Tryd.prog.cellsOf 55 = 1 := by kernel_rfl
theorem tab_of_laid {W : World} (h : laidMetH Tryd.prog [("tiller/curve.steps", Rows.laid_tiller_curve_steps)] W) : Tab W := by
  rw [MakeChecks.laidMetH_plain _ _ _ (by kernel_rfl)] at h
  have h' : laidMet Tryd.prog [("tiller/curve.steps", Lib.tabData .i32 (stp.map fun (n : Nat) => (n : Int)))] W := h
  have ht := Lib.tabIs_of_head gSteps tSteps Tryd.underlying127 Tryd.underlying55 cNum cSteps h'
  unfold Lib.TabIs World.var? at ht
  rw [gSteps] at ht
  simp only [Option.bind_some] at ht
  split at ht
  · rename_i cs t fr hc
    refine ⟨t, fr, ?_⟩
    rw [hc]
    simp only [Option.some.injEq] at ht
    rw [ht]
    simp [tabCells]
  · cases ht
end Go.Proofs.YtlmdjhdlfdandaaDoor

/- An argument that is a row of whole numbers, opened once: nil, empty or not. -/
namespace Go.Proofs.YtlmdjhdlfdandaaDoor
open Go.ChangeShapes Go.WideShapes Go.ChangeAt Go.RowKit
theorem Tryd.cellsInt : Tryd.prog.cellsOf 3 = 1 := by kernel_rfl
theorem viewI_cells {H : Type} {enc : TypeId × Value → H} {W : World} {fuel : Nat} {cs : List Value} {x : DataW H × List MemPlace}
    (hf : DataW.trod enc Tryd.prog W 0 (fun _ => true) true fuel 25 cs = some x) :
    ∃ (a0 : Option Addr) (len cap : Nat) (Z : List Int), cs = [.slice a0 len cap] ∧ IArg W a0 len cap Z := by
  rcases open_ints Tryd.underlying25 Tryd.underlying3 Tryd.cellsInt hf with ⟨hcs, hx⟩ | ⟨a, len', cap', zs, hcs, _, hl, hm, hz, hx, hcell, hwz⟩
  · exact ⟨none, 0, 0, [], hcs, iarg_nil _⟩
  · simp only [if_true] at hz
    unfold maxLen at hm
    refine ⟨some a, len', cap', zs.take len', hcs, ⟨by simp; omega, by omega, fun k => ?_, fun hn => ?_⟩, hl, by omega, fun h => by cases h⟩
    · rcases Nat.lt_or_ge k (zs.take len').length with hk | hk
      · exact bounds_i64 (hwz _ (List.mem_of_mem_take (el_mem hk)))
      · rw [el_over hk]; omega
    · obtain ⟨b, o, s⟩ := a
      have h0 := hcell 0 (by omega)
      have hs : s = none := by simpa [Addr.add] using World.cell?_spot h0
      subst hs
      refine ⟨b, o, rfl, fun t ht => ?_⟩
      have e : (Addr.mk b o none).add t = ⟨b, o + t, none⟩ := by simp [Addr.add]
      rw [← e, hcell t (by omega), el_take ht]
      rfl
set_option maxRecDepth 100000 in
theorem viewI {H : Type} {enc : TypeId × Value → H} {W : World} {b0 : Nat} {v : Value} {d : DataW H} {p : List MemPlace} (hv : Value.okWide Tryd.prog W .any b0 25 v)
    (h : DataW.Trod enc Tryd.prog W 0 (fun _ => true) true 25 v d p) : ∃ (a0 : Option Addr) (len cap : Nat) (Z : List Int), v = .slice a0 len cap ∧ IArg W a0 len cap Z := by
  obtain ⟨a0, la, ca, rfl⟩ := okWide_slice Tryd.underlying25 hv
  obtain ⟨f, hf⟩ := h
  obtain ⟨a1, l1, c1, Z, e, hA⟩ := viewI_cells hf
  simp [Value.cells] at e
  obtain ⟨rfl, rfl, rfl⟩ := e
  exact ⟨_, _, _, Z, rfl, hA⟩
end Go.Proofs.YtlmdjhdlfdandaaDoor
