/- Contracts of the program's functions, part 9 of 10: what each call returns and leaves of memory. -/
import Derived.Test.YtlmdjhdlfdandaaDoorPk7
import Derived.Test.YtlmdjhdlfdandaaDoorPk8
import Derived.Deep.MidRow
import Derived.Test.YtlmdjhdlfdandaaDoorPk6
import Derived.Test.YtlmdjhdlfdandaaDoorPk3
import Derived.Test.YtlmdjhdlfdandaaDoorPk4
/- Two made lists of rows that grow row by row, layer by layer (PassOne's keys and values). -/
namespace Go.Proofs.YtlmdjhdlfdandaaDoor
open Go.ChangeShapes Go.WideShapes Go.ChangeAt Go.RowKit
theorem yield_at {w : World} {a : Act} {o : Oper} (ty : TypeId) (x : Operand) (ho : o.op = .load ty x) (ad : Addr) (hx : a.eval x = .pointer (some ad)) (cs : Array Value) (hl : (loadVar ty ad).run Tryd.prog w = .ok (.agg cs) w) : (execOp a.eval o).run Tryd.prog w = .ok (.value (.agg cs)) w := by
  unfold execOp
  simp only [ho, hx, Instr.loadAt, Instr.sureAddr, Sem.run_bind, Sem.run_pure, Result.andThen_ok, hl]
theorem owns_block {w : World} {B n : Nat} {e : TypeId} {v : Value} {vs : List Value} (h : w.ownsRow B e 1 v n vs) {b : Nat} (hb : v.ownBlock = some b) : B ≤ b ∧ ∃ cs, w.heap[b]? = some (.cells cs e (0, 0)) := by
  rcases h.2 with ⟨h1, _⟩ | ⟨g, cap, cur, h1, h2, h3, _⟩
  · rw [h1] at hb; cases hb
  · rw [h1] at hb
    simp only [Value.ownBlock, Option.some.injEq] at hb
    subst hb
    exact ⟨h2, cur, h3⟩
/-- A place of a made list holds a row of rows of the call's own. -/
def SlotAt (B D : Nat) (w : World) (g t : Nat) (R : List (List Int)) (u : Value) : Prop :=
  w.cell? ⟨g, t, none⟩ = some u ∧ ∃ vs, w.ownsRow B 27 1 u R.length vs ∧ ∀ j, j < R.length → ∃ gr, vs[j]? = some (.slice (some ⟨gr, 0, none⟩) D D) ∧ Fresh w B gr D D (rowOf R j)
structure OneI (w0 w : World) (B D L gA gB : Nat) (FA FB : Nat → List (List Int)) : Prop where
  bl : ∀ s, ∃ cs, w.heap[cond s gA gB]? = some (.cells cs 49 (0, 0)) ∧ cs.size = L
  sl : ∀ s t, t < L → ∃ u, SlotAt B D w (cond s gA gB) t (cond s FA FB t) u
  ne : ∀ s t s' t' u u' b, t < L → t' < L → (s ≠ s' ∨ t ≠ t') → w.cell? ⟨cond s gA gB, t, none⟩ = some u → w.cell? ⟨cond s' gA gB, t', none⟩ = some u' → u.ownBlock = some b → u'.ownBlock ≠ some b
  gne : gA ≠ gB
  base : B ≤ gA ∧ B ≤ gB
  kp : Below B w0 w
theorem OneI.lt {w0 w : World} {B D L gA gB : Nat} {FA FB : Nat → List (List Int)} (h : OneI w0 w B D L gA gB FA FB) (s : Bool) : cond s gA gB < w.heap.size := by
  obtain ⟨cs, h1, _⟩ := h.bl s
  exact (Array.getElem?_eq_some_iff.1 h1).1
theorem SlotAt.below {B D g t : Nat} {w w' : World} {R : List (List Int)} {u : Value} (h : SlotAt B D w g t R u) (hb : Below w.heap.size w w') : SlotAt B D w' g t R u := by
  obtain ⟨h1, vs, h2, h3⟩ := h
  exact ⟨cell_keep h1 hb, vs, owns_below h2 hb, fun j hj => let ⟨gr, e, F⟩ := h3 j hj; ⟨gr, e, F.below hb⟩⟩
theorem OneI.below {w0 w w' : World} {B D L gA gB : Nat} {FA FB : Nat → List (List Int)} (h : OneI w0 w B D L gA gB FA FB) (hb : Below w.heap.size w w') (hB : B ≤ w.heap.size) : OneI w0 w' B D L gA gB FA FB := by
  have back : ∀ s t u, t < L → w'.cell? ⟨cond s gA gB, t, none⟩ = some u → w.cell? ⟨cond s gA gB, t, none⟩ = some u := fun s t u _ e => by
    rw [World.cell?_of_block (w := w) (a := ⟨cond s gA gB, t, none⟩) (hb.block _ (h.lt s))] at e
    exact e
  refine ⟨fun s => ?_, fun s t ht => let ⟨u, S⟩ := h.sl s t ht; ⟨u, S.below hb⟩, fun s t s' t' u u' b ht ht' hn e e' hu => h.ne s t s' t' u u' b ht ht' hn (back s t u ht e) (back s' t' u' ht' e') hu, h.gne, h.base, h.kp.trans (hb.mono hB)⟩
  obtain ⟨cs, h1, h2⟩ := h.bl s
  exact ⟨cs, (hb.block _ (h.lt s)).trans h1, h2⟩
/-- One place grew by a row. -/
theorem OneI.step {w0 w w2 : World} {B D L gA gB : Nat} {FA FB FA' FB' : Nat → List (List Int)} (h : OneI w0 w B D L gA gB FA FB) (s : Bool) (t : Nat) (ht : t < L) {u u' : Value} {vs : List Value} {gr : Nat} {X : List Int} {R : List (List Int)} (hR : cond s FA FB t = R) (hB : B ≤ w.heap.size)
    (e : w.cell? ⟨cond s gA gB, t, none⟩ = some u) (O : w.ownsRow B 27 1 u R.length vs) (hv : ∀ j, j < R.length → ∃ gr, vs[j]? = some (.slice (some ⟨gr, 0, none⟩) D D) ∧ Fresh w B gr D D (rowOf R j))
    (O2 : w2.ownsRow B 27 1 u' (R.length + 1) (vs ++ [.slice (some ⟨gr, 0, none⟩) D D])) (hG : w.grownBy w2 u.ownBlock) (hN : ∀ g, u'.ownBlock = some g → u.ownBlock = some g ∨ w.heap.size ≤ g) (hF : Fresh w B gr D D X)
    (h1 : cond s FA' FB' t = R ++ [X]) (h2 : ∀ s' t', t' < L → (s' ≠ s ∨ t' ≠ t) → cond s' FA' FB' t' = cond s' FA FB t') : OneI w0 (w2.setCell ⟨cond s gA gB, t, none⟩ u') B D L gA gB FA' FB' := by
  subst hR
  have bne : ∀ s' b, u.ownBlock = some b → cond s' gA gB ≠ b := fun s' b hb hc => by
    obtain ⟨cs, c1, _⟩ := h.bl s'
    obtain ⟨_, cs2, c2⟩ := owns_block O hb
    rw [hc, c2] at c1
    injection c1 with c1
    injection c1 with _ c3 _
    exact absurd c3 (by decide)
  have keepB : ∀ s', w2.heap[cond s' gA gB]? = w.heap[cond s' gA gB]? := fun s' => hG.block _ (h.lt s') (fun hc => bne s' _ hc.symm rfl)
  have g_of : ∀ s s' : Bool, cond s gA gB = cond s' gA gB → s = s' := fun s s' hc => by
    have := h.gne
    cases s <;> cases s' <;> simp_all
  -- a cell of the lists, other than the one that is written
  have cellO : ∀ s' t' v, (s' ≠ s ∨ t' ≠ t) → ((w2.setCell ⟨cond s gA gB, t, none⟩ u').cell? ⟨cond s' gA gB, t', none⟩ = some v ↔ w.cell? ⟨cond s' gA gB, t', none⟩ = some v) := fun s' t' v hn => by
    rw [World.cell?_setCell_other _ _ _ _ (fun hc => by
      simp only [Addr.mk.injEq, and_true] at hc
      rcases hn with hn | hn
      · exact hn (g_of _ _ hc.1.symm)
      · exact hn hc.2.symm), World.cell?_of_block (w := w) (a := ⟨cond s' gA gB, t', none⟩) (keepB s')]
  have e2 : w2.cell? ⟨cond s gA gB, t, none⟩ = some u := by rw [World.cell?_of_block (w := w) (a := ⟨cond s gA gB, t, none⟩) (keepB s)]; exact e
  have cellS : (w2.setCell ⟨cond s gA gB, t, none⟩ u').cell? ⟨cond s gA gB, t, none⟩ = some u' := World.cell?_setCell_same _ _ _ e2
  -- a row of numbers stays
  have fresh : ∀ {g n c A}, Fresh w B g n c A → Fresh (w2.setCell ⟨cond s gA gB, t, none⟩ u') B g n c A := fun F => by
    refine (F.of_block (hG.block _ F.lt fun hc => ?_)).setOther ?_ _
    · obtain ⟨_, cs2, c2⟩ := owns_block O hc.symm
      exact F.ne c2 (by decide) rfl
    · obtain ⟨cs, c1, _⟩ := h.bl s
      exact F.ne c1 (by decide)
  -- an own row of rows stays, if it isn't that one
  have keepR : ∀ {v n ws}, w.ownsRow B 27 1 v n ws → (∀ b, u.ownBlock = some b → v.ownBlock ≠ some b) → (w2.setCell ⟨cond s gA gB, t, none⟩ u').ownsRow B 27 1 v n ws := fun {v n ws} Ov hn => by
    refine owns_mono Ov (Nat.le_refl _) fun b hb => ?_
    obtain ⟨_, cs2, c2⟩ := owns_block Ov hb
    have lb := (Ov.lt b hb).2
    rw [Below.heap_setCell _ _ _ b (fun hc => by
      obtain ⟨cs, c1, _⟩ := h.bl s
      have hc' : b = cond s gA gB := hc
      rw [← hc', c2] at c1
      injection c1 with c1
      injection c1 with _ c3 _
      exact absurd c3 (by decide))]
    exact hG.block b lb (fun hc => hn b hc.symm hb)
  have O3 : (w2.setCell ⟨cond s gA gB, t, none⟩ u').ownsRow B 27 1 u' ((cond s FA FB t).length + 1) (vs ++ [.slice (some ⟨gr, 0, none⟩) D D]) := by
    refine owns_mono O2 (Nat.le_refl _) fun b hb => ?_
    obtain ⟨_, cs2, c2⟩ := owns_block O2 hb
    exact Below.heap_setCell _ _ _ b (fun hc => by
      obtain ⟨cs, c1, _⟩ := h.bl s
      have hc' : b = cond s gA gB := hc
      rw [← keepB s, ← hc', c2] at c1
      injection c1 with c1
      injection c1 with _ c3 _
      exact absurd c3 (by decide))
  refine ⟨fun s' => ?_, fun s' t' ht' => ?_, fun s1 t1 s2 t2 v v' b l1 l2 hn c1 c2 hv1 hv2 => ?_, h.gne, h.base, ?_⟩
  · obtain ⟨cs, c1, c2⟩ := h.bl s'
    rw [← keepB s'] at c1
    by_cases hs : s' = s
    · subst hs
      exact ⟨cs.setIfInBounds t u', by simp [World.setCell, Array.getElem?_modify, c1], by simpa using c2⟩
    · exact ⟨cs, (Below.heap_setCell _ _ _ _ (fun hc => hs (g_of _ _ hc))).trans c1, c2⟩
  · by_cases hs : s' = s ∧ t' = t
    · obtain ⟨rfl, rfl⟩ := hs
      rw [h1]
      refine ⟨u', cellS, vs ++ [.slice (some ⟨gr, 0, none⟩) D D], by rw [List.length_append, List.length_singleton]; exact O3, fun j hj => ?_⟩
      rw [List.length_append, List.length_singleton] at hj
      have hlv := O.1
      rcases Nat.lt_or_ge j (cond s' FA FB t').length with hj2 | hj2
      · obtain ⟨g2, q1, q2⟩ := hv j hj2
        exact ⟨g2, by rw [List.getElem?_append_left (by omega)]; exact q1, by rw [rowOf_left hj2]; exact fresh q2⟩
      · obtain rfl : j = (cond s' FA FB t').length := by omega
        refine ⟨gr, ?_, by rw [rowOf_last]; exact fresh hF⟩
        rw [List.getElem?_append_right (by omega), show (cond s' FA FB t').length - vs.length = 0 by omega]
        rfl
    · have hn : s' ≠ s ∨ t' ≠ t := by
        by_cases q : s' = s
        · exact Or.inr fun q2 => hs ⟨q, q2⟩
        · exact Or.inl q
      rw [h2 s' t' ht' hn]
      obtain ⟨v, k1, ws, k2, k3⟩ := h.sl s' t' ht'
      refine ⟨v, (cellO s' t' v hn).2 k1, ws, keepR k2 (fun b hb => h.ne s t s' t' u v b ht ht' (hn.imp Ne.symm Ne.symm) e k1 hb), fun j hj => let ⟨g2, q1, q2⟩ := k3 j hj; ⟨g2, q1, fresh q2⟩⟩
  · -- no two share a block
    have oldlt : ∀ s' t' x b, t' < L → w.cell? ⟨cond s' gA gB, t', none⟩ = some x → x.ownBlock = some b → b < w.heap.size := fun s' t' x b ht' hx hb => by
      obtain ⟨y, k1, ws, k2, _⟩ := h.sl s' t' ht'
      rw [hx] at k1
      simp only [Option.some.injEq] at k1
      subst k1
      exact (k2.lt b hb).2
    by_cases a1 : s1 = s ∧ t1 = t
    · obtain ⟨rfl, rfl⟩ := a1
      rw [cellS] at c1
      simp only [Option.some.injEq] at c1
      subst c1
      have hn' : s2 ≠ s1 ∨ t2 ≠ t1 := hn.imp Ne.symm Ne.symm
      have c2' := (cellO s2 t2 v' hn').1 c2
      rcases hN b hv1 with k | k
      · exact h.ne s1 t1 s2 t2 u v' b l1 l2 hn e c2' k hv2
      · have := oldlt s2 t2 v' b l2 c2' hv2; omega
    · have n1 : s1 ≠ s ∨ t1 ≠ t := by
        by_cases q : s1 = s
        · exact Or.inr fun q2 => a1 ⟨q, q2⟩
        · exact Or.inl q
      have c1' := (cellO s1 t1 v n1).1 c1
      by_cases a2 : s2 = s ∧ t2 = t
      · obtain ⟨rfl, rfl⟩ := a2
        rw [cellS] at c2
        simp only [Option.some.injEq] at c2
        subst c2
        rcases hN b hv2 with k | k
        · exact h.ne s1 t1 s2 t2 v u b l1 l2 hn c1' e hv1 k
        · have := oldlt s1 t1 v b l1 c1' hv1; omega
      · have n2 : s2 ≠ s ∨ t2 ≠ t := by
          by_cases q : s2 = s
          · exact Or.inr fun q2 => a2 ⟨q, q2⟩
          · exact Or.inl q
        exact h.ne s1 t1 s2 t2 v v' b l1 l2 hn c1' ((cellO s2 t2 v' n2).1 c2) hv1 hv2
  · refine Below.setCell ?_ (p := ⟨cond s gA gB, t, none⟩) (by have := h.base; cases s; exact this.2; exact this.1) u'
    exact h.kp.trans ⟨hG.os, hG.tape, hG.output, hG.size, fun b hb => hG.block b (Nat.lt_of_lt_of_le hb hB) (fun hc => by have := (owns_block O hc.symm).1; omega)⟩
theorem OneI.congr {w0 w : World} {B D L gA gB : Nat} {FA FB FA' FB' : Nat → List (List Int)} (h : OneI w0 w B D L gA gB FA FB) (hA : ∀ t, t < L → FA' t = FA t) (hB : ∀ t, t < L → FB' t = FB t) : OneI w0 w B D L gA gB FA' FB' :=
  ⟨h.bl, fun s t ht => by
    obtain ⟨u, S⟩ := h.sl s t ht
    refine ⟨u, ?_⟩
    cases s
    · show SlotAt _ _ _ _ _ (FB' t) _
      rw [hB t ht]; exact S
    · show SlotAt _ _ _ _ _ (FA' t) _
      rw [hA t ht]; exact S, h.ne, h.gne, h.base, h.kp⟩
theorem OneI.turn {w0 w : World} {B D L gA gB : Nat} {FA FB : Nat → List (List Int)} (h : OneI w0 w B D L gA gB FA FB) : OneI w0 w B D L gB gA FB FA := by
  have e1 : ∀ s : Bool, cond s gB gA = cond (!s) gA gB := fun s => by cases s <;> rfl
  have e2 : ∀ (s : Bool) t, cond s FB FA t = cond (!s) FA FB t := fun s t => by cases s <;> rfl
  refine ⟨fun s => by rw [e1]; exact h.bl _, fun s t ht => by rw [e1, e2]; exact h.sl _ t ht, fun s t s' t' u u' b ht ht' hn c c' hu => ?_, h.gne.symm, ⟨h.base.2, h.base.1⟩, h.kp⟩
  rw [e1] at c c'
  exact h.ne (!s) t (!s') t' u u' b ht ht' (by rcases hn with hn | hn; exact Or.inl (fun q => hn (by simpa using q)); exact Or.inr hn) c c' hu
/-- A place, as a slice. -/
theorem OneI.at {w0 w : World} {B D L gA gB : Nat} {FA FB : Nat → List (List Int)} (h : OneI w0 w B D L gA gB FA FB) (s : Bool) (t : Nat) (ht : t < L) {R : List (List Int)} (hR : cond s FA FB t = R) : ∃ ua uc vs, w.cell? ⟨cond s gA gB, t, none⟩ = some (.slice ua R.length uc) ∧ w.ownsRow B 27 1 (.slice ua R.length uc) R.length vs ∧ ∀ j, j < R.length → ∃ gr, vs[j]? = some (.slice (some ⟨gr, 0, none⟩) D D) ∧ Fresh w B gr D D (rowOf R j) := by
  obtain ⟨u, k1, vs, k2, k3⟩ := h.sl s t ht
  rw [hR] at k2 k3
  obtain ⟨a, c, e⟩ := owns_slice k2
  subst e
  exact ⟨a, c, vs, k1, k2, k3⟩
/-- The lists stay where a row of rows grows. -/
theorem OneI.grown {w0 w w2 : World} {B D L gA gB n : Nat} {FA FB : Nat → List (List Int)} {u : Value} {vs : List Value} (h : OneI w0 w B D L gA gB FA FB) (O : w.ownsRow B 27 1 u n vs) (hG : w.grownBy w2 u.ownBlock) (s : Bool) (t : Nat) {v : Value} (e : w.cell? ⟨cond s gA gB, t, none⟩ = some v) : w2.cell? ⟨cond s gA gB, t, none⟩ = some v ∧ w2.frozen? ⟨cond s gA gB, t, none⟩ = false := by
  have keepB : w2.heap[cond s gA gB]? = w.heap[cond s gA gB]? := hG.block _ (h.lt s) (fun hc => by
    obtain ⟨cs, c1, _⟩ := h.bl s
    obtain ⟨_, cs2, c2⟩ := owns_block O hc.symm
    rw [c2] at c1
    injection c1 with c1
    injection c1 with _ c3 _
    exact absurd c3 (by decide))
  obtain ⟨cs, c1, _⟩ := h.bl s
  refine ⟨by rw [World.cell?_of_block (w := w) (a := ⟨cond s gA gB, t, none⟩) keepB]; exact e, ?_⟩
  unfold World.frozen?
  simp only [keepB, c1]
  rfl
theorem rangeAt_below {w w' : World} {b o : Nat} {cs : List Value} (h : w.rangeAt b o cs) (hc : cs ≠ []) (hb : Below w.heap.size w w') : w'.rangeAt b o cs := by
  cases cs with
  | nil => exact absurd rfl hc
  | cons v r =>
    have c0 := h 0 v rfl
    have hlt : b < w.heap.size := by simpa using World.block_lt_of_cell? w _ c0
    exact rangeAt_block h (hb.block b hlt)
/-- A row of numbers stays where a row of rows grows and is told. -/
theorem OneI.keepF {w0 w w2 : World} {B D L gA gB n g m c : Nat} {FA FB : Nat → List (List Int)} {u u' : Value} {vs : List Value} {A : List Int} (h : OneI w0 w B D L gA gB FA FB) (O : w.ownsRow B 27 1 u n vs) (hG : w.grownBy w2 u.ownBlock) (s : Bool) (t : Nat) (F : Fresh w B g m c A) : Fresh (w2.setCell ⟨cond s gA gB, t, none⟩ u') B g m c A := by
  refine (F.of_block (hG.block _ F.lt fun hc => ?_)).setOther ?_ _
  · obtain ⟨_, cs2, c2⟩ := owns_block O hc.symm
    exact F.ne c2 (by decide) rfl
  · obtain ⟨cs, c1, _⟩ := h.bl s
    exact F.ne c1 (by decide)
/-- At the end: a cube. -/
theorem OneI.cube {w0 w : World} {B D L gA gB : Nat} {FA FB : Nat → List (List Int)} (h : OneI w0 w B D L gA gB FA FB) (s : Bool) {C : List (List (List Int))} (hC : C.length = L) (hL : L ≤ 9223372036854775807) (hF : ∀ t, t < L → C.getD t [] = cond s FA FB t) (hn : ∀ t, t < L → (C.getD t []).length ≤ 9223372036854775807) : CubeAt w (some ⟨cond s gA gB, 0, none⟩) L C := by
  refine ⟨hC, hL, fun _ => ⟨cond s gA gB, 0, rfl, fun t R hR => ?_⟩⟩
  have ht : t < L := by have := (List.getElem?_eq_some_iff.1 hR).1; omega
  have hRe : C.getD t [] = R := by rw [List.getD_eq_getElem?_getD, hR]; rfl
  obtain ⟨u, k1, vs, k2, k3⟩ := h.sl s t ht
  rw [← hF t ht, hRe] at k2 k3
  have hn' := hn t ht
  rw [hRe] at hn'
  obtain ⟨a, c, e⟩ := owns_slice k2
  subst e
  refine ⟨a, R.length, c, by rw [Nat.zero_add]; exact k1, ?_, ?_, ?_, ?_⟩
  · intro ha
    subst ha
    rcases k2.2 with ⟨q1, _⟩ | ⟨_, _, _, q1, _⟩
    · have q1' : R = [] ∧ c = 0 := by simpa using q1
      exact q1'.2
    · simp at q1
  · rcases k2.2 with ⟨q1, q2⟩ | ⟨_, _, _, q1, _, _, q4, _⟩
    · omega
    · simp only [Value.slice.injEq] at q1
      obtain ⟨-, -, rfl⟩ := q1
      exact q4
  · rcases k2.2 with ⟨q1, q2⟩ | ⟨_, _, _, q1, _, _, q4, q5, _⟩
    · simp only [Value.slice.injEq] at q1
      omega
    · simp only [Value.slice.injEq] at q1
      obtain ⟨-, -, rfl⟩ := q1
      unfold maxLen at q5
      exact q5
  · refine ⟨rfl, hn', fun h0 => ?_⟩
    rcases k2.2 with ⟨q1, q2⟩ | ⟨g, cap, cur, q1, _⟩
    · omega
    · simp only [Value.slice.injEq] at q1
      obtain ⟨rfl, -, rfl⟩ := q1
      refine ⟨g, 0, rfl, fun j hj => ?_⟩
      obtain ⟨gr, p1, p2⟩ := k3 j hj
      have hc := k2.cells (g := g) rfl j _ p1
      have e3 : (Addr.mk g 0 none).add j = ⟨g, j, none⟩ := by simp [Addr.add]; intro h; exact h.symm
      rw [e3] at hc
      exact ⟨_, D, D, by rw [Nat.zero_add]; exact hc, p2.arg⟩
/-- A place's list, as One takes it. -/
theorem SlotAt.grid {B D g t : Nat} {w : World} {R : List (List Int)} {u : Value} (h : SlotAt B D w g t R u) (hn : R.length ≤ 9223372036854775807) : ∃ ao c, u = .slice ao R.length c ∧ (ao = none → c = 0) ∧ GridAt w ao R.length R := by
  obtain ⟨k1, vs, k2, k3⟩ := h
  obtain ⟨a, c, e⟩ := owns_slice k2
  subst e
  refine ⟨a, c, rfl, ?_, rfl, hn, fun h0 => ?_⟩
  · intro ha
    subst ha
    rcases k2.2 with ⟨q1, _⟩ | ⟨_, _, _, q1, _⟩
    · have q1' : R = [] ∧ c = 0 := by simpa using q1
      exact q1'.2
    · simp at q1
  · rcases k2.2 with ⟨q1, q2⟩ | ⟨g, cap, cur, q1, _⟩
    · omega
    · simp only [Value.slice.injEq] at q1
      obtain ⟨rfl, -, rfl⟩ := q1
      refine ⟨g, 0, rfl, fun j hj => ?_⟩
      obtain ⟨gr, p1, p2⟩ := k3 j hj
      have hc := k2.cells (g := g) rfl j _ p1
      have e3 : (Addr.mk g 0 none).add j = ⟨g, j, none⟩ := by simp [Addr.add]; intro h; exact h.symm
      rw [e3] at hc
      exact ⟨_, D, D, by rw [Nat.zero_add]; exact hc, p2.arg⟩
/-- Two lists that were made. -/
theorem oneI_made (w : World) (D L : Nat) : OneI w ((w.alloc (.cells (madeCells #[.slice none 0 0] L) 49)).alloc (.cells (madeCells #[.slice none 0 0] L) 49)) w.heap.size D L w.heap.size (w.alloc (.cells (madeCells #[.slice none 0 0] L) 49)).heap.size (fun _ => []) (fun _ => []) := by
  have B1 : Below w.heap.size w (w.alloc (.cells (madeCells #[.slice none 0 0] L) 49)) := (Below.refl _ _).alloc (Nat.le_refl _) _
  have h1 := heap_alloc_new w (.cells (madeCells #[.slice none 0 0] L) 49)
  generalize hw1 : w.alloc (.cells (madeCells #[.slice none 0 0] L) 49) = w1 at *
  have B2 : Below w1.heap.size w1 (w1.alloc (.cells (madeCells #[.slice none 0 0] L) 49)) := (Below.refl _ _).alloc (Nat.le_refl _) _
  have h2 := heap_alloc_new w1 (.cells (madeCells #[.slice none 0 0] L) 49)
  generalize hw2 : w1.alloc (.cells (madeCells #[.slice none 0 0] L) 49) = w2 at *
  have hlt : w.heap.size < w1.heap.size := (Array.getElem?_eq_some_iff.1 h1).1
  have h1' : w2.heap[w.heap.size]? = some (.cells (madeCells #[.slice none 0 0] L) 49 (0, 0)) := (B2.block _ hlt).trans h1
  have hb : ∀ s : Bool, w2.heap[cond s w.heap.size w1.heap.size]? = some (.cells (madeCells #[.slice none 0 0] L) 49 (0, 0)) := fun s => by cases s; exact h2; exact h1'
  have hc : ∀ (s : Bool) t, t < L → w2.cell? ⟨cond s w.heap.size w1.heap.size, t, none⟩ = some (.slice none 0 0) := fun s t ht => by
    unfold World.cell?
    simp only [hb s]
    simp [madeCells, ht, Nat.mod_one]
  refine ⟨fun s => ⟨_, hb s, by simp [madeCells]⟩, fun s t ht => ⟨_, hc s t ht, [], ?_, fun j hj => ?_⟩, fun s t s' t' u u' b ht ht' _ e _ hu => ?_, by omega, ⟨Nat.le_refl _, by omega⟩, B1.trans (B2.mono B1.size)⟩
  · cases s <;> exact World.ownsRow_nil _ _ _ _
  · cases s <;> simp at hj
  · rw [hc s t ht] at e
    simp only [Option.some.injEq] at e
    subst e
    cases hu
/-- The row that goes into layer l for a token more. -/
def xs1 (M : Mdl) (D H Hd : Nat) (A : List Int) (t : Int) : Nat → List Int
  | 0 => begR M.E D t.toNat A.length
  | l + 1 => oneR (layAt M l) D H Hd (xs1 M D H Hd A t l) (keysR (layAt M l) D (rowsL M D H Hd A l)) (valsR (layAt M l) D (rowsL M D H Hd A l)) A.length
theorem rowsL_one (M : Mdl) (D H Hd : Nat) (A : List Int) (t : Int) : ∀ l, rowsL M D H Hd (A ++ [t]) l = rowsL M D H Hd A l ++ [xs1 M D H Hd A t l]
  | 0 => begL_snoc M.E D A t
  | l + 1 => by
    show madeR _ _ _ _ (rowsL M D H Hd (A ++ [t]) l) = _
    rw [rowsL_one M D H Hd A t l, madeR_snoc, rowsL_len]
    rfl
end Go.Proofs.YtlmdjhdlfdandaaDoor

/- The document's layer 8: what is liked, and all tokens one behind the other. Written by tools/genr8d.py. -/
namespace Go.Proofs.YtlmdjhdlfdandaaDoor
open Go.ChangeShapes Go.WideShapes Go.ChangeAt Go.RowKit
set_option maxRecDepth 100000 in
set_option maxHeartbeats 4000000 in
theorem rlikes_any (V D H n k : Nat) (W : Wt) (bs : List Bk) (M : Mdl) (sr sk sv : Sl) (C : List (List (List Int))) (R : List (List Int)) (w : World) (hW : WtAt w V D H W bs M) (hC : DCube w sr C) (hk : C.length = k + 1) (hR : C[k]? = some R) (hn : R.length = n + 1) (hx : (rowOf R n).length = D) (h1 : 1 ≤ D) (h2 : D ≤ 5000) :
   Calls Tryd.prog 21 #[.agg W.cells, .agg #[sr.v, sk.v, sv.v]] w fun e w' => ∃ g cap, e = .returned (.slice (some ⟨g, 0, none⟩) V cap) ∧ Fresh w' w.heap.size g V cap (likR M V D (rowOf R n)) ∧ Below w.heap.size w w' := by
  have hl := hC.len
  have hks : k ≤ 1000 := by have := hC.small; omega
  obtain ⟨b, o, e0, hc⟩ := hC.cells (by omega)
  obtain ⟨b1, o1, n1, c1, k1, k2, k3, GR⟩ := hc k R hR
  have hg := GR.len
  obtain rfl : n1 = n + 1 := by omega
  obtain ⟨b2, o2, e1, hc2⟩ := GR.cells (by omega)
  simp only [Option.some.injEq, Addr.mk.injEq, and_true] at e1
  obtain ⟨rfl, rfl⟩ := e1
  obtain ⟨ro, m, c, y1, AR⟩ := hc2 n (by omega)
  obtain rfl : D = m := by have := AR.row.len; omega
  have hcap := GR.max
  obtain ⟨⟨er, ec, ⟨ea, en, ez⟩⟩, ⟨ba, bn, bz⟩, ⟨la, ln, lz⟩, ⟨or, oc, od⟩⟩ := W
  obtain ⟨ob, oo, on, oz, e1, MO⟩ := hW.o
  simp only [Mt.mk.injEq] at e1
  obtain ⟨rfl, rfl, rfl⟩ := e1
  obtain ⟨e2, AL⟩ := hW.l
  simp only at e2 AL
  replace e2 := e2.symm
  subst e2
  obtain ⟨ra, rn, rz⟩ := sr
  simp only at e0 hl
  subst e0
  obtain rfl : rn = k + 1 := by omega
  obtain ⟨ka, kn, kz⟩ := sk
  obtain ⟨va, vn, vz⟩ := sv
  have HMO : Hid (∀ W, Below w.heap.size w W → MatAt W V D ob oo on oz M.O) := fun W hb => MO.below hb
  have HAL : Hid (∀ W, Below w.heap.size w W → Arg W la D lz M.G) := fun W hb => AL.below hb
  have HAR : Hid (∀ W, Below w.heap.size w W → Arg W ro D c (rowOf R n)) := fun W hb => AR.below hb
  have HY : Hid (∀ W, Below w.heap.size w W → W.cell? ⟨b1, o1 + n, none⟩ = some (.slice ro D c)) := fun W hb => cell_keep y1 hb
  clear hW hC hc hc2 GR MO AL AR hx hR hg hn
  show Calls Tryd.prog 21 #[.agg #[.int .i64 er, .int .i64 ec, .slice ea en ez, .slice ba bn bz, .slice la D lz, .int .i64 (V : Int), .int .i64 (D : Int), .slice (some ⟨ob, oo, none⟩) on oz], .agg #[.slice (some ⟨b, o, none⟩) (k + 1) rz, .slice ka kn kz, .slice va vn vz]] w _
  have X0 := blk_new w 65 #[.int .i64 er, .int .i64 ec, .slice ea en ez, .slice ba bn bz, .slice la D lz, .int .i64 (V : Int), .int .i64 (D : Int), .slice (some ⟨ob, oo, none⟩) on oz]
  have B0 := below_alloc8 w (.cells #[.int .i64 er, .int .i64 ec, .slice ea en ez, .slice ba bn bz, .slice la D lz, .int .i64 (V : Int), .int .i64 (D : Int), .slice (some ⟨ob, oo, none⟩) on oz] 65)
  have s0 : (w.alloc (.cells #[.int .i64 er, .int .i64 ec, .slice ea en ez, .slice ba bn bz, .slice la D lz, .int .i64 (V : Int), .int .i64 (D : Int), .slice (some ⟨ob, oo, none⟩) on oz] 65)).heap.size = w.heap.size + 1 := by simp
  generalize hw0 : w.alloc (.cells #[.int .i64 er, .int .i64 ec, .slice ea en ez, .slice ba bn bz, .slice la D lz, .int .i64 (V : Int), .int .i64 (D : Int), .slice (some ⟨ob, oo, none⟩) on oz] 65) = wx0 at *
  have X1 := blk_new wx0 68 #[.slice (some ⟨b, o, none⟩) (k + 1) rz, .slice ka kn kz, .slice va vn vz]
  have B1 := below_alloc8 wx0 (.cells #[.slice (some ⟨b, o, none⟩) (k + 1) rz, .slice ka kn kz, .slice va vn vz] 68)
  have s1 : (wx0.alloc (.cells #[.slice (some ⟨b, o, none⟩) (k + 1) rz, .slice ka kn kz, .slice va vn vz] 68)).heap.size = wx0.heap.size + 1 := by simp
  generalize hw1 : wx0.alloc (.cells #[.slice (some ⟨b, o, none⟩) (k + 1) rz, .slice ka kn kz, .slice va vn vz] 68) = wx1 at *
  have X01 := X0.below B1
  have D1 := below_then B0 B1
  have z0 : wx1.cell? ⟨wx0.heap.size, 0, none⟩ = some (.slice (some ⟨b, o, none⟩) (k + 1) rz) := X1.cell 0 rfl
  have k1' := cell_keep k1 D1
  have HX : Hid (Blk wx1 w.heap.size 65 #[.int .i64 er, .int .i64 ec, .slice ea en ez, .slice ba bn bz, .slice la D lz, .int .i64 (V : Int), .int .i64 (D : Int), .slice (some ⟨ob, oo, none⟩) on oz]) := X01
  clear X0 X1 B0 B1 s0 s1 X01 k1
  go_enter Tryd.func21, Tryd.ntmps21
  go_upto_region 2 with fail
  clear hw0 hw1 z0 k1'
  have E0 : Below wx1.heap.size wx1 wx1.drew := (Below.refl _ wx1).drew
  have XE := HX.out.below E0
  have D2 := below_then D1 E0
  have SJ := And.intro XE (HY.out _ D2)
  have wn : IntKind.i64.wrap (n : Int) = (n : Int) := w64_in (by omega)
  refine wp_region_held_drew (S := fun w' => Blk w' w.heap.size 65 #[.int .i64 er, .int .i64 ec, .slice ea en ez, .slice ba bn bz, .slice la D lz, .int .i64 (V : Int), .int .i64 (D : Int), .slice (some ⟨ob, oo, none⟩) on oz] ∧ w'.cell? ⟨b1, o1 + n, none⟩ = some (.slice ro D c)) (by kernel_rfl) (SJ) (fun hHeld => ?_)
  generalize wx1.drew = wj at *
  refine wpAnyH_take (i := 0) (v := (.pointer (some ⟨w.heap.size, 5, none⟩))) rfl (by kernel_rfl) (by kernel_rfl) (by kernel_rfl) (fun _ _ _ h => h) (Or.inl ⟨by rfl, ?_⟩) (by assumption) ?_
  · intro w' hSw
    go_simp
  simp only [List.getElem_toArray, List.getElem_cons_zero, Act.put, List.setIfInBounds_toArray, List.set_cons_zero, List.set_cons_succ]
  refine wpAnyH_take (i := 1) (v := (.agg #[.int .i64 (V : Int), .int .i64 (D : Int), .slice (some ⟨ob, oo, none⟩) on oz])) rfl (by kernel_rfl) (by kernel_rfl) (by kernel_rfl) (fun _ _ _ h => h) (Or.inl ⟨by rfl, ?_⟩) (by assumption) ?_
  · intro w' hSw
    have y5 : w'.cell? ⟨w.heap.size, 5, none⟩ = some (.int .i64 (V : Int)) := hSw.1.cell 5 rfl
    have y6 : w'.cell? ⟨w.heap.size, 6, none⟩ = some (.int .i64 (D : Int)) := hSw.1.cell 6 rfl
    have y7 : w'.cell? ⟨w.heap.size, 7, none⟩ = some (.slice (some ⟨ob, oo, none⟩) on oz) := hSw.1.cell 7 rfl
    go_simp
  simp only [List.getElem_toArray, List.getElem_cons_succ, List.getElem_cons_zero, Act.put, List.setIfInBounds_toArray, List.set_cons_zero, List.set_cons_succ]
  refine wpAnyH_take (i := 2) (v := (.slice (some ⟨b1, o1, none⟩) (n + 1) c1)) rfl (by kernel_rfl) (by kernel_rfl) (by kernel_rfl) (fun _ _ _ h => h) (Or.inl ⟨by rfl, ?_⟩) (by assumption) ?_
  · intro w' hSw
    go_simp
  simp only [List.getElem_toArray, List.getElem_cons_succ, List.getElem_cons_zero, Act.put, List.setIfInBounds_toArray, List.set_cons_zero, List.set_cons_succ]
  refine wpAnyH_take (i := 3) (v := (.slice (some ⟨b1, o1, none⟩) (n + 1) c1)) rfl (by kernel_rfl) (by kernel_rfl) (by kernel_rfl) (fun _ _ _ h => h) (Or.inl ⟨by rfl, ?_⟩) (by assumption) ?_
  · intro w' hSw
    go_simp
  simp only [List.getElem_toArray, List.getElem_cons_succ, List.getElem_cons_zero, Act.put, List.setIfInBounds_toArray, List.set_cons_zero, List.set_cons_succ]
  refine wpAnyH_take (i := 4) (v := (.int .i64 ((n + 1 : Nat) : Int))) rfl (by kernel_rfl) (by kernel_rfl) (by kernel_rfl) (fun _ _ _ h => h) (Or.inl ⟨by rfl, ?_⟩) (by assumption) ?_
  · intro w' hSw
    go_simp
  simp only [List.getElem_toArray, List.getElem_cons_succ, List.getElem_cons_zero, Act.put, List.setIfInBounds_toArray, List.set_cons_zero, List.set_cons_succ]
  refine wpAnyH_take (i := 5) (v := (.int .i64 (n : Int))) rfl (by kernel_rfl) (by kernel_rfl) (by kernel_rfl) (fun _ _ _ h => h) (Or.inl ⟨by rfl, ?_⟩) (by assumption) ?_
  · intro w' hSw
    go_simp
  simp only [List.getElem_toArray, List.getElem_cons_succ, List.getElem_cons_zero, Act.put, List.setIfInBounds_toArray, List.set_cons_zero, List.set_cons_succ]
  refine wpAnyH_take (i := 6) (v := (.pointer (some ⟨b1, o1 + n, none⟩))) rfl (by kernel_rfl) (by kernel_rfl) (by kernel_rfl) (fun _ _ _ h => h) (Or.inl ⟨by rfl, ?_⟩) (by assumption) ?_
  · intro w' hSw
    go_simp; intro h9; omega
  simp only [List.getElem_toArray, List.getElem_cons_succ, List.getElem_cons_zero, Act.put, List.setIfInBounds_toArray, List.set_cons_zero, List.set_cons_succ]
  refine wpAnyH_take (i := 7) (v := (.slice ro D c)) rfl (by kernel_rfl) (by kernel_rfl) (by kernel_rfl) (fun _ _ _ h => h) (Or.inl ⟨by rfl, ?_⟩) (by assumption) ?_
  · intro w' hSw
    have y9 := hSw.2
    go_simp
  simp only [List.getElem_toArray, List.getElem_cons_succ, List.getElem_cons_zero, Act.put, List.setIfInBounds_toArray, List.set_cons_zero, List.set_cons_succ]
  refine wpAnyH_take (i := 8) (v := (.pointer (some ⟨w.heap.size, 4, none⟩))) rfl (by kernel_rfl) (by kernel_rfl) (by kernel_rfl) (fun _ _ _ h => h) (Or.inl ⟨by rfl, ?_⟩) (by assumption) ?_
  · intro w' hSw
    go_simp
  simp only [List.getElem_toArray, List.getElem_cons_succ, List.getElem_cons_zero, Act.put, List.setIfInBounds_toArray, List.set_cons_zero, List.set_cons_succ]
  refine wpAnyH_take (i := 9) (v := (.slice la D lz)) rfl (by kernel_rfl) (by kernel_rfl) (by kernel_rfl) (fun _ _ _ h => h) (Or.inl ⟨by rfl, ?_⟩) (by assumption) ?_
  · intro w' hSw
    have y4 : w'.cell? ⟨w.heap.size, 4, none⟩ = some (.slice la D lz) := hSw.1.cell 4 rfl
    go_simp
  simp only [List.getElem_toArray, List.getElem_cons_succ, List.getElem_cons_zero, Act.put, List.setIfInBounds_toArray, List.set_cons_zero, List.set_cons_succ]
  refine wpAnyH_ready (rs := [10]) (by kernel_rfl) (by simp) ?_
  refine AllReadyH.cons rfl (fun Kc hKc => ?_) AllReadyH.nil
  simp only [List.getElem_toArray, List.getElem_cons_succ, List.getElem_cons_zero]
  rw [if_pos (by rfl)]
  go_wp2_with fail
  refine (refNorm_any _ _ D _ _ (rowOf R n) M.G _ (HAR.out _ D2).row (HAL.out _ D2).row h1 (by omega)).mono ?_
  rintro e w2 ⟨gm, cm, rfl, FM, U1⟩
  have D3 := below_then D2 U1
  go_wp2_with fail
  refine hKc.out _ _ (⟨XE.below U1, HY.out _ D3⟩) (fun hHeld => ?_)
  clear hKc Kc
  refine wpAnyH_ready (rs := [11]) (by kernel_rfl) (by simp) ?_
  refine AllReadyH.cons rfl (fun Kc hKc => ?_) AllReadyH.nil
  simp only [List.getElem_toArray, List.getElem_cons_succ, List.getElem_cons_zero]
  rw [if_pos (by rfl)]
  go_wp2_with fail
  refine (refApply_any V D ob oo on oz M.O _ _ _ _ (HMO.out _ D3) FM.rowAt).mono ?_
  rintro e w3 ⟨gz, cz, rfl, FZ, U2⟩
  have D4 := below_then D3 U2
  go_wp2_with fail
  refine hKc.out _ _ (⟨(XE.below U1).below U2, HY.out _ D4⟩) (fun hHeld => ?_)
  clear hKc Kc
  refine wpAnyH_take (i := 12) (v := (.slice (some ⟨gz, 0, none⟩) V cz)) rfl (by kernel_rfl) (by kernel_rfl) (by kernel_rfl) (fun _ _ _ h => h) (Or.inl ⟨by rfl, ?_⟩) (by assumption) ?_
  · intro w' hSw
    go_simp
  simp only [List.getElem_toArray, List.getElem_cons_succ, List.getElem_cons_zero, Act.put, List.setIfInBounds_toArray, List.set_cons_zero, List.set_cons_succ]
  refine wpAnyH_done (by kernel_rfl) ?_ _
  go_wp2
  go_ret
  exact ⟨gz, cz, rfl, FZ.mono D3.size, D4⟩
/-- What the document keeps of tokens: nothing of none. -/
def fR (M : Mdl) (D H Hd L : Nat) (A : List Int) : List (List (List Int)) := if A.length = 0 then [] else (List.range (L + 1)).map (rowsL M D H Hd A)
def fK (M : Mdl) (D H Hd L : Nat) (A : List Int) : List (List (List Int)) := if A.length = 0 then [] else fullK M D H Hd L A
def fV (M : Mdl) (D H Hd L : Nat) (A : List Int) : List (List (List Int)) := if A.length = 0 then [] else fullV M D H Hd L A
theorem rowsL_nil (M : Mdl) (D H Hd l : Nat) : rowsL M D H Hd [] l = [] := List.length_eq_zero_iff.1 (rowsL_len M D H Hd [] l)
theorem fR_at (M : Mdl) (D H Hd L : Nat) (A : List Int) {l : Nat} (h : l ≤ L) : (fR M D H Hd L A).getD l [] = rowsL M D H Hd A l := by
  unfold fR
  split
  · rename_i h0
    obtain rfl : A = [] := List.length_eq_zero_iff.1 h0
    rw [rowsL_nil]; rfl
  · rw [List.getD_eq_getElem?_getD, List.getElem?_map, List.getElem?_range (by omega)]; rfl
theorem fK_at (M : Mdl) (D H Hd L : Nat) (A : List Int) {l : Nat} (h : l < L) : (fK M D H Hd L A).getD l [] = keysR (layAt M l) D (rowsL M D H Hd A l) := by
  unfold fK
  split
  · rename_i h0
    obtain rfl : A = [] := List.length_eq_zero_iff.1 h0
    rw [rowsL_nil]; rfl
  · exact fullK_at _ _ _ _ _ _ h
theorem fV_at (M : Mdl) (D H Hd L : Nat) (A : List Int) {l : Nat} (h : l < L) : (fV M D H Hd L A).getD l [] = valsR (layAt M l) D (rowsL M D H Hd A l) := by
  unfold fV
  split
  · rename_i h0
    obtain rfl : A = [] := List.length_eq_zero_iff.1 h0
    rw [rowsL_nil]; rfl
  · exact fullV_at _ _ _ _ _ _ h
theorem f_cached (M : Mdl) (D H Hd L : Nat) (A : List Int) : Cached M D H Hd L ⟨A, fK M D H Hd L A, fV M D H Hd L A⟩ A := ⟨rfl, fun _ h => fK_at M D H Hd L A h, fun _ h => fV_at M D H Hd L A h⟩
theorem f_step (M : Mdl) (D H Hd L : Nat) (A : List Int) (t : Int) {l : Nat} (h : l ≤ L) : xRow M D H Hd A.length (fK M D H Hd L A) (fV M D H Hd L A) (begR M.E D t.toNat A.length) l = rowOf (rowsL M D H Hd (A ++ [t]) l) A.length ∧ rowsL M D H Hd (A ++ [t]) l = rowsL M D H Hd A l ++ [xRow M D H Hd A.length (fK M D H Hd L A) (fV M D H Hd L A) (begR M.E D t.toNat A.length) l] := by
  have e := rowsL_snoc (f_cached M D H Hd L A) t l h
  refine ⟨?_, e⟩
  rw [e]
  have := rowOf_last (rowsL M D H Hd A l) (xRow M D H Hd A.length (fK M D H Hd L A) (fV M D H Hd L A) (begR M.E D t.toNat A.length) l)
  rw [rowsL_len] at this
  exact this.symm
theorem goR_f (M : Mdl) (D H Hd L : Nat) (A : List Int) (t : Int) : (List.range (L + 1)).map (goR M D H Hd A.length (fR M D H Hd L A) (fK M D H Hd L A) (fV M D H Hd L A) (begR M.E D t.toNat A.length)) = fR M D H Hd L (A ++ [t]) := by
  have h0 : ¬ (A ++ [t]).length = 0 := by simp
  unfold fR
  rw [if_neg h0]
  refine List.map_congr_left fun l hl => ?_
  have hl' : l ≤ L := by have := List.mem_range.1 hl; omega
  show (fR M D H Hd L A).getD l [] ++ _ = _
  rw [fR_at M D H Hd L A hl', (f_step M D H Hd L A t hl').2]
theorem goK_f (M : Mdl) (D H Hd L : Nat) (A : List Int) (t : Int) : (List.range L).map (goK M D H Hd A.length (fK M D H Hd L A) (fV M D H Hd L A) (begR M.E D t.toNat A.length)) = fK M D H Hd L (A ++ [t]) := by
  have h0 : ¬ (A ++ [t]).length = 0 := by simp
  have e : fK M D H Hd L (A ++ [t]) = fullK M D H Hd L (A ++ [t]) := by unfold fK; rw [if_neg h0]
  rw [e]
  unfold fullK
  refine List.map_congr_left fun l hl => ?_
  have hl' : l < L := List.mem_range.1 hl
  show (fK M D H Hd L A).getD l [] ++ _ = _
  rw [fK_at M D H Hd L A hl', (f_step M D H Hd L A t (by omega)).2]
  unfold keysR
  rw [List.map_append]
  rfl
theorem goV_f (M : Mdl) (D H Hd L : Nat) (A : List Int) (t : Int) : (List.range L).map (goV M D H Hd A.length (fK M D H Hd L A) (fV M D H Hd L A) (begR M.E D t.toNat A.length)) = fV M D H Hd L (A ++ [t]) := by
  have h0 : ¬ (A ++ [t]).length = 0 := by simp
  have e : fV M D H Hd L (A ++ [t]) = fullV M D H Hd L (A ++ [t]) := by unfold fV; rw [if_neg h0]
  rw [e]
  unfold fullV
  refine List.map_congr_left fun l hl => ?_
  have hl' : l < L := List.mem_range.1 hl
  show (fV M D H Hd L A).getD l [] ++ _ = _
  rw [fV_at M D H Hd L A hl', (f_step M D H Hd L A t (by omega)).2]
  unfold valsR
  rw [List.map_append]
  rfl
theorem f_m (M : Mdl) (D H Hd L : Nat) (A : List Int) : (if (fR M D H Hd L A).length = 0 then 0 else ((fR M D H Hd L A).getD 0 []).length) = A.length := by
  rw [fR_at M D H Hd L A (Nat.zero_le _), rowsL_len]
  unfold fR
  by_cases h : A.length = 0
  · rw [if_pos h, h]; rfl
  · rw [if_neg h, if_neg (by simp)]
theorem fK_rows (M : Mdl) (D H Hd L : Nat) (A : List Int) (l : Nat) (h : l < L) : ((fK M D H Hd L A).getD l []).length = A.length ∧ ∀ t, t < A.length → (rowOf ((fK M D H Hd L A).getD l []) t).length = D := by
  rw [fK_at M D H Hd L A h]
  refine ⟨by unfold keysR; rw [List.length_map, rowsL_len], fun t ht => ?_⟩
  rw [keysR_at _ _ (by rw [rowsL_len]; exact ht)]
  exact apl_len _ _ _ _
theorem fV_rows (M : Mdl) (D H Hd L : Nat) (A : List Int) (l : Nat) (h : l < L) : ((fV M D H Hd L A).getD l []).length = A.length ∧ ∀ t, t < A.length → (rowOf ((fV M D H Hd L A).getD l []) t).length = D := by
  rw [fV_at M D H Hd L A h]
  refine ⟨by unfold valsR; rw [List.length_map, rowsL_len], fun t ht => ?_⟩
  rw [valsR_at _ _ (by rw [rowsL_len]; exact ht)]
  exact apl_len _ _ _ _
theorem fKV_len (M : Mdl) (D H Hd L : Nat) (A : List Int) : (fK M D H Hd L A).length = (fV M D H Hd L A).length := by
  unfold fK fV
  split
  · rfl
  · simp [fullK, fullV]
theorem fR_small (M : Mdl) (D H Hd L : Nat) (A : List Int) (hA : A.length ≤ 1000) (l : Nat) : ((fR M D H Hd L A).getD l []).length ≤ 1000 := by
  by_cases h : l ≤ L
  · rw [fR_at M D H Hd L A h, rowsL_len]; exact hA
  · have : (fR M D H Hd L A).length ≤ l := by unfold fR; split <;> simp; omega
    rw [List.getD_eq_getElem?_getD, List.getElem?_eq_none this]
    simp
theorem take_step {A : List Int} {i : Nat} (h : i < A.length) : A.take (i + 1) = A.take i ++ [el A i] := by
  unfold el
  rw [List.take_add_one, List.getD_eq_getElem?_getD, List.getElem?_eq_getElem h]
  rfl

set_option maxRecDepth 100000 in
set_option maxHeartbeats 4000000 in
theorem rfull_any (V D Hd H L n ca : Nat) (ao : Option Addr) (W : Wt) (bs : List Bk) (M : Mdl) (A : List Int) (w : World) (hW : WtAt w V D H W bs M) (hbl : bs.length = L) (hA : IArg w ao n ca A) (ht : ∀ k, k < n → 0 ≤ el A k ∧ el A k < (V : Int)) (m2 : n ≤ 128) (h1 : 1 ≤ D) (h2 : D ≤ 32) (g1 : 1 ≤ Hd) (g2 : Hd ≤ 4) (hd : D % Hd = 0) (q1 : 1 ≤ H) (q2 : H ≤ 128) (hL : L ≤ 900) :
   Calls Tryd.prog 23 #[.agg (cfgC V D Hd H L), .agg W.cells, .slice ao n ca] w fun e w' => ∃ tr tk tv : Sl, e = .returned (.agg #[tr.v, tk.v, tv.v]) ∧ DCube w' tr (fR M D H Hd L A) ∧ DCube w' tk (fK M D H Hd L A) ∧ DCube w' tv (fV M D H Hd L A) ∧ Below w.heap.size w w' := by
  have HW : Hid (∀ wv, Below w.heap.size w wv → WtAt wv V D H W bs M) := fun wv hb => hW.below hb
  have HAA : Hid (∀ wv, Below w.heap.size w wv → IArg wv ao n ca A) := fun wv hb => hA.below hb
  have HGO := fun (p : Nat → Prop) (wv : World) (tok m : Nat) (sr sk sv : Sl) (B : List Int) (hb : Below w.heap.size w wv) => rgo_any p V D Hd H L B.length tok W bs M sr sk sv (fR M D H Hd L B) (fK M D H Hd L B) (fV M D H Hd L B) wv (HW.out wv hb) hbl
  have hlA : Hid (A.length = n) := hA.row.len
  have hn63 := hA.row.max
  have HT : Hid (∀ k, k < n → 0 ≤ el A k ∧ el A k < (V : Int)) := ht
  have siz : W.cells.size = 8 := rfl
  have HWC : Hid (W.cells = W.cells) := rfl
  show Calls Tryd.prog 23 #[.agg #[.int .i64 (V : Int), .int .i64 (D : Int), .int .i64 (Hd : Int), .int .i64 (H : Int), .int .i64 (L : Int)], .agg W.cells, .slice ao n ca] w _
  unfold cfgC at HGO
  generalize W.cells = ws at *
  clear hW hA ht HWC
  have X0 := blk_new w 23 #[.int .i64 (V : Int), .int .i64 (D : Int), .int .i64 (Hd : Int), .int .i64 (H : Int), .int .i64 (L : Int)]
  have B0 := below_alloc8 w (.cells #[.int .i64 (V : Int), .int .i64 (D : Int), .int .i64 (Hd : Int), .int .i64 (H : Int), .int .i64 (L : Int)] 23)
  have s0 : (w.alloc (.cells #[.int .i64 (V : Int), .int .i64 (D : Int), .int .i64 (Hd : Int), .int .i64 (H : Int), .int .i64 (L : Int)] 23)).heap.size = w.heap.size + 1 := by simp
  generalize hw0 : w.alloc (.cells #[.int .i64 (V : Int), .int .i64 (D : Int), .int .i64 (Hd : Int), .int .i64 (H : Int), .int .i64 (L : Int)] 23) = wx0 at *
  have X1 := blk_new wx0 65 ws
  have B1 := below_alloc8 wx0 (.cells ws 65)
  have s1 : (wx0.alloc (.cells ws 65)).heap.size = wx0.heap.size + 1 := by simp
  generalize hw1 : wx0.alloc (.cells ws 65) = wx1 at *
  have X2 := blk_new wx1 68 #[.slice none 0 0, .slice none 0 0, .slice none 0 0]
  have B2 := below_alloc8 wx1 (.cells #[.slice none 0 0, .slice none 0 0, .slice none 0 0] 68)
  have s2 : (wx1.alloc (.cells #[.slice none 0 0, .slice none 0 0, .slice none 0 0] 68)).heap.size = wx1.heap.size + 1 := by simp
  generalize hw2 : wx1.alloc (.cells #[.slice none 0 0, .slice none 0 0, .slice none 0 0] 68) = wx2 at *
  obtain ⟨XA, XB, VB, zB⟩ := var3 wx2 68 #[.slice none 0 0, .slice none 0 0, .slice none 0 0] #[.slice none 0 0, .slice none 0 0, .slice none 0 0]
  generalize hwA : wx2.alloc (.cells #[.slice none 0 0, .slice none 0 0, .slice none 0 0] 68) = wA at *
  generalize hwB : wA.setRow wx2.heap.size #[.slice none 0 0, .slice none 0 0, .slice none 0 0] = w3 at *
  have X03 := ((X0.below B1).below B2).below VB
  have X13 := (X1.below B2).below VB
  have X23 := X2.below VB
  have D3 := below_then (below_then (below_then B0 B1) B2) VB
  have HSZ : Hid (wx0.heap.size = w.heap.size + 1 ∧ wx1.heap.size = wx0.heap.size + 1 ∧ wx2.heap.size = wx1.heap.size + 1) := ⟨s0, s1, s2⟩
  clear X0 X1 X2 B0 B1 B2 VB s0 s1 s2 zB
  go_enter Tryd.func23, Tryd.ntmps23
  go_wp2_with (refine wpList_store_row rfl 68 _ _ rfl wx2.heap.size _ rfl rfl 68 _ XA Tryd.infoRP8 rfl (by simp [Value.oneCell']) ?_; rw [hwB])
  clear hw0 hw1 hw2 hwA hwB XA
  obtain ⟨P, hP⟩ : ∃ P : Nat → Prop, P = fun b => b ≠ wx2.heap.size ∧ b ≠ wx1.heap.size := ⟨_, rfl⟩
  have HP : Hid (∀ b, P b ↔ (b ≠ wx2.heap.size ∧ b ≠ wx1.heap.size)) := fun b => by rw [hP]
  clear hP
  go_loopg [13] n (fun r s13 wr => ∃ (i : Nat) (tr tk tv : Sl), i ≤ n ∧ r = n - i ∧ s13 = .int .i64 (i : Int) ∧ Blk wr wx2.heap.size 68 #[tr.v, tk.v, tv.v] ∧ PCube P wr tr (fR M D H Hd L (A.take i)) ∧ PCube P wr tk (fK M D H Hd L (A.take i)) ∧ PCube P wr tv (fV M D H Hd L (A.take i)) ∧ Blk wr w.heap.size 23 #[.int .i64 (V : Int), .int .i64 (D : Int), .int .i64 (Hd : Int), .int .i64 (H : Int), .int .i64 (L : Int)] ∧ Blk wr wx0.heap.size 65 ws ∧ Blk wr wx1.heap.size 68 #[.slice none 0 0, .slice none 0 0, .slice none 0 0] ∧ Below w.heap.size w wr)
  case atStart => exact ⟨0, ⟨none, 0, 0⟩, ⟨none, 0, 0⟩, ⟨none, 0, 0⟩, by omega, by omega, rfl, XB, pcube_nil _ _, pcube_nil _ _, pcube_nil _ _, X03, X13, X23, D3⟩
  case round =>
  clear XB X03 X13 X23 D3
  obtain ⟨i, tr, tk, tv, hi, rfl, rfl, XP, C1, C2, C3, X0, X1, X2, DW⟩ := hrel
  by_cases hlt : i < n
  · obtain ⟨b, o, rfl, hc⟩ := (HAA.out wr DW).row.cells (by omega)
    have c1 := hc i hlt
    obtain ⟨t1, t2⟩ := HT.out i hlt
    obtain ⟨tok, htok⟩ : ∃ t : Nat, el A i = (t : Int) := ⟨(el A i).toNat, by omega⟩
    have hti : (A.take i).length = i := by rw [List.length_take, hlA.out]; omega
    have e2 : A.take (i + 1) = A.take i ++ [(tok : Int)] := by rw [← htok]; exact take_step (by rw [hlA.out]; exact hlt)
    have GO := HGO P wr tok i tr tk tv (A.take i) DW C1 C2 C3 (f_m _ _ _ _ _ _) (fKV_len _ _ _ _ _ _) (fR_small _ _ _ _ _ _ (by omega)) (fK_rows _ _ _ _ _ _) (fV_rows _ _ _ _ _ _) (by omega) (by omega) h1 h2 g1 g2 hd q1 q2 hL
    have g7 := goR_f M D H Hd L (A.take i) (tok : Int)
    have g8 := goK_f M D H Hd L (A.take i) (tok : Int)
    have g9 := goV_f M D H Hd L (A.take i) (tok : Int)
    rw [Int.toNat_natCast] at g7 g8 g9
    rw [g7, g8, g9, ← e2] at GO
    have HCW : Hid (wx2.heap.size < wr.heap.size ∧ wx1.heap.size < wr.heap.size) := ⟨XP.lt, X2.lt⟩
    have a0 : wr.cell? ⟨w.heap.size, 0, none⟩ = some (.int .i64 (V : Int)) := X0.cell 0 rfl
    have a1 : wr.cell? ⟨w.heap.size, 1, none⟩ = some (.int .i64 (D : Int)) := X0.cell 1 rfl
    have a2 : wr.cell? ⟨w.heap.size, 2, none⟩ = some (.int .i64 (Hd : Int)) := X0.cell 2 rfl
    have a3 : wr.cell? ⟨w.heap.size, 3, none⟩ = some (.int .i64 (H : Int)) := X0.cell 3 rfl
    have a4 : wr.cell? ⟨w.heap.size, 4, none⟩ = some (.int .i64 (L : Int)) := X0.cell 4 rfl
    have c1' : wr.cell? ⟨b, o + i, none⟩ = some (.int .i64 (tok : Int)) := by rw [← htok]; exact c1
    clear hc c1 C1 C2 C3 g7 g8 g9 htok t1 t2 hti e2
    go_wp2_with (first
      | (refine wpList_load_row rfl 65 _ rfl wx0.heap.size rfl 65 _ (0, 0) _ X1 Tryd.underlying65 rfl (by rw [siz]; exact Tryd.infoRW8) ?_)
      | (refine wpList_load_row rfl 68 _ rfl wx2.heap.size rfl 68 _ (0, 0) _ XP Tryd.underlying68 rfl Tryd.infoRP8 ?_)
      | (go_at_call 40; refine GO.mono ?_; clear GO; rintro e w2 ⟨ur, uk, uv, rfl, E1, E2, E3, B2⟩; have XP2 := XP.below B2)
      | (refine wpList_store_row rfl 68 _ _ rfl wx2.heap.size _ rfl rfl 68 _ XP2 Tryd.infoRP8 rfl (all3c rfl rfl rfl) ?_))
    have XN := XP2.row #[ur.v, uk.v, uv.v]
    have hsz := HSZ.out
    have hcw := HCW.out
    have T : Tn (fun b => P b ∨ wr.heap.size ≤ b) P w2 (w2.setRow wx2.heap.size #[ur.v, uk.v, uv.v]) := ⟨by simp, fun b _ hb => by
      have hb2 : P b := by
        rcases hb with h | h
        · exact h
        · exact (HP.out b).2 ⟨by omega, by omega⟩
      exact ⟨hb2, setRow_other _ _ _ _ ((HP.out b).1 hb2).1⟩⟩
    have pp : ∀ b, (P b ∨ wr.heap.size ≤ b) → P b := fun b hb => by
      rcases hb with h | h
      · exact h
      · exact (HP.out b).2 ⟨by omega, by omega⟩
    have F1 := E1.turn T pp
    have F2 := E2.turn T pp
    have F3 := E3.turn T pp
    have o1 : w.heap.size ≠ wx2.heap.size := by omega
    have o2 : wx0.heap.size ≠ wx2.heap.size := by omega
    have o3 : wx1.heap.size ≠ wx2.heap.size := by omega
    have Y0 := (X0.below B2).of_block (w' := w2.setRow wx2.heap.size #[ur.v, uk.v, uv.v]) (setRow_other _ _ _ _ o1)
    have Y1 := (X1.below B2).of_block (w' := w2.setRow wx2.heap.size #[ur.v, uk.v, uv.v]) (setRow_other _ _ _ _ o2)
    have Y2 := (X2.below B2).of_block (w' := w2.setRow wx2.heap.size #[ur.v, uk.v, uv.v]) (setRow_other _ _ _ _ o3)
    have D2 := below_setRow (below_then DW B2) (g := wx2.heap.size) (by omega) #[ur.v, uk.v, uv.v]
    clear hsz hcw o1 o2 o3 T pp E1 E2 E3 X0 X1 X2 XP XP2 B2
    go_roundg (n - (i + 1))
    case measure => omega
    case rel => exact ⟨i + 1, ur, uk, uv, by omega, rfl, by go_num, XN, F1, F2, F3, Y0, Y1, Y2, D2⟩
  · obtain rfl : i = n := by omega
    rw [List.take_of_length_le (by rw [hlA.out]; omega)] at C1 C2 C3
    have XF := X2.row #[tr.v, tk.v, tv.v]
    have hsz := HSZ.out
    have T : Tn P P wr (wr.setRow wx1.heap.size #[tr.v, tk.v, tv.v]) := ⟨by simp, fun b _ hb => ⟨hb, setRow_other _ _ _ _ ((HP.out b).1 hb).2⟩⟩
    have F1 := (C1.turn T (fun _ h => h)).dcube
    have F2 := (C2.turn T (fun _ h => h)).dcube
    have F3 := (C3.turn T (fun _ h => h)).dcube
    have D2 := below_setRow DW (g := wx1.heap.size) (by omega) #[tr.v, tk.v, tv.v]
    clear hsz T C1 C2 C3
    go_wp2_with (first
      | (refine wpList_load_row rfl 68 _ rfl wx2.heap.size rfl 68 _ (0, 0) _ XP Tryd.underlying68 rfl Tryd.infoRP8 ?_)
      | (refine wpList_store_row rfl 68 _ _ rfl wx1.heap.size _ rfl rfl 68 _ X2 Tryd.infoRP8 rfl (all3c rfl rfl rfl) ?_))
    refine bodyPost_ret (results_c1 rfl _ _ wx1.heap.size _ rfl (load_rp XF)) rfl ?_
    exact ⟨tr, tk, tv, rfl, F1, F2, F3, D2⟩
end Go.Proofs.YtlmdjhdlfdandaaDoor

/- A model that was made fits, and reads as its seed's numbers. -/
namespace Go.Proofs.YtlmdjhdlfdandaaDoor
open Go.ChangeShapes Go.WideShapes Go.ChangeAt Go.RowKit
def layS (seed i D H : Nat) : Lay := ⟨gainR seed i D, numR seed (i + D) (D * D) 65536, numR seed (i + D + D * D) (D * D) 65536, numR seed (i + D + D * D + D * D) (D * D) 65536, numR seed (i + D + D * D + D * D + D * D) (D * D) 65536, gainR seed (i + D + D * D + D * D + D * D + D * D) D, numR seed (i + D + D * D + D * D + D * D + D * D + D) (H * D) 65536, numR seed (i + D + D * D + D * D + D * D + D * D + D + H * D) (D * H) 65536⟩
/-- The numbers of a seed. -/
def mdlS (seed V D H L : Nat) : Mdl := ⟨numR seed 0 (V * D) 131072, (List.range L).map fun t => layS seed (V * D + t * lenB D H) D H, gainR seed (V * D + L * lenB D H) D, numR seed (V * D + L * lenB D H + D) (V * D) 65536⟩
theorem Fresh.slAt {w : World} {B g n : Nat} {A : List Int} (h : Fresh w B g n n A) : SlAt w (rs g n) n A := ⟨rfl, h.arg⟩
theorem Fresh.mtAt {w : World} {B g r c : Nat} {A : List Int} (h : Fresh w B g (r * c) (r * c) A) (h1 : 1 ≤ r) (h2 : r ≤ 128) (h3 : 1 ≤ c) (h4 : c ≤ 128) : MtAt w ⟨r, c, rs g (r * c)⟩ r c A :=
  ⟨g, 0, r * c, r * c, rfl, h1, h2, h3, h4, rfl, Nat.le_refl _, h.max, h.rowAt⟩
theorem MadeB.bkAt {w : World} {B seed i D H f q k v o s u d : Nat} (h : MadeB w B seed i D H f q k v o s u d) (h1 : 1 ≤ D) (h2 : D ≤ 128) (h3 : 1 ≤ H) (h4 : H ≤ 128) : BkAt w D H (mkB D H f q k v o s u d) (layS seed i D H) :=
  ⟨h.f.slAt, h.q.mtAt h1 h2 h1 h2, h.k.mtAt h1 h2 h1 h2, h.v.mtAt h1 h2 h1 h2, h.o.mtAt h1 h2 h1 h2, h.s.slAt, h.u.mtAt h3 h4 h1 h2, h.d.mtAt h1 h2 h3 h4⟩
theorem made_good {w : World} {B seed V D Hd H L ge gB gl go : Nat} (h : MadeW w B seed V D H L ge gB gl go) (hs : shapeN V D Hd H L = 0) : ∃ bs, Good w V D Hd H L (mkW V D L ge gB gl go) bs (mdlS seed V D H L) := by
  have hk := shape_ok hs
  obtain ⟨bs, ML⟩ := madeL_of L h.bs
  have BL := ML.blocks (by omega) (by omega) (by omega)
  have hl : bs.length = L := ML.len
  refine ⟨bs, ⟨⟨?_, BL, by unfold mdlS; simp [hl], fun t x hx => ?_, ?_, ?_⟩, mkW_ok (by omega) (by omega), hl, hs, ?_⟩⟩
  · exact h.e.mtAt (by omega) (by omega) (by omega) (by omega)
  · obtain ⟨_, f, q, k, v, o, s, u, d, rfl, m⟩ := ML.at_ t x hx
    have ht : t < L := by rw [← hl]; exact (List.getElem?_eq_some_iff.1 hx).1
    refine ⟨layS seed (V * D + t * lenB D H) D H, ?_, m.bkAt (by omega) (by omega) (by omega) (by omega)⟩
    unfold mdlS
    simp only [List.getElem?_map, List.getElem?_range ht]
    rfl
  · exact h.l.slAt
  · exact h.o.mtAt (by omega) (by omega) (by omega) (by omega)
  · exact made_fits (C := ⟨V, D, Hd, H, L⟩) ML rfl rfl rfl rfl hs
end Go.Proofs.YtlmdjhdlfdandaaDoor

/- The document's rows and matrices of made numbers. -/
namespace Go.Proofs.YtlmdjhdlfdandaaDoor
open Go.ChangeShapes Go.WideShapes Go.ChangeAt Go.RowKit
theorem tab_snoc4 (n : Nat) (f : Nat → Int) : tab (n + 1) f = tab n f ++ [f n] := by unfold tab; rw [List.range_succ, List.map_append]; rfl
set_option maxHeartbeats 800000 in
theorem rrow_any (seed i n m mo : Nat) (w : World) (hi : i ≤ 500000) (hn : n ≤ 16384) (hm : m ≤ 131072) (h0 : 1 ≤ m) (hmo : mo ≤ 65536) :
   Calls Tryd.prog 39 #[.int .u64 (seed : Int), .int .i64 (i : Int), .int .i64 (n : Int), .int .i64 (m : Int), .int .i64 (mo : Int)] w fun e w' => ∃ g cap, e = .returned (.tuple #[.slice (some ⟨g, 0, none⟩) n cap, .int .i64 ((i + n : Nat) : Int)]) ∧ Fresh w' w.heap.size g n cap (tab n fun j => numN seed (i + j) m + mo) ∧ Below w.heap.size w w' := by
  have F0 := fresh_empty w
  have B0 : Below w.heap.size w (w.alloc (.cells #[] 55)) := (Below.refl _ _).alloc (Nat.le_refl _) _
  go_enter Tryd.func39, Tryd.ntmps39
  go_wp2_with fail
  generalize w.alloc (.cells #[] 55) = w0 at *
  go_loopg [12, 13] n (fun r s q wr => ∃ k g cap : Nat, k ≤ n ∧ r = n - k ∧ q = .int .i64 k ∧ s = .slice (some ⟨g, 0, none⟩) k cap ∧ Fresh wr w.heap.size g k cap (tab k fun j => numN seed (i + j) m + mo) ∧ Below w.heap.size w wr)
  case atStart => exact ⟨0, _, _, by omega, by omega, rfl, rfl, F0, B0⟩
  case round =>
    obtain ⟨k, g, cap, hk, rfl, rfl, rfl, F1, B1⟩ := hrel
    clear F0 B0
    by_cases hlt : k < n
    · have HX : Hid (tab (k + 1) (fun j => numN seed (i + j) m + mo) = tab k (fun j => numN seed (i + j) m + mo) ++ [numN seed (i + k) m + mo]) := tab_snoc4 k _
      have RA : ∀ wv : World, Calls Tryd.prog 58 #[.int .u64 (seed : Int), .int .i64 ((i : Int) + (k : Int)), .int .i64 (m : Int)] wv fun e w' => e = .returned (.int .i32 (numN seed (i + k) m)) ∧ w' = wv := fun wv => by
        have := random_any seed (i + k) m wv (by omega) hm h0
        rwa [Int.natCast_add] at this
      have nb := numN_bd seed (i + k) m hm h0
      generalize numN seed (i + k) m = z at *
      have R := rowAt_one wr (z + mo) (by omega)
      have BA : Below wr.heap.size wr (wr.alloc (.cells #[.int .i32 (z + mo)] 55)) := (Below.refl _ _).alloc (Nat.le_refl _) _
      have F2 := F1.below BA
      have s1 := B1.size
      have s2 := BA.size
      have B2 := below_then B1 BA
      generalize hw2 : wr.alloc (.cells #[.int .i32 (z + mo)] 55) = w2 at *
      go_wp2_with (first | (go_at_call 58; refine (RA _).mono ?_; rintro e wr ⟨rfl, rfl⟩) | (at_builtin; refine wpList_append_row rfl _ _ rfl w.heap.size g k cap _ rfl (by exact F2) (some ⟨wr.heap.size, 0, none⟩) 1 1 _ rfl (by exact R) (fun h => by cases h) (by omega) (by omega) ?_; intro g' cap' w' F3 B3))
      go_roundg (n - (k + 1))
      case measure => omega
      case rel => exact ⟨k + 1, _, _, by omega, rfl, by go_num, rfl, by rw [HX.out]; exact F3, B2.trans B3⟩
    · obtain rfl : k = n := by omega
      go_wp2
      go_ret2
      exact ⟨_, _, rfl, F1, B1⟩
set_option maxHeartbeats 800000 in
theorem rsquare_any (seed i r c m : Nat) (w : World) (hi : i ≤ 500000) (h1 : r ≤ 128) (h2 : c ≤ 128) (hm : m ≤ 131072) (h0 : 1 ≤ m) :
   Calls Tryd.prog 38 #[.int .u64 (seed : Int), .int .i64 (i : Int), .int .i64 (r : Int), .int .i64 (c : Int), .int .i64 (m : Int)] w fun e w' => ∃ g cap, e = .returned (.tuple #[matV r c (some ⟨g, 0, none⟩) (r * c) cap, .int .i64 ((i + r * c : Nat) : Int)]) ∧ Fresh w' w.heap.size g (r * c) cap (numR seed i (r * c) m) ∧ Below w.heap.size w w' := by
  have h6 := size_le h1 h2
  have e1 : (r : Int) * (c : Int) = ((r * c : Nat) : Int) := by rw [Int.natCast_mul]
  have C := fun wv => rrow_any seed i (r * c) m 0 wv hi h6 hm h0 (by omega)
  generalize hrc : r * c = n at *
  have X0 := box_new w 0 0 none 0 0
  have B0 : Below w.heap.size w (w.alloc (.cells #[.int .i64 0, .int .i64 0, .slice none 0 0] 29)) := (Below.refl _ _).alloc (Nat.le_refl _) _
  have s0 : (w.alloc (.cells #[.int .i64 0, .int .i64 0, .slice none 0 0] 29)).heap.size = w.heap.size + 1 := by simp
  generalize hw0 : w.alloc (.cells #[.int .i64 0, .int .i64 0, .slice none 0 0] 29) = w0 at *
  go_enter Tryd.func38, Tryd.ntmps38
  go_wp2_with fail
  refine (C w0).mono ?_
  rintro e w1 ⟨g, cap, rfl, F1, B1⟩
  replace X0 := X0.below B1
  replace B1 := below_then B0 B1
  have hg : g ≠ w.heap.size := by have := F1.base; omega
  have u0 := X0.c0
  have u1 := X0.c1
  have u2 := X0.c2
  have f0 := X0.frozen 0
  have f1 := X0.frozen 1
  have f2 := X0.frozen 2
  clear hw0 C B0
  go_wp2_with fail
  refine bodyPost_ret (results_mat rfl _ _ w.heap.size _ _ _ _ _ rfl (X0.put _ _ _ _ _)) rfl ?_
  refine ⟨g, cap, rfl, ?_, Below.put B1 (Nat.le_refl _) _ _ _⟩
  have e : (tab n fun j => numN seed (i + j) m + ((0 : Nat) : Int)) = numR seed i n m := tab_congr fun j _ => by simp
  rw [e] at F1
  exact (F1.put hg _ _ _).mono (by omega)
end Go.Proofs.YtlmdjhdlfdandaaDoor

/- A model's numbers as the document's, all of them: the same rows, the layers in a row of their own. -/
namespace Go.Proofs.YtlmdjhdlfdandaaDoor
open Go.ChangeShapes Go.WideShapes Go.ChangeAt Go.RowKit
theorem Tryd.infoRB : (Tryd.prog.info? 86).map (fun i => (i.zero, i.size, i.bytes)) = some (some (.agg #[.slice none 0 0, .int .i64 0, .int .i64 0, .slice none 0 0, .int .i64 0, .int .i64 0, .slice none 0 0, .int .i64 0, .int .i64 0, .slice none 0 0, .int .i64 0, .int .i64 0, .slice none 0 0, .slice none 0 0, .int .i64 0, .int .i64 0, .slice none 0 0, .int .i64 0, .int .i64 0, .slice none 0 0]), 20, 288) := by kernel_rfl
theorem Tryd.infoRB1 : (Tryd.prog.info? 86).map (·.size) = some 20 := by kernel_rfl
theorem Tryd.infoRW : (Tryd.prog.info? 65).map (·.size) = some 8 := by kernel_rfl
/-- Layers, cell behind cell. -/
def flat (bs : List Bk) : List Value := bs.flatMap fun b => b.cells.toList
theorem flat_len : ∀ bs : List Bk, (flat bs).length = bs.length * 20
  | [] => rfl
  | b :: bs => by
    have := flat_len bs
    unfold flat at *
    rw [List.flatMap_cons, List.length_append, this, List.length_cons]
    show 20 + bs.length * 20 = _
    omega
theorem flat_cons (b : Bk) (bs : List Bk) : flat (b :: bs) = b.cells.toList ++ flat bs := by unfold flat; rw [List.flatMap_cons]
theorem bk_len (b : Bk) : b.cells.toList.length = 20 := rfl
theorem flat_at : ∀ (bs : List Bk) (t : Nat) (x : Bk), bs[t]? = some x → ∀ (j : Nat) (v : Value), x.cells.toList[j]? = some v → (flat bs)[t * 20 + j]? = some v
  | [], t, x, h, _, _, _ => by simp at h
  | b :: bs, t, x, h, j, v, hv => by
    have hl := bk_len b
    have hx := bk_len x
    have hj : j < 20 := by have := (List.getElem?_eq_some_iff.1 hv).1; omega
    cases t with
    | zero =>
      simp at h
      subst h
      rw [flat_cons, Nat.zero_mul, Nat.zero_add, List.getElem?_append_left (by omega)]
      exact hv
    | succ t =>
      have ih := flat_at bs t x (by simpa using h) j v hv
      rw [flat_cons, List.getElem?_append_right (by omega), hl, show (t + 1) * 20 + j - 20 = t * 20 + j by omega]
      exact ih
/-- A row of layers of the call's own. -/
structure OwnB (w : World) (B : Nat) (s : Sl) (bs : List Bk) : Prop where
  own : w.ownsRow B 86 20 s.v s.n (flat bs)
  ok : ∀ x ∈ bs, x.Ok
  few : s.n ≤ 1000000
theorem OwnB.len {w : World} {B : Nat} {s : Sl} {bs : List Bk} (h : OwnB w B s bs) : bs.length = s.n := by
  have := h.own.1
  rw [flat_len] at this
  omega
theorem OwnB.blocks {w : World} {B : Nat} {s : Sl} {bs : List Bk} (h : OwnB w B s bs) : BlocksAt w s bs := by
  refine ⟨h.len, by have := h.few; omega, h.ok, fun hn => ?_⟩
  rcases h.own.2 with ⟨h0, h1⟩ | ⟨g, cap, cur, hv, _⟩
  · omega
  · unfold Sl.v at hv
    simp only [Value.slice.injEq, true_and] at hv
    refine ⟨g, 0, hv.1, fun t x hx j v hv2 => ?_⟩
    have hc := h.own.cells (g := g) (by unfold Sl.v; rw [hv.1]; rfl) (t * 20 + j) v (flat_at bs t x hx j v hv2)
    rw [Addr.add_mid] at hc
    rw [Nat.zero_add] at hc ⊢
    exact hc
theorem OwnB.below {w w' : World} {B : Nat} {s : Sl} {bs : List Bk} (h : OwnB w B s bs) (hb : Below w.heap.size w w') : OwnB w' B s bs := by
  obtain ⟨h1, h2⟩ := h.own
  refine ⟨⟨h1, ?_⟩, h.ok, h.few⟩
  rcases h2 with h2 | ⟨g, cap, cur, hv, hg, hh, r⟩
  · exact Or.inl h2
  · exact Or.inr ⟨g, cap, cur, hv, hg, by rw [hb.block g (Array.getElem?_eq_some_iff.1 hh).1]; exact hh, r⟩
theorem ownB_nil (w : World) (B : Nat) : OwnB w B ⟨none, 0, 0⟩ [] := ⟨World.ownsRow_nil _ _ _ _, (fun x hx => by cases hx), (by show 0 ≤ 1000000; omega)⟩
/-- append(out, block). -/
theorem wpList_append_block {w : World} {ops : Array Oper} {rest : List Oper} {o : Oper} {a : Act} {Q : Exit → Act → World → Prop} (hgd : o.guard = none) (s x : Operand)
    (ho : o.op = .call { callee := .builtin .append, args := #[s, x], argTypes := #[63, 63] })
    (B : Nat) (S : Sl) (bs : List Bk) (hs : a.eval s = S.v) (hF : OwnB w B S bs) (bo : Nat) (y : Bk) (hx : a.eval x = .slice (some ⟨bo, 0, none⟩) 1 1) (hX : Blk w bo 86 y.cells) (hy : y.Ok)
    (hlen : S.n + 1 ≤ 1000000) (hB : B ≤ w.heap.size)
    (h : ∀ S' w', S'.n = S.n + 1 → OwnB w' B S' (bs ++ [y]) → Below B w w' → wpList Tryd.prog ops Q rest (a.put o.dst S'.v) w') : wpList Tryd.prog ops Q (o :: rest) a w := by
  obtain ⟨i0, hi, hz0, hz1, hz2⟩ := info_parts Tryd.infoRB
  refine wpList_append_own w hgd s x 63 ho B 86 i0 (.agg #[.slice none 0 0, .int .i64 0, .int .i64 0, .slice none 0 0, .int .i64 0, .int .i64 0, .slice none 0 0, .int .i64 0, .int .i64 0, .slice none 0 0, .int .i64 0, .int .i64 0, .slice none 0 0, .slice none 0 0, .int .i64 0, .int .i64 0, .slice none 0 0, .int .i64 0, .int .i64 0, .slice none 0 0]) 20 288 Tryd.underlying63 hi hz0 hz1 hz2 rfl (by decide) _ S.n _ hs hF.own ⟨bo, 0, none⟩ 1 1 y.cells.toList hx rfl ?_ ?_ (by unfold maxLen; omega) (by omega) hB ?_
  · intro j u hj
    rw [Addr.add_mid, Nat.zero_add]
    exact hX.cell j (by simpa using hj)
  · intro u hu
    exact (Array.all_eq_true_iff_forall_mem.1 (bk_one y)) u (by simpa using hu)
  · intro v' w' hown hg hnil
    have hb : Below B w w' := (Below.refl _ _).grown hg hB (fun k hk => (hF.own.lt k hk).1)
    have e : flat bs ++ y.cells.toList = flat (bs ++ [y]) := by unfold flat; rw [List.flatMap_append]; simp
    rw [e] at hown
    obtain ⟨h1, h2⟩ := hown
    rcases h2 with ⟨h3, h4⟩ | ⟨g', c', cur, hv, hr⟩
    · omega
    · subst hv
      exact h ⟨some ⟨g', 0, none⟩, S.n + 1, c'⟩ w' rfl ⟨⟨h1, Or.inr ⟨g', c', cur, rfl, hr⟩⟩, fun z hz => (List.mem_append.1 hz).elim (hF.ok z) (fun h => by simp at h; subst h; exact hy), hlen⟩ hb
end Go.Proofs.YtlmdjhdlfdandaaDoor
