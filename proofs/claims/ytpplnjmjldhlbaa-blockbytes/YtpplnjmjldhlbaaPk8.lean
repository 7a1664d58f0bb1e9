/- Contracts of the program's functions, part 8 of 10: what each call returns and leaves of memory. -/
import Derived.Test.YtpplnjmjldhlbaaPk4
import Derived.Test.YtpplnjmjldhlbaaPk6
import Derived.Test.YtpplnjmjldhlbaaPk7
import Derived.Test.YtpplnjmjldhlbaaPk3
import Derived.Deep.CutBlock
import Derived.Deep.CutRange
import Derived.Deep.MidRow
/- Two lists of lists of rows that grow in a view's block, beside two rows of rows. -/
namespace Go.Proofs.Ytpplnjmjldhlbaa
open Go.ChangeShapes Go.WideShapes Go.ChangeAt Go.RowKit
theorem HRows.append {p : Nat → Prop} {w : World} {vs us : List Value} {R Q : List (List Int)} (h : HRows p w vs R) (k : HRows p w us Q) : HRows p w (vs ++ us) (R ++ Q) := by
  have h1 := h.len
  have k1 := k.len
  refine ⟨by simp [h1, k1], fun t ht => ?_⟩
  rw [List.length_append] at ht
  rcases Nat.lt_or_ge t R.length with h2 | h2
  · obtain ⟨ro, m, c, e, A⟩ := h.rows t h2
    refine ⟨ro, m, c, by rw [List.getElem?_append_left (by omega)]; exact e, ?_⟩
    have : rowOf (R ++ Q) t = rowOf R t := by unfold rowOf; simp only [List.getD_eq_getElem?_getD]; rw [List.getElem?_append_left h2]
    rw [this]
    exact A
  · obtain ⟨ro, m, c, e, A⟩ := k.rows (t - R.length) (by omega)
    refine ⟨ro, m, c, by rw [List.getElem?_append_right (by omega), h1]; exact e, ?_⟩
    have : rowOf (R ++ Q) t = rowOf Q (t - R.length) := by unfold rowOf; simp only [List.getD_eq_getElem?_getD]; rw [List.getElem?_append_right (by omega)]
    rw [this]
    exact A
theorem rows_madeJ (w : World) (B : Nat) (hB : B ≤ w.heap.size) : (w.alloc (.cells #[] 72)).ownsRow B 72 1 (.slice (some ⟨w.heap.size, 0, none⟩) 0 0) 0 [] :=
  owns_mono (World.ownsRow_made w #[] 0 (Nat.le_refl _) (by decide) rfl) hB (fun _ _ => rfl)
theorem cellListsJ (w : World) (v : Value) : (w.alloc (.cells #[v] 73)).cell? ⟨w.heap.size, 0, none⟩ = some v := by
  have e := heap_alloc_new w (.cells #[v] 73)
  unfold World.cell?
  simp only [e]
  rfl
theorem own_capsJ {w : World} {B e k cap : Nat} {a : Option Addr} {vs : List Value} (h : w.ownsRow B e 1 (.slice a k cap) k vs) : k ≤ cap ∧ cap ≤ 9223372036854775807 := by
  rcases h.2 with ⟨h2, h3⟩ | ⟨g, c, cur, h3, _, _, h6, h7, _⟩
  · injection h2 with _ e1 e2
    omega
  · injection h3 with _ _ e2
    subst e2
    unfold maxLen at h7
    exact ⟨h6, h7⟩
theorem map_range_succJ {α : Type} (n : Nat) (f : Nat → α) : (List.range (n + 1)).map f = (List.range n).map f ++ [f n] := by rw [List.range_succ, List.map_append]; rfl
theorem no_ownJ : ∀ g, (Value.slice none 0 0).ownBlock = some g → False := fun g e => by simp [Value.ownBlock] at e
theorem OCu.ne_rowsJ {w : World} {B B' n : Nat} {p : Nat → Prop} {v u : Value} {vs : List Value} {C : List (List (List Int))} (h : OCu w B p v C) (O : w.ownsRow B' 72 1 u n vs) (g : Nat) (e : v.ownBlock = some g) : u.ownBlock ≠ some g := by
  intro e2
  rcases O.2 with ⟨h2, h3⟩ | ⟨g', cap, cur, h3, h4, h5, _⟩
  · rw [h2] at e2; cases e2
  · rw [h3] at e2
    simp only [Value.ownBlock, Option.some.injEq] at e2
    subst e2
    exact h.ne_blk (show w.heap[g']? = some (.cells cur 72 (0, 0)) from h5) (by decide) e
/-- The lists v1 and v2 in a view's block; the rows v4 and v5 grow beside it. -/
structure GoV (q : Nat → Prop) (wb wr : World) (tk v1 v2 v4 v5 : Value) (C1 C2 : List (List (List Int))) : Prop where
  blk : Blk wr wb.heap.size 31 #[tk, v1, v2]
  c1 : OCu wr (wb.heap.size + 1) (offO q v1 v2 (.slice none 0 0) v4 v5 wb.heap.size) v1 C1
  c2 : OCu wr (wb.heap.size + 1) (offO q v1 v2 (.slice none 0 0) v4 v5 wb.heap.size) v2 C2
  n12 : ∀ g, v1.ownBlock = some g → v2.ownBlock ≠ some g
  kp : Below wb.heap.size wb wr
theorem GoV.below {q : Nat → Prop} {wb wr w' : World} {tk v1 v2 v4 v5 : Value} {C1 C2 : List (List (List Int))} (h : GoV q wb wr tk v1 v2 v4 v5 C1 C2) (hb : Below wr.heap.size wr w') : GoV q wb w' tk v1 v2 v4 v5 C1 C2 :=
  ⟨h.blk.below hb, h.c1.turn (Tn.below hb) (fun b e => hb.block b (h.c1.lt b e).2), h.c2.turn (Tn.below hb) (fun b e => hb.block b (h.c2.lt b e).2), h.n12, h.kp.trans (hb.mono h.kp.size)⟩
theorem GoV.side {q : Nat → Prop} {wb wr w' : World} {tk v1 v2 v4 v5 v4' v5' : Value} {C1 C2 : List (List (List Int))} (h : GoV q wb wr tk v1 v2 v4 v5 C1 C2) (T : Tn (offO q v1 v2 (.slice none 0 0) v4 v5 wb.heap.size) (offO q v1 v2 (.slice none 0 0) v4' v5' wb.heap.size) wr w')
    (hs : ∀ b, b < wr.heap.size → (b = wb.heap.size ∨ v1.ownBlock = some b ∨ v2.ownBlock = some b) → w'.heap[b]? = wr.heap[b]?) (hk : Below wb.heap.size wr w') : GoV q wb w' tk v1 v2 v4' v5' C1 C2 :=
  ⟨h.blk.of_block (hs _ h.blk.lt (Or.inl rfl)), h.c1.turn T (fun b e => hs b (h.c1.lt b e).2 (Or.inr (Or.inl e))), h.c2.turn T (fun b e => hs b (h.c2.lt b e).2 (Or.inr (Or.inr e))), h.n12, h.kp.trans hk⟩
theorem GoV.rows_off {q : Nat → Prop} {wb wr w' : World} {tk v1 v2 v4 v5 u : Value} {n : Nat} {vs : List Value} {C1 C2 : List (List (List Int))} (h : GoV q wb wr tk v1 v2 v4 v5 C1 C2) (O : wr.ownsRow (wb.heap.size + 1) 72 1 u n vs) (hG : wr.grownBy w' u.ownBlock) :
    (∀ b, b < wr.heap.size → (b = wb.heap.size ∨ v1.ownBlock = some b ∨ v2.ownBlock = some b) → w'.heap[b]? = wr.heap[b]?) ∧ Below wb.heap.size wr w' := by
  refine ⟨fun b hb hh => hG.block b hb fun e => ?_, ⟨hG.os, hG.tape, hG.output, hG.size, fun b hb => hG.block b (Nat.lt_of_lt_of_le hb h.kp.size) fun e => ?_⟩⟩
  · rcases hh with rfl | q | q
    · have := (O.lt _ e.symm).1; omega
    · exact h.c1.ne_rowsJ O b q e.symm
    · exact h.c2.ne_rowsJ O b q e.symm
  · have := (O.lt _ e.symm).1; omega
theorem GoV.put1 {q : Nat → Prop} {wb wr w' : World} {tk v1 v2 v4 v5 v1' : Value} {C1 C2 C1' : List (List (List Int))} (h : GoV q wb wr tk v1 v2 v4 v5 C1 C2) (mk : ∀ p', Tn (offO q v1 v2 (.slice none 0 0) v4 v5 wb.heap.size) p' wr w' → OCu w' (wb.heap.size + 1) p' v1' C1') (hG : wr.grownBy w' v1.ownBlock) (hN : ∀ g, v1'.ownBlock = some g → v1.ownBlock = some g ∨ wr.heap.size ≤ g) :
    GoV q wb (w'.setCell ⟨wb.heap.size, 1, none⟩ v1') tk v1' v2 v4 v5 C1' C2 ∧ Tn (offO q v1 v2 (.slice none 0 0) v4 v5 wb.heap.size) (offO q v1' v2 (.slice none 0 0) v4 v5 wb.heap.size) wr (w'.setCell ⟨wb.heap.size, 1, none⟩ v1') := by
  have T1 : Tn (offO q v1 v2 (.slice none 0 0) v4 v5 wb.heap.size) (offO q v1' v2 (.slice none 0 0) v4 v5 wb.heap.size) wr w' := Tn.app1 hG hN
  have T2 : Tn (offO q v1' v2 (.slice none 0 0) v4 v5 wb.heap.size) (offO q v1' v2 (.slice none 0 0) v4 v5 wb.heap.size) w' (w'.setCell ⟨wb.heap.size, 1, none⟩ v1') := Tn.set w' 1 v1'
  have M := mk _ T1
  have nb : ∀ {v : Value} {C : List (List (List Int))} {p : Nat → Prop} {W : World}, OCu W (wb.heap.size + 1) p v C → v.ownBlock ≠ some wb.heap.size := fun hO e => by have := (hO.lt _ e).1; omega
  have hbk := h.blk.of_block (hG.block _ h.blk.lt (fun e => nb h.c1 e.symm))
  refine ⟨⟨hbk.set 1 v1', M.turn T2 (fun b e => Below.heap_setCell _ _ _ b (fun e2 => nb M (by have e3 : b = wb.heap.size := e2; rw [← e3]; exact e))), ?_, fun g e e2 => ?_, ?_⟩, T1.trans T2⟩
  · exact h.c2.turn (T1.trans T2) (fun b e => by
      rw [Below.heap_setCell _ _ _ b (fun e2 => nb h.c2 (by have e3 : b = wb.heap.size := e2; rw [← e3]; exact e))]
      exact hG.block b (h.c2.lt b e).2 (fun e2 => h.n12 b e2.symm e))
  · rcases hN g e with a | a
    · exact h.n12 g a e2
    · have := (h.c2.lt g e2).2; omega
  · refine Below.setCell ?_ (p := ⟨wb.heap.size, 1, none⟩) (Nat.le_refl _) v1'
    exact h.kp.trans ⟨hG.os, hG.tape, hG.output, hG.size, fun b hb => hG.block b (Nat.lt_of_lt_of_le hb h.kp.size) (fun e => by have := (h.c1.lt b e.symm).1; omega)⟩
theorem GoV.put2 {q : Nat → Prop} {wb wr w' : World} {tk v1 v2 v4 v5 v2' : Value} {C1 C2 C2' : List (List (List Int))} (h : GoV q wb wr tk v1 v2 v4 v5 C1 C2) (mk : ∀ p', Tn (offO q v1 v2 (.slice none 0 0) v4 v5 wb.heap.size) p' wr w' → OCu w' (wb.heap.size + 1) p' v2' C2') (hG : wr.grownBy w' v2.ownBlock) (hN : ∀ g, v2'.ownBlock = some g → v2.ownBlock = some g ∨ wr.heap.size ≤ g) :
    GoV q wb (w'.setCell ⟨wb.heap.size, 2, none⟩ v2') tk v1 v2' v4 v5 C1 C2' ∧ Tn (offO q v1 v2 (.slice none 0 0) v4 v5 wb.heap.size) (offO q v1 v2' (.slice none 0 0) v4 v5 wb.heap.size) wr (w'.setCell ⟨wb.heap.size, 2, none⟩ v2') := by
  have T1 : Tn (offO q v1 v2 (.slice none 0 0) v4 v5 wb.heap.size) (offO q v1 v2' (.slice none 0 0) v4 v5 wb.heap.size) wr w' := Tn.app2 hG hN
  have T2 : Tn (offO q v1 v2' (.slice none 0 0) v4 v5 wb.heap.size) (offO q v1 v2' (.slice none 0 0) v4 v5 wb.heap.size) w' (w'.setCell ⟨wb.heap.size, 2, none⟩ v2') := Tn.set w' 2 v2'
  have M := mk _ T1
  have nb : ∀ {v : Value} {C : List (List (List Int))} {p : Nat → Prop} {W : World}, OCu W (wb.heap.size + 1) p v C → v.ownBlock ≠ some wb.heap.size := fun hO e => by have := (hO.lt _ e).1; omega
  have hbk := h.blk.of_block (hG.block _ h.blk.lt (fun e => nb h.c2 e.symm))
  refine ⟨⟨hbk.set 2 v2', ?_, M.turn T2 (fun b e => Below.heap_setCell _ _ _ b (fun e2 => nb M (by have e3 : b = wb.heap.size := e2; rw [← e3]; exact e))), fun g e e2 => ?_, ?_⟩, T1.trans T2⟩
  · exact h.c1.turn (T1.trans T2) (fun b e => by
      rw [Below.heap_setCell _ _ _ b (fun e2 => nb h.c1 (by have e3 : b = wb.heap.size := e2; rw [← e3]; exact e))]
      exact hG.block b (h.c1.lt b e).2 (fun e2 => h.n12 b e e2.symm))
  · rcases hN g e2 with a | a
    · exact h.n12 g e a
    · have := (h.c1.lt g e).2; omega
  · refine Below.setCell ?_ (p := ⟨wb.heap.size, 2, none⟩) (Nat.le_refl _) v2'
    exact h.kp.trans ⟨hG.os, hG.tape, hG.output, hG.size, fun b hb => hG.block b (Nat.lt_of_lt_of_le hb h.kp.size) (fun e => by have := (h.c2.lt b e.symm).1; omega)⟩
/-- A block older than the view's, and not the one just ahead of it. -/
theorem GoV.older {q : Nat → Prop} {wb wr : World} {tk v1 v2 v4 v5 u4 u5 : Value} {C1 C2 : List (List (List Int))} (h : GoV q wb wr tk v1 v2 u4 u5 C1 C2) (h4 : ∀ g, v4.ownBlock = some g → wb.heap.size ≤ g) (h5 : ∀ g, v5.ownBlock = some g → wb.heap.size ≤ g) {b : Nat} (hb : b + 1 < wb.heap.size) (hq : q b) : offO q v1 v2 (.slice none 0 0) v4 v5 wb.heap.size b :=
  ⟨fun e => by have := (h.c1.lt b e).1; omega, fun e => by have := (h.c2.lt b e).1; omega, fun e => no_ownJ _ e, fun e => by have := h4 b e; omega, fun e => by have := h5 b e; omega, by omega, by omega, hq⟩
theorem GoV.rows_p4 {q : Nat → Prop} {wb wr : World} {tk v1 v2 v4 v5 : Value} {C1 C2 : List (List (List Int))} (h : GoV q wb wr tk v1 v2 v4 v5 C1 C2) {g n c : Nat} {vs : List Value} (O : wr.ownsRow (wb.heap.size + 1) 72 1 (.slice (some ⟨g, 0, none⟩) n c) n vs) (h5 : v5.ownBlock ≠ some g) (hq : q g) : offO q v1 v2 (.slice none 0 0) (.slice none 0 0) v5 wb.heap.size g :=
  have h8 := (O.lt g rfl).1
  ⟨fun e => h.c1.ne_rowsJ O g e rfl, fun e => h.c2.ne_rowsJ O g e rfl, fun e => no_ownJ _ e, fun e => no_ownJ _ e, h5, by omega, by omega, hq⟩
theorem Tn.drop4 {q : Nat → Prop} {v1 v2 v3 v4 v5 : Value} {h : Nat} (w : World) : Tn (offO q v1 v2 v3 v4 v5 h) (offO q v1 v2 v3 (.slice none 0 0) v5 h) w w :=
  ⟨Nat.le_refl _, fun b _ hp => ⟨⟨hp.1, hp.2.1, hp.2.2.1, (fun e => by cases e), hp.2.2.2.2⟩, rfl⟩⟩
theorem GoV.drop4 {q : Nat → Prop} {wb wr : World} {tk v1 v2 v4 v5 : Value} {C1 C2 : List (List (List Int))} (h : GoV q wb wr tk v1 v2 v4 v5 C1 C2) : GoV q wb wr tk v1 v2 (.slice none 0 0) v5 C1 C2 :=
  ⟨h.blk, h.c1.turn (Tn.drop4 wr) (fun _ _ => rfl), h.c2.turn (Tn.drop4 wr) (fun _ _ => rfl), h.n12, h.kp⟩
theorem GoV.drop {q : Nat → Prop} {wb wr : World} {tk v1 v2 v4 v5 : Value} {C1 C2 : List (List (List Int))} (h : GoV q wb wr tk v1 v2 v4 v5 C1 C2) : GoV q wb wr tk v1 v2 (.slice none 0 0) (.slice none 0 0) C1 C2 :=
  ⟨h.blk, h.c1.turn (Tn.drop wr) (fun _ _ => rfl), h.c2.turn (Tn.drop wr) (fun _ _ => rfl), h.n12, h.kp⟩
/-- What a view of pages that are right is like. -/
structure JI (L : Int) (X : Vw) : Prop where
  kv : X.V.length = X.K.length
  t : X.T.length ≤ 128
  k : X.T = [] ∨ (X.K.length : Int) = L
  ks : ∀ R ∈ X.K, R.length = X.T.length
  vs : ∀ R ∈ X.V, R.length = X.T.length
  z : X.T = [] → X.K = []
theorem ji_none (L : Int) : JI L noVw := ⟨rfl, by show 0 ≤ 128; omega, Or.inl rfl, (fun R hR => by cases hR), (fun R hR => by cases hR), fun _ => rfl⟩
theorem take_eq_len {A B : List Int} {n : Nat} (h : A.take n = B) (hn : n ≤ A.length) : B.length = n := by rw [← h, List.length_take]; omega
theorem ji_step {Vo D L : Int} {X : Vw} {b : Pg} (h : JI L X) (h0 : ckN Vo D L b = 0) (ht : b.T.take b.F.toNat = X.T) : JI L ⟨b.T, catC X.K b.K, catC X.V b.V⟩ := by
  obtain ⟨h1, h2, h3, h4, h5, h6⟩ := ck_zero h0
  have p := plB_true h1
  have hl := take_eq_len ht (by omega)
  have kk := rfB_spec h5
  have vv := rfB_spec h6
  have hne : b.T ≠ [] := fun e => by rw [e] at p; simp at p; omega
  have hK9 := h.kv
  refine ⟨by show (catC X.V b.V).length = (catC X.K b.K).length; rw [catC_len, catC_len]; omega, by show b.T.length ≤ 128; omega, Or.inr (by show ((catC X.K b.K).length : Int) = L; rw [catC_len]; exact h2), ?_, ?_, fun e => absurd e hne⟩
  · intro R hR
    obtain ⟨t, ht2, rfl⟩ := List.mem_iff_getElem.1 hR
    have ht2' : t < (catC X.K b.K).length := ht2
    have ht3 : t < b.K.length := by have e9 : (catC X.K b.K).length = b.K.length := catC_len _ _; omega
    have e : (catC X.K b.K)[t] = X.K.getD t [] ++ b.K.getD t [] := by
      have := catC_at (A := X.K) ht3
      rw [List.getD_eq_getElem?_getD, List.getElem?_eq_getElem ht2] at this
      exact this
    have hb : ((b.K.getD t []).length : Int) = (b.T.length : Int) - b.F := by
      rw [List.getD_eq_getElem?_getD, List.getElem?_eq_getElem ht3]
      exact (kk _ (List.getElem_mem ht3)).1
    have ha : (X.K.getD t []).length = X.T.length := by
      rcases h.k with e2 | e2
      · rw [h.z e2, e2]; rfl
      · rw [List.getD_eq_getElem?_getD, List.getElem?_eq_getElem (by omega)]
        exact h.ks _ (List.getElem_mem _)
    show ((catC X.K b.K)[t]).length = b.T.length
    rw [e, List.length_append]
    omega
  · intro R hR
    obtain ⟨t, ht2, rfl⟩ := List.mem_iff_getElem.1 hR
    have ht2' : t < (catC X.V b.V).length := ht2
    have ht3 : t < b.V.length := by have e9 : (catC X.V b.V).length = b.V.length := catC_len _ _; omega
    have e : (catC X.V b.V)[t] = X.V.getD t [] ++ b.V.getD t [] := by
      have := catC_at (A := X.V) ht3
      rw [List.getD_eq_getElem?_getD, List.getElem?_eq_getElem ht2] at this
      exact this
    have hb : ((b.V.getD t []).length : Int) = (b.T.length : Int) - b.F := by
      rw [List.getD_eq_getElem?_getD, List.getElem?_eq_getElem ht3]
      exact (vv _ (List.getElem_mem ht3)).1
    have ha : (X.V.getD t []).length = X.T.length := by
      rcases h.k with e2 | e2
      · have e3 : X.V = [] := List.length_eq_zero_iff.1 (by rw [h.kv, h.z e2]; rfl)
        rw [e3, e2]; rfl
      · rw [List.getD_eq_getElem?_getD, List.getElem?_eq_getElem (by omega)]
        exact h.vs _ (List.getElem_mem _)
    show ((catC X.V b.V)[t]).length = b.T.length
    rw [e, List.length_append]
    omega
theorem ji_small {L : Int} {X : Vw} (h : JI L X) (j : Nat) : (X.K.getD j []).length ≤ 128 ∧ (X.V.getD j []).length ≤ 128 := by
  have ht := h.t
  have go : ∀ Cc : List (List (List Int)), (∀ R ∈ Cc, R.length = X.T.length) → (Cc.getD j []).length ≤ 128 := fun Cc hR => by
    rcases Nat.lt_or_ge j Cc.length with h1 | h1
    · rw [List.getD_eq_getElem?_getD, List.getElem?_eq_getElem h1]
      have := hR _ (List.getElem_mem h1)
      show (Cc[j]).length ≤ 128
      omega
    · rw [List.getD_eq_getElem?_getD, List.getElem?_eq_none h1]
      show (0 : Nat) ≤ 128
      omega
  exact ⟨go _ h.ks, go _ h.vs⟩
theorem jn_bad {Vo D L : Int} {X : Vw} {b : Pg} {l : List Pg} (h : ckN Vo D L b ≠ 0) : jnS Vo D L X (b :: l) = (ckN Vo D L b, noVw) := by
  show (if _ then _ else _) = _
  rw [if_pos h]
theorem jn_off {Vo D L : Int} {X : Vw} {b : Pg} {l : List Pg} (h : ckN Vo D L b = 0) (ht : b.T.take b.F.toNat ≠ X.T) : jnS Vo D L X (b :: l) = (8, noVw) := by
  show (if _ then _ else if _ then _ else _) = _
  rw [if_neg (by omega), if_neg ht]
theorem jn_on {Vo D L : Int} {X : Vw} {b : Pg} {l : List Pg} (h : ckN Vo D L b = 0) (ht : b.T.take b.F.toNat = X.T) : jnS Vo D L X (b :: l) = jnS Vo D L ⟨b.T, catC X.K b.K, catC X.V b.V⟩ l := by
  show (if _ then _ else if _ then _ else _) = _
  rw [if_neg (by omega), if_pos ht]
theorem drop_cons {α : Type} {l : List α} {k : Nat} {x : α} (h : l[k]? = some x) : l.drop k = x :: l.drop (k + 1) := by
  obtain ⟨h1, rfl⟩ := List.getElem?_eq_some_iff.1 h
  exact List.drop_eq_getElem_cons h1
theorem take_next {A B : List Int} {i : Nat} (hA : i < A.length) (hB : i < B.length) (h : A.take i = B.take i) (e : el A i = el B i) : A.take (i + 1) = B.take (i + 1) := by
  rw [List.take_add_one, List.take_add_one, h]
  unfold el at e
  rw [List.getD_eq_getElem?_getD, List.getD_eq_getElem?_getD, List.getElem?_eq_getElem hA, List.getElem?_eq_getElem hB] at e
  rw [List.getElem?_eq_getElem hA, List.getElem?_eq_getElem hB]
  simp only [Option.getD_some] at e
  rw [e]
theorem take_off {A B : List Int} {i n : Nat} (hn : i < n) (e : el A i ≠ el B i) : A.take n ≠ B := fun h => e (by rw [← h, el_take hn])
end Go.Proofs.Ytpplnjmjldhlbaa

/- The document's lists of layer 11. Laid by tools/genrlists11.py. -/
namespace Go.Proofs.Ytpplnjmjldhlbaa
open Go.ChangeShapes Go.WideShapes Go.ChangeAt Go.RowKit
theorem index_atJ (s : ByteArray) (i : Nat) (h : i < s.size) (I : Int) (hI : I = (i : Int)) (W : World) : (Instr.index 9 (.string s) (.int .i64 I)).run Try.prog W = .ok (.int .u8 ((s.data.toList.getD i 0).toNat : Int)) W := by
  have hl : s.data.toList.length = s.size := rfl
  subst hI
  rw [run_index_string W _ _ _ _ Try.underlying9, dif_pos ⟨by omega, by omega⟩]
  congr 3
  simp only [Int.toNat_natCast]
  rw [List.getD_eq_getElem?_getD, List.getElem?_eq_getElem (by omega)]
  rfl
theorem u32_in {z : Int} (h : 0 ≤ z ∧ z < 4294967296) : IntKind.u32.wrap z = z := by simp [IntKind.wrap, IntKind.bits, IntKind.signed]; omega
theorem idx_lt {m P d k t j : Nat} (hk : k < m) (ht : t < P) (hj : j < d) : k * (P * d) + t * d + j < m * (P * d) := by
  have h1 : (t + 1) * d ≤ P * d := Nat.mul_le_mul_right _ ht
  have h2 : (k + 1) * (P * d) ≤ m * (P * d) := Nat.mul_le_mul_right _ hk
  rw [Nat.succ_mul] at h1 h2
  omega
theorem row_boxJ {w : World} {g : Nat} {y : Int} (h : Blk w g 71 #[.int .i32 y]) (hy : -2147483648 ≤ y ∧ y ≤ 2147483647) : RowAt w (some ⟨g, 0, none⟩) 1 [y] :=
  ⟨rfl, by omega, (fun z hz => by rw [List.mem_singleton] at hz; rw [hz]; exact hy), fun _ => ⟨g, 0, rfl, fun t ht => by
    obtain rfl : t = 0 := by omega
    exact h.cell 0 rfl⟩⟩
theorem cellRowJ (w : World) (v : Value) : (w.alloc (.cells #[v] 72)).cell? ⟨w.heap.size, 0, none⟩ = some v := by
  have e := heap_alloc_new w (.cells #[v] 72)
  unfold World.cell?
  simp only [e]
  rfl
theorem toI_in (n : Nat) : -2147483648 ≤ toI n ∧ toI n ≤ 2147483647 := by
  unfold toI
  simp only [IntKind.wrap, IntKind.bits, IntKind.signed]
  simp
  omega
theorem tab_next (n : Nat) (f : Nat → Int) : tab (n + 1) f = tab n f ++ [f n] := by unfold tab; rw [List.range_succ, List.map_append]; rfl
theorem results_t2J {fn : Func} {p q : Tmp} (h : fn.results = #[.tmp p, .tmp q]) (tmps : Array Value) (w : World) :
    (results fn tmps).run Try.prog w = .ok (.tuple #[tmps.getD p undef, tmps.getD q undef]) w := by
  simp [results, h]
set_option maxRecDepth 100000 in
set_option maxHeartbeats 6400000 in
theorem rlists11_any (l : List UInt8) (m P d : Nat) (w : World) (hm : m ≤ 4) (hP : P ≤ 255) (hd : d ≤ 32) (hl : 4 * (m * (P * d)) ≤ l.length) (hll : l.length ≤ 16777216) :
   Calls Try.prog 45 #[.string (txt l), .int .i64 (m : Int), .int .i64 (P : Int), .int .i64 (d : Int)] w fun e w' => ∃ g, (∃ cap, e = .returned (.tuple #[.slice (some ⟨g, 0, none⟩) m cap, .string (txt (l.drop (4 * (m * (P * d)))))])) ∧ New w.heap.size w' (fun w => CubeAt w (some ⟨g, 0, none⟩) m (cubeT l m P d)) ∧ Below w.heap.size w w' := by
  obtain ⟨S0, hS0⟩ : ∃ S, S = txt l := ⟨_, rfl⟩
  rw [← hS0]
  have HS0 : Hid (S0 = txt (l.drop (4 * (0 * (P * d))))) := by show _ = _; rw [hS0, Nat.zero_mul, Nat.mul_zero, List.drop_zero]
  have HL : Hid (4 * (m * (P * d)) ≤ l.length ∧ l.length ≤ 16777216) := ⟨hl, hll⟩
  have F0 := ownCube_empty w
  have B0 : Below w.heap.size w (w.alloc (.cells #[] 73)) := (Below.refl _ _).alloc (Nat.le_refl _) _
  generalize hw1 : w.alloc (.cells #[] 73) = w1 at *
  clear hS0 hl hll
  go_enter Try.func45, Try.ntmps45
  go_upto_region 3 with fail
  clear hw1
  go_loopg [0, 10, 11] m (fun r s0 s10 s11 wr => ∃ (k g cap : Nat) (S : ByteArray), k ≤ m ∧ r = m - k ∧ s11 = .int .i64 (k : Int) ∧ s10 = .slice (some ⟨g, 0, none⟩) k cap ∧ s0 = .string S ∧ Hid (S = txt (l.drop (4 * (k * (P * d))))) ∧ OwnCube wr w.heap.size g k cap ((List.range k).map fun i => (List.range P).map fun t => rowT l d (i * (P * d) + t * d)) ∧ Below w.heap.size w wr)
  case atStart => exact ⟨0, _, _, S0, by omega, by omega, rfl, rfl, rfl, HS0, F0, B0⟩
  case round =>
  clear F0 B0 HS0
  obtain ⟨k, g, cap, S, hk, rfl, rfl, rfl, rfl, HS, F, BB⟩ := hrel
  rename World => wo
  by_cases hlt : k < m
  rotate_left
  · obtain rfl : k = m := by omega
    have HC : Hid (S = txt (l.drop (4 * (k * (P * d))))) := HS
    have hn : ¬ (k : Int) < (k : Int) := by omega
    have HN := F.hangs (by omega)
    clear HS F
    go_wp2_with fail
    refine bodyPost_ret (results_t2J rfl _ _) rfl ?_
    exact ⟨g, ⟨cap, by rw [← HC.out]; rfl⟩, HN, BB⟩
  have hlti : (k : Int) < (m : Int) := by omega
  have OG0 := ownGrid_empty wo
  have BA : Below wo.heap.size wo (wo.alloc (.cells #[] 72)) := (Below.refl _ _).alloc (Nat.le_refl _) _
  have HF : Hid (∀ wv, Below wo.heap.size wo wv → OwnCube wv w.heap.size g k cap ((List.range k).map fun i => (List.range P).map fun t => rowT l d (i * (P * d) + t * d))) := fun wv hb => F.below hb
  have hwo : w.heap.size ≤ wo.heap.size := BB.size
  have hgF := F.lt
  generalize hwa : wo.alloc (.cells #[] 72) = wa at *
  have HS1 : Hid (S = txt (l.drop (4 * (k * (P * d) + 0 * d)))) := by show _ = _; rw [HS.out, Nat.zero_mul, Nat.add_zero]
  clear F HS
  go_upto_region 7 with fail
  clear hwa hlti
  go_loopg [0, 12, 13] P (fun r s0 s12 s13 wr => ∃ (t g2 cap2 : Nat) (S : ByteArray), t ≤ P ∧ r = P - t ∧ s13 = .int .i64 (t : Int) ∧ s12 = .slice (some ⟨g2, 0, none⟩) t cap2 ∧ s0 = .string S ∧ Hid (S = txt (l.drop (4 * (k * (P * d) + t * d)))) ∧ OwnGrid wr wo.heap.size g2 t cap2 ((List.range t).map fun t => rowT l d (k * (P * d) + t * d)) ∧ Below wo.heap.size wo wr)
  case atStart => exact ⟨0, _, _, S, by omega, by omega, rfl, rfl, rfl, HS1, OG0, BA⟩
  case round =>
  clear OG0 BA HS1
  obtain ⟨t, g2, cap2, S, ht, rfl, rfl, rfl, rfl, HS, OG, BG⟩ := hrel
  rename World => wp
  by_cases hlt2 : t < P
  rotate_left
  · obtain rfl : t = P := by omega
    have hn : ¬ (t : Int) < (t : Int) := by omega
    have HS2 : Hid (S = txt (l.drop (4 * ((k + 1) * (t * d))))) := by show _ = _; rw [HS.out, Nat.succ_mul k]
    obtain ⟨p1, p2⟩ := own_capsJ OG.own.choose_spec.1
    have NG := OG.hangs (by omega)
    have BL : Below wp.heap.size wp (wp.alloc (.cells #[.slice (some ⟨g2, 0, none⟩) t cap2] 73)) := (Below.refl _ _).alloc (Nat.le_refl _) _
    have cX := cellListsJ wp (.slice (some ⟨g2, 0, none⟩) t cap2)
    have F4 := HF.out _ (below_then BG BL)
    have s4 := BL.size
    have NG4 : Hangs (fun b => w.heap.size ≤ b ∧ b ≠ g) (wp.alloc (.cells #[.slice (some ⟨g2, 0, none⟩) t cap2] 73)) (fun w => GridAt w (some ⟨g2, 0, none⟩) t ((List.range t).map fun t' => rowT l d (k * (t * d) + t' * d))) := Hangs.mono (Hangs.below NG BL) (fun b _ hb => by
      have hb' : wo.heap.size ≤ b := hb
      exact ⟨by omega, by omega⟩)
    have BW : Below w.heap.size w wp := below_then BB BG
    have B4 := below_then BW BL
    have hsz := B4.size
    have hck : ((List.range k).map fun i => (List.range t).map fun t' => rowT l d (i * (t * d) + t' * d)).length = k := by simp
    clear NG OG HS BW
    generalize hw4 : wp.alloc (.cells #[.slice (some ⟨g2, 0, none⟩) t cap2] 73) = w4 at *
    go_wp2_with (at_builtin; refine wpList_append_cube rfl _ _ rfl w.heap.size g k cap _ rfl (by exact F4) wp.heap.size g2 t cap2 _ rfl (by exact cX) p1 p2 (by exact NG4) (by omega) (by omega) ?_; intro g' cap' w' F7 B7)
    go_roundg (m - (k + 1))
    case measure => omega
    case rel => exact ⟨k + 1, g', cap', S, by omega, rfl, by go_num, rfl, rfl, HS2, by rw [map_range_succJ]; exact F7, B4.trans B7⟩
  have hlti2 : (t : Int) < (P : Int) := by omega
  have FR0 := fresh_empty wp
  have BA : Below wp.heap.size wp (wp.alloc (.cells #[] 71)) := (Below.refl _ _).alloc (Nat.le_refl _) _
  have hwp : wo.heap.size ≤ wp.heap.size := BG.size
  have HOG : Hid (∀ wv, Below wp.heap.size wp wv → OwnGrid wv wo.heap.size g2 t cap2 ((List.range t).map fun t => rowT l d (k * (P * d) + t * d)) ∧ Below wo.heap.size wo wv) := fun wv hb => ⟨OG.below hb, below_then BG hb⟩
  have HG1 : Hid (OwnGrid wp wo.heap.size g2 t cap2 ((List.range t).map fun t => rowT l d (k * (P * d) + t * d))) := OG
  have hg2l : g2 < wp.heap.size := (own_block OG.own.choose_spec.1).2.elim fun cur h => (Array.getElem?_eq_some_iff.1 h).1
  generalize hwa : wp.alloc (.cells #[] 71) = wa at *
  have HS1 : Hid (S = txt (l.drop (4 * (k * (P * d) + t * d + 0)))) := by show _ = _; rw [HS.out, Nat.add_zero]
  clear OG HS BG
  go_upto_region 11 with fail
  clear hwa hlti2
  go_loopg [0, 14, 15] d (fun r s0 s14 s15 wr => ∃ (j g3 cap3 : Nat) (S : ByteArray), j ≤ d ∧ r = d - j ∧ s15 = .int .i64 (j : Int) ∧ s14 = .slice (some ⟨g3, 0, none⟩) j cap3 ∧ s0 = .string S ∧ Hid (S = txt (l.drop (4 * (k * (P * d) + t * d + j)))) ∧ Fresh wr wp.heap.size g3 j cap3 (tab j fun q => numAt l (k * (P * d) + t * d + q)) ∧ Below wp.heap.size wp wr)
  case atStart => exact ⟨0, _, _, S, by omega, by omega, rfl, rfl, rfl, HS1, FR0, BA⟩
  case round =>
  clear FR0 BA HS1
  obtain ⟨j, g3, cap3, S, hj, rfl, rfl, rfl, rfl, HS, FR, BR⟩ := hrel
  rename World => wq
  by_cases hlt3 : j < d
  rotate_left
  · obtain rfl : j = d := by omega
    have hn : ¬ (j : Int) < (j : Int) := by omega
    have HS2 : Hid (S = txt (l.drop (4 * (k * (P * j) + (t + 1) * j)))) := by show _ = _; rw [HS.out, Nat.succ_mul t, Nat.add_assoc]
    have BL : Below wq.heap.size wq (wq.alloc (.cells #[.slice (some ⟨g3, 0, none⟩) j cap3] 72)) := (Below.refl _ _).alloc (Nat.le_refl _) _
    have cX := cellRowJ wq (.slice (some ⟨g3, 0, none⟩) j cap3)
    have B4 := below_then BR BL
    obtain ⟨OG4, BG4⟩ := HOG.out _ B4
    have FR4 := (FR.below BL).mono hwp
    have hgb := FR.base
    have hsz := BG4.size
    have szw : wq.heap.size < (wq.alloc (.cells #[.slice (some ⟨g3, 0, none⟩) j cap3] 72)).heap.size := by simp
    have hqp := BR.size
    clear FR HS
    generalize hw4 : wq.alloc (.cells #[.slice (some ⟨g3, 0, none⟩) j cap3] 72) = w4 at *
    go_wp2_with (at_builtin; refine wpList_append_grid rfl _ _ rfl wo.heap.size g2 t cap2 _ rfl (by exact OG4) wp HG1.out B4 wq.heap.size g3 j cap3 _ rfl (by exact cX) (by exact FR4) hgb (by omega) (by omega) ?_; intro g' cap' w' F7 B7)
    have DR : Below wo.heap.size wo w' := BG4.trans B7
    go_roundg (P - (t + 1))
    case measure => omega
    case rel => exact ⟨t + 1, g', cap', S, by omega, rfl, by go_num, rfl, rfl, HS2, by rw [map_range_succJ]; exact F7, DR⟩
  have hlti3 : (j : Int) < (d : Int) := by omega
  have hidx := idx_lt hlt hlt2 hlt3
  have hLL := HL.out
  obtain ⟨c, hc⟩ : ∃ c, c = k * (P * d) + t * d + j := ⟨_, rfl⟩
  have HC : Hid (c = k * (P * d) + t * d + j) := hc
  have hc4 : 4 * c + 4 ≤ l.length := by rw [hc]; omega
  obtain ⟨L2, hL2⟩ : ∃ L2, L2 = l.drop (4 * c) := ⟨_, rfl⟩
  have hSL : S = txt L2 := by rw [HS.out, hL2, hc]
  have hlL : L2.length = l.length - 4 * c := by rw [hL2, List.length_drop]
  have h4L : 4 ≤ L2.length := by omega
  have hlL2 : L2.length ≤ 16777216 := by omega
  have HSL : Hid (S = txt L2) := hSL
  have hsz : S.size = L2.length := by rw [hSL, txt_size]
  obtain ⟨S2, hS2⟩ : ∃ S2, S2 = txt (l.drop (4 * (c + 1))) := ⟨_, rfl⟩
  have hex : S.extract 4 L2.length = S2 := by
    rw [hSL, extract_txt, hS2, List.take_of_length_le (by rw [List.length_drop]; exact Nat.le_refl _), hL2, List.drop_drop, show 4 * c + 4 = 4 * (c + 1) by omega]
  have HS2 : Hid (S2 = txt (l.drop (4 * (k * (P * d) + t * d + (j + 1))))) := by show _ = _; rw [hS2, hc]; rfl
  obtain ⟨y, hy⟩ : ∃ y, y = toI (valB (L2.take 4)) := ⟨_, rfl⟩
  have hyb : -2147483648 ≤ y ∧ y ≤ 2147483647 := by rw [hy]; exact toI_in _
  have HY : Hid (y = numAt l (k * (P * d) + t * d + j)) := by show _ = _; rw [hy, hL2, hc]; rfl
  have hv4 : valB (L2.take 4) < 4294967296 := by
    have := valB_lt 4 (L2.take 4) (by rw [List.length_take]; omega)
    exact this
  have hti : IntKind.i32.wrap ((valB (L2.take 4) : Nat) : Int) = y := by rw [hy]; rfl
  have HTI : Hid (IntKind.i32.wrap ((valB (L2.take 4) : Nat) : Int) = y) := hti
  have HEX : Hid (S.extract 4 L2.length = S2) := hex
  have HSZ : Hid (S.size = L2.length) := hsz
  have H4 : Hid (valB (L2.take 4) < 4294967296) := hv4
  clear hc hL2 hSL hlL hS2 hy hti HS hex hsz hv4 hidx hLL
  go_upto_region 15 with fail
  go_loopg [16, 17] 4 (fun r s16 s17 wr => ∃ q : Nat, q ≤ 4 ∧ r = 4 - q ∧ s17 = .int .i64 (q : Int) ∧ s16 = .int .u32 ((valB (L2.take q) : Nat) : Int) ∧ wr = wq)
  case atStart => exact ⟨0, by omega, by omega, rfl, by rw [List.take_zero]; rfl, rfl⟩
  case round =>
  obtain ⟨q, hq, rfl, rfl, rfl, hw⟩ := hrel
  obtain rfl := hw.symm
  clear hw
  by_cases hlt4 : q < 4
  · have hq4 : (q : Int) < 4 := by omega
    have ix := index_atJ S q (by rw [HSZ.out]; omega) (q : Int) rfl wq
    have e9 : S.data.toList.getD q 0 = L2.getD q 0 := by rw [HSL.out, txt_list]
    rw [e9] at ix
    have HV : Hid (valB (L2.take (q + 1)) = valB (L2.take q) * 256 + (L2.getD q 0).toNat) := by
      show _ = _
      rw [take_snocB (by omega), valB_snoc]
    have hv : valB (L2.take q) < 16777216 := by
      have h1 := valB_lt q (L2.take q) (by rw [List.length_take]; omega)
      have h2 : 256 ^ q ≤ 256 ^ 3 := Nat.pow_le_pow_right (by omega) (by omega)
      omega
    have hb := (L2.getD q 0).toNat_lt
    generalize (L2.getD q 0).toNat = b at *
    generalize hx : valB (L2.take q) = x at *
    have HX : Hid (valB (L2.take q) = x) := hx
    clear hx e9
    have u1 : IntKind.u32.wrap (256 * (x : Int)) = 256 * (x : Int) := u32_in (by omega)
    have u2 : IntKind.u32.wrap (256 * (x : Int) + (b : Int)) = 256 * (x : Int) + (b : Int) := u32_in (by omega)
    go_wp2_with fail
    go_roundg (4 - (q + 1))
    case measure => omega
    case rel => exact ⟨q + 1, by omega, rfl, by go_num, by rw [HV.out]; go_num, rfl⟩
  · obtain rfl : q = 4 := by omega
    have hti := HTI.out
    have hex := HEX.out
    have hsz := HSZ.out
    generalize valB (L2.take 4) = z at *
    have CN := blk_new wq 71 #[.int .i32 y]
    have BL : Below wq.heap.size wq (wq.alloc (.cells #[.int .i32 y] 71)) := (Below.refl _ _).alloc (Nat.le_refl _) _
    have B4 := below_then BR BL
    have FR4 := FR.below BL
    have hsw := B4.size
    have RX := row_boxJ CN hyb
    clear FR
    generalize hw4 : wq.alloc (.cells #[.int .i32 y] 71) = w4 at *
    go_wp2_with (at_builtin; refine wpList_append_one2 rfl _ _ rfl wp.heap.size g3 j cap3 _ rfl (by exact FR4) wq.heap.size y rfl (by exact RX) (by omega) (by omega) ?_; intro g' cap' w' F7 B7 _ _)
    go_roundg (d - (j + 1))
    case measure => omega
    case rel => exact ⟨j + 1, g', cap', S2, by omega, rfl, by go_num, rfl, rfl, HS2, by rw [tab_next, ← HY.out]; exact F7, B4.trans B7⟩
end Go.Proofs.Ytpplnjmjldhlbaa

/- The document's shaped and Check of layer 11, of any block and any configuration. Laid by tools/genrcheck11.py. -/
namespace Go.Proofs.Ytpplnjmjldhlbaa
open Go.ChangeShapes Go.WideShapes Go.ChangeAt Go.RowKit
theorem all_take_snoc {α : Type} {A : List α} {k : Nat} {x : α} (h : A[k]? = some x) (p : α → Bool) : (A.take (k + 1)).all p = ((A.take k).all p && p x) := by
  rw [List.take_add_one, h, List.all_append]
  simp
set_option maxRecDepth 100000 in
set_option maxHeartbeats 1600000 in
theorem shaped_any (ao : Option Addr) (m ca : Nat) (C : List (List (List Int))) (places dim : Int) (w : World) (hC : CubeAt w ao m C) :
   Calls Try.prog 40 #[.slice ao m ca, .int .i64 places, .int .i64 dim] w fun e w' => e = .returned (.bool (rfB C places dim)) ∧ w' = w := by
  have hm := hC.max
  have HLN : Hid (C.length = m) := hC.len
  have HC : Hid (CubeAt w ao m C) := hC
  clear hC
  go_enter Try.func40, Try.ntmps40
  go_wp2
  go_loopg [7, 14] m (fun r g2 i wr => ∃ k : Nat, k ≤ m ∧ r = m - k ∧ i = .int .i64 (k : Int) ∧ wr = w ∧ g2 = .bool ((C.take k).all fun R => rfR R places dim))
  case atStart => exact ⟨0, by omega, by omega, rfl, rfl, by simp⟩
  case round =>
    obtain ⟨k, hk, rfl, rfl, hwr, rfl⟩ := hrel
    obtain rfl : w = wr := hwr.symm
    by_cases hlt : k < m
    rotate_left
    · obtain rfl : k = m := by omega
      have HE : Hid ((C.take k).all (fun R => rfR R places dim) = rfB C places dim) := by
        show _ = _
        rw [List.take_of_length_le (by rw [HLN.out]; exact Nat.le_refl _)]; rfl
      go_wp2
      go_ret
      exact ⟨by rw [HE.out]; rfl, rfl⟩
    obtain ⟨b, o, rfl, hc⟩ := HC.out.cells (by omega)
    obtain ⟨R, hR⟩ : ∃ R, C[k]? = some R := ⟨_, List.getElem?_eq_getElem (show k < C.length by rw [HLN.out]; exact hlt)⟩
    obtain ⟨ro, n, c1, s1, -, -, -, GR⟩ := hc k R hR
    have hn := GR.max
    have HGL : Hid (R.length = n) := GR.len
    have HG : Hid (GridAt w ro n R) := GR
    have HX : Hid ((C.take (k + 1)).all (fun R => rfR R places dim) = ((C.take k).all (fun R => rfR R places dim) && (decide ((n : Int) = places) && R.all (fun r : List Int => decide ((r.length : Int) = dim))))) := by
      show _ = _
      rw [all_take_snoc hR]
      unfold rfR
      rw [HGL.out]
    clear hc GR hR
    generalize (C.take k).all (fun R => rfR R places dim) = p at *
    obtain ⟨g, hg⟩ : ∃ g, ((n : Int) == places) = g := ⟨_, rfl⟩
    have HGG : Hid (decide ((n : Int) = places) = g) := by show _ = _; rw [← hg]; rfl
    cases p with
    | false =>
      have HG1 : Hid ((false && g) = false) := rfl
      go_wp2
      clear hg
      go_loopg [7, 27] n (fun r g2 i wq => ∃ j : Nat, j ≤ n ∧ r = n - j ∧ i = .int .i64 (j : Int) ∧ wq = w ∧ g2 = .bool (false && (R.take j).all (fun r : List Int => decide ((r.length : Int) = dim))))
      case atStart => exact ⟨0, by omega, by omega, rfl, rfl, by simp⟩
      case round =>
        obtain ⟨j, hj, rfl, rfl, hwr, rfl⟩ := hrel
        obtain rfl : w = wr := hwr.symm
        by_cases hlt2 : j < n
        rotate_left
        · obtain rfl : j = n := by omega
          rw [List.take_of_length_le (by rw [HGL.out]; exact Nat.le_refl _)]
          go_wp2
          go_roundg (m - (k + 1))
          case measure => omega
          case rel => exact ⟨k + 1, by omega, rfl, by go_num, rfl, by rw [HX.out, HGG.out, ← Bool.and_assoc, HG1.out]; first | done | rfl⟩
        obtain ⟨b2, o2, rfl, hc2⟩ := HG.out.cells (by omega)
        obtain ⟨r3, l3, c3, s3, A⟩ := hc2 j hlt2
        have HY : Hid ((R.take (j + 1)).all (fun r : List Int => decide ((r.length : Int) = dim)) = ((R.take j).all (fun r : List Int => decide ((r.length : Int) = dim)) && decide ((l3 : Int) = dim))) := by
          show _ = _
          have h8 := A.row.len
          rw [all_take_snoc (x := rowOf R j) (by unfold rowOf; rw [List.getD_eq_getElem?_getD, List.getElem?_eq_getElem (show j < R.length by rw [HGL.out]; exact hlt2)]; rfl), h8]
        have hm3 := A.row.max
        clear hc2 A
        generalize (R.take j).all (fun r : List Int => decide ((r.length : Int) = dim)) = z at *
        cases hz : (false && z) with
        | false =>
          have HZ : Hid ((false && z) = false) := hz
          clear hz
          go_wp2
          go_roundg (n - (j + 1))
          case measure => omega
          case rel => exact ⟨j + 1, by omega, rfl, by go_num, rfl, by rw [HY.out, ← Bool.and_assoc, HZ.out]; rfl⟩
        | true =>
          have HZ : Hid ((false && z) = true) := hz
          clear hz
          go_wp2
          go_roundg (n - (j + 1))
          case measure => omega
          case rel => exact ⟨j + 1, by omega, rfl, by go_num, rfl, by rw [HY.out, ← Bool.and_assoc, HZ.out]; rfl⟩
    | true =>
      have HG1 : Hid ((true && g) = g) := by show _ = _; simp
      go_wp2
      clear hg
      go_loopg [7, 27] n (fun r g2 i wq => ∃ j : Nat, j ≤ n ∧ r = n - j ∧ i = .int .i64 (j : Int) ∧ wq = w ∧ g2 = .bool (g && (R.take j).all (fun r : List Int => decide ((r.length : Int) = dim))))
      case atStart => exact ⟨0, by omega, by omega, rfl, rfl, by simp⟩
      case round =>
        obtain ⟨j, hj, rfl, rfl, hwr, rfl⟩ := hrel
        obtain rfl : w = wr := hwr.symm
        by_cases hlt2 : j < n
        rotate_left
        · obtain rfl : j = n := by omega
          rw [List.take_of_length_le (by rw [HGL.out]; exact Nat.le_refl _)]
          go_wp2
          go_roundg (m - (k + 1))
          case measure => omega
          case rel => exact ⟨k + 1, by omega, rfl, by go_num, rfl, by rw [HX.out, HGG.out, ← Bool.and_assoc, HG1.out]; first | done | rfl⟩
        obtain ⟨b2, o2, rfl, hc2⟩ := HG.out.cells (by omega)
        obtain ⟨r3, l3, c3, s3, A⟩ := hc2 j hlt2
        have HY : Hid ((R.take (j + 1)).all (fun r : List Int => decide ((r.length : Int) = dim)) = ((R.take j).all (fun r : List Int => decide ((r.length : Int) = dim)) && decide ((l3 : Int) = dim))) := by
          show _ = _
          have h8 := A.row.len
          rw [all_take_snoc (x := rowOf R j) (by unfold rowOf; rw [List.getD_eq_getElem?_getD, List.getElem?_eq_getElem (show j < R.length by rw [HGL.out]; exact hlt2)]; rfl), h8]
        have hm3 := A.row.max
        clear hc2 A
        generalize (R.take j).all (fun r : List Int => decide ((r.length : Int) = dim)) = z at *
        cases hz : (g && z) with
        | false =>
          have HZ : Hid ((g && z) = false) := hz
          clear hz
          go_wp2
          go_roundg (n - (j + 1))
          case measure => omega
          case rel => exact ⟨j + 1, by omega, rfl, by go_num, rfl, by rw [HY.out, ← Bool.and_assoc, HZ.out]; rfl⟩
        | true =>
          have HZ : Hid ((g && z) = true) := hz
          clear hz
          go_wp2
          go_roundg (n - (j + 1))
          case measure => omega
          case rel => exact ⟨j + 1, by omega, rfl, by go_num, rfl, by rw [HY.out, ← Bool.and_assoc, HZ.out]; rfl⟩
theorem ck_bad {Vo D L : Int} {X : Pg} (h : X.F < 0 ∨ (X.T.length : Int) ≤ X.F ∨ 128 < (X.T.length : Int) ∨ 16 < (X.T.length : Int) - X.F ∨ (X.K.length : Int) ≠ L ∨ (X.V.length : Int) ≠ L) : ckN Vo D L X = 4 := by
  unfold ckN
  rw [if_pos]
  by_cases h1 : plB X.T.length X.F = true
  · have := plB_true h1
    have h2 : (X.K.length : Int) ≠ L ∨ (X.V.length : Int) ≠ L := by omega
    exact Or.inr h2
  · exact Or.inl (by simpa using h1)
theorem ck_good {Vo D L : Int} {X : Pg} (h : ¬ (X.F < 0 ∨ (X.T.length : Int) ≤ X.F ∨ 128 < (X.T.length : Int) ∨ 16 < (X.T.length : Int) - X.F ∨ (X.K.length : Int) ≠ L ∨ (X.V.length : Int) ≠ L)) : ckN Vo D L X = if X.T.all (tokB Vo) = true then (if rfB X.K ((X.T.length : Int) - X.F) D = true ∧ rfB X.V ((X.T.length : Int) - X.F) D = true then 0 else 4) else 7 := by
  unfold ckN
  rw [if_neg]
  rintro (h1 | h1 | h1)
  · unfold plB at h1
    have : ¬ (0 ≤ X.F ∧ X.T.length ≤ 128 ∧ 1 ≤ (X.T.length : Int) - X.F ∧ (X.T.length : Int) - X.F ≤ 16) := fun hh => by
      simp [hh.1, hh.2.1, hh.2.2.1, hh.2.2.2] at h1
    omega
  · omega
  · omega
set_option maxRecDepth 100000 in
set_option maxHeartbeats 3200000 in
theorem rcheck11_any (Vo D Hd H L : Int) (p : PgV) (X : Pg) (w : World) (hp : PgAt w p X) (hF : -9223372036854775808 ≤ X.F ∧ X.F ≤ 9223372036854775807) :
   Calls Try.prog 19 #[.agg (cfgC Vo D Hd H L), .agg p.cells] w fun e w' => e = .returned (.int .i64 (ckN Vo D L X)) ∧ Below w.heap.size w w' := by
  have hTl := hp.t.row.len
  have hKl := hp.k.len
  have hVl := hp.v.len
  have htm := hp.t.row.max
  have hkm := hp.k.max
  have hvm := hp.v.max
  have HT : Hid (∀ wv, Below w.heap.size w wv → IArg wv p.t.ao p.t.n p.t.c X.T) := fun wv hb => hp.t.below hb
  have HK : Hid (∀ wv, Below w.heap.size w wv → CubeAt wv p.k.ao p.k.n X.K) := fun wv hb => hp.k.below hb
  have HV : Hid (∀ wv, Below w.heap.size w wv → CubeAt wv p.v.ao p.v.n X.V) := fun wv hb => hp.v.below hb
  have hpf : p.f = X.F := hp.f
  obtain ⟨⟨ta, tn, tz⟩, F, ⟨ka, kn, kz⟩, ⟨va, vn, vz⟩⟩ := p
  simp only at hTl hKl hVl htm hkm hvm hpf HT HK HV
  have HBAD : Hid (F < 0 ∨ (tn : Int) ≤ F ∨ 128 < (tn : Int) ∨ 16 < (tn : Int) - F ∨ (kn : Int) ≠ L ∨ (vn : Int) ≠ L → ckN Vo D L X = 4) := fun h => ck_bad (by rw [hTl, hKl, hVl, ← hpf]; exact h)
  have HGOOD : Hid (¬ (F < 0 ∨ (tn : Int) ≤ F ∨ 128 < (tn : Int) ∨ 16 < (tn : Int) - F ∨ (kn : Int) ≠ L ∨ (vn : Int) ≠ L) → ckN Vo D L X = if X.T.all (tokB Vo) = true then (if rfB X.K ((tn : Int) - F) D = true ∧ rfB X.V ((tn : Int) - F) D = true then 0 else 4) else 7) := fun h => by
    have := ck_good (Vo := Vo) (D := D) (L := L) (X := X) (by rw [hTl, hKl, hVl, ← hpf]; exact h)
    rw [hTl, ← hpf] at this
    exact this
  rw [← hpf] at hF
  have hTT : Hid (X.T.length = tn) := hTl
  show Calls Try.prog 19 #[.agg #[.int .i64 Vo, .int .i64 D, .int .i64 Hd, .int .i64 H, .int .i64 L], .agg #[.slice ta tn tz, .int .i64 F, .slice ka kn kz, .slice va vn vz]] w _
  generalize ckN Vo D L X = q at *
  clear hp hpf hTl hKl hVl
  have X0 := blk_new w 23 #[.int .i64 Vo, .int .i64 D, .int .i64 Hd, .int .i64 H, .int .i64 L]
  have B0 : Below w.heap.size w (w.alloc (.cells #[.int .i64 Vo, .int .i64 D, .int .i64 Hd, .int .i64 H, .int .i64 L] 23)) := (Below.refl _ _).alloc (Nat.le_refl _) _
  generalize hw0 : w.alloc (.cells #[.int .i64 Vo, .int .i64 D, .int .i64 Hd, .int .i64 H, .int .i64 L] 23) = w0 at *
  have X1 := blk_new w0 44 #[.slice ta tn tz, .int .i64 F, .slice ka kn kz, .slice va vn vz]
  have BB : Below w0.heap.size w0 (w0.alloc (.cells #[.slice ta tn tz, .int .i64 F, .slice ka kn kz, .slice va vn vz] 44)) := (Below.refl _ _).alloc (Nat.le_refl _) _
  generalize hw1 : w0.alloc (.cells #[.slice ta tn tz, .int .i64 F, .slice ka kn kz, .slice va vn vz] 44) = w1 at *
  replace X0 := X0.below BB
  have B1 := below_then B0 BB
  clear B0 BB
  have a0 : w1.cell? ⟨w.heap.size, 0, none⟩ = some (.int .i64 Vo) := X0.cell 0 rfl
  have a1 : w1.cell? ⟨w.heap.size, 1, none⟩ = some (.int .i64 D) := X0.cell 1 rfl
  have a4 : w1.cell? ⟨w.heap.size, 4, none⟩ = some (.int .i64 L) := X0.cell 4 rfl
  have c0 : w1.cell? ⟨w0.heap.size, 0, none⟩ = some (.slice ta tn tz) := X1.cell 0 rfl
  have c1 : w1.cell? ⟨w0.heap.size, 1, none⟩ = some (.int .i64 F) := X1.cell 1 rfl
  have c2 : w1.cell? ⟨w0.heap.size, 2, none⟩ = some (.slice ka kn kz) := X1.cell 2 rfl
  have c3 : w1.cell? ⟨w0.heap.size, 3, none⟩ = some (.slice va vn vz) := X1.cell 3 rfl
  go_enter Try.func19, Try.ntmps19
  by_cases h1 : F < 0
  · have E : Hid (q = 4) := HBAD.out (Or.inl h1)
    clear hTT
    go_wp2
    go_ret
    exact ⟨by rw [E.out]; rfl, B1⟩
  by_cases h2 : (tn : Int) ≤ F
  · have E : Hid (q = 4) := HBAD.out (Or.inr (Or.inl h2))
    clear hTT
    go_wp2
    go_ret
    exact ⟨by rw [E.out]; rfl, B1⟩
  by_cases h3 : 128 < (tn : Int)
  · have E : Hid (q = 4) := HBAD.out (Or.inr (Or.inr (Or.inl h3)))
    clear hTT
    go_wp2
    go_ret
    exact ⟨by rw [E.out]; rfl, B1⟩
  by_cases h4 : 16 < (tn : Int) - F
  · have E : Hid (q = 4) := HBAD.out (Or.inr (Or.inr (Or.inr (Or.inl h4))))
    clear hTT
    go_wp2
    go_ret
    exact ⟨by rw [E.out]; rfl, B1⟩
  by_cases h5 : (kn : Int) = L
  rotate_left
  · have E : Hid (q = 4) := HBAD.out (Or.inr (Or.inr (Or.inr (Or.inr (Or.inl h5)))))
    clear hTT
    go_wp2
    go_ret
    exact ⟨by rw [E.out]; rfl, B1⟩
  by_cases h6 : (vn : Int) = L
  rotate_left
  · have E : Hid (q = 4) := HBAD.out (Or.inr (Or.inr (Or.inr (Or.inr (Or.inr h6)))))
    clear hTT
    go_wp2
    go_ret
    exact ⟨by rw [E.out]; rfl, B1⟩
  have HQ : Hid (q = if X.T.all (tokB Vo) = true then (if rfB X.K ((tn : Int) - F) D = true ∧ rfB X.V ((tn : Int) - F) D = true then 0 else 4) else 7) := HGOOD.out (by omega)
  have k5 : ((kn : Int) == L) = true := by simpa using h5
  have k6 : ((vn : Int) == L) = true := by simpa using h6
  have k5' : ((kn : Int) != L) = false := by simp [bne, k5]
  have k6' : ((vn : Int) != L) = false := by simp [bne, k6]
  have d5 : decide ((kn : Int) = L) = true := decide_eq_true h5
  have d6 : decide ((vn : Int) = L) = true := decide_eq_true h6
  clear h5 h6 HBAD HGOOD
  go_wp2
  clear hw0 hw1
  go_loopg [53] tn (fun r i wr => ∃ k : Nat, k ≤ tn ∧ r = tn - k ∧ i = .int .i64 k ∧ wr = w1 ∧ (X.T.take k).all (tokB Vo) = true)
  case atStart => exact ⟨0, by omega, by omega, rfl, rfl, by simp⟩
  case round =>
    obtain ⟨k, hk, rfl, rfl, hwr, HA⟩ := hrel
    obtain rfl : w1 = wr := hwr.symm
    by_cases hlt : k < tn
    · obtain ⟨b, o, rfl, hc⟩ := (HT.out w1 B1).row.cells (by omega)
      have ck := hc k hlt
      have HX : Hid ((X.T.take (k + 1)).all (tokB Vo) = ((X.T.take k).all (tokB Vo) && tokB Vo (el X.T k))) := by
        show _ = _
        rw [all_take_snoc (x := el X.T k)]
        unfold el
        rw [List.getD_eq_getElem?_getD, List.getElem?_eq_getElem (show k < X.T.length by rw [hTT.out]; exact hlt)]
        rfl
      have HM : Hid (tokB Vo (el X.T k) = false → X.T.all (tokB Vo) = false) := fun hf => by
        cases e : X.T.all (tokB Vo) with
        | false => rfl
        | true =>
          rw [List.all_eq_true] at e
          have h9 : k < X.T.length := by rw [hTT.out]; exact hlt
          have := e _ (List.getElem_mem h9)
          unfold el at hf
          rw [List.getD_eq_getElem?_getD, List.getElem?_eq_getElem h9, Option.getD_some, this] at hf
          exact hf
      generalize el X.T k = x at *
      clear hc
      have HF : Hid (tokB Vo x = false → q = 7) := fun hf => by
        rw [HQ.out, HM.out hf]; rfl
      by_cases hx0 : x < 0
      · have E : Hid (q = 7) := HF.out (by unfold tokB; simp; omega)
        go_wp2
        go_ret
        exact ⟨by rw [E.out]; rfl, B1⟩
      · by_cases hx1 : Vo ≤ x
        · have E : Hid (q = 7) := HF.out (by unfold tokB; simp; omega)
          go_wp2
          go_ret
          exact ⟨by rw [E.out]; rfl, B1⟩
        · have HT2 : Hid (tokB Vo x = true) := by show _ = _; unfold tokB; simp; omega
          go_wp2
          go_roundg (tn - (k + 1))
          case measure => omega
          case rel => exact ⟨k + 1, by omega, rfl, by go_num, rfl, by rw [HX.out, HA, HT2.out]; rfl⟩
    · obtain rfl : k = tn := by omega
      have HA2 : Hid (X.T.all (tokB Vo) = true) := by rw [List.take_of_length_le (by rw [hTT.out]; exact Nat.le_refl _)] at HA; exact HA
      have SK := shaped_any ka kn kz X.K ((k : Int) - F) D w1 (HK.out _ B1)
      have SV := shaped_any va vn vz X.V ((k : Int) - F) D w1 (HV.out _ B1)
      have HQ2 : Hid (q = if rfB X.K ((k : Int) - F) D = true ∧ rfB X.V ((k : Int) - F) D = true then 0 else 4) := by show _ = _; rw [HQ.out, if_pos HA2.out]
      generalize rfB X.K ((k : Int) - F) D = bK at *
      generalize rfB X.V ((k : Int) - F) D = bV at *
      clear HA
      cases bK with
      | false =>
        have E : Hid (q = 4) := by show _ = _; rw [HQ2.out]; simp
        go_wp2_with fail
        refine SK.mono ?_
        rintro e w2 ⟨rfl, h⟩
        obtain rfl := h.symm
        clear SK SV
        go_wp2_with fail
        go_ret
        exact ⟨by rw [E.out]; rfl, B1⟩
      | true =>
        go_wp2_with fail
        refine SK.mono ?_
        rintro e w2 ⟨rfl, h⟩
        obtain rfl := h.symm
        clear SK
        go_wp2_with fail
        refine SV.mono ?_
        rintro e w3 ⟨rfl, h⟩
        obtain rfl := h.symm
        clear SV
        cases bV with
        | false =>
          have E : Hid (q = 4) := by show _ = _; rw [HQ2.out]; simp
          go_wp2_with fail
          go_ret
          exact ⟨by rw [E.out]; rfl, B1⟩
        | true =>
          have E : Hid (q = 0) := by show _ = _; rw [HQ2.out]; simp
          go_wp2_with fail
          go_ret
          exact ⟨by rw [E.out]; rfl, B1⟩
end Go.Proofs.Ytpplnjmjldhlbaa

/- The document's Join of layer 11. Laid by tools/genrjoin11.py. -/
namespace Go.Proofs.Ytpplnjmjldhlbaa
open Go.ChangeShapes Go.WideShapes Go.ChangeAt Go.RowKit Go.Deep
def catA (A B : List (List (List Int))) (t : Nat) : List (List Int) := A.getD t [] ++ B.getD t []
theorem var3j (w : World) (T : TypeId) (z row : Array Value) : Blk (w.alloc (.cells z T)) w.heap.size T z ∧ Blk ((w.alloc (.cells z T)).setRow w.heap.size row) w.heap.size T row ∧ Below w.heap.size w ((w.alloc (.cells z T)).setRow w.heap.size row) ∧ w.heap.size < ((w.alloc (.cells z T)).setRow w.heap.size row).heap.size :=
  ⟨blk_new w T z, (blk_new w T z).row row, below_setRow ((Below.refl _ _).alloc (Nat.le_refl _) _) (Nat.le_refl _) _, by simp⟩
set_option maxRecDepth 100000 in
set_option maxHeartbeats 16000000 in
theorem rjoin11_any (Vo D Hd H L : Int) (s : Sl) (l : List Pg) (w : World) (hs : PgsAt w s l) (hF : ∀ X ∈ l, -9223372036854775808 ≤ X.F ∧ X.F ≤ 9223372036854775807) (hB : ∀ X ∈ l, X.K.length ≤ 900) :
   Calls Try.prog 20 #[.agg (cfgC Vo D Hd H L), s.v] w fun e w' => ∃ t2 k2 v2 : Sl, e = .returned (.tuple #[.agg #[t2.v, k2.v, v2.v], .int .i64 (jnS Vo D L noVw l).1]) ∧ ToldAt w' t2 k2 v2 (jnS Vo D L noVw l).2 ∧ Below w.heap.size w w' := by
  have HS : Hid (PgsAt w s l) := hs
  have hln := hs.len
  have hmx := hs.max
  obtain ⟨la, n, lc⟩ := s
  simp only at hln hmx
  have HLN : Hid (l.length = n) := hln
  have HFF : Hid (∀ X ∈ l, -9223372036854775808 ≤ X.F ∧ X.F ≤ 9223372036854775807) := hF
  have HBB : Hid (∀ X ∈ l, X.K.length ≤ 900) := hB
  obtain ⟨RES, hRES⟩ : ∃ r, r = jnS Vo D L noVw l := ⟨_, rfl⟩
  rw [← hRES]
  have HR0 : Hid (RES = jnS Vo D L noVw (l.drop 0)) := by show _ = _; rw [hRES]; rfl
  clear hs hln hF hB hRES
  have CK := fun (p : PgV) (X : Pg) (wv : World) (hp : PgAt wv p X) hF => rcheck11_any Vo D Hd H L p X wv hp hF
  show Calls Try.prog 20 #[.agg #[.int .i64 Vo, .int .i64 D, .int .i64 Hd, .int .i64 H, .int .i64 L], .slice la n lc] w _
  unfold cfgC at CK
  have X0 := blk_new w 23 #[.int .i64 Vo, .int .i64 D, .int .i64 Hd, .int .i64 H, .int .i64 L]
  have B0 : Below w.heap.size w (w.alloc (.cells #[.int .i64 Vo, .int .i64 D, .int .i64 Hd, .int .i64 H, .int .i64 L] 23)) := (Below.refl _ _).alloc (Nat.le_refl _) _
  generalize hw1 : w.alloc (.cells #[.int .i64 Vo, .int .i64 D, .int .i64 Hd, .int .i64 H, .int .i64 L] 23) = w1 at *
  have X4 := blk_new w1 31 #[.slice none 0 0, .slice none 0 0, .slice none 0 0]
  have B1 : Below w1.heap.size w1 (w1.alloc (.cells #[.slice none 0 0, .slice none 0 0, .slice none 0 0] 31)) := (Below.refl _ _).alloc (Nat.le_refl _) _
  generalize hw2 : w1.alloc (.cells #[.slice none 0 0, .slice none 0 0, .slice none 0 0] 31) = w2 at *
  obtain ⟨ZE, X6, B3, z3⟩ := var3j w2 31 #[.slice none 0 0, .slice none 0 0, .slice none 0 0] #[.slice none 0 0, .slice none 0 0, .slice none 0 0]
  generalize hz1 : w2.alloc (.cells #[.slice none 0 0, .slice none 0 0, .slice none 0 0] 31) = wz at *
  generalize hz2 : wz.setRow w2.heap.size #[.slice none 0 0, .slice none 0 0, .slice none 0 0] = w3 at *
  have h46 : w1.heap.size < w2.heap.size := X4.lt
  have h04 : w.heap.size < w1.heap.size := X0.lt
  replace X0 := (X0.below B1).below B3
  replace X4 := X4.below B3
  have DB := below_then (below_then B0 B1) B3
  clear B0 B1 B3
  obtain ⟨P, hP⟩ : ∃ P : Nat → Prop, P = fun b => b ≠ w1.heap.size ∧ b ≠ w2.heap.size := ⟨_, rfl⟩
  have HP : Hid (∀ b, P b ↔ (b ≠ w1.heap.size ∧ b ≠ w2.heap.size)) := fun b => by rw [hP]
  clear hP
  go_enter Try.func20, Try.ntmps20
  go_upto_region 3 with (refine wpList_store_row rfl 31 _ _ rfl w2.heap.size #[.slice none 0 0, .slice none 0 0, .slice none 0 0] rfl rfl 31 _ ZE Try.infoRV rfl (by simp [Value.oneCell']) ?_; rw [hz2])
  clear hz1 hz2 ZE hw1 hw2 z3
  go_loopg [19] n (fun r s19 wr => ∃ (k : Nat) (X : Vw) (tk ks vs : Sl), k ≤ n ∧ r = n - k ∧ s19 = .int .i64 (k : Int) ∧ Blk wr w2.heap.size 31 #[tk.v, ks.v, vs.v] ∧ IArg w tk.ao tk.n tk.c X.T ∧ PCube P wr ks X.K ∧ PCube P wr vs X.V ∧ JI L X ∧ Hid (RES = jnS Vo D L X (l.drop k)) ∧ Blk wr w.heap.size 23 #[.int .i64 Vo, .int .i64 D, .int .i64 Hd, .int .i64 H, .int .i64 L] ∧ Blk wr w1.heap.size 31 #[.slice none 0 0, .slice none 0 0, .slice none 0 0] ∧ Below w.heap.size w wr)
  case atStart => exact ⟨0, noVw, ⟨none, 0, 0⟩, ⟨none, 0, 0⟩, ⟨none, 0, 0⟩, by omega, by omega, rfl, X6, iarg_nil w, pcube_nil _ _, pcube_nil _ _, ji_none L, HR0, X0, X4, DB⟩
  case round =>
  clear X6 X0 X4 DB HR0
  obtain ⟨k, X, ⟨ta, tn, tz⟩, ⟨ka, kn, kz⟩, ⟨va, vn, vz⟩, hk, rfl, rfl, X6, IT, PK, PV, JX, HR, X0, X4, DW⟩ := hrel
  rename World => wo
  rw [show (#[Sl.v ⟨ta, tn, tz⟩, Sl.v ⟨ka, kn, kz⟩, Sl.v ⟨va, vn, vz⟩] : Array Value) = #[.slice ta tn tz, .slice ka kn kz, .slice va vn vz] from rfl] at X6
  by_cases hlt : k < n
  rotate_left
  · obtain rfl : k = n := by omega
    have hRE : RES = (0, X) := by rw [HR.out, List.drop_eq_nil_of_le (by rw [HLN.out]; exact Nat.le_refl _)]; rfl
    have HRE : Hid (RES = (0, X)) := hRE
    clear hRE
    have T : Tn P P wo (wo.setRow w1.heap.size #[.slice ta tn tz, .slice ka kn kz, .slice va vn vz]) := ⟨by simp, fun b _ hb => ⟨hb, setRow_other _ _ _ _ ((HP.out b).1 hb).1⟩⟩
    have F2 := (PK.turn T (fun _ h => h)).dcube.cube
    have F3 := (PV.turn T (fun _ h => h)).dcube.cube
    have D2 := below_setRow DW (g := w1.heap.size) (by omega) #[.slice ta tn tz, .slice ka kn kz, .slice va vn vz]
    skip
    go_wp2_with (first | (refine wpList_load_row rfl 31 _ rfl w2.heap.size rfl 31 #[.slice ta tn tz, .slice ka kn kz, .slice va vn vz] (0, 0) _ X6 Try.underlying31 rfl Try.infoRV ?_) | (refine wpList_store_row rfl 31 _ _ rfl w1.heap.size #[.slice ta tn tz, .slice ka kn kz, .slice va vn vz] rfl rfl 31 _ X4 Try.infoRV rfl (by simp [Value.oneCell']) ?_))
    refine bodyPost_ret (results_cBt rfl _ _ w1.heap.size #[.slice ta tn tz, .slice ka kn kz, .slice va vn vz] rfl (run_loadVar_row _ w1.heap.size _ _ _ _ _ (X4.row #[.slice ta tn tz, .slice ka kn kz, .slice va vn vz]) Try.underlying31 rfl Try.infoRV)) rfl ?_
    exact ⟨⟨ta, tn, tz⟩, ⟨ka, kn, kz⟩, ⟨va, vn, vz⟩, by rw [HRE.out]; rfl, by rw [HRE.out]; exact ⟨IT.below D2, F2, F3⟩, D2⟩
  have hwo9 : Hid (w.heap.size ≤ wo.heap.size) := DW.size
  have HPO : Hid (PCube P wo ⟨ka, kn, kz⟩ X.K ∧ PCube P wo ⟨va, vn, vz⟩ X.V) := ⟨PK, PV⟩
  obtain ⟨g, o, e, hc⟩ := HS.out.cells (by show 0 < n; omega)
  simp only at e
  subst e
  obtain ⟨Xk, hX⟩ : ∃ X, l[k]? = some X := ⟨_, List.getElem?_eq_getElem (show k < l.length by rw [HLN.out]; omega)⟩
  obtain ⟨p, r0, PA⟩ := hc k Xk hX
  have hFk := HFF.out Xk (List.mem_of_getElem? hX)
  have hBk := HBB.out Xk (List.mem_of_getElem? hX)
  have HDR : Hid (l.drop k = Xk :: l.drop (k + 1)) := drop_cons hX
  replace r0 := pg_range r0 DW
  have CKp := CK p Xk
  clear hc hX
  have pF := PA.f
  have pT := PA.t
  have pK := PA.k
  have pV := PA.v
  have HPA : Hid (∀ wv, Below w.heap.size w wv → PgAt wv p Xk) := fun wv hb => PA.below hb
  clear PA
  obtain ⟨⟨p1, p2, p3⟩, pf, ⟨p4, p5, p6⟩, ⟨p7, p8, p9⟩⟩ := p
  simp only at pF pT pK pV
  rw [show (PgV.cells ⟨⟨p1, p2, p3⟩, pf, ⟨p4, p5, p6⟩, ⟨p7, p8, p9⟩⟩) = #[.slice p1 p2 p3, .int .i64 pf, .slice p4 p5 p6, .slice p7 p8 p9] from rfl] at r0 CKp
  rw [← pF] at hFk
  have HPF : Hid (pf = Xk.F) := pF
  clear pF
  have h6o : w2.heap.size < wo.heap.size := X6.lt
  obtain ⟨Z8, X8, B8, z8⟩ := var3j wo 44 #[.slice none 0 0, .int .i64 0, .slice none 0 0, .slice none 0 0] #[.slice p1 p2 p3, .int .i64 pf, .slice p4 p5 p6, .slice p7 p8 p9]
  generalize hz1 : wo.alloc (.cells #[.slice none 0 0, .int .i64 0, .slice none 0 0, .slice none 0 0] 44) = wz at *
  generalize hz2 : wz.setRow wo.heap.size #[.slice p1 p2 p3, .int .i64 pf, .slice p4 p5 p6, .slice p7 p8 p9] = w4 at *
  replace X6 := X6.below B8
  replace PK := PK.below B8
  replace PV := PV.below B8
  replace X0 := X0.below B8
  replace X4 := X4.below B8
  replace DW := below_then DW B8
  have BO := B8
  clear B8
  go_upto_region 5 with (first | (refine wpList_load_mid rfl 44 _ rfl g (o + k * 4) rfl [.slice p1 p2 p3, .int .i64 pf, .slice p4 p5 p6, .slice p7 p8 p9] _ r0 Try.underlying44 rfl (by exact Try.infoTg) ?_) | (refine wpList_store_row rfl 44 _ _ rfl wo.heap.size #[.slice p1 p2 p3, .int .i64 pf, .slice p4 p5 p6, .slice p7 p8 p9] rfl rfl 44 _ Z8 Try.infoTg rfl (by simp [Value.oneCell']) ?_; rw [hz2]))
  clear hz1 hz2 Z8 r0
  have a0 : w4.cell? ⟨w.heap.size, 0, none⟩ = some (.int .i64 Vo) := X0.cell 0 rfl
  have a1 : w4.cell? ⟨w.heap.size, 1, none⟩ = some (.int .i64 D) := X0.cell 1 rfl
  have a2 : w4.cell? ⟨w.heap.size, 2, none⟩ = some (.int .i64 Hd) := X0.cell 2 rfl
  have a3 : w4.cell? ⟨w.heap.size, 3, none⟩ = some (.int .i64 H) := X0.cell 3 rfl
  have a4 : w4.cell? ⟨w.heap.size, 4, none⟩ = some (.int .i64 L) := X0.cell 4 rfl
  go_wp2_with (refine wpList_load_row rfl 44 _ rfl wo.heap.size rfl 44 #[.slice p1 p2 p3, .int .i64 pf, .slice p4 p5 p6, .slice p7 p8 p9] (0, 0) _ X8 Try.underlying44 rfl Try.infoTg ?_)
  refine (CKp _ (HPA.out _ DW) (by rw [← HPF.out]; exact hFk)).mono ?_
  rintro e w5 ⟨rfl, B5⟩
  replace X6 := X6.below B5
  replace PK := PK.below B5
  replace PV := PV.below B5
  replace X0 := X0.below B5
  replace X4 := X4.below B5
  replace X8 := X8.below B5
  replace DW := below_then DW B5
  replace BO := below_then BO B5
  have HBO : Hid (Below wo.heap.size wo w5) := BO
  clear BO
  clear B5 CKp a0 a1 a2 a3 a4
  by_cases hck : ckN Vo D L Xk = 0
  rotate_left
  · have hRE : RES = (ckN Vo D L Xk, noVw) := by rw [HR.out, HDR.out, jn_bad hck]
    have HRE : Hid (RES = (ckN Vo D L Xk, noVw)) := hRE
    clear hRE HDR HR
    generalize ckN Vo D L Xk = q at *
    have hq1 : (q == 0) = false := by simpa using hck
    have hq2 : (q != 0) = true := by simp [bne, hq1]
    clear PK PV X6 X8 X0
    have D2 := below_setRow DW (g := w1.heap.size) (by omega) #[.slice none 0 0, .slice none 0 0, .slice none 0 0]
    go_wp2_with (refine wpList_store_row rfl 31 _ _ rfl w1.heap.size #[.slice none 0 0, .slice none 0 0, .slice none 0 0] rfl rfl 31 _ X4 Try.infoRV rfl (by simp [Value.oneCell']) ?_)
    refine bodyPost_ret (results_cBt rfl _ _ w1.heap.size #[.slice none 0 0, .slice none 0 0, .slice none 0 0] rfl (run_loadVar_row _ w1.heap.size _ _ _ _ _ (X4.row #[.slice none 0 0, .slice none 0 0, .slice none 0 0]) Try.underlying31 rfl Try.infoRV)) rfl ?_
    exact ⟨⟨none, 0, 0⟩, ⟨none, 0, 0⟩, ⟨none, 0, 0⟩, by rw [HRE.out]; rfl, by rw [HRE.out]; exact ⟨iarg_nil _, (pcube_nil P _).dcube.cube, (pcube_nil P _).dcube.cube⟩, D2⟩
  rw [hck]
  obtain ⟨e1, e2, e3, e4, e5, e6⟩ := ck_zero hck
  obtain ⟨f1, f2, f3, f4⟩ := plB_true e1
  have hTl : Xk.T.length = p2 := pT.row.len
  have hKl : Xk.K.length = p5 := pK.len
  have hVl : Xk.V.length = p8 := pV.len
  have hXl : X.T.length = tn := IT.row.len
  rw [hTl, ← HPF.out] at f3 f4
  rw [← HPF.out] at f1
  rw [hTl] at f2
  have h85 : p8 = p5 := by omega
  have H85 : Hid (p8 = p5) := h85
  clear h85
  obtain ⟨F, hFF⟩ : ∃ F : Nat, pf = (F : Int) := ⟨pf.toNat, by omega⟩
  subst hFF
  have HFN : Hid (Xk.F.toNat = F) := by show _ = _; rw [← HPF.out]; exact Int.toNat_natCast F
  have hFlt : F < p2 := by omega
  have HOFF : Hid (Xk.T.take F ≠ X.T → RES = (8, noVw)) := fun h => by rw [HR.out, HDR.out, jn_off hck (by rw [HFN.out]; exact h)]
  have HON : Hid (Xk.T.take F = X.T → RES = jnS Vo D L ⟨Xk.T, catC X.K Xk.K, catC X.V Xk.V⟩ (l.drop (k + 1)) ∧ JI L ⟨Xk.T, catC X.K Xk.K, catC X.V Xk.V⟩) := fun h => ⟨by rw [HR.out, HDR.out, jn_on hck (by rw [HFN.out]; exact h)], ji_step JX hck (by rw [HFN.out]; exact h)⟩
  have HTL : Hid (Xk.T.length = p2) := hTl
  have HKL : Hid (Xk.K.length = p5) := hKl
  have HVL : Hid (Xk.V.length = p8) := hVl
  have HXL : Hid (X.T.length = tn) := hXl
  have HKK : Hid (∀ R ∈ Xk.K, (R.length : Int) = (p2 : Int) - F) := fun R hR => by have := (rfB_spec e5 R hR).1; rw [hTl, ← HPF.out] at this; exact this
  have HVV : Hid (∀ R ∈ Xk.V, (R.length : Int) = (p2 : Int) - F) := fun R hR => by have := (rfB_spec e6 R hR).1; rw [hTl, ← HPF.out] at this; exact this
  have HJX : Hid (JI L X) := JX
  have hn9 : tn ≤ 128 := by have := JX.t; omega
  have hp9 : p5 ≤ 900 := by omega
  clear e1 e2 e3 e4 e5 e6 f1 f4 hck JX HR HDR hTl hKl hVl hXl hBk hFk
  have b0 : w5.cell? ⟨w2.heap.size, 0, none⟩ = some (.slice ta tn tz) := X6.cell 0 rfl
  have c1 : w5.cell? ⟨wo.heap.size, 1, none⟩ = some (.int .i64 (F : Int)) := X8.cell 1 rfl
  by_cases hFt : F = tn
  rotate_left
  · have hne : ((F : Int) == (tn : Int)) = false := by simp; omega
    have hne2 : decide ((F : Int) = (tn : Int)) = false := decide_eq_false (by omega)
    have hNT : Xk.T.take F ≠ X.T := fun h => by have := take_eq_len h (by rw [HTL.out]; omega); rw [HXL.out] at this; omega
    have HRE : Hid (RES = (8, noVw)) := HOFF.out hNT
    clear hNT HOFF HON PK PV hFt
    go_upto_region 10 with fail
    clear b0 c1
    go_loopg [10, 11] 1 (fun r s10 s11 wq => r = 1 ∧ s10 = .bool false ∧ wq = w5)
    case atStart => exact ⟨rfl, rfl, rfl⟩
    case round =>
      obtain ⟨rfl, rfl, hwr⟩ := hrel
      obtain rfl := hwr.symm
      have D2 := below_setRow DW (g := w1.heap.size) (by omega) #[.slice none 0 0, .slice none 0 0, .slice none 0 0]
      go_wp2_with (refine wpList_store_row rfl 31 _ _ rfl w1.heap.size #[.slice none 0 0, .slice none 0 0, .slice none 0 0] rfl rfl 31 _ X4 Try.infoRV rfl (by simp [Value.oneCell']) ?_)
      refine bodyPost_ret (results_cBt rfl _ _ w1.heap.size #[.slice none 0 0, .slice none 0 0, .slice none 0 0] rfl (run_loadVar_row _ w1.heap.size _ _ _ _ _ (X4.row #[.slice none 0 0, .slice none 0 0, .slice none 0 0]) Try.underlying31 rfl Try.infoRV)) rfl ?_
      exact ⟨⟨none, 0, 0⟩, ⟨none, 0, 0⟩, ⟨none, 0, 0⟩, by rw [HRE.out]; rfl, by rw [HRE.out]; exact ⟨iarg_nil _, (pcube_nil P _).dcube.cube, (pcube_nil P _).dcube.cube⟩, D2⟩
  subst hFt
  have heq : ((F : Int) == (F : Int)) = true := by simp
  have heq2 : decide ((F : Int) = (F : Int)) = true := decide_eq_true rfl
  go_upto_region 10 with fail
  clear b0 c1 heq heq2
  have HX5 : Hid (∀ wv, Below w5.heap.size w5 wv → Blk wv wo.heap.size 44 #[.slice p1 p2 p3, .int .i64 (F : Int), .slice p4 p5 p6, .slice p7 p8 p9] ∧ Blk wv w2.heap.size 31 #[.slice ta F tz, .slice ka kn kz, .slice va vn vz] ∧ Blk wv w.heap.size 23 #[.int .i64 Vo, .int .i64 D, .int .i64 Hd, .int .i64 H, .int .i64 L] ∧ Blk wv w1.heap.size 31 #[.slice none 0 0, .slice none 0 0, .slice none 0 0] ∧ PCube P wv ⟨ka, kn, kz⟩ X.K ∧ PCube P wv ⟨va, vn, vz⟩ X.V ∧ Below w.heap.size w wv) := fun wv hb => ⟨X8.below hb, X6.below hb, X0.below hb, X4.below hb, PK.below hb, PV.below hb, below_then DW hb⟩
  clear X8 X6 X0 X4 PK PV DW
  have hz8 : wo.heap.size < w5.heap.size := (HX5.out _ (Below.refl _ _)).1.lt
  go_loopg [10, 11] (F + 1) (fun r s10 s11 wq => ∃ (i : Nat) (b : Bool), i ≤ F ∧ r = F + 1 - i ∧ s10 = .bool b ∧ s11 = .int .i64 (i : Int) ∧ Below w5.heap.size w5 wq ∧ Hid (b = true → Xk.T.take i = X.T.take i) ∧ Hid (b = false → Xk.T.take F ≠ X.T))
  case atStart => exact ⟨0, true, by omega, by omega, rfl, rfl, Below.refl _ _, (fun _ => by rw [List.take_zero, List.take_zero]), (fun h => by cases h)⟩
  case round =>
  obtain ⟨i, b, hi, rfl, rfl, rfl, DQ, HA, HN⟩ := hrel
  rename World => wq
  cases b with
  | false =>
    have HRE : Hid (RES = (8, noVw)) := HOFF.out (HN.out rfl)
    obtain ⟨X8, X6, X0, X4, -, -, DW⟩ := HX5.out _ DQ
    clear HOFF HON HX5 X8 X6 X0 HA HN
    have D2 := below_setRow DW (g := w1.heap.size) (by omega) #[.slice none 0 0, .slice none 0 0, .slice none 0 0]
    go_wp2_with (refine wpList_store_row rfl 31 _ _ rfl w1.heap.size #[.slice none 0 0, .slice none 0 0, .slice none 0 0] rfl rfl 31 _ X4 Try.infoRV rfl (by simp [Value.oneCell']) ?_)
    refine bodyPost_ret (results_cBt rfl _ _ w1.heap.size #[.slice none 0 0, .slice none 0 0, .slice none 0 0] rfl (run_loadVar_row _ w1.heap.size _ _ _ _ _ (X4.row #[.slice none 0 0, .slice none 0 0, .slice none 0 0]) Try.underlying31 rfl Try.infoRV)) rfl ?_
    exact ⟨⟨none, 0, 0⟩, ⟨none, 0, 0⟩, ⟨none, 0, 0⟩, by rw [HRE.out]; rfl, by rw [HRE.out]; exact ⟨iarg_nil _, (pcube_nil P _).dcube.cube, (pcube_nil P _).dcube.cube⟩, D2⟩
  | true =>
    by_cases hlt2 : i < F
    · have hia : (i : Int) < (F : Int) := by omega
      have hia2 : (i : Int) < (p2 : Int) := by omega
      obtain ⟨tb, to2, rfl, hc1⟩ := IT.row.cells (by show 0 < F; omega)
      obtain ⟨qb, qo, e9, hc2⟩ := pT.row.cells (by omega)
      subst e9
      have d1 := hc1 i (by omega)
      have d2 := hc2 i (by omega)
      obtain ⟨X8, X6, X0, X4, -, -, DW⟩ := HX5.out _ DQ
      replace d1 := cell_keep d1 DW
      replace d2 := cell_keep d2 DW
      have HY : Hid (el Xk.T i = el X.T i → Xk.T.take (i + 1) = X.T.take (i + 1)) := fun e => take_next (by rw [HTL.out]; omega) (by rw [HXL.out]; omega) (HA.out rfl) e
      have HY2 : Hid (el Xk.T i ≠ el X.T i → Xk.T.take F ≠ X.T) := fun e => take_off hlt2 e
      generalize el Xk.T i = x at *
      generalize el X.T i = y at *
      clear hc1 hc2 HA HN X0 X4
      have c1 : wq.cell? ⟨wo.heap.size, 1, none⟩ = some (.int .i64 (F : Int)) := X8.cell 1 rfl
      go_upto_region 12 with fail
      clear c1
      have BD : Below wq.heap.size wq wq.drew := (Below.refl _ wq).drew
      replace X8 := X8.below BD
      replace X6 := X6.below BD
      replace d1 := cell_keep d1 BD
      replace d2 := cell_keep d2 BD
      replace DQ := below_then DQ BD
      clear BD DW
      refine wp_region_held_drew (S := fun w' => Blk w' wo.heap.size 44 #[.slice (some ⟨qb, qo, none⟩) p2 p3, .int .i64 (F : Int), .slice p4 p5 p6, .slice p7 p8 p9] ∧ Blk w' w2.heap.size 31 #[.slice (some ⟨tb, to2, none⟩) F tz, .slice ka kn kz, .slice va vn vz] ∧ w'.cell? ⟨tb, to2 + i, none⟩ = some (.int .i64 y) ∧ w'.cell? ⟨qb, qo + i, none⟩ = some (.int .i64 x)) (by kernel_rfl) (⟨X8, X6, d1, d2⟩) (fun hHeld => ?_)
      generalize hA : wq.drew = wA at *
      clear hA
      refine wpAnyH_take (i := 0) (v := (.pointer (some ⟨wo.heap.size, 0, none⟩))) rfl (by kernel_rfl) (by kernel_rfl) (by kernel_rfl) (fun _ _ _ h => h) (Or.inl ⟨by rfl, ?_⟩) (by assumption) ?_
      · intro w' hSw
        go_simp
      simp only [List.getElem_toArray, List.getElem_cons_zero, Act.put, List.setIfInBounds_toArray, List.set_cons_zero, List.set_cons_succ]
      refine wpAnyH_take (i := 1) (v := (.slice (some ⟨qb, qo, none⟩) p2 p3)) rfl (by kernel_rfl) (by kernel_rfl) (by kernel_rfl) (fun _ _ _ h => h) (Or.inl ⟨by rfl, ?_⟩) (by assumption) ?_
      · intro w' hSw
        have y0 : w'.cell? ⟨wo.heap.size, 0, none⟩ = some (.slice (some ⟨qb, qo, none⟩) p2 p3) := hSw.1.cell 0 rfl
        go_simp
      simp only [List.getElem_toArray, List.getElem_cons_succ, List.getElem_cons_zero, Act.put, List.setIfInBounds_toArray, List.set_cons_zero, List.set_cons_succ]
      refine wpAnyH_take (i := 2) (v := (.int .i64 (i : Int))) rfl (by kernel_rfl) (by kernel_rfl) (by kernel_rfl) (fun _ _ _ h => h) (Or.inl ⟨by rfl, ?_⟩) (by assumption) ?_
      · intro w' hSw
        go_simp
      simp only [List.getElem_toArray, List.getElem_cons_succ, List.getElem_cons_zero, Act.put, List.setIfInBounds_toArray, List.set_cons_zero, List.set_cons_succ]
      refine wpAnyH_take (i := 3) (v := (.pointer (some ⟨qb, qo + i, none⟩))) rfl (by kernel_rfl) (by kernel_rfl) (by kernel_rfl) (fun _ _ _ h => h) (Or.inl ⟨by rfl, ?_⟩) (by assumption) ?_
      · intro w' hSw
        go_simp
      simp only [List.getElem_toArray, List.getElem_cons_succ, List.getElem_cons_zero, Act.put, List.setIfInBounds_toArray, List.set_cons_zero, List.set_cons_succ]
      refine wpAnyH_take (i := 4) (v := (.int .i64 x)) rfl (by kernel_rfl) (by kernel_rfl) (by kernel_rfl) (fun _ _ _ h => h) (Or.inl ⟨by rfl, ?_⟩) (by assumption) ?_
      · intro w' hSw
        have y0 := hSw.2.2.2
        go_simp
      simp only [List.getElem_toArray, List.getElem_cons_succ, List.getElem_cons_zero, Act.put, List.setIfInBounds_toArray, List.set_cons_zero, List.set_cons_succ]
      refine wpAnyH_take (i := 5) (v := (.pointer (some ⟨w2.heap.size, 0, none⟩))) rfl (by kernel_rfl) (by kernel_rfl) (by kernel_rfl) (fun _ _ _ h => h) (Or.inl ⟨by rfl, ?_⟩) (by assumption) ?_
      · intro w' hSw
        go_simp
      simp only [List.getElem_toArray, List.getElem_cons_succ, List.getElem_cons_zero, Act.put, List.setIfInBounds_toArray, List.set_cons_zero, List.set_cons_succ]
      refine wpAnyH_take (i := 6) (v := (.slice (some ⟨tb, to2, none⟩) F tz)) rfl (by kernel_rfl) (by kernel_rfl) (by kernel_rfl) (fun _ _ _ h => h) (Or.inl ⟨by rfl, ?_⟩) (by assumption) ?_
      · intro w' hSw
        have y0 : w'.cell? ⟨w2.heap.size, 0, none⟩ = some (.slice (some ⟨tb, to2, none⟩) F tz) := hSw.2.1.cell 0 rfl
        go_simp
      simp only [List.getElem_toArray, List.getElem_cons_succ, List.getElem_cons_zero, Act.put, List.setIfInBounds_toArray, List.set_cons_zero, List.set_cons_succ]
      refine wpAnyH_take (i := 7) (v := (.int .i64 (i : Int))) rfl (by kernel_rfl) (by kernel_rfl) (by kernel_rfl) (fun _ _ _ h => h) (Or.inl ⟨by rfl, ?_⟩) (by assumption) ?_
      · intro w' hSw
        go_simp
      simp only [List.getElem_toArray, List.getElem_cons_succ, List.getElem_cons_zero, Act.put, List.setIfInBounds_toArray, List.set_cons_zero, List.set_cons_succ]
      refine wpAnyH_take (i := 8) (v := (.pointer (some ⟨tb, to2 + i, none⟩))) rfl (by kernel_rfl) (by kernel_rfl) (by kernel_rfl) (fun _ _ _ h => h) (Or.inl ⟨by rfl, ?_⟩) (by assumption) ?_
      · intro w' hSw
        go_simp
      simp only [List.getElem_toArray, List.getElem_cons_succ, List.getElem_cons_zero, Act.put, List.setIfInBounds_toArray, List.set_cons_zero, List.set_cons_succ]
      refine wpAnyH_take (i := 9) (v := (.int .i64 y)) rfl (by kernel_rfl) (by kernel_rfl) (by kernel_rfl) (fun _ _ _ h => h) (Or.inl ⟨by rfl, ?_⟩) (by assumption) ?_
      · intro w' hSw
        have y0 := hSw.2.2.1
        go_simp
      simp only [List.getElem_toArray, List.getElem_cons_succ, List.getElem_cons_zero, Act.put, List.setIfInBounds_toArray, List.set_cons_zero, List.set_cons_succ]
      by_cases hxy : x = y
      · have HZ := HY.out hxy
        have hx1 : (x == y) = true := by simpa using hxy
        have hx2 : decide (x = y) = true := decide_eq_true hxy
        clear hxy
        refine wpAnyH_take (i := 10) (v := (.bool true)) rfl (by kernel_rfl) (by kernel_rfl) (by kernel_rfl) (fun _ _ _ h => h) (Or.inl ⟨by rfl, ?_⟩) (by assumption) ?_
        · intro w' hSw
          go_simp
        simp only [List.getElem_toArray, List.getElem_cons_succ, List.getElem_cons_zero, Act.put, List.setIfInBounds_toArray, List.set_cons_zero, List.set_cons_succ]
        refine wpAnyH_take (i := 11) (v := (.bool true)) rfl (by kernel_rfl) (by kernel_rfl) (by kernel_rfl) (fun _ _ _ h => h) (Or.inl ⟨by rfl, ?_⟩) (by assumption) ?_
        · intro w' hSw
          go_simp
        simp only [List.getElem_toArray, List.getElem_cons_succ, List.getElem_cons_zero, Act.put, List.setIfInBounds_toArray, List.set_cons_zero, List.set_cons_succ]
        refine wpAnyH_done (by kernel_rfl) ?_ _
        clear hHeld
        go_wp2_with fail
        go_roundg (F + 1 - (i + 1))
        case measure => omega
        case rel => exact ⟨i + 1, true, by omega, rfl, rfl, by go_num, DQ, (fun _ => HZ), (fun h => by cases h)⟩
      · have HZ := HY2.out hxy
        have hx1 : (x == y) = false := by simpa using hxy
        have hx2 : decide (x = y) = false := decide_eq_false hxy
        clear hxy
        refine wpAnyH_take (i := 10) (v := (.bool false)) rfl (by kernel_rfl) (by kernel_rfl) (by kernel_rfl) (fun _ _ _ h => h) (Or.inl ⟨by rfl, ?_⟩) (by assumption) ?_
        · intro w' hSw
          go_simp
        simp only [List.getElem_toArray, List.getElem_cons_succ, List.getElem_cons_zero, Act.put, List.setIfInBounds_toArray, List.set_cons_zero, List.set_cons_succ]
        refine wpAnyH_take (i := 11) (v := (.bool false)) rfl (by kernel_rfl) (by kernel_rfl) (by kernel_rfl) (fun _ _ _ h => h) (Or.inl ⟨by rfl, ?_⟩) (by assumption) ?_
        · intro w' hSw
          go_simp
        simp only [List.getElem_toArray, List.getElem_cons_succ, List.getElem_cons_zero, Act.put, List.setIfInBounds_toArray, List.set_cons_zero, List.set_cons_succ]
        refine wpAnyH_done (by kernel_rfl) ?_ _
        clear hHeld
        go_wp2_with fail
        go_roundg (F + 1 - (i + 1))
        case measure => omega
        case rel => exact ⟨i + 1, false, by omega, rfl, rfl, by go_num, DQ, (fun h => by cases h), (fun _ => HZ)⟩
    · obtain rfl : i = F := by omega
      have hTE : Xk.T.take i = X.T := by rw [HA.out rfl, List.take_of_length_le (by rw [HXL.out]; exact Nat.le_refl _)]
      obtain ⟨hRE, hJN⟩ := HON.out hTE
      have HRE : Hid (RES = jnS Vo D L ⟨Xk.T, catC X.K Xk.K, catC X.V Xk.V⟩ (l.drop (k + 1))) := hRE
      have HJN : Hid (JI L ⟨Xk.T, catC X.K Xk.K, catC X.V Xk.V⟩) := hJN
      clear HOFF HON HA HN hTE hRE hJN hlt2
      obtain ⟨X8, X6, X0, X4, PK, PV, DW⟩ := HX5.out _ DQ
      clear HX5
      have b0 : wq.cell? ⟨wo.heap.size, 0, none⟩ = some (.slice p1 p2 p3) := X8.cell 0 rfl
      have c1 : wq.cell? ⟨wo.heap.size, 1, none⟩ = some (.int .i64 (i : Int)) := X8.cell 1 rfl
      obtain ⟨ZN, XN, BN, zN⟩ := var3j wq 31 #[.slice none 0 0, .slice none 0 0, .slice none 0 0] #[.slice p1 p2 p3, .slice none 0 0, .slice none 0 0]
      generalize hz1 : wq.alloc (.cells #[.slice none 0 0, .slice none 0 0, .slice none 0 0] 31) = wz at *
      generalize hz2 : wz.setRow wq.heap.size #[.slice p1 p2 p3, .slice none 0 0, .slice none 0 0] = w6 at *
      have b2 : w6.cell? ⟨wo.heap.size, 2, none⟩ = some (.slice p4 p5 p6) := (X8.below BN).cell 2 rfl
      go_upto_region 17 with (refine wpList_store_row rfl 31 _ _ rfl wq.heap.size #[.slice p1 p2 p3, .slice none 0 0, .slice none 0 0] rfl rfl 31 _ ZN Try.infoRV rfl (by simp [Value.oneCell']) ?_; rw [hz2])
      clear hz1 hz2 ZN b0 b2 zN c1
      have HXB : Hid (∀ wv, Below wq.heap.size wq wv → Blk wv wo.heap.size 44 #[.slice p1 p2 p3, .int .i64 (i : Int), .slice p4 p5 p6, .slice p7 p8 p9] ∧ Blk wv w2.heap.size 31 #[.slice ta i tz, .slice ka kn kz, .slice va vn vz] ∧ Blk wv w.heap.size 23 #[.int .i64 Vo, .int .i64 D, .int .i64 Hd, .int .i64 H, .int .i64 L] ∧ Blk wv w1.heap.size 31 #[.slice none 0 0, .slice none 0 0, .slice none 0 0] ∧ Below w.heap.size w wv ∧ PCube P wv ⟨ka, kn, kz⟩ X.K ∧ PCube P wv ⟨va, vn, vz⟩ X.V) := fun wv hb => ⟨X8.below hb, X6.below hb, X0.below hb, X4.below hb, below_then DW hb, PK.below hb, PV.below hb⟩
      have HBQ : Hid (Below wo.heap.size wo wq) := below_then HBO.out DQ
      obtain ⟨q, hq⟩ : ∃ q : Nat → Prop, q = fun b => b + 1 < wq.heap.size → P b := ⟨_, rfl⟩
      have HQ : Hid (∀ b, q b ↔ (b + 1 < wq.heap.size → P b)) := fun b => by rw [hq]
      have hoq : wo.heap.size < wq.heap.size := X8.lt
      clear X8 X6 X0 X4 PK PV DW DQ hq
      have GS : GoV q wq w6 (.slice p1 p2 p3) (.slice none 0 0) (.slice none 0 0) (.slice none 0 0) (.slice none 0 0) ((List.range 0).map (catA X.K Xk.K)) ((List.range 0).map (catA X.V Xk.V)) := ⟨XN, OCu.nil _ _ _, OCu.nil _ _ _, (fun g e => (no_ownJ g e).elim), BN⟩
      clear XN BN
      obtain rfl : p8 = p5 := H85.out
      go_loopg [65] p8 (fun r s65 wx => ∃ (j : Nat) (u1 u2 : Option Addr) (z1 z2 : Nat), j ≤ p8 ∧ r = p8 - j ∧ s65 = .int .i64 (j : Int) ∧ GoV q wq wx (.slice p1 p2 p3) (.slice u1 j z1) (.slice u2 j z2) (.slice none 0 0) (.slice none 0 0) ((List.range j).map (catA X.K Xk.K)) ((List.range j).map (catA X.V Xk.V)))
      case atStart => exact ⟨0, none, none, 0, 0, by omega, by omega, rfl, GS⟩
      case round =>
      clear GS
      obtain ⟨j, u1, u2, z1, z2, hj, rfl, rfl, GS⟩ := hrel
      rename World => wx
      by_cases hlt3 : j < p8
      rotate_left
      · obtain rfl : j = p8 := by omega
        obtain ⟨X8, X6, X0, X4, DW, -, -⟩ := HXB.out _ GS.kp
        have XN := GS.blk
        skip
        have hPP : ∀ b, offO q (.slice u1 j z1) (.slice u2 j z2) (.slice none 0 0) (.slice none 0 0) (.slice none 0 0) wq.heap.size b → P b := fun b hb => by
          by_cases h9 : b + 1 < wq.heap.size
          · exact (HQ.out b).1 hb.2.2.2.2.2.2.2 h9
          · exact (HP.out b).2 ⟨by omega, by omega⟩
        have hBP : ∀ b, wq.heap.size + 1 ≤ b → P b := fun b hb => (HP.out b).2 ⟨by omega, by omega⟩
        obtain ⟨⟨q1, q2, q3⟩, e1, e2, E1⟩ := GS.c1.pcube (P := P) (by simp; omega) hPP hBP
        obtain ⟨⟨q4, q5, q6⟩, e4, e5, E2⟩ := GS.c2.pcube (P := P) (by simp; omega) hPP hBP
        unfold Sl.v at e1 e4
        simp only [Value.slice.injEq] at e1 e4
        obtain ⟨rfl, rfl, rfl⟩ := e1
        obtain ⟨rfl, rfl, rfl⟩ := e4
        clear e2 e5 hPP hBP
        rw [show (List.range j).map (catA X.K Xk.K) = catC X.K Xk.K from by unfold catC; rw [HKL.out]; rfl] at E1
        rw [show (List.range j).map (catA X.V Xk.V) = catC X.V Xk.V from by unfold catC; rw [HVL.out]; rfl] at E2
        obtain ⟨NR, hNR⟩ : ∃ r : Array Value, r = #[.slice p1 p2 p3, .slice u1 j z1, .slice u2 j z2] := ⟨_, rfl⟩
        have TN : Tn P P wx (wx.setRow w2.heap.size #[.slice p1 p2 p3, .slice u1 j z1, .slice u2 j z2]) := ⟨by simp, fun b _ hb => ⟨hb, setRow_other _ _ _ _ ((HP.out b).1 hb).2⟩⟩
        have F1 := E1.turn TN (fun _ h => h)
        have F2 := E2.turn TN (fun _ h => h)
        have Y6 := X6.row #[.slice p1 p2 p3, .slice u1 j z1, .slice u2 j z2]
        have so : ∀ b, b ≠ w2.heap.size → (wx.setRow w2.heap.size #[.slice p1 p2 p3, .slice u1 j z1, .slice u2 j z2]).heap[b]? = wx.heap[b]? := fun b hb => setRow_other _ _ _ _ hb
        have Y0 := X0.of_block (so _ (by omega))
        have Y4 := X4.of_block (so _ (by omega))
        have D2 := below_setRow DW (g := w2.heap.size) (by omega) #[.slice p1 p2 p3, .slice u1 j z1, .slice u2 j z2]
        clear hNR TN E1 E2 so X8 X0 X4 GS DW
        go_wp2_with (first | (refine wpList_load_row rfl 31 _ rfl wq.heap.size rfl 31 #[.slice p1 p2 p3, .slice u1 j z1, .slice u2 j z2] (0, 0) _ XN Try.underlying31 rfl Try.infoRV ?_) | (refine wpList_store_row rfl 31 _ _ rfl w2.heap.size #[.slice p1 p2 p3, .slice u1 j z1, .slice u2 j z2] rfl rfl 31 _ X6 Try.infoRV rfl (by simp [Value.oneCell']) ?_))
        go_roundg (n - (k + 1))
        case measure => omega
        case rel => exact ⟨k + 1, ⟨Xk.T, catC X.K Xk.K, catC X.V Xk.V⟩, ⟨p1, p2, p3⟩, ⟨u1, j, z1⟩, ⟨u2, j, z2⟩, by omega, rfl, by go_num, Y6, pT, F1, F2, HJN.out, HRE, Y0, Y4, D2⟩
      obtain ⟨v1, hv1⟩ : ∃ v, v = Value.slice u1 j z1 := ⟨_, rfl⟩
      obtain ⟨v2, hv2⟩ : ∃ v, v = Value.slice u2 j z2 := ⟨_, rfl⟩
      rw [← hv1, ← hv2] at GS
      have HV1 : Hid (v1 = Value.slice u1 j z1) := hv1
      have HV2 : Hid (v2 = Value.slice u2 j z2) := hv2
      clear hv1 hv2
      have zx := GS.blk.lt
      have BA : Below wx.heap.size wx (wx.alloc (.cells #[] 72)) := (Below.refl _ _).alloc (Nat.le_refl _) _
      have O4 := rows_madeJ wx (wq.heap.size + 1) (by omega)
      have T0 : Tn (offO q v1 v2 (.slice none 0 0) (.slice none 0 0) (.slice none 0 0) wq.heap.size) (offO q v1 v2 (.slice none 0 0) (.slice (some ⟨wx.heap.size, 0, none⟩) 0 0) (.slice none 0 0) wq.heap.size) wx (wx.alloc (.cells #[] 72)) := (Tn.new4 wx (Nat.le_refl _)).trans (Tn.below BA)
      have za : wx.heap.size < (wx.alloc (.cells #[] 72)).heap.size := by simp
      generalize hwa : wx.alloc (.cells #[] 72) = wa at *
      have BA2 : Below wa.heap.size wa (wa.alloc (.cells #[] 72)) := (Below.refl _ _).alloc (Nat.le_refl _) _
      have O5 := rows_madeJ wa (wq.heap.size + 1) (by omega)
      have T1 : Tn (offO q v1 v2 (.slice none 0 0) (.slice (some ⟨wx.heap.size, 0, none⟩) 0 0) (.slice none 0 0) wq.heap.size) (offO q v1 v2 (.slice none 0 0) (.slice (some ⟨wx.heap.size, 0, none⟩) 0 0) (.slice (some ⟨wa.heap.size, 0, none⟩) 0 0) wq.heap.size) wa (wa.alloc (.cells #[] 72)) := (Tn.new5 wa (Nat.le_refl _)).trans (Tn.below BA2)
      have zb : wa.heap.size < (wa.alloc (.cells #[] 72)).heap.size := by simp
      generalize hwb : wa.alloc (.cells #[] 72) = wb at *
      replace O4 := owns_below O4 BA2
      have BAB := below_then BA BA2
      have GA := GS.side (T0.trans T1) (fun b hb _ => BAB.block b hb) (BAB.mono (by have := GS.kp.size; omega))
      clear T0 T1 GS BA BA2 BAB
      have b1 : wb.cell? ⟨w2.heap.size, 1, none⟩ = some (.slice ka kn kz) := (HXB.out _ GA.kp).2.1.cell 1 rfl
      have b2 : wb.cell? ⟨w2.heap.size, 2, none⟩ = some (.slice va vn vz) := (HXB.out _ GA.kp).2.1.cell 2 rfl
      have h45 : ∀ g, (Value.slice (some ⟨wx.heap.size, 0, none⟩) 0 0).ownBlock = some g → (Value.slice (some ⟨wa.heap.size, 0, none⟩) 0 0).ownBlock ≠ some g := fun g e e2 => by simp [Value.ownBlock] at e e2; omega
      go_upto_if 74 with fail
      clear hwa hwb
      generalize hga : wx.heap.size = ga at *
      generalize hgb : wa.heap.size = gb at *
      have hVK : vn = kn := by have h1 := (HXB.out _ GA.kp).2.2.2.2.2.1.len; have h2 := (HXB.out _ GA.kp).2.2.2.2.2.2.len; have := HJX.out.kv; simp only at h1 h2; omega
      have hKn : X.K.length = kn := (HXB.out _ GA.kp).2.2.2.2.2.1.len
      have HKN : Hid (X.K.length = kn) := hKn
      have HVN : Hid (X.V.length = kn) := by show _ = _; rw [HJX.out.kv]; exact hKn
      clear hKn
      go_cut [14, 15] from 74 to 113 (fun s14 s15 wc => ∃ (ya yb : Option Addr) (yc yd n4 n5 : Nat) (us ws : List Value), s14 = .slice ya n4 yc ∧ s15 = .slice yb n5 yd ∧ n4 = (X.K.getD j []).length ∧ n5 = (X.V.getD j []).length ∧ wc.ownsRow (wq.heap.size + 1) 72 1 (.slice ya n4 yc) n4 us ∧ wc.ownsRow (wq.heap.size + 1) 72 1 (.slice yb n5 yd) n5 ws ∧ HRows (offO q v1 v2 (.slice none 0 0) (.slice ya n4 yc) (.slice yb n5 yd) wq.heap.size) wc us (X.K.getD j []) ∧ HRows (offO q v1 v2 (.slice none 0 0) (.slice ya n4 yc) (.slice yb n5 yd) wq.heap.size) wc ws (X.V.getD j []) ∧ GoV q wq wc (.slice p1 p2 p3) v1 v2 (.slice ya n4 yc) (.slice yb n5 yd) ((List.range j).map (catA X.K Xk.K)) ((List.range j).map (catA X.V Xk.V)) ∧ ∀ g, (Value.slice ya n4 yc).ownBlock = some g → (Value.slice yb n5 yd).ownBlock ≠ some g)
      case first =>
        by_cases hqj : j < kn
        · have hqi : (j : Int) < (kn : Int) := by omega
          have hqi2 : (j : Int) < (vn : Int) := by omega
          obtain ⟨bK, oK, eK, -, hcK⟩ := HPO.out.1.cells (by show 0 < kn; omega)
          simp only at eK
          subst eK
          obtain ⟨dK, rK, nK, mK, kK1, kK2, kK3, hpK, HGK⟩ := hcK j (X.K.getD j []) (by rw [List.getD_eq_getElem?_getD, List.getElem?_eq_getElem (by rw [HKN.out]; omega)]; rfl)
          have hglK := HGK.now.len
          have hsmK : nK ≤ 1000 := by
            have h1 := HJX.out.ks (X.K.getD j []) (by rw [List.getD_eq_getElem?_getD, List.getElem?_eq_getElem (by rw [HKN.out]; omega)]; exact List.getElem_mem _)
            have h2 := HJX.out.t
            omega
          obtain ⟨vsK, RSK, hcsK⟩ := HGK.now.vals
          have hvlK : vsK.length = nK := by rw [RSK.len, hglK]
          have oneK := RSK.one
          have HROK : Hid (∀ (Q : Nat → Prop) (W : World), Below wo.heap.size wo W → (∀ b, b < wo.heap.size → P b → Q b) → HRows Q W vsK (X.K.getD j [])) := fun Q W hW hQ => HRows.oldp RSK hcsK HGK hpK hW hQ
          have ccK : wb.cell? ⟨bK, oK + j, none⟩ = some (.slice (some ⟨dK, rK, none⟩) nK mK) := cell_keep kK1 (below_then HBQ.out GA.kp)
          have hbK : bK < wo.heap.size := by simpa using World.block_lt_of_cell? wo _ kK1
          clear hcK HGK hpK kK1
          obtain ⟨bV, oV, eV, -, hcV⟩ := HPO.out.2.cells (by show 0 < vn; omega)
          simp only at eV
          subst eV
          obtain ⟨dV, rV, nV, mV, kV1, kV2, kV3, hpV, HGV⟩ := hcV j (X.V.getD j []) (by rw [List.getD_eq_getElem?_getD, List.getElem?_eq_getElem (by rw [HVN.out]; omega)]; rfl)
          have hglV := HGV.now.len
          have hsmV : nV ≤ 1000 := by
            have h1 := HJX.out.vs (X.V.getD j []) (by rw [List.getD_eq_getElem?_getD, List.getElem?_eq_getElem (by rw [HVN.out]; omega)]; exact List.getElem_mem _)
            have h2 := HJX.out.t
            omega
          obtain ⟨vsV, RSV, hcsV⟩ := HGV.now.vals
          have hvlV : vsV.length = nV := by rw [RSV.len, hglV]
          have oneV := RSV.one
          have HROV : Hid (∀ (Q : Nat → Prop) (W : World), Below wo.heap.size wo W → (∀ b, b < wo.heap.size → P b → Q b) → HRows Q W vsV (X.V.getD j [])) := fun Q W hW hQ => HRows.oldp RSV hcsV HGV hpV hW hQ
          have ccV : wb.cell? ⟨bV, oV + j, none⟩ = some (.slice (some ⟨dV, rV, none⟩) nV mV) := cell_keep kV1 (below_then HBQ.out GA.kp)
          have hbV : bV < wo.heap.size := by simpa using World.block_lt_of_cell? wo _ kV1
          clear hcV HGV hpV kV1
          have hcK2 : ∀ u t, vsK[u]? = some t → wb.cell? ((Addr.mk dK rK none).add u) = some t := fun u t hu => cell_keep (hcsK u t hu) (below_then HBQ.out GA.kp)
          go_upto_region 22 with (at_builtin; refine wpList_append_hr rfl _ _ rfl (wq.heap.size + 1) (.slice (some ⟨ga, 0, none⟩) 0 0) 0 [] rfl O4 ⟨dK, rK, none⟩ nK mK vsK rfl hvlK hcK2 oneK (by omega) (by have := GA.blk.lt; omega) ?_; intro ya yc wc1 Q1 G1 N1 _)
          rw [Nat.zero_add] at Q1 N1
          have T1 := Tn.app4 (q := q) (v1 := v1) (v2 := v2) (v3 := (.slice none 0 0)) (v5 := (.slice (some ⟨gb, 0, none⟩) 0 0)) (h := wq.heap.size) G1 N1
          obtain ⟨r1, r2⟩ := GA.rows_off O4 G1
          have hs5 : ∀ b, (Value.slice (some ⟨gb, 0, none⟩) 0 0).ownBlock = some b → wc1.heap[b]? = wb.heap[b]? := fun b e => G1.block b (O5.lt b e).2 (fun e2 => h45 b e2.symm e)
          have l5 : ∀ g, (Value.slice (some ⟨gb, 0, none⟩) 0 0).ownBlock = some g → g < wb.heap.size := fun g e => (O5.lt g e).2
          have O5b := owns_mono O5 (Nat.le_refl _) hs5
          have h45b : ∀ g, (Value.slice ya nK yc).ownBlock = some g → (Value.slice (some ⟨gb, 0, none⟩) 0 0).ownBlock ≠ some g := fun g e e2 => by
            rcases N1 g e with a | a
            · exact h45 g a e2
            · have := l5 g e2; omega
          have GB := GA.side T1 r1 r2
          have b2b : wc1.cell? ⟨w2.heap.size, 2, none⟩ = some (.slice (some ⟨bV, oV, none⟩) vn vz) := (HXB.out _ GB.kp).2.1.cell 2 rfl
          have ccV2 : wc1.cell? ⟨bV, oV + j, none⟩ = some (.slice (some ⟨dV, rV, none⟩) nV mV) := by
            have e8 : wc1.heap[bV]? = wb.heap[bV]? := r2.block bV (by omega)
            rw [World.cell?_of_block (w := wb) (a := ⟨bV, oV + j, none⟩) e8]; exact ccV
          have hcV2 : ∀ u t, vsV[u]? = some t → wc1.cell? ((Addr.mk dV rV none).add u) = some t := fun u t hu => cell_keep (hcsV u t hu) (below_then HBQ.out GB.kp)
          clear O4 O5 GA h45 hs5 b1 b2 ccK ccV hcK2
          go_upto_region 23 with (at_builtin; refine wpList_append_hr rfl _ _ rfl (wq.heap.size + 1) (.slice (some ⟨gb, 0, none⟩) 0 0) 0 [] rfl O5b ⟨dV, rV, none⟩ nV mV vsV rfl hvlV hcV2 oneV (by omega) (by have := GB.blk.lt; omega) ?_; intro yb yd wc2 Q2 G2 N2 _)
          go_meet
          case rel =>
            rw [Nat.zero_add] at Q2 N2
            have T2 := Tn.app5 (q := q) (v1 := v1) (v2 := v2) (v3 := (.slice none 0 0)) (v4 := .slice ya nK yc) (h := wq.heap.size) G2 N2
            obtain ⟨r3, r4⟩ := GB.rows_off O5b G2
            have GC := GB.side T2 r3 r4
            have Q1b := owns_mono Q1 (Nat.le_refl _) (fun b e => G2.block b (Q1.lt b e).2 (fun e2 => h45b b e e2.symm))
            have h45c : ∀ g, (Value.slice ya nK yc).ownBlock = some g → (Value.slice yb nV yd).ownBlock ≠ some g := fun g e e2 => by
              rcases N2 g e2 with a | a
              · exact h45b g e a
              · have := (Q1.lt g e).2; omega
            exact ⟨ya, yb, yc, yd, nK, nV, vsK, vsV, rfl, rfl, hglK.symm, hglV.symm, Q1b, Q2, HROK.out _ _ (below_then HBQ.out GC.kp) (fun b hb hpb => GC.older (fun g e => Nat.le_of_succ_le (Q1b.lt g e).1) (fun g e => Nat.le_of_succ_le (Q2.lt g e).1) (by omega) ((HQ.out b).2 fun _ => hpb)), HROV.out _ _ (below_then HBQ.out GC.kp) (fun b hb hpb => GC.older (fun g e => Nat.le_of_succ_le (Q1b.lt g e).1) (fun g e => Nat.le_of_succ_le (Q2.lt g e).1) (by omega) ((HQ.out b).2 fun _ => hpb)), GC, h45c⟩
        · have hqi : ¬ (j : Int) < (kn : Int) := by omega
          have e0K : X.K.getD j [] = [] := by rw [List.getD_eq_getElem?_getD, List.getElem?_eq_none (by rw [HKN.out]; omega)]; rfl
          have e0V : X.V.getD j [] = [] := by rw [List.getD_eq_getElem?_getD, List.getElem?_eq_none (by rw [HVN.out]; omega)]; rfl
          have H0K : Hid (X.K.getD j [] = []) := e0K
          have H0V : Hid (X.V.getD j [] = []) := e0V
          clear e0K e0V
          go_upto_region 23 with fail
          go_meet
          case rel => exact ⟨_, _, 0, 0, 0, 0, [], [], rfl, rfl, by rw [H0K.out]; rfl, by rw [H0V.out]; rfl, O4, O5, by rw [H0K.out]; exact HRows.nil _ _, by rw [H0V.out]; exact HRows.nil _ _, GA, h45⟩
      case rest =>
      obtain ⟨ya, yb, yc, yd, n4, n5, us, ws, rfl, rfl, hn4, hn5, Q4, Q5, R4, R5, GB, h45⟩ := hcut
      clear GA O4 O5 b1 b2
      have hs4 : n4 ≤ 128 := by rw [hn4]; exact (ji_small HJX.out j).1
      have hs5 : n5 ≤ 128 := by rw [hn5]; exact (ji_small HJX.out j).2
      clear hn4 hn5
      obtain ⟨bk, ok, e9, hck⟩ := pK.cells (by omega)
      subst e9
      obtain ⟨bv, ov, e9, hcv⟩ := pV.cells (by omega)
      subst e9
      have hgk : Xk.K[j]? = some (Xk.K.getD j []) := by rw [List.getD_eq_getElem?_getD, List.getElem?_eq_getElem (by rw [HKL.out]; exact hlt3)]; rfl
      obtain ⟨rok, mk, ck, clk, -, -, -, GRk⟩ := hck j _ hgk
      have hlk := GRk.len
      have h9k := HKK.out _ (List.mem_of_getElem? hgk)
      have hmk : 1 ≤ mk ∧ mk ≤ 128 := by omega
      obtain ⟨dk, rk, e9, -⟩ := GRk.cells (by omega)
      subst e9
      obtain ⟨vsk, RSk, hcsk⟩ := GRk.vals
      have hvlk : vsk.length = mk := by rw [RSk.len, hlk]
      have onek := RSk.one
      have HROk : Hid (∀ (Q : Nat → Prop) (W : World), Below w.heap.size w W → (∀ b, b < w.heap.size → Q b) → HRows Q W vsk (Xk.K.getD j [])) := fun Q W hW hQ => HRows.old RSk hW hQ
      have HCSk : Hid (∀ W, Below w.heap.size w W → ∀ u t, vsk[u]? = some t → W.cell? ((Addr.mk dk rk none).add u) = some t) := fun W hW u t hu => cell_keep (hcsk u t hu) hW
      clear hck GRk hgk RSk hcsk hlk h9k
      have hgv : Xk.V[j]? = some (Xk.V.getD j []) := by rw [List.getD_eq_getElem?_getD, List.getElem?_eq_getElem (by rw [HVL.out]; exact hlt3)]; rfl
      obtain ⟨rov, mv, cv, clv, -, -, -, GRv⟩ := hcv j _ hgv
      have hlv := GRv.len
      have h9v := HVV.out _ (List.mem_of_getElem? hgv)
      have hmv : 1 ≤ mv ∧ mv ≤ 128 := by omega
      obtain ⟨dv, rv, e9, -⟩ := GRv.cells (by omega)
      subst e9
      obtain ⟨vsv, RSv, hcsv⟩ := GRv.vals
      have hvlv : vsv.length = mv := by rw [RSv.len, hlv]
      have onev := RSv.one
      have HROv : Hid (∀ (Q : Nat → Prop) (W : World), Below w.heap.size w W → (∀ b, b < w.heap.size → Q b) → HRows Q W vsv (Xk.V.getD j [])) := fun Q W hW hQ => HRows.old RSv hW hQ
      have HCSv : Hid (∀ W, Below w.heap.size w W → ∀ u t, vsv[u]? = some t → W.cell? ((Addr.mk dv rv none).add u) = some t) := fun W hW u t hu => cell_keep (hcsv u t hu) hW
      clear hcv GRv hgv RSv hcsv hlv h9v
      have HXS : Hid (∀ wv, Below wq.heap.size wq wv → Blk wv wo.heap.size 44 #[.slice p1 p2 p3, .int .i64 (i : Int), .slice (some ⟨bk, ok, none⟩) p8 p6, .slice (some ⟨bv, ov, none⟩) p8 p9] ∧ wv.cell? ⟨bk, ok + j, none⟩ = some (.slice (some ⟨dk, rk, none⟩) mk ck) ∧ wv.cell? ⟨bv, ov + j, none⟩ = some (.slice (some ⟨dv, rv, none⟩) mv cv) ∧ Below w.heap.size w wv) := fun wv hb => ⟨(HXB.out wv hb).1, cell_keep clk (HXB.out wv hb).2.2.2.2.1, cell_keep clv (HXB.out wv hb).2.2.2.2.1, (HXB.out wv hb).2.2.2.2.1⟩
      have hwo : w.heap.size ≤ wo.heap.size := hwo9.out
      clear clk clv
      have hQO : ∀ b, b < w.heap.size → b + 1 < wq.heap.size ∧ q b := fun b hb => ⟨by omega, (HQ.out b).2 fun _ => (HP.out b).2 ⟨by omega, by omega⟩⟩
      have HQO : Hid (∀ b, b < w.heap.size → b + 1 < wq.heap.size ∧ q b) := hQO
      clear hQO
      go_upto_region 23 with fail
      skip
      refine wp_region_late (S := fun w' => Blk w' wq.heap.size 31 #[.slice p1 p2 p3, v1, v2] ∧ Blk w' wo.heap.size 44 #[.slice p1 p2 p3, .int .i64 (i : Int), .slice (some ⟨bk, ok, none⟩) p8 p6, .slice (some ⟨bv, ov, none⟩) p8 p9] ∧ w'.cell? ⟨bk, ok + j, none⟩ = some (.slice (some ⟨dk, rk, none⟩) mk ck)) 12 (by kernel_rfl) ⟨GB.blk, (HXS.out _ GB.kp).1, (HXS.out _ GB.kp).2.1⟩ (fun hHeld => ?_)
      have BD : Below wc.heap.size wc wc.drew := (Below.refl _ wc).drew
      have GD := GB.below BD
      have QD := owns_below Q4 BD
      have RD := R4.turn (Tn.below BD)
      have Q5D := owns_below Q5 BD
      have R5D := R5.turn (Tn.below BD)
      generalize hwd : wc.drew = wd at *
      clear hwd BD GB Q4 R4 Q5 R5
      refine wpLate_pure (i := 0) (v := (.pointer (some ⟨wq.heap.size, 1, none⟩))) rfl (by decide) (by kernel_rfl) (by kernel_rfl) (by kernel_rfl) (fun _ _ _ h => h) (Or.inl ⟨by rfl, ?_⟩) (fun _ => by assumption) ?_
      · intro w' _
        go_simp
      simp only [List.getElem_toArray, List.getElem_cons_zero, Act.put, List.setIfInBounds_toArray, List.set_cons_zero, List.set_cons_succ]
      refine wpLate_take (i := 1) (v := v1) rfl (by kernel_rfl) (by kernel_rfl) (by kernel_rfl) (by kernel_rfl) (by kernel_rfl) (fun _ _ _ h => h) (Or.inl ⟨by rfl, ?_⟩) (by assumption) ?_
      · intro w' hSw
        have y0 : w'.cell? ⟨wq.heap.size, 1, none⟩ = some v1 := hSw.1.cell 1 rfl
        go_simp
      simp only [List.getElem_toArray, List.getElem_cons_succ, List.getElem_cons_zero, Act.put, List.setIfInBounds_toArray, List.set_cons_zero, List.set_cons_succ]
      refine wpLate_pure (i := 2) (v := (.slice ya n4 yc)) rfl (by decide) (by kernel_rfl) (by kernel_rfl) (by kernel_rfl) (fun _ _ _ h => h) (Or.inl ⟨by rfl, ?_⟩) (fun _ => by assumption) ?_
      · intro w' _
        go_simp
      simp only [List.getElem_toArray, List.getElem_cons_succ, List.getElem_cons_zero, Act.put, List.setIfInBounds_toArray, List.set_cons_zero, List.set_cons_succ]
      refine wpLate_pure (i := 3) (v := (.pointer (some ⟨wo.heap.size, 2, none⟩))) rfl (by decide) (by kernel_rfl) (by kernel_rfl) (by kernel_rfl) (fun _ _ _ h => h) (Or.inl ⟨by rfl, ?_⟩) (fun _ => by assumption) ?_
      · intro w' _
        go_simp
      simp only [List.getElem_toArray, List.getElem_cons_succ, List.getElem_cons_zero, Act.put, List.setIfInBounds_toArray, List.set_cons_zero, List.set_cons_succ]
      refine wpLate_take (i := 4) (v := (.slice (some ⟨bk, ok, none⟩) p8 p6)) rfl (by kernel_rfl) (by kernel_rfl) (by kernel_rfl) (by kernel_rfl) (by kernel_rfl) (fun _ _ _ h => h) (Or.inl ⟨by rfl, ?_⟩) (by assumption) ?_
      · intro w' hSw
        have y0 : w'.cell? ⟨wo.heap.size, 2, none⟩ = some (.slice (some ⟨bk, ok, none⟩) p8 p6) := hSw.2.1.cell 2 rfl
        go_simp
      simp only [List.getElem_toArray, List.getElem_cons_succ, List.getElem_cons_zero, Act.put, List.setIfInBounds_toArray, List.set_cons_zero, List.set_cons_succ]
      refine wpLate_pure (i := 5) (v := (.int .i64 (j : Int))) rfl (by decide) (by kernel_rfl) (by kernel_rfl) (by kernel_rfl) (fun _ _ _ h => h) (Or.inl ⟨by rfl, ?_⟩) (fun _ => by assumption) ?_
      · intro w' _
        go_simp
      simp only [List.getElem_toArray, List.getElem_cons_succ, List.getElem_cons_zero, Act.put, List.setIfInBounds_toArray, List.set_cons_zero, List.set_cons_succ]
      refine wpLate_pure (i := 6) (v := (.pointer (some ⟨bk, ok + j, none⟩))) rfl (by decide) (by kernel_rfl) (by kernel_rfl) (by kernel_rfl) (fun _ _ _ h => h) (Or.inl ⟨by rfl, ?_⟩) (fun _ => by assumption) ?_
      · intro w' _
        go_simp
      simp only [List.getElem_toArray, List.getElem_cons_succ, List.getElem_cons_zero, Act.put, List.setIfInBounds_toArray, List.set_cons_zero, List.set_cons_succ]
      refine wpLate_take (i := 7) (v := (.slice (some ⟨dk, rk, none⟩) mk ck)) rfl (by kernel_rfl) (by kernel_rfl) (by kernel_rfl) (by kernel_rfl) (by kernel_rfl) (fun _ _ _ h => h) (Or.inl ⟨by rfl, ?_⟩) (by assumption) ?_
      · intro w' hSw
        have y0 := hSw.2.2
        go_simp
      simp only [List.getElem_toArray, List.getElem_cons_succ, List.getElem_cons_zero, Act.put, List.setIfInBounds_toArray, List.set_cons_zero, List.set_cons_succ]
      refine wpLate_ready (rs := [8]) (by kernel_rfl) (by simp) ?_
      refine wpLate_cons rfl (fun Kc hKc => ?_) wpLate_nil
      simp only [List.getElem_toArray, List.getElem_cons_succ, List.getElem_cons_zero]
      rw [if_pos (by rfl)]
      refine wp_append_hr _ _ rfl (wq.heap.size + 1) (.slice ya n4 yc) n4 us rfl QD ⟨dk, rk, none⟩ mk ck vsk rfl hvlk (HCSk.out _ (HXS.out _ GD.kp).2.2.2) onek (by omega) (by have := GD.blk.lt; omega) ?_
      intro ea7 ec7 w7 O7 G7 N7 Z7
      have T7 := Tn.app4 (q := q) (v1 := v1) (v2 := v2) (v3 := (.slice none 0 0)) (v5 := (.slice yb n5 yd)) (h := wq.heap.size) G7 N7
      obtain ⟨r1, r2⟩ := GD.rows_off QD G7
      have GE := GD.side T7 r1 r2
      have RE := (RD.turn T7).append (HROk.out _ _ (HXS.out _ GE.kp).2.2.2 (fun b hb => GE.older (fun g e => Nat.le_of_succ_le (O7.lt g e).1) (fun g e => Nat.le_of_succ_le (Q5D.lt g e).1) (HQO.out b hb).1 (HQO.out b hb).2))
      have Q5E := owns_mono Q5D (Nat.le_refl _) (fun b e => G7.block b (Q5D.lt b e).2 (fun e2 => h45 b e2.symm e))
      have R5E := R5D.turn T7
      have h45e : ∀ g, (Value.slice ea7 (n4 + mk) ec7).ownBlock = some g → (Value.slice yb n5 yd).ownBlock ≠ some g := fun g e e2 => by
        rcases N7 g e with a | a
        · exact h45 g a e2
        · have := (Q5D.lt g e2).2; omega
      obtain ⟨gg, rfl⟩ := Z7 (by omega)
      obtain ⟨cp1, cp2⟩ := own_capsJ O7
      clear GD QD RD T7 r1 r2 G7 N7 Z7 Q5D R5D h45
      refine hKc.out _ _ (fun _ _ => ⟨GE.blk, (HXS.out _ GE.kp).1, (HXS.out _ GE.kp).2.1⟩) ?_
      clear hKc Kc
      refine wpLate_ready (rs := [9]) (by kernel_rfl) (by simp) ?_
      refine wpLate_cons rfl (fun Kc hKc => ?_) wpLate_nil
      simp only [List.getElem_toArray, List.getElem_cons_succ, List.getElem_cons_zero]
      rw [if_pos (by rfl)]
      go_wp2_with fail
      have BA : Below w7.heap.size w7 (w7.alloc (.cells #[(.slice (some ⟨gg, 0, none⟩) (n4 + mk) ec7)] 73)) := (Below.refl _ _).alloc (Nat.le_refl _) _
      have xa := cellListsJ w7 (.slice (some ⟨gg, 0, none⟩) (n4 + mk) ec7)
      generalize hwA : w7.alloc (.cells #[(.slice (some ⟨gg, 0, none⟩) (n4 + mk) ec7)] 73) = wB at *
      clear hwA
      have GF := (GE.below BA).drop4
      have OF := owns_below O7 BA
      have RF := (RE.turn (Tn.below BA)).turn (Tn.drop4 _)
      have Q5F := owns_below Q5E BA
      have R5F := (R5E.turn (Tn.below BA)).turn (Tn.drop4 _)
      have pg := GF.rows_p4 OF (h45e gg rfl) ((HQ.out gg).2 fun h => by have := (OF.lt gg rfl).1; omega)
      have gl := (OF.lt gg rfl).2
      have hY := RF.grid OF pg (by omega)
      clear GE O7 RE OF BA RF Q5E R5E h45e
      refine hKc.out _ _ (fun _ _ => ⟨GF.blk, (HXS.out _ GF.kp).1, (HXS.out _ GF.kp).2.1⟩) ?_
      clear hKc Kc
      refine wpLate_ready (rs := [10]) (by kernel_rfl) (by simp) ?_
      refine wpLate_cons rfl (fun Kc hKc => ?_) wpLate_nil
      simp only [List.getElem_toArray, List.getElem_cons_succ, List.getElem_cons_zero]
      rw [if_pos (by rfl)]
      refine wp_append_cu _ _ rfl (wq.heap.size + 1) (offO q v1 v2 (.slice none 0 0) (.slice none 0 0) (.slice yb n5 yd) wq.heap.size) v1 ((List.range j).map (catA X.K Xk.K)) j (by simp) rfl GF.c1 w7.heap.size gg (n4 + mk) ec7 _ rfl xa cp1 cp2 pg gl hY (by omega) (by have := GF.blk.lt; omega) ?_
      intro b8 bc8 w8 M8 G8 N8
      obtain ⟨GH, TH⟩ := GF.put1 M8 G8 N8
      have cx := GF.c1
      have hb8 : Blk w8 wq.heap.size 31 #[.slice p1 p2 p3, v1, v2] := GF.blk.of_block (G8.block _ GF.blk.lt (fun e => by have := (cx.lt _ e.symm).1; omega))
      have KB8 : Below wq.heap.size wq w8 := GF.kp.trans ⟨G8.os, G8.tape, G8.output, G8.size, fun b hb => G8.block b (Nat.lt_of_lt_of_le hb GF.kp.size) (fun e => by have := (cx.lt b e.symm).1; omega)⟩
      have c8 : w8.cell? ⟨wq.heap.size, 1, none⟩ = some v1 := hb8.cell 1 rfl
      have f8 := hb8.frozen 1
      have Q5H : (w8.setCell ⟨wq.heap.size, 1, none⟩ (.slice b8 (j + 1) bc8)).ownsRow (wq.heap.size + 1) 72 1 (.slice yb n5 yd) n5 ws := owns_mono Q5F (Nat.le_refl _) (fun b e => by
        rw [Below.heap_setCell _ _ _ b (fun e2 => by have e3 : b = wq.heap.size := e2; have := (Q5F.lt b e).1; omega)]
        exact G8.block b (Q5F.lt b e).2 (fun e2 => cx.ne_rowsJ Q5F b e2.symm e))
      have R5H := R5F.turn TH
      clear GF hY xa M8 G8 N8 TH cx pg gl Q5F R5F
      refine hKc.out _ _ (fun _ _ => ⟨hb8, (HXS.out _ KB8).1, (HXS.out _ KB8).2.1⟩) ?_
      clear hKc Kc
      refine wpLate_pure (i := 11) (v := (.pointer (some ⟨wq.heap.size, 1, none⟩))) rfl (by decide) (by kernel_rfl) (by kernel_rfl) (by kernel_rfl) (fun _ _ _ h => h) (Or.inl ⟨by rfl, ?_⟩) (fun _ => ⟨hb8, (HXS.out _ KB8).1, (HXS.out _ KB8).2.1⟩) ?_
      · intro w' _
        go_simp
      simp only [List.getElem_toArray, List.getElem_cons_succ, List.getElem_cons_zero, Act.put, List.setIfInBounds_toArray, List.set_cons_zero, List.set_cons_succ]
      refine wpLate_ready (rs := [12]) (by kernel_rfl) (by simp) ?_
      refine wpLate_cons rfl (fun Kc hKc => ?_) wpLate_nil
      simp only [List.getElem_toArray, List.getElem_cons_succ, List.getElem_cons_zero]
      rw [if_pos (by rfl)]
      go_wp2_with fail
      refine hKc.out _ _ (fun hne _ => absurd rfl hne) ?_
      clear hKc Kc
      try simp only [Act.put]
      refine wpLate_done (by kernel_rfl) ?_ _
      clear hb8 c8 f8 KB8
      obtain ⟨w9, hw9⟩ : ∃ w9, w9 = w8.setCell ⟨wq.heap.size, 1, none⟩ (.slice b8 (j + 1) bc8) := ⟨_, rfl⟩
      rw [← hw9] at GH Q5H R5H ⊢
      clear hw9
      skip
      go_upto_region 24 with fail
      refine wp_region_late (S := fun w' => Blk w' wq.heap.size 31 #[.slice p1 p2 p3, (.slice b8 (j + 1) bc8), v2] ∧ Blk w' wo.heap.size 44 #[.slice p1 p2 p3, .int .i64 (i : Int), .slice (some ⟨bk, ok, none⟩) p8 p6, .slice (some ⟨bv, ov, none⟩) p8 p9] ∧ w'.cell? ⟨bv, ov + j, none⟩ = some (.slice (some ⟨dv, rv, none⟩) mv cv)) 12 (by kernel_rfl) ⟨GH.blk, (HXS.out _ GH.kp).1, (HXS.out _ GH.kp).2.2.1⟩ (fun hHeld => ?_)
      have BD : Below w9.heap.size w9 w9.drew := (Below.refl _ w9).drew
      have GD := GH.below BD
      have QD := owns_below Q5H BD
      have RD := R5H.turn (Tn.below BD)
      generalize hwd : w9.drew = wd at *
      clear hwd BD GH Q5H R5H
      refine wpLate_pure (i := 0) (v := (.pointer (some ⟨wq.heap.size, 2, none⟩))) rfl (by decide) (by kernel_rfl) (by kernel_rfl) (by kernel_rfl) (fun _ _ _ h => h) (Or.inl ⟨by rfl, ?_⟩) (fun _ => by assumption) ?_
      · intro w' _
        go_simp
      simp only [List.getElem_toArray, List.getElem_cons_zero, Act.put, List.setIfInBounds_toArray, List.set_cons_zero, List.set_cons_succ]
      refine wpLate_take (i := 1) (v := v2) rfl (by kernel_rfl) (by kernel_rfl) (by kernel_rfl) (by kernel_rfl) (by kernel_rfl) (fun _ _ _ h => h) (Or.inl ⟨by rfl, ?_⟩) (by assumption) ?_
      · intro w' hSw
        have y0 : w'.cell? ⟨wq.heap.size, 2, none⟩ = some v2 := hSw.1.cell 2 rfl
        go_simp
      simp only [List.getElem_toArray, List.getElem_cons_succ, List.getElem_cons_zero, Act.put, List.setIfInBounds_toArray, List.set_cons_zero, List.set_cons_succ]
      refine wpLate_pure (i := 2) (v := (.slice yb n5 yd)) rfl (by decide) (by kernel_rfl) (by kernel_rfl) (by kernel_rfl) (fun _ _ _ h => h) (Or.inl ⟨by rfl, ?_⟩) (fun _ => by assumption) ?_
      · intro w' _
        go_simp
      simp only [List.getElem_toArray, List.getElem_cons_succ, List.getElem_cons_zero, Act.put, List.setIfInBounds_toArray, List.set_cons_zero, List.set_cons_succ]
      refine wpLate_pure (i := 3) (v := (.pointer (some ⟨wo.heap.size, 3, none⟩))) rfl (by decide) (by kernel_rfl) (by kernel_rfl) (by kernel_rfl) (fun _ _ _ h => h) (Or.inl ⟨by rfl, ?_⟩) (fun _ => by assumption) ?_
      · intro w' _
        go_simp
      simp only [List.getElem_toArray, List.getElem_cons_succ, List.getElem_cons_zero, Act.put, List.setIfInBounds_toArray, List.set_cons_zero, List.set_cons_succ]
      refine wpLate_take (i := 4) (v := (.slice (some ⟨bv, ov, none⟩) p8 p9)) rfl (by kernel_rfl) (by kernel_rfl) (by kernel_rfl) (by kernel_rfl) (by kernel_rfl) (fun _ _ _ h => h) (Or.inl ⟨by rfl, ?_⟩) (by assumption) ?_
      · intro w' hSw
        have y0 : w'.cell? ⟨wo.heap.size, 3, none⟩ = some (.slice (some ⟨bv, ov, none⟩) p8 p9) := hSw.2.1.cell 3 rfl
        go_simp
      simp only [List.getElem_toArray, List.getElem_cons_succ, List.getElem_cons_zero, Act.put, List.setIfInBounds_toArray, List.set_cons_zero, List.set_cons_succ]
      refine wpLate_pure (i := 5) (v := (.int .i64 (j : Int))) rfl (by decide) (by kernel_rfl) (by kernel_rfl) (by kernel_rfl) (fun _ _ _ h => h) (Or.inl ⟨by rfl, ?_⟩) (fun _ => by assumption) ?_
      · intro w' _
        go_simp
      simp only [List.getElem_toArray, List.getElem_cons_succ, List.getElem_cons_zero, Act.put, List.setIfInBounds_toArray, List.set_cons_zero, List.set_cons_succ]
      refine wpLate_pure (i := 6) (v := (.pointer (some ⟨bv, ov + j, none⟩))) rfl (by decide) (by kernel_rfl) (by kernel_rfl) (by kernel_rfl) (fun _ _ _ h => h) (Or.inl ⟨by rfl, ?_⟩) (fun _ => by assumption) ?_
      · intro w' _
        go_simp
      simp only [List.getElem_toArray, List.getElem_cons_succ, List.getElem_cons_zero, Act.put, List.setIfInBounds_toArray, List.set_cons_zero, List.set_cons_succ]
      refine wpLate_take (i := 7) (v := (.slice (some ⟨dv, rv, none⟩) mv cv)) rfl (by kernel_rfl) (by kernel_rfl) (by kernel_rfl) (by kernel_rfl) (by kernel_rfl) (fun _ _ _ h => h) (Or.inl ⟨by rfl, ?_⟩) (by assumption) ?_
      · intro w' hSw
        have y0 := hSw.2.2
        go_simp
      simp only [List.getElem_toArray, List.getElem_cons_succ, List.getElem_cons_zero, Act.put, List.setIfInBounds_toArray, List.set_cons_zero, List.set_cons_succ]
      refine wpLate_ready (rs := [8]) (by kernel_rfl) (by simp) ?_
      refine wpLate_cons rfl (fun Kc hKc => ?_) wpLate_nil
      simp only [List.getElem_toArray, List.getElem_cons_succ, List.getElem_cons_zero]
      rw [if_pos (by rfl)]
      refine wp_append_hr _ _ rfl (wq.heap.size + 1) (.slice yb n5 yd) n5 ws rfl QD ⟨dv, rv, none⟩ mv cv vsv rfl hvlv (HCSv.out _ (HXS.out _ GD.kp).2.2.2) onev (by omega) (by have := GD.blk.lt; omega) ?_
      intro ea7 ec7 w7 O7 G7 N7 Z7
      have T7 := Tn.app5 (q := q) (v1 := (.slice b8 (j + 1) bc8)) (v2 := v2) (v3 := (.slice none 0 0)) (v4 := (.slice none 0 0)) (h := wq.heap.size) G7 N7
      obtain ⟨r1, r2⟩ := GD.rows_off QD G7
      have GE := GD.side T7 r1 r2
      have RE := (RD.turn T7).append (HROv.out _ _ (HXS.out _ GE.kp).2.2.2 (fun b hb => GE.older (fun g e => (no_ownJ g e).elim) (fun g e => Nat.le_of_succ_le (O7.lt g e).1) (HQO.out b hb).1 (HQO.out b hb).2))
      obtain ⟨gg, rfl⟩ := Z7 (by omega)
      obtain ⟨cp1, cp2⟩ := own_capsJ O7
      clear GD QD RD T7 r1 r2 G7 N7 Z7
      refine hKc.out _ _ (fun _ _ => ⟨GE.blk, (HXS.out _ GE.kp).1, (HXS.out _ GE.kp).2.2.1⟩) ?_
      clear hKc Kc
      refine wpLate_ready (rs := [9]) (by kernel_rfl) (by simp) ?_
      refine wpLate_cons rfl (fun Kc hKc => ?_) wpLate_nil
      simp only [List.getElem_toArray, List.getElem_cons_succ, List.getElem_cons_zero]
      rw [if_pos (by rfl)]
      go_wp2_with fail
      have BA : Below w7.heap.size w7 (w7.alloc (.cells #[(.slice (some ⟨gg, 0, none⟩) (n5 + mv) ec7)] 73)) := (Below.refl _ _).alloc (Nat.le_refl _) _
      have xa := cellListsJ w7 (.slice (some ⟨gg, 0, none⟩) (n5 + mv) ec7)
      generalize hwA : w7.alloc (.cells #[(.slice (some ⟨gg, 0, none⟩) (n5 + mv) ec7)] 73) = wB at *
      clear hwA
      have GF := (GE.below BA).drop
      have OF := owns_below O7 BA
      have RF := (RE.turn (Tn.below BA)).turn (Tn.drop _)
      have pg := GF.rows_p4 OF (fun e => no_ownJ _ e) ((HQ.out gg).2 fun h => by have := (OF.lt gg rfl).1; omega)
      have gl := (OF.lt gg rfl).2
      have hY := RF.grid OF pg (by omega)
      clear GE O7 RE OF BA RF
      refine hKc.out _ _ (fun _ _ => ⟨GF.blk, (HXS.out _ GF.kp).1, (HXS.out _ GF.kp).2.2.1⟩) ?_
      clear hKc Kc
      refine wpLate_ready (rs := [10]) (by kernel_rfl) (by simp) ?_
      refine wpLate_cons rfl (fun Kc hKc => ?_) wpLate_nil
      simp only [List.getElem_toArray, List.getElem_cons_succ, List.getElem_cons_zero]
      rw [if_pos (by rfl)]
      refine wp_append_cu _ _ rfl (wq.heap.size + 1) (offO q (.slice b8 (j + 1) bc8) v2 (.slice none 0 0) (.slice none 0 0) (.slice none 0 0) wq.heap.size) v2 ((List.range j).map (catA X.V Xk.V)) j (by simp) rfl GF.c2 w7.heap.size gg (n5 + mv) ec7 _ rfl xa cp1 cp2 pg gl hY (by omega) (by have := GF.blk.lt; omega) ?_
      intro b9 bc9 w8 M8 G8 N8
      obtain ⟨GH, TH⟩ := GF.put2 M8 G8 N8
      have cx := GF.c2
      have hb8 : Blk w8 wq.heap.size 31 #[.slice p1 p2 p3, (.slice b8 (j + 1) bc8), v2] := GF.blk.of_block (G8.block _ GF.blk.lt (fun e => by have := (cx.lt _ e.symm).1; omega))
      have KB8 : Below wq.heap.size wq w8 := GF.kp.trans ⟨G8.os, G8.tape, G8.output, G8.size, fun b hb => G8.block b (Nat.lt_of_lt_of_le hb GF.kp.size) (fun e => by have := (cx.lt b e.symm).1; omega)⟩
      have c8 : w8.cell? ⟨wq.heap.size, 2, none⟩ = some v2 := hb8.cell 2 rfl
      have f8 := hb8.frozen 2
      clear GF hY xa M8 G8 N8 TH cx pg gl
      refine hKc.out _ _ (fun _ _ => ⟨hb8, (HXS.out _ KB8).1, (HXS.out _ KB8).2.2.1⟩) ?_
      clear hKc Kc
      refine wpLate_pure (i := 11) (v := (.pointer (some ⟨wq.heap.size, 2, none⟩))) rfl (by decide) (by kernel_rfl) (by kernel_rfl) (by kernel_rfl) (fun _ _ _ h => h) (Or.inl ⟨by rfl, ?_⟩) (fun _ => ⟨hb8, (HXS.out _ KB8).1, (HXS.out _ KB8).2.2.1⟩) ?_
      · intro w' _
        go_simp
      simp only [List.getElem_toArray, List.getElem_cons_succ, List.getElem_cons_zero, Act.put, List.setIfInBounds_toArray, List.set_cons_zero, List.set_cons_succ]
      refine wpLate_ready (rs := [12]) (by kernel_rfl) (by simp) ?_
      refine wpLate_cons rfl (fun Kc hKc => ?_) wpLate_nil
      simp only [List.getElem_toArray, List.getElem_cons_succ, List.getElem_cons_zero]
      rw [if_pos (by rfl)]
      go_wp2_with fail
      refine hKc.out _ _ (fun hne _ => absurd rfl hne) ?_
      clear hKc Kc
      try simp only [Act.put]
      refine wpLate_done (by kernel_rfl) ?_ _
      clear hb8 c8 f8 KB8
      have GZ : GoV q wq (w8.setCell ⟨wq.heap.size, 2, none⟩ (.slice b9 (j + 1) bc9)) (.slice p1 p2 p3) (.slice b8 (j + 1) bc8) (.slice b9 (j + 1) bc9) (.slice none 0 0) (.slice none 0 0) ((List.range (j + 1)).map (catA X.K Xk.K)) ((List.range (j + 1)).map (catA X.V Xk.V)) := by rw [map_range_succJ, map_range_succJ]; exact GH
      clear GH
      go_wp2_with fail
      go_roundg (p8 - (j + 1))
      case measure => omega
      case rel => exact ⟨j + 1, b8, b9, bc8, bc9, by omega, rfl, by go_num, GZ⟩
end Go.Proofs.Ytpplnjmjldhlbaa
