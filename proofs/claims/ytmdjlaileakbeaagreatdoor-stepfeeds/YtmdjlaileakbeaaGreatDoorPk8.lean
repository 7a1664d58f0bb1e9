/- Contracts of the program's functions, part 8 of 19: what each call returns and leaves of memory. -/
import Derived.Test.YtmdjlaileakbeaaGreatDoorPk6
import Derived.Test.YtmdjlaileakbeaaGreatDoorPk7
import Derived.Test.YtmdjlaileakbeaaGreatDoorPk3
import Derived.Test.YtmdjlaileakbeaaGreatDoorPk5
/- Lists of lists of rows that grow side by side: what each hangs on. -/
namespace Go.Proofs.YtmdjlaileakbeaaGreatDoor
open Go.ChangeShapes Go.WideShapes Go.ChangeAt Go.RowKit
theorem Arg.same {w w' : World} {ro : Option Addr} {m c : Nat} {A : List Int} (h : Arg w ro m c A) (hb : ∀ b, b < w.heap.size → w'.heap[b]? = w.heap[b]?) : Arg w' ro m c A := by
  refine ⟨⟨h.row.len, h.row.max, h.row.small, fun hn => ?_⟩, h.fit, h.max, h.nil, h.cold_of hb⟩
  obtain ⟨b, o, e, hc⟩ := h.row.cells hn
  refine ⟨b, o, e, fun t ht => ?_⟩
  have h1 := hc t ht
  rw [World.cell?_of_block (w := w) (hb b (by simpa using World.block_lt_of_cell? w _ h1))]
  exact h1
/-- From w to w' only blocks that aren't p's turned, and what was p's is p''s. -/
structure Tn (p p' : Nat → Prop) (w w' : World) : Prop where
  size : w.heap.size ≤ w'.heap.size
  keep : ∀ b, b < w.heap.size → p b → p' b ∧ w'.heap[b]? = w.heap[b]?
theorem Tn.below {p : Nat → Prop} {w w' : World} (h : Below w.heap.size w w') : Tn p p w w' := ⟨h.size, fun b hb hp => ⟨hp, h.block b hb⟩⟩
theorem Tn.trans {p p' p2 : Nat → Prop} {w w' w2 : World} (h : Tn p p' w w') (k : Tn p' p2 w' w2) : Tn p p2 w w2 :=
  ⟨Nat.le_trans h.size k.size, fun b hb hp => by
    obtain ⟨a1, a2⟩ := h.keep b hb hp
    obtain ⟨b1, b2⟩ := k.keep b (Nat.lt_of_lt_of_le hb h.size) a1
    exact ⟨b1, b2.trans a2⟩⟩
theorem Hangs.turn {p p' : Nat → Prop} {w w' : World} {Φ : World → Prop} (h : Hangs p w Φ) (t : Tn p p' w w') : Hangs p' w' Φ := fun w2 h2 =>
  h w2 fun b hb hl => by
    obtain ⟨q, e⟩ := t.keep b hl hb
    exact (h2 b q (Nat.lt_of_lt_of_le hl t.size)).trans e
/-- The blocks that aren't those of five values, nor block h, nor the one ahead of it. -/
def offO (q : Nat → Prop) (v1 v2 v3 v4 v5 : Value) (h : Nat) (b : Nat) : Prop := v1.ownBlock ≠ some b ∧ v2.ownBlock ≠ some b ∧ v3.ownBlock ≠ some b ∧ v4.ownBlock ≠ some b ∧ v5.ownBlock ≠ some b ∧ b ≠ h ∧ b + 1 ≠ h ∧ q b
theorem Tn.app1 {q : Nat → Prop} {v1 v1' v2 v3 v4 v5 : Value} {h : Nat} {w w' : World} (hG : w.grownBy w' v1.ownBlock) (hN : ∀ g, v1'.ownBlock = some g → v1.ownBlock = some g ∨ w.heap.size ≤ g) : Tn (offO q v1 v2 v3 v4 v5 h) (offO q v1' v2 v3 v4 v5 h) w w' :=
  ⟨hG.size, fun b hb hp => ⟨⟨fun e => by rcases hN b e with a | a; exact hp.1 a; omega, hp.2⟩, hG.block b hb (fun e => hp.1 e.symm)⟩⟩
theorem Tn.app2 {q : Nat → Prop} {v1 v2 v2' v3 v4 v5 : Value} {h : Nat} {w w' : World} (hG : w.grownBy w' v2.ownBlock) (hN : ∀ g, v2'.ownBlock = some g → v2.ownBlock = some g ∨ w.heap.size ≤ g) : Tn (offO q v1 v2 v3 v4 v5 h) (offO q v1 v2' v3 v4 v5 h) w w' :=
  ⟨hG.size, fun b hb hp => ⟨⟨hp.1, fun e => by rcases hN b e with a | a; exact hp.2.1 a; omega, hp.2.2⟩, hG.block b hb (fun e => hp.2.1 e.symm)⟩⟩
theorem Tn.app3 {q : Nat → Prop} {v1 v2 v3 v3' v4 v5 : Value} {h : Nat} {w w' : World} (hG : w.grownBy w' v3.ownBlock) (hN : ∀ g, v3'.ownBlock = some g → v3.ownBlock = some g ∨ w.heap.size ≤ g) : Tn (offO q v1 v2 v3 v4 v5 h) (offO q v1 v2 v3' v4 v5 h) w w' :=
  ⟨hG.size, fun b hb hp => ⟨⟨hp.1, hp.2.1, fun e => by rcases hN b e with a | a; exact hp.2.2.1 a; omega, hp.2.2.2⟩, hG.block b hb (fun e => hp.2.2.1 e.symm)⟩⟩
theorem Tn.app4 {q : Nat → Prop} {v1 v2 v3 v4 v4' v5 : Value} {h : Nat} {w w' : World} (hG : w.grownBy w' v4.ownBlock) (hN : ∀ g, v4'.ownBlock = some g → v4.ownBlock = some g ∨ w.heap.size ≤ g) : Tn (offO q v1 v2 v3 v4 v5 h) (offO q v1 v2 v3 v4' v5 h) w w' :=
  ⟨hG.size, fun b hb hp => ⟨⟨hp.1, hp.2.1, hp.2.2.1, fun e => by rcases hN b e with a | a; exact hp.2.2.2.1 a; omega, hp.2.2.2.2⟩, hG.block b hb (fun e => hp.2.2.2.1 e.symm)⟩⟩
theorem Tn.app5 {q : Nat → Prop} {v1 v2 v3 v4 v5 v5' : Value} {h : Nat} {w w' : World} (hG : w.grownBy w' v5.ownBlock) (hN : ∀ g, v5'.ownBlock = some g → v5.ownBlock = some g ∨ w.heap.size ≤ g) : Tn (offO q v1 v2 v3 v4 v5 h) (offO q v1 v2 v3 v4 v5' h) w w' :=
  ⟨hG.size, fun b hb hp => ⟨⟨hp.1, hp.2.1, hp.2.2.1, hp.2.2.2.1, fun e => by rcases hN b e with a | a; exact hp.2.2.2.2.1 a; omega, hp.2.2.2.2.2⟩, hG.block b hb (fun e => hp.2.2.2.2.1 e.symm)⟩⟩
theorem Tn.set {q : Nat → Prop} {v1 v2 v3 v4 v5 : Value} {h : Nat} (w : World) (o : Nat) (v : Value) : Tn (offO q v1 v2 v3 v4 v5 h) (offO q v1 v2 v3 v4 v5 h) w (w.setCell ⟨h, o, none⟩ v) :=
  ⟨by simp [World.setCell], fun b _ hp => ⟨hp, Below.heap_setCell _ _ _ b hp.2.2.2.2.2.1⟩⟩
/-- A new block as the fourth or the fifth. -/
theorem Tn.new4 {q : Nat → Prop} {v1 v2 v3 v5 : Value} {h k n c : Nat} (w : World) (hk : w.heap.size ≤ k) : Tn (offO q v1 v2 v3 (.slice none 0 0) v5 h) (offO q v1 v2 v3 (.slice (some ⟨k, 0, none⟩) n c) v5 h) w w :=
  ⟨Nat.le_refl _, fun b hb hp => ⟨⟨hp.1, hp.2.1, hp.2.2.1, fun e => by simp [Value.ownBlock] at e; omega, hp.2.2.2.2⟩, rfl⟩⟩
theorem Tn.new5 {q : Nat → Prop} {v1 v2 v3 v4 : Value} {h k n c : Nat} (w : World) (hk : w.heap.size ≤ k) : Tn (offO q v1 v2 v3 v4 (.slice none 0 0) h) (offO q v1 v2 v3 v4 (.slice (some ⟨k, 0, none⟩) n c) h) w w :=
  ⟨Nat.le_refl _, fun b hb hp => ⟨⟨hp.1, hp.2.1, hp.2.2.1, hp.2.2.2.1, fun e => by simp [Value.ownBlock] at e; omega, hp.2.2.2.2.2⟩, rfl⟩⟩
theorem Tn.drop {q : Nat → Prop} {v1 v2 v3 v4 v5 : Value} {h : Nat} (w : World) : Tn (offO q v1 v2 v3 v4 v5 h) (offO q v1 v2 v3 (.slice none 0 0) (.slice none 0 0) h) w w :=
  ⟨Nat.le_refl _, fun b _ hp => ⟨⟨hp.1, hp.2.1, hp.2.2.1, (fun e => by cases e), (fun e => by cases e), hp.2.2.2.2.2⟩, rfl⟩⟩
/-- The values of rows, and what they read as and hang on. -/
structure HRows (p : Nat → Prop) (w : World) (vs : List Value) (R : List (List Int)) : Prop where
  len : vs.length = R.length
  rows : ∀ t, t < R.length → ∃ ro m c, vs[t]? = some (.slice ro m c) ∧ Hangs p w (fun w => Arg w ro m c (rowOf R t))
theorem HRows.turn {p p' : Nat → Prop} {w w' : World} {vs : List Value} {R : List (List Int)} (h : HRows p w vs R) (t : Tn p p' w w') : HRows p' w' vs R :=
  ⟨h.len, fun k hk => let ⟨ro, m, c, e, A⟩ := h.rows k hk; ⟨ro, m, c, e, A.turn t⟩⟩
theorem HRows.now {p : Nat → Prop} {w : World} {vs : List Value} {R : List (List Int)} (h : HRows p w vs R) : RowsAt w vs R :=
  ⟨h.len, fun k hk => let ⟨ro, m, c, e, A⟩ := h.rows k hk; ⟨ro, m, c, e, A.now⟩⟩
theorem HRows.nil (p : Nat → Prop) (w : World) : HRows p w [] [] := ⟨rfl, fun t ht => by simp at ht⟩
theorem HRows.old {p : Nat → Prop} {w1 w : World} {vs : List Value} {R : List (List Int)} (h : RowsAt w1 vs R) (hb : Below w1.heap.size w1 w) (hp : ∀ b, b < w1.heap.size → p b) : HRows p w vs R :=
  ⟨h.len, fun k hk => let ⟨ro, m, c, e, A⟩ := h.rows k hk; ⟨ro, m, c, e, fun _ h2 => A.same fun b hb2 => (h2 b (hp b hb2) (Nat.lt_of_lt_of_le hb2 hb.size)).trans (hb.block b hb2)⟩⟩
theorem HRows.snoc {p : Nat → Prop} {w : World} {vs : List Value} {R : List (List Int)} (h : HRows p w vs R) {ro : Option Addr} {m c : Nat} {Y : List Int} (hY : Hangs p w (fun w => Arg w ro m c Y)) : HRows p w (vs ++ [.slice ro m c]) (R ++ [Y]) := by
  have hl := h.len
  refine ⟨by simp [hl], fun t ht => ?_⟩
  rw [List.length_append, List.length_singleton] at ht
  rcases Nat.lt_or_ge t R.length with h1 | h1
  · obtain ⟨ro', m', c', e, A⟩ := h.rows t h1
    refine ⟨ro', m', c', by rw [List.getElem?_append_left (by omega)]; exact e, ?_⟩
    have : rowOf (R ++ [Y]) t = rowOf R t := by unfold rowOf; simp only [List.getD_eq_getElem?_getD]; rw [List.getElem?_append_left h1]
    rw [this]
    exact A
  · obtain rfl : t = R.length := by omega
    refine ⟨ro, m, c, by rw [← hl]; simp, ?_⟩
    have : rowOf (R ++ [Y]) R.length = Y := by unfold rowOf; simp
    rw [this]
    exact hY
/-- A list of rows of the call's own hangs on its block and on what its rows hang on. -/
theorem HRows.grid {p : Nat → Prop} {w : World} {B g n cap : Nat} {vs : List Value} {R : List (List Int)} (h : HRows p w vs R) (O : w.ownsRow B 24 1 (.slice (some ⟨g, 0, none⟩) n cap) n vs) (hg : p g) (hn : n ≤ 9223372036854775807) : Hangs p w (fun w => GridAt w (some ⟨g, 0, none⟩) n R) := by
  intro w2 h2
  have hgl : g < w.heap.size := (O.lt g rfl).2
  have O2 : w2.ownsRow B 24 1 (.slice (some ⟨g, 0, none⟩) n cap) n vs := owns_mono O (Nat.le_refl _) (fun b hb => by
    simp [Value.ownBlock] at hb
    subst hb
    exact h2 _ hg hgl)
  exact grid_of_owns O2 ⟨h.len, fun k hk => let ⟨ro, m, c, e, A⟩ := h.rows k hk; ⟨ro, m, c, e, A w2 h2⟩⟩ hn
/-- Lists of lists of rows of the call's own. -/
structure OCu (w : World) (B : Nat) (p : Nat → Prop) (v : Value) (C : List (List (List Int))) : Prop where
  own : ∃ vs, w.ownsRow B 77 1 v C.length vs ∧ ∀ (t : Nat) (R : List (List Int)), C[t]? = some R → ∃ g m c, vs[t]? = some (.slice (some ⟨g, 0, none⟩) m c) ∧ m ≤ c ∧ c ≤ 9223372036854775807 ∧ p g ∧ g < w.heap.size ∧ Hangs p w (fun w => GridAt w (some ⟨g, 0, none⟩) m R)
theorem OCu.nil (w : World) (B : Nat) (p : Nat → Prop) : OCu w B p (.slice none 0 0) [] := ⟨[], World.ownsRow_nil _ _ _ _, fun t R hR => by simp at hR⟩
/-- Its own block stays, and what its lists hang on. -/
theorem OCu.turn {p p' : Nat → Prop} {w w' : World} {B : Nat} {v : Value} {C : List (List (List Int))} (h : OCu w B p v C) (t : Tn p p' w w') (hb : ∀ b, v.ownBlock = some b → w'.heap[b]? = w.heap[b]?) : OCu w' B p' v C := by
  obtain ⟨vs, h1, h2⟩ := h.own
  exact ⟨vs, owns_mono h1 (Nat.le_refl _) hb, fun k R hR => let ⟨g, m, c, e, h3, h4, hg, hl, h5⟩ := h2 k R hR; ⟨g, m, c, e, h3, h4, (t.keep g hl hg).1, Nat.lt_of_lt_of_le hl t.size, h5.turn t⟩⟩
theorem OCu.form {w : World} {B : Nat} {p : Nat → Prop} {v : Value} {C : List (List (List Int))} (h : OCu w B p v C) : ∃ a c, v = .slice a C.length c ∧ C.length ≤ c ∧ c ≤ 9223372036854775807 := by
  obtain ⟨vs, h1, _⟩ := h.own
  rcases h1.2 with ⟨h2, h3⟩ | ⟨g, cap, cur, h3, h4, h5, h6, h7, _⟩
  · rw [h3]; exact ⟨none, 0, h2, Nat.le_refl _, by omega⟩
  · exact ⟨_, _, h3, h6, by unfold maxLen at h7; exact h7⟩
theorem OCu.lt {w : World} {B : Nat} {p : Nat → Prop} {v : Value} {C : List (List (List Int))} (h : OCu w B p v C) : ∀ g, v.ownBlock = some g → B ≤ g ∧ g < w.heap.size := by
  obtain ⟨vs, h1, _⟩ := h.own
  exact fun g e => h1.lt g e
theorem OCu.ne_blk {w : World} {B b : Nat} {p : Nat → Prop} {T' : TypeId} {v : Value} {C : List (List (List Int))} {cs : Array Value} (h : OCu w B p v C) (h' : w.heap[b]? = some (.cells cs T' (0, 0))) (hT : (77 : TypeId) ≠ T') : v.ownBlock ≠ some b := by
  intro e
  obtain ⟨vs, h1, _⟩ := h.own
  rcases h1.2 with ⟨h2, h3⟩ | ⟨g', cap, cur, h3, h4, h5, _⟩
  · rw [h2] at e; cases e
  · rw [h3] at e
    simp only [Value.ownBlock, Option.some.injEq] at e
    subst e
    rw [h'] at h5
    injection h5 with h5
    injection h5 with _ e2 _
    exact hT e2.symm
/-- append of a list of rows onto lists of lists, in a region or out of it. -/
theorem wp_append_cu {w : World} {o : Oper} {a : Act} {K : Act → World → Prop} {Q : Exit → Act → World → Prop} (s x : Operand)
    (ho : o.op = .call { callee := .builtin .append, args := #[s, x], argTypes := #[31, 31] })
    (B : Nat) (p : Nat → Prop) (v : Value) (C : List (List (List Int))) (n : Nat) (hn : C.length = n) (hs : a.eval s = v) (hF : OCu w B p v C)
    (bo g1 m1 c1 : Nat) (R : List (List Int)) (hx : a.eval x = .slice (some ⟨bo, 0, none⟩) 1 1) (hX : w.cell? ⟨bo, 0, none⟩ = some (.slice (some ⟨g1, 0, none⟩) m1 c1)) (hm1 : m1 ≤ c1) (hc1 : c1 ≤ 9223372036854775807) (hpg : p g1) (hgl : g1 < w.heap.size) (hY : Hangs p w (fun w => GridAt w (some ⟨g1, 0, none⟩) m1 R))
    (hlen : n + 1 ≤ 1048576) (hB : B ≤ w.heap.size)
    (h : ∀ ea ec w', (∀ p', Tn p p' w w' → OCu w' B p' (.slice ea (n + 1) ec) (C ++ [R])) → w.grownBy w' v.ownBlock → (∀ g, (Value.slice ea (n + 1) ec).ownBlock = some g → v.ownBlock = some g ∨ w.heap.size ≤ g) → K (a.put o.dst (.slice ea (n + 1) ec)) w') : o.wp Tryz.prog a w K Q := by
  subst hn
  obtain ⟨i0, hi, hz0, hz1, hz2⟩ := info_parts Tryz.infoList
  obtain ⟨vs, h1, h2⟩ := hF.own
  refine wp_append_own2 w s x 31 ho B 77 i0 (.slice none 0 0) 1 24 Tryz.underlying31 hi hz0 hz1 hz2 rfl (by decide) v C.length vs hs h1 ⟨bo, 0, none⟩ 1 1 [.slice (some ⟨g1, 0, none⟩) m1 c1] hx rfl ?_ (by intro u hu; simp at hu; subst hu; rfl) (by unfold maxLen; omega) (by omega) hB ?_
  · intro j u hj
    match j, hj with
    | 0, hj =>
      simp at hj
      subst hj
      have e2 : (Addr.mk bo 0 none).add 0 = ⟨bo, 0, none⟩ := by simp [Addr.add]
      rw [e2, hX]
  · intro v' w' hown hg hnil hwh
    have hlv : vs.length = C.length := by have := h1.1; omega
    have hlen2 : (C ++ [R]).length = C.length + 1 := by simp
    have mk : ∀ p', Tn p p' w w' → OCu w' B p' v' (C ++ [R]) := fun p' t => ⟨vs ++ [.slice (some ⟨g1, 0, none⟩) m1 c1], by rw [hlen2]; exact hown, fun k R' hR' => by
      by_cases htk : k < C.length
      · rw [List.getElem?_append_left htk] at hR'
        obtain ⟨g3, m3, c3, e3, q1, q2, q4, q5, q3⟩ := h2 k R' hR'
        exact ⟨g3, m3, c3, by rw [List.getElem?_append_left (by omega)]; exact e3, q1, q2, (t.keep g3 q5 q4).1, Nat.lt_of_lt_of_le q5 t.size, q3.turn t⟩
      · rw [List.getElem?_append_right (by omega)] at hR'
        have e0 : k - C.length = 0 := by
          rcases Nat.eq_zero_or_pos (k - C.length) with e | e
          · exact e
          · rw [List.getElem?_eq_none (by simp; omega)] at hR'; cases hR'
        rw [e0] at hR'
        simp at hR'
        subst hR'
        exact ⟨g1, m1, c1, by rw [List.getElem?_append_right (by omega), hlv, e0]; rfl, hm1, hc1, (t.keep g1 hgl hpg).1, Nat.lt_of_lt_of_le hgl t.size, hY.turn t⟩⟩
    obtain ⟨ea, ec, e4⟩ := owns_slice hown
    subst e4
    exact h ea ec w' mk hg (fun g e => by rcases hwh g e with b | b; exact Or.inl b; exact Or.inr (by omega))
theorem wpList_append_cu {w : World} {ops : Array Oper} {rest : List Oper} {o : Oper} {a : Act} {Q : Exit → Act → World → Prop} (hgd : o.guard = none) (s x : Operand)
    (ho : o.op = .call { callee := .builtin .append, args := #[s, x], argTypes := #[31, 31] })
    (B : Nat) (p : Nat → Prop) (v : Value) (C : List (List (List Int))) (n : Nat) (hn : C.length = n) (hs : a.eval s = v) (hF : OCu w B p v C)
    (bo g1 m1 c1 : Nat) (R : List (List Int)) (hx : a.eval x = .slice (some ⟨bo, 0, none⟩) 1 1) (hX : w.cell? ⟨bo, 0, none⟩ = some (.slice (some ⟨g1, 0, none⟩) m1 c1)) (hm1 : m1 ≤ c1) (hc1 : c1 ≤ 9223372036854775807) (hpg : p g1) (hgl : g1 < w.heap.size) (hY : Hangs p w (fun w => GridAt w (some ⟨g1, 0, none⟩) m1 R))
    (hlen : n + 1 ≤ 1048576) (hB : B ≤ w.heap.size)
    (h : ∀ ea ec w', (∀ p', Tn p p' w w' → OCu w' B p' (.slice ea (n + 1) ec) (C ++ [R])) → w.grownBy w' v.ownBlock → (∀ g, (Value.slice ea (n + 1) ec).ownBlock = some g → v.ownBlock = some g ∨ w.heap.size ≤ g) → wpList Tryz.prog ops Q rest (a.put o.dst (.slice ea (n + 1) ec)) w') : wpList Tryz.prog ops Q (o :: rest) a w :=
  wpList_plain hgd fun _ hK => wp_append_cu s x ho B p v C n hn hs hF bo g1 m1 c1 R hx hX hm1 hc1 hpg hgl hY hlen hB fun ea ec w' h1 h2 h3 => hK _ _ (h ea ec w' h1 h2 h3)
/-- append of rows onto a row of rows of the call's own. -/
theorem wp_append_hr {w : World} {o : Oper} {a : Act} {K : Act → World → Prop} {Q : Exit → Act → World → Prop} (s x : Operand)
    (ho : o.op = .call { callee := .builtin .append, args := #[s, x], argTypes := #[77, 77] })
    (B : Nat) (v : Value) (n : Nat) (vs : List Value) (hs : a.eval s = v) (O : w.ownsRow B 24 1 v n vs)
    (ad : Addr) (m c : Nat) (ns : List Value) (hx : a.eval x = .slice (some ad) m c) (hl : ns.length = m) (hn : ∀ j u, ns[j]? = some u → w.cell? (ad.add j) = some u) (h1 : ∀ u ∈ ns, u.oneCell' = true)
    (hlen : n + m ≤ 1048576) (hB : B ≤ w.heap.size)
    (h : ∀ ea ec w', w'.ownsRow B 24 1 (.slice ea (n + m) ec) (n + m) (vs ++ ns) → w.grownBy w' v.ownBlock → (∀ g, (Value.slice ea (n + m) ec).ownBlock = some g → v.ownBlock = some g ∨ w.heap.size ≤ g) → (1 ≤ n + m → ∃ g, ea = some ⟨g, 0, none⟩) → K (a.put o.dst (.slice ea (n + m) ec)) w') : o.wp Tryz.prog a w K Q := by
  obtain ⟨i0, hi, hz0, hz1, hz2⟩ := info_parts Tryz.infoRow
  refine wp_append_own2 w s x 77 ho B 24 i0 (.slice none 0 0) 1 24 Tryz.underlying77 hi hz0 hz1 hz2 rfl (by decide) v n vs hs O ad m c ns hx (by omega) hn h1 (by unfold maxLen; omega) (by omega) hB ?_
  intro v' w' O1 G1 _ N1
  have O2 := O1
  rcases O2.2 with ⟨h2, h3⟩ | ⟨g, cap, cur, h3, h4⟩
  · subst h2
    have e0 : n + m = 0 := h3
    have q := h none 0 w' (by rw [e0]; rw [e0] at O1; exact O1) G1 (fun g e => by simp [Value.ownBlock] at e) (fun hh => absurd hh (by omega))
    rw [e0] at q
    exact q
  · subst h3
    exact h _ cap w' O1 G1 (fun g' e => by rcases N1 g' e with b | b; exact Or.inl b; exact Or.inr (by omega)) (fun _ => ⟨g, rfl⟩)
theorem wpList_append_hr {w : World} {ops : Array Oper} {rest : List Oper} {o : Oper} {a : Act} {Q : Exit → Act → World → Prop} (hgd : o.guard = none) (s x : Operand)
    (ho : o.op = .call { callee := .builtin .append, args := #[s, x], argTypes := #[77, 77] })
    (B : Nat) (v : Value) (n : Nat) (vs : List Value) (hs : a.eval s = v) (O : w.ownsRow B 24 1 v n vs)
    (ad : Addr) (m c : Nat) (ns : List Value) (hx : a.eval x = .slice (some ad) m c) (hl : ns.length = m) (hn : ∀ j u, ns[j]? = some u → w.cell? (ad.add j) = some u) (h1 : ∀ u ∈ ns, u.oneCell' = true)
    (hlen : n + m ≤ 1048576) (hB : B ≤ w.heap.size)
    (h : ∀ ea ec w', w'.ownsRow B 24 1 (.slice ea (n + m) ec) (n + m) (vs ++ ns) → w.grownBy w' v.ownBlock → (∀ g, (Value.slice ea (n + m) ec).ownBlock = some g → v.ownBlock = some g ∨ w.heap.size ≤ g) → (1 ≤ n + m → ∃ g, ea = some ⟨g, 0, none⟩) → wpList Tryz.prog ops Q rest (a.put o.dst (.slice ea (n + m) ec)) w') : wpList Tryz.prog ops Q (o :: rest) a w :=
  wpList_plain hgd fun _ hK => wp_append_hr s x ho B v n vs hs O ad m c ns hx hl hn h1 hlen hB fun ea ec w' h1 h2 h3 h4 => hK _ _ (h ea ec w' h1 h2 h3 h4)
/-- Lists of lists as they are handed in. -/
structure DCube (w : World) (s : Sl) (C : List (List (List Int))) : Prop where
  len : C.length = s.n
  fit : s.n ≤ s.c
  max : s.c ≤ 9223372036854775807
  small : s.n ≤ 1000
  cells : 0 < s.n → ∃ b o, s.ao = some ⟨b, o, none⟩ ∧ ∀ (t : Nat) (R : List (List Int)), C[t]? = some R → ∃ b1 o1 n c, w.cell? ⟨b, o + t, none⟩ = some (.slice (some ⟨b1, o1, none⟩) n c) ∧ n ≤ c ∧ c ≤ 9223372036854775807 ∧ GridAt w (some ⟨b1, o1, none⟩) n R
theorem DCube.below {w w' : World} {s : Sl} {C : List (List (List Int))} (h : DCube w s C) (hb : Below w.heap.size w w') : DCube w' s C := by
  refine ⟨h.len, h.fit, h.max, h.small, fun hn => ?_⟩
  obtain ⟨b, o, e, hc⟩ := h.cells hn
  refine ⟨b, o, e, fun t R hR => ?_⟩
  obtain ⟨b1, o1, n, c, h1, h2, h3, h4⟩ := hc t R hR
  have hlt : b < w.heap.size := by simpa using World.block_lt_of_cell? w _ h1
  exact ⟨b1, o1, n, c, by rw [hb.cell (by exact hlt)]; exact h1, h2, h3, h4.below hb⟩
theorem dcube_nil (w : World) : DCube w ⟨none, 0, 0⟩ [] := ⟨rfl, Nat.le_refl _, by decide, by decide, fun h => absurd h (by decide)⟩
theorem DCube.cube {w : World} {s : Sl} {C : List (List (List Int))} (h : DCube w s C) : CubeAt w s.ao s.n C := by
  refine ⟨h.len, by have := h.small; omega, fun hn => ?_⟩
  obtain ⟨b, o, e, hc⟩ := h.cells hn
  refine ⟨b, o, e, fun t R hR => ?_⟩
  obtain ⟨b1, o1, n, c, h1, h2, h3, h4⟩ := hc t R hR
  exact ⟨_, n, c, h1, (fun e => by cases e), h2, h3, h4⟩
/-- Lists of lists as they are handed in, and what they hang on. -/
structure PCube (p : Nat → Prop) (w : World) (s : Sl) (C : List (List (List Int))) : Prop where
  len : C.length = s.n
  fit : s.n ≤ s.c
  max : s.c ≤ 9223372036854775807
  small : s.n ≤ 1000
  cells : 0 < s.n → ∃ b o, s.ao = some ⟨b, o, none⟩ ∧ p b ∧ ∀ (t : Nat) (R : List (List Int)), C[t]? = some R → ∃ b1 o1 n c, w.cell? ⟨b, o + t, none⟩ = some (.slice (some ⟨b1, o1, none⟩) n c) ∧ n ≤ c ∧ c ≤ 9223372036854775807 ∧ p b1 ∧ Hangs p w (fun w => GridAt w (some ⟨b1, o1, none⟩) n R)
theorem PCube.dcube {p : Nat → Prop} {w : World} {s : Sl} {C : List (List (List Int))} (h : PCube p w s C) : DCube w s C := by
  refine ⟨h.len, h.fit, h.max, h.small, fun hn => ?_⟩
  obtain ⟨b, o, e, hp, hc⟩ := h.cells hn
  refine ⟨b, o, e, fun t R hR => ?_⟩
  obtain ⟨b1, o1, n, c, h1, h2, h3, h4, h5⟩ := hc t R hR
  exact ⟨b1, o1, n, c, h1, h2, h3, h5.now⟩
theorem PCube.turn {p p' : Nat → Prop} {w w' : World} {s : Sl} {C : List (List (List Int))} (h : PCube p w s C) (T : Tn p p' w w') (hpp : ∀ b, p b → p' b) : PCube p' w' s C := by
  refine ⟨h.len, h.fit, h.max, h.small, fun hn => ?_⟩
  obtain ⟨b, o, e, hp, hc⟩ := h.cells hn
  refine ⟨b, o, e, hpp b hp, fun t R hR => ?_⟩
  obtain ⟨b1, o1, n, c, h1, h2, h3, h4, h5⟩ := hc t R hR
  have hlt : b < w.heap.size := by simpa using World.block_lt_of_cell? w _ h1
  exact ⟨b1, o1, n, c, by rw [World.cell?_of_block (w := w) (a := ⟨b, o + t, none⟩) (T.keep b hlt hp).2]; exact h1, h2, h3, hpp b1 h4, h5.turn T⟩
theorem PCube.below {p : Nat → Prop} {w w' : World} {s : Sl} {C : List (List (List Int))} (h : PCube p w s C) (hb : Below w.heap.size w w') : PCube p w' s C := h.turn (Tn.below hb) fun _ h => h
/-- The same without a word on their room. -/
structure PCubeW (p : Nat → Prop) (w : World) (s : Sl) (C : List (List (List Int))) : Prop where
  len : C.length = s.n
  small : s.n ≤ 1000
  cells : 0 < s.n → ∃ b o, s.ao = some ⟨b, o, none⟩ ∧ p b ∧ ∀ (t : Nat) (R : List (List Int)), C[t]? = some R → ∃ b1 o1 n c, w.cell? ⟨b, o + t, none⟩ = some (.slice (some ⟨b1, o1, none⟩) n c) ∧ n ≤ c ∧ c ≤ 9223372036854775807 ∧ p b1 ∧ Hangs p w (fun w => GridAt w (some ⟨b1, o1, none⟩) n R)
theorem PCube.weak {p : Nat → Prop} {w : World} {s : Sl} {C : List (List (List Int))} (h : PCube p w s C) : PCubeW p w s C := ⟨h.len, h.small, h.cells⟩
theorem PCubeW.below {p : Nat → Prop} {w w' : World} {s : Sl} {C : List (List (List Int))} (h : PCubeW p w s C) (hb : Below w.heap.size w w') : PCubeW p w' s C := by
  refine ⟨h.len, h.small, fun hn => ?_⟩
  obtain ⟨b, o, e, hp, hc⟩ := h.cells hn
  refine ⟨b, o, e, hp, fun t R hR => ?_⟩
  obtain ⟨b1, o1, n, c, h1, h2, h3, h4, h5⟩ := hc t R hR
  have hlt : b < w.heap.size := by simpa using World.block_lt_of_cell? w _ h1
  exact ⟨b1, o1, n, c, by rw [World.cell?_of_block (w := w) (a := ⟨b, o + t, none⟩) (hb.block b hlt)]; exact h1, h2, h3, h4, h5.below hb⟩
theorem pcube_nil (p : Nat → Prop) (w : World) : PCube p w ⟨none, 0, 0⟩ [] := ⟨rfl, Nat.le_refl _, by decide, by decide, fun h => absurd h (by decide)⟩
theorem GridAt.same {w w' : World} {b1 o1 n : Nat} {R : List (List Int)} (h : GridAt w (some ⟨b1, o1, none⟩) n R) (hb : ∀ b, b < w.heap.size → w'.heap[b]? = w.heap[b]?) : GridAt w' (some ⟨b1, o1, none⟩) n R := by
  refine ⟨h.len, h.max, fun hn => ?_⟩
  obtain ⟨b, o, e, hc⟩ := h.cells hn
  refine ⟨b, o, e, fun t ht => ?_⟩
  obtain ⟨ro, m, c, h1, h2⟩ := hc t ht
  exact ⟨ro, m, c, by rw [World.cell?_of_block (w := w) (a := ⟨b, o + t, none⟩) (hb b (by simpa using World.block_lt_of_cell? w _ h1))]; exact h1, h2.same hb⟩
/-- Rows that hang on p, in a world in which p's blocks stand. -/
theorem HRows.oldp {p P : Nat → Prop} {w1 w : World} {vs : List Value} {b1 o1 n : Nat} {R : List (List Int)} (hr : RowsAt w1 vs R) (hv : ∀ j u, vs[j]? = some u → w1.cell? ((Addr.mk b1 o1 none).add j) = some u) (hG : Hangs p w1 (fun w => GridAt w (some ⟨b1, o1, none⟩) n R)) (hp1 : p b1) (hb : Below w1.heap.size w1 w) (hP : ∀ b, b < w1.heap.size → p b → P b) : HRows P w vs R := by
  refine ⟨hr.len, fun t ht => ?_⟩
  obtain ⟨ro, m, c, e, A⟩ := hr.rows t ht
  refine ⟨ro, m, c, e, fun w2 h2 => ?_⟩
  have hs : ∀ b, p b → b < w1.heap.size → w2.heap[b]? = w1.heap[b]? := fun b hpb hl => (h2 b (hP b hl hpb) (Nat.lt_of_lt_of_le hl hb.size)).trans (hb.block b hl)
  have hg := hG w2 hs
  have hn : R.length = n := hg.len
  obtain ⟨b', o', e', hc⟩ := hg.cells (by omega)
  simp only [Option.some.injEq, Addr.mk.injEq, and_true] at e'
  obtain ⟨rfl, rfl⟩ := e'
  obtain ⟨ro', m', c', k1, k2⟩ := hc t (by omega)
  have c0 := hv t _ e
  have e2 : (Addr.mk b1 o1 none).add t = ⟨b1, o1 + t, none⟩ := by simp [Addr.add]
  rw [e2] at c0
  have hl1 : b1 < w1.heap.size := by simpa using World.block_lt_of_cell? w1 _ c0
  rw [World.cell?_of_block (w := w1) (a := ⟨b1, o1 + t, none⟩) (hs b1 hp1 hl1), c0] at k1
  simp only [Option.some.injEq, Value.slice.injEq] at k1
  obtain ⟨rfl, rfl, rfl⟩ := k1
  exact k2
theorem OCu.pcube {w : World} {B : Nat} {p : Nat → Prop} {v : Value} {C : List (List (List Int))} (h : OCu w B p v C) (hl : C.length ≤ 1000) {P : Nat → Prop} (hP : ∀ b, p b → P b) (hB : ∀ b, B ≤ b → P b) : ∃ s : Sl, v = s.v ∧ s.n = C.length ∧ PCube P w s C := by
  obtain ⟨a, c, e, h1, h2⟩ := h.form
  refine ⟨⟨a, C.length, c⟩, e, rfl, rfl, h1, h2, hl, fun hn => ?_⟩
  obtain ⟨vs, O, hc⟩ := h.own
  rcases O.2 with ⟨h3, h4⟩ | ⟨g, cap, cur, h3, h4⟩
  · have : 0 < C.length := hn
    omega
  · rw [h3] at e
    simp only [Value.slice.injEq] at e
    refine ⟨g, 0, by rw [← e.1], hB g h4.1, fun t R hR => ?_⟩
    obtain ⟨g1, m, c1, e1, q1, q2, q4, q5, q3⟩ := hc t R hR
    have := O.cells (g := g) (by rw [h3]; rfl) t _ e1
    have e2 : (Addr.mk g 0 none).add t = ⟨g, t, none⟩ := by simp [Addr.add]; intro h; exact h.symm
    rw [e2] at this
    exact ⟨g1, 0, m, c1, by rw [Nat.zero_add]; exact this, q1, q2, hP g1 q4, q3.mono fun b _ hb => hP b hb⟩
theorem var3 (w : World) (T : TypeId) (z row : Array Value) : Blk (w.alloc (.cells z T)) w.heap.size T z ∧ Blk ((w.alloc (.cells z T)).setRow w.heap.size row) w.heap.size T row ∧ Below w.heap.size w ((w.alloc (.cells z T)).setRow w.heap.size row) ∧ ((w.alloc (.cells z T)).setRow w.heap.size row).heap.size = w.heap.size + 1 :=
  ⟨blk_new w T z, (blk_new w T z).row row, below_setRow ((Below.refl _ _).alloc (Nat.le_refl _) _) (Nat.le_refl _) _, by simp⟩
/-- Within the document's Go: what it makes lies behind wb. -/
structure GoS (q : Nat → Prop) (wb wr : World) (v1 v2 v3 v4 v5 : Value) (C1 C2 C3 : List (List (List Int))) : Prop where
  blk : Blk wr wb.heap.size 80 #[v1, v2, v3]
  c1 : OCu wr (wb.heap.size + 1) (offO q v1 v2 v3 v4 v5 wb.heap.size) v1 C1
  c2 : OCu wr (wb.heap.size + 1) (offO q v1 v2 v3 v4 v5 wb.heap.size) v2 C2
  c3 : OCu wr (wb.heap.size + 1) (offO q v1 v2 v3 v4 v5 wb.heap.size) v3 C3
  n12 : ∀ g, v1.ownBlock = some g → v2.ownBlock ≠ some g
  n13 : ∀ g, v1.ownBlock = some g → v3.ownBlock ≠ some g
  n23 : ∀ g, v2.ownBlock = some g → v3.ownBlock ≠ some g
  kp : Below wb.heap.size wb wr
theorem GoS.below {q : Nat → Prop} {wb wr w' : World} {v1 v2 v3 v4 v5 : Value} {C1 C2 C3 : List (List (List Int))} (h : GoS q wb wr v1 v2 v3 v4 v5 C1 C2 C3) (hb : Below wr.heap.size wr w') : GoS q wb w' v1 v2 v3 v4 v5 C1 C2 C3 :=
  ⟨h.blk.below hb, h.c1.turn (Tn.below hb) (fun b e => hb.block b (h.c1.lt b e).2), h.c2.turn (Tn.below hb) (fun b e => hb.block b (h.c2.lt b e).2), h.c3.turn (Tn.below hb) (fun b e => hb.block b (h.c3.lt b e).2), h.n12, h.n13, h.n23, h.kp.trans (hb.mono h.kp.size)⟩
theorem OCu.ne_rows {w : World} {B B' n : Nat} {p : Nat → Prop} {v u : Value} {vs : List Value} {C : List (List (List Int))} (h : OCu w B p v C) (O : w.ownsRow B' 24 1 u n vs) (g : Nat) (e : v.ownBlock = some g) : u.ownBlock ≠ some g := by
  intro e2
  rcases O.2 with ⟨h2, h3⟩ | ⟨g', cap, cur, h3, h4, h5, _⟩
  · rw [h2] at e2; cases e2
  · rw [h3] at e2
    simp only [Value.ownBlock, Option.some.injEq] at e2
    subst e2
    exact h.ne_blk (show w.heap[g']? = some (.cells cur 24 (0, 0)) from h5) (by decide) e
/-- The fourth or the fifth turned; the lists of lists stand. -/
theorem GoS.side {q : Nat → Prop} {wb wr w' : World} {v1 v2 v3 v4 v5 v4' v5' : Value} {C1 C2 C3 : List (List (List Int))} (h : GoS q wb wr v1 v2 v3 v4 v5 C1 C2 C3) (T : Tn (offO q v1 v2 v3 v4 v5 wb.heap.size) (offO q v1 v2 v3 v4' v5' wb.heap.size) wr w')
    (hs : ∀ b, b < wr.heap.size → (b = wb.heap.size ∨ v1.ownBlock = some b ∨ v2.ownBlock = some b ∨ v3.ownBlock = some b) → w'.heap[b]? = wr.heap[b]?) (hk : Below wb.heap.size wr w') : GoS q wb w' v1 v2 v3 v4' v5' C1 C2 C3 :=
  ⟨h.blk.of_block (hs _ h.blk.lt (Or.inl rfl)), h.c1.turn T (fun b e => hs b (h.c1.lt b e).2 (Or.inr (Or.inl e))), h.c2.turn T (fun b e => hs b (h.c2.lt b e).2 (Or.inr (Or.inr (Or.inl e)))), h.c3.turn T (fun b e => hs b (h.c3.lt b e).2 (Or.inr (Or.inr (Or.inr e)))), h.n12, h.n13, h.n23, h.kp.trans hk⟩
/-- A row of rows grew (it is the fourth or the fifth): what of the lists of lists it leaves. -/
theorem GoS.rows_off {q : Nat → Prop} {wb wr w' : World} {v1 v2 v3 v4 v5 u : Value} {n : Nat} {vs : List Value} {C1 C2 C3 : List (List (List Int))} (h : GoS q wb wr v1 v2 v3 v4 v5 C1 C2 C3) (O : wr.ownsRow (wb.heap.size + 1) 24 1 u n vs) (hG : wr.grownBy w' u.ownBlock) :
    (∀ b, b < wr.heap.size → (b = wb.heap.size ∨ v1.ownBlock = some b ∨ v2.ownBlock = some b ∨ v3.ownBlock = some b) → w'.heap[b]? = wr.heap[b]?) ∧ Below wb.heap.size wr w' := by
  refine ⟨fun b hb hh => hG.block b hb fun e => ?_, ⟨hG.os, hG.tape, hG.output, hG.size, fun b hb => hG.block b (Nat.lt_of_lt_of_le hb h.kp.size) fun e => ?_⟩⟩
  · rcases hh with rfl | q | q | q
    · have := (O.lt _ e.symm).1; omega
    · exact h.c1.ne_rows O b q e.symm
    · exact h.c2.ne_rows O b q e.symm
    · exact h.c3.ne_rows O b q e.symm
  · have := (O.lt _ e.symm).1; omega
/-- The first list of lists grew, and the store. -/
theorem GoS.put1 {q : Nat → Prop} {wb wr w' : World} {v1 v2 v3 v4 v5 v1' : Value} {C1 C2 C3 C1' : List (List (List Int))} (h : GoS q wb wr v1 v2 v3 v4 v5 C1 C2 C3) (mk : ∀ p', Tn (offO q v1 v2 v3 v4 v5 wb.heap.size) p' wr w' → OCu w' (wb.heap.size + 1) p' v1' C1') (hG : wr.grownBy w' v1.ownBlock) (hN : ∀ g, v1'.ownBlock = some g → v1.ownBlock = some g ∨ wr.heap.size ≤ g) :
    GoS q wb (w'.setCell ⟨wb.heap.size, 0, none⟩ v1') v1' v2 v3 v4 v5 C1' C2 C3 ∧ Tn (offO q v1 v2 v3 v4 v5 wb.heap.size) (offO q v1' v2 v3 v4 v5 wb.heap.size) wr (w'.setCell ⟨wb.heap.size, 0, none⟩ v1') := by
  have T1 : Tn (offO q v1 v2 v3 v4 v5 wb.heap.size) (offO q v1' v2 v3 v4 v5 wb.heap.size) wr w' := Tn.app1 hG hN
  have T2 : Tn (offO q v1' v2 v3 v4 v5 wb.heap.size) (offO q v1' v2 v3 v4 v5 wb.heap.size) w' (w'.setCell ⟨wb.heap.size, 0, none⟩ v1') := Tn.set w' 0 v1'
  have M := mk _ T1
  have nb : ∀ {v : Value} {C : List (List (List Int))} {p : Nat → Prop} {W : World}, OCu W (wb.heap.size + 1) p v C → v.ownBlock ≠ some wb.heap.size := fun hO e => by have := (hO.lt _ e).1; omega
  have hbk := h.blk.of_block (hG.block _ h.blk.lt (fun e => nb h.c1 e.symm))
  refine ⟨⟨hbk.set 0 v1', M.turn T2 (fun b e => Below.heap_setCell _ _ _ b (fun e2 => nb M (by have e3 : b = wb.heap.size := e2; rw [← e3]; exact e))), ?_, ?_, fun g e e2 => ?_, fun g e e2 => ?_, h.n23, ?_⟩, T1.trans T2⟩
  · exact h.c2.turn (T1.trans T2) (fun b e => by
      rw [Below.heap_setCell _ _ _ b (fun e2 => nb h.c2 (by have e3 : b = wb.heap.size := e2; rw [← e3]; exact e))]
      exact hG.block b (h.c2.lt b e).2 (fun e2 => h.n12 b e2.symm e))
  · exact h.c3.turn (T1.trans T2) (fun b e => by
      rw [Below.heap_setCell _ _ _ b (fun e2 => nb h.c3 (by have e3 : b = wb.heap.size := e2; rw [← e3]; exact e))]
      exact hG.block b (h.c3.lt b e).2 (fun e2 => h.n13 b e2.symm e))
  · rcases hN g e with a | a
    · exact h.n12 g a e2
    · have := (h.c2.lt g e2).2; omega
  · rcases hN g e with a | a
    · exact h.n13 g a e2
    · have := (h.c3.lt g e2).2; omega
  · refine Below.setCell ?_ (p := ⟨wb.heap.size, 0, none⟩) (Nat.le_refl _) v1'
    exact h.kp.trans ⟨hG.os, hG.tape, hG.output, hG.size, fun b hb => hG.block b (Nat.lt_of_lt_of_le hb h.kp.size) (fun e => by have := (h.c1.lt b e.symm).1; omega)⟩
theorem GoS.put2 {q : Nat → Prop} {wb wr w' : World} {v1 v2 v3 v4 v5 v2' : Value} {C1 C2 C3 C2' : List (List (List Int))} (h : GoS q wb wr v1 v2 v3 v4 v5 C1 C2 C3) (mk : ∀ p', Tn (offO q v1 v2 v3 v4 v5 wb.heap.size) p' wr w' → OCu w' (wb.heap.size + 1) p' v2' C2') (hG : wr.grownBy w' v2.ownBlock) (hN : ∀ g, v2'.ownBlock = some g → v2.ownBlock = some g ∨ wr.heap.size ≤ g) :
    GoS q wb (w'.setCell ⟨wb.heap.size, 1, none⟩ v2') v1 v2' v3 v4 v5 C1 C2' C3 ∧ Tn (offO q v1 v2 v3 v4 v5 wb.heap.size) (offO q v1 v2' v3 v4 v5 wb.heap.size) wr (w'.setCell ⟨wb.heap.size, 1, none⟩ v2') := by
  have T1 : Tn (offO q v1 v2 v3 v4 v5 wb.heap.size) (offO q v1 v2' v3 v4 v5 wb.heap.size) wr w' := Tn.app2 hG hN
  have T2 : Tn (offO q v1 v2' v3 v4 v5 wb.heap.size) (offO q v1 v2' v3 v4 v5 wb.heap.size) w' (w'.setCell ⟨wb.heap.size, 1, none⟩ v2') := Tn.set w' 1 v2'
  have M := mk _ T1
  have nb : ∀ {v : Value} {C : List (List (List Int))} {p : Nat → Prop} {W : World}, OCu W (wb.heap.size + 1) p v C → v.ownBlock ≠ some wb.heap.size := fun hO e => by have := (hO.lt _ e).1; omega
  have hbk := h.blk.of_block (hG.block _ h.blk.lt (fun e => nb h.c2 e.symm))
  refine ⟨⟨hbk.set 1 v2', ?_, M.turn T2 (fun b e => Below.heap_setCell _ _ _ b (fun e2 => nb M (by have e3 : b = wb.heap.size := e2; rw [← e3]; exact e))), ?_, fun g e e2 => ?_, h.n13, fun g e e2 => ?_, ?_⟩, T1.trans T2⟩
  · exact h.c1.turn (T1.trans T2) (fun b e => by
      rw [Below.heap_setCell _ _ _ b (fun e2 => nb h.c1 (by have e3 : b = wb.heap.size := e2; rw [← e3]; exact e))]
      exact hG.block b (h.c1.lt b e).2 (fun e2 => h.n12 b e e2.symm))
  · exact h.c3.turn (T1.trans T2) (fun b e => by
      rw [Below.heap_setCell _ _ _ b (fun e2 => nb h.c3 (by have e3 : b = wb.heap.size := e2; rw [← e3]; exact e))]
      exact hG.block b (h.c3.lt b e).2 (fun e2 => h.n23 b e2.symm e))
  · rcases hN g e2 with a | a
    · exact h.n12 g e a
    · have := (h.c1.lt g e).2; omega
  · rcases hN g e with a | a
    · exact h.n23 g a e2
    · have := (h.c3.lt g e2).2; omega
  · refine Below.setCell ?_ (p := ⟨wb.heap.size, 1, none⟩) (Nat.le_refl _) v2'
    exact h.kp.trans ⟨hG.os, hG.tape, hG.output, hG.size, fun b hb => hG.block b (Nat.lt_of_lt_of_le hb h.kp.size) (fun e => by have := (h.c2.lt b e.symm).1; omega)⟩
theorem GoS.put3 {q : Nat → Prop} {wb wr w' : World} {v1 v2 v3 v4 v5 v3' : Value} {C1 C2 C3 C3' : List (List (List Int))} (h : GoS q wb wr v1 v2 v3 v4 v5 C1 C2 C3) (mk : ∀ p', Tn (offO q v1 v2 v3 v4 v5 wb.heap.size) p' wr w' → OCu w' (wb.heap.size + 1) p' v3' C3') (hG : wr.grownBy w' v3.ownBlock) (hN : ∀ g, v3'.ownBlock = some g → v3.ownBlock = some g ∨ wr.heap.size ≤ g) :
    GoS q wb (w'.setCell ⟨wb.heap.size, 2, none⟩ v3') v1 v2 v3' v4 v5 C1 C2 C3' ∧ Tn (offO q v1 v2 v3 v4 v5 wb.heap.size) (offO q v1 v2 v3' v4 v5 wb.heap.size) wr (w'.setCell ⟨wb.heap.size, 2, none⟩ v3') := by
  have T1 : Tn (offO q v1 v2 v3 v4 v5 wb.heap.size) (offO q v1 v2 v3' v4 v5 wb.heap.size) wr w' := Tn.app3 hG hN
  have T2 : Tn (offO q v1 v2 v3' v4 v5 wb.heap.size) (offO q v1 v2 v3' v4 v5 wb.heap.size) w' (w'.setCell ⟨wb.heap.size, 2, none⟩ v3') := Tn.set w' 2 v3'
  have M := mk _ T1
  have nb : ∀ {v : Value} {C : List (List (List Int))} {p : Nat → Prop} {W : World}, OCu W (wb.heap.size + 1) p v C → v.ownBlock ≠ some wb.heap.size := fun hO e => by have := (hO.lt _ e).1; omega
  have hbk := h.blk.of_block (hG.block _ h.blk.lt (fun e => nb h.c3 e.symm))
  refine ⟨⟨hbk.set 2 v3', ?_, ?_, M.turn T2 (fun b e => Below.heap_setCell _ _ _ b (fun e2 => nb M (by have e3 : b = wb.heap.size := e2; rw [← e3]; exact e))), h.n12, fun g e e2 => ?_, fun g e e2 => ?_, ?_⟩, T1.trans T2⟩
  · exact h.c1.turn (T1.trans T2) (fun b e => by
      rw [Below.heap_setCell _ _ _ b (fun e2 => nb h.c1 (by have e3 : b = wb.heap.size := e2; rw [← e3]; exact e))]
      exact hG.block b (h.c1.lt b e).2 (fun e2 => h.n13 b e e2.symm))
  · exact h.c2.turn (T1.trans T2) (fun b e => by
      rw [Below.heap_setCell _ _ _ b (fun e2 => nb h.c2 (by have e3 : b = wb.heap.size := e2; rw [← e3]; exact e))]
      exact hG.block b (h.c2.lt b e).2 (fun e2 => h.n23 b e e2.symm))
  · rcases hN g e2 with a | a
    · exact h.n13 g e a
    · have := (h.c1.lt g e).2; omega
  · rcases hN g e2 with a | a
    · exact h.n23 g e a
    · have := (h.c2.lt g e).2; omega
  · refine Below.setCell ?_ (p := ⟨wb.heap.size, 2, none⟩) (Nat.le_refl _) v3'
    exact h.kp.trans ⟨hG.os, hG.tape, hG.output, hG.size, fun b hb => hG.block b (Nat.lt_of_lt_of_le hb h.kp.size) (fun e => by have := (h.c3.lt b e.symm).1; omega)⟩
end Go.Proofs.YtmdjlaileakbeaaGreatDoor

/- The document's own answers of layer 7: a score, and the errors' numbers; and what Scores answers where a key is of another length. -/
namespace Go.Proofs.YtmdjlaileakbeaaGreatDoor
open Go.ChangeShapes Go.WideShapes Go.ChangeAt Go.RowKit
set_option maxHeartbeats 1600000 in
theorem scores_bad (qo ko : Option Addr) (n m cq ck p : Nat) (Q : List Int) (K : List (List Int)) (w : World) (hQ : RowAt w qo n Q) (hK : GridAt w ko m K) (hn : n ≤ 4096) (hm : m ≤ 4096) (hp : p < m) (hl : ∀ t, t < p → (rowOf K t).length = n) (hb : (rowOf K p).length ≠ n) (hb4 : (rowOf K p).length ≤ 4096) :
   Calls Tryz.prog 95 #[.slice qo n cq, .slice ko m ck] w fun e w' => e = .returned (.tuple #[.slice none 0 0, .int .i64 6]) ∧ Below w.heap.size w w' := by
  have hmk := run_make_row' (P := Tryz.prog) 24 83 (.int .i32 0) 4 Tryz.underlying24 Tryz.infoNum rfl .i64 .i64 m (by omega) (by omega)
  have F0 := fresh_made w m (by omega)
  have B0 : Below w.heap.size w (w.alloc (.cells (madeCells #[.int .i32 0] m) 83)) := (Below.refl _ _).alloc (Nat.le_refl _) _
  have HK : Hid (∀ wv, Below w.heap.size w wv → GridAt wv ko m K) := fun wv hb => hK.below hb
  have HQ : Hid (∀ wv, Below w.heap.size w wv → RowAt wv qo n Q) := fun wv hb => hQ.below hb
  have hk := scoreK_bd n
  have sb := sat_bd (clip n * 65536)
  have HE : Hid (invN (sat (clip n * 65536)) = scoreK n) := rfl
  go_enter Tryz.func95, Tryz.ntmps95
  go_wp2_with (first | (go_at_call 105; refine (of_any _ _ (by omega) (by omega)).mono ?_; rintro e w ⟨rfl, rfl⟩) | (go_at_call 86; refine (inv_any _ _ (by omega) (by omega)).mono ?_; rintro e w ⟨rfl, rfl⟩; rw [HE.out]))
  clear hmk hK hQ
  generalize w.alloc (.cells (madeCells #[.int .i32 0] m) 83) = w0 at *
  go_loopg [21] m (fun r i wr => ∃ j : Nat, j ≤ p ∧ r = m - j ∧ i = .int .i64 j ∧ Fresh wr w.heap.size w.heap.size m m (tab m fun i => if i < j then scoreN Q (rowOf K i) n else 0) ∧ Below w.heap.size w wr)
  case atStart => exact ⟨0, by omega, by omega, rfl, by rw [tab_start]; exact F0, B0⟩
  case round =>
    obtain ⟨j, hj, rfl, rfl, F1, B1⟩ := hrel
    clear F0 B0
    have hlm : j < m := by omega
    have R1 := HK.out _ B1
    have A1 := HQ.out _ B1
    obtain ⟨b, o, rfl, hc⟩ := R1.cells (by omega)
    obtain ⟨ro, m1, k1, q1, AR⟩ := hc j hlm
    have l1 := AR.row.len
    by_cases hlj : j < p
    · rw [hl j hlj] at l1
      subst l1
      have f1 := F1.frozen j
      have f2 := F1.cell hlm
      have d1 := dotN_bd Q (rowOf K j) n
      have d2 := scoreN_bd Q (rowOf K j) n
      clear hc R1
      go_wp2_with (first | (go_at_call 99; refine (dot_any _ _ _ _ _ _ _ _ A1 AR.row hn).mono ?_; rintro e w1 ⟨rfl, n1, rfl⟩) | (go_at_call 87; refine (mul_any _ _ _ (by omega) (by omega) (by omega) (by omega)).mono ?_; rintro e w' ⟨rfl, n2, rfl⟩))
      go_roundg (m - (j + 1))
      case measure => omega
      case rel => exact ⟨j + 1, by omega, rfl, by go_num, (F1.drewN (n1 + n2)).step (f := fun i => scoreN Q (rowOf K i) n) (scoreN Q (rowOf K j) n) hlm rfl (by omega), (below_drewN B1 (n1 + n2)).setCell (Nat.le_refl _) _⟩
    · obtain rfl : j = p := by omega
      have hx := AR.row.max
      have hne : fitN n m1 = 6 := by unfold fitN; rw [if_neg (by omega), if_pos (by omega)]
      clear hc R1 AR A1 F1
      go_wp2_with (go_at_call 99; refine (dot_bad _ _ _ _ _ _ _ (by omega) hx (by rw [hne]; omega)).mono ?_; rw [hne]; rintro e wr ⟨rfl, rfl⟩)
      go_ret2
      exact ⟨rfl, B1⟩
theorem refDot2 (ao bo : Option Addr) (n1 n2 n ca cb : Nat) (A B : List Int) (w : World) (h1 : n1 = n) (h2 : n2 = n) (hA : RowAt w ao n A) (hB : RowAt w bo n B) :
   Calls Tryz.prog 72 #[.slice ao n1 ca, .slice bo n2 cb] w fun e w' => e = .returned (.int .i32 (dotN A B n)) ∧ ∃ m, w' = w.drewN m := by
  subst h1
  subst h2
  exact refDot_any _ _ _ _ _ _ _ _ hA hB
theorem drew_drewN (w : World) (a b : Nat) : w.drew.drewN (a + b) = w.drewN (1 + a + b) := by
  have h : w.drew = w.drewN 1 := rfl
  rw [h, World.drewN_drewN, Nat.add_assoc]
set_option maxHeartbeats 1600000 in
theorem refScore_any (b o n cq b' o' n' ck f s : Nat) (Q Kr : List Int) (w : World) (hQ : Arg w (some ⟨b, o, none⟩) n cq Q) (hK : Arg w (some ⟨b', o', none⟩) n' ck Kr) (h1 : f + s ≤ n) (h2 : f + s ≤ n') (h4 : s ≤ 4096) (h0 : 1 ≤ s ∨ f = 0) :
   Calls Tryz.prog 73 #[.slice (some ⟨b, o, none⟩) n cq, .slice (some ⟨b', o', none⟩) n' ck, .int .i64 f, .int .i64 s] w fun e w' => e = .returned (.int .i32 (scoreN (partOf Q f s) (partOf Kr f s) s)) ∧ ∃ d, w' = w.drewN d := by
  have P1 : RowAt w (some ⟨b, o + f, none⟩) s (partOf Q f s) := hQ.row.part f s h1
  have P2 : RowAt w (some ⟨b', o' + f, none⟩) s (partOf Kr f s) := hK.row.part f s h2
  have x1 := hQ.fit
  have x2 := hQ.max
  have x3 := hK.fit
  have x4 := hK.max
  have y0 : IntKind.i64.wrap ((f : Int) + (s : Int)) = (f : Int) + (s : Int) := wrap_in (by omega)
  have y1 : 0 ≤ (f : Int) + (s : Int) := by omega
  have y2 : (f : Int) + (s : Int) ≤ (cq : Int) := by omega
  have y3 : (f : Int) + (s : Int) ≤ (ck : Int) := by omega
  have HC : Hid (sat ((s : Int) * 65536) = sat (clip s * 65536)) := by show _ = _; unfold sat clip; omega
  have HE : Hid (invN (sat (clip s * 65536)) = scoreK s) := rfl
  have sb := sat_bd (clip s * 65536)
  have kb := scoreK_bd s
  have db := dotN_bd (partOf Q f s) (partOf Kr f s) s
  have ys : IntKind.i64.wrap ((s : Int) * 65536) = (s : Int) * 65536 := wrap_in (by omega)
  clear hQ hK
  replace h0 : 1 ≤ s ∨ (s = 0 ∧ f = 0) := by omega
  rcases h0 with h0 | h0
  · have y4 : ¬ cq = f := by omega
    have y5 : ¬ ck = f := by omega
    go_enter Tryz.func73, Tryz.ntmps73
    go_wp2_with fail
    go_region_with (first
        | (go_at_call 72; refine (refDot2 _ _ _ _ s _ _ _ _ _ (by omega) (by omega) (P1.below (Below.refl _ _).drew) (P2.below (Below.refl _ _).drew)).mono ?_; rintro e w1 ⟨rfl, d1, hw1⟩; have HW1 : Hid (w1 = w.drew.drewN d1) := hw1; clear hw1)
        | (go_at_call 68; refine (refSat_any _ _ (by omega) (by omega)).mono ?_; rintro e w1 ⟨rfl, rfl⟩; rw [HC.out])
        | (go_at_call 69; refine (refInv_any _ _ (by omega) (by omega)).mono ?_; rintro e w1 ⟨rfl, rfl⟩; rw [HE.out])
        | (go_at_call 71; refine (refMul_any _ _ _ (by omega) (by omega) (by omega) (by omega)).mono ?_; rintro e w2 ⟨rfl, d2, hw2⟩; have HW2 : Hid (w2 = w1.drewN d2) := hw2; clear hw2))
    all_goals
      go_wp2
      go_ret
      exact ⟨rfl, 1 + d1 + d2, by rw [HW2.out, HW1.out, World.drewN_drewN]; exact drew_drewN _ _ _⟩
  · obtain ⟨rfl, rfl⟩ := h0
    rw [show partOf Q 0 0 = [] from by simp [partOf], show partOf Kr 0 0 = [] from by simp [partOf]] at *
    have y6 : IntKind.i64.wrap 0 = 0 := rfl
    have HC : Hid (sat 0 = sat (clip 0 * 65536)) := rfl
    have HE : Hid (invN (sat (clip 0 * 65536)) = scoreK 0) := rfl
    have sb := sat_bd (clip 0 * 65536)
    clear y0 y1 y2 y3 P1 P2 ys
    by_cases z1 : cq = 0
    all_goals by_cases z2 : ck = 0
    all_goals
      go_enter Tryz.func73, Tryz.ntmps73
      go_wp2_with fail
      go_region_with (first
          | (go_at_call 72; refine (refDot_any _ _ 0 _ _ [] [] _ (RowAt.nil _ _) (RowAt.nil _ _)).mono ?_; rintro e w1 ⟨rfl, d1, hw1⟩; have HW1 : Hid (w1 = w.drew.drewN d1) := hw1; clear hw1)
          | (go_at_call 68; refine (refSat_any 0 _ (by omega) (by omega)).mono ?_; rintro e w1 ⟨rfl, rfl⟩; rw [HC.out])
          | (go_at_call 69; refine (refInv_any _ _ (by omega) (by omega)).mono ?_; rintro e w1 ⟨rfl, rfl⟩; rw [HE.out])
          | (go_at_call 71; refine (refMul_any _ _ _ (by omega) (by omega) (by omega) (by omega)).mono ?_; rintro e w2 ⟨rfl, d2, hw2⟩; have HW2 : Hid (w2 = w1.drewN d2) := hw2; clear hw2))
      all_goals
        go_wp2
        go_ret
        exact ⟨rfl, 1 + d1 + d2, by rw [HW2.out, HW1.out, World.drewN_drewN]; exact drew_drewN _ _ _⟩
end Go.Proofs.YtmdjlaileakbeaaGreatDoor

/- The document's weights. -/
namespace Go.Proofs.YtmdjlaileakbeaaGreatDoor
open Go.ChangeShapes Go.WideShapes Go.ChangeAt Go.RowKit
theorem Tryz.infoI64 : (Tryz.prog.info? 2).map (fun i => (i.zero, i.size, i.bytes)) = some (some (.int .i64 0), 1, 8) := by kernel_rfl
/-- Block g is a row of the call's own, of numbers of 64 bits. -/
structure Own64 (w : World) (B g n cap : Nat) (A : List Int) : Prop where
  own : w.ownsRow B 2 1 (.slice (some ⟨g, 0, none⟩) n cap) n (A.map (Value.int .i64))
  base : B ≤ g
theorem Own64.cell {w : World} {B g n cap : Nat} {A : List Int} (h : Own64 w B g n cap A) {t : Nat} (ht : t < n) : w.cell? ⟨g, t, none⟩ = some (.int .i64 (el A t)) := by
  have hl : A.length = n := by simpa using h.own.1
  have := h.own.cells (g := g) rfl t (.int .i64 (el A t)) (by unfold el; simp [List.getD_eq_getElem?_getD, List.getElem?_eq_getElem (show t < A.length by omega)])
  have e2 : (Addr.mk g 0 none).add t = ⟨g, t, none⟩ := by simp [Addr.add]; intro h; exact h.symm
  rwa [e2] at this
theorem Own64.below {w w' : World} {B g n cap : Nat} {A : List Int} (h : Own64 w B g n cap A) (hb : Below w.heap.size w w') : Own64 w' B g n cap A := ⟨owns_below h.own hb, h.base⟩
theorem Own64.of_block {w w' : World} {B g n cap : Nat} {A : List Int} (h : Own64 w B g n cap A) (e : w'.heap[g]? = w.heap[g]?) : Own64 w' B g n cap A := by
  obtain ⟨h1, h2⟩ := h.own
  refine ⟨⟨h1, ?_⟩, h.base⟩
  rcases h2 with h2 | ⟨g', c, cur, hv, hg, hh, r⟩
  · exact Or.inl h2
  · refine Or.inr ⟨g', c, cur, hv, hg, ?_, r⟩
    simp only [Value.slice.injEq, Option.some.injEq, Addr.mk.injEq, and_true] at hv
    obtain ⟨rfl, -⟩ := hv
    exact e.trans hh
theorem Own64.lt {w : World} {B g n cap : Nat} {A : List Int} (h : Own64 w B g n cap A) : g < w.heap.size := by
  obtain ⟨h1, h2⟩ := h.own
  rcases h2 with ⟨h2, _⟩ | ⟨g', c, cur, hv, hg, hh, r⟩
  · cases h2
  · simp only [Value.slice.injEq, Option.some.injEq, Addr.mk.injEq, and_true] at hv
    obtain ⟨rfl, -⟩ := hv
    exact (Array.getElem?_eq_some_iff.1 hh).1
theorem own64_empty (w : World) : Own64 (w.alloc (.cells #[] 2)) w.heap.size w.heap.size 0 0 [] :=
  ⟨⟨rfl, Or.inr ⟨w.heap.size, 0, #[], rfl, Nat.le_refl _, heap_alloc_new _ _, Nat.le_refl _, by decide, rfl, rfl⟩⟩, Nat.le_refl _⟩
/-- append(out, x), out a row of 64 bits of the call's own. -/
theorem wpList_append_64 {w : World} {ops : Array Oper} {rest : List Oper} {o : Oper} {a : Act} {Q : Exit → Act → World → Prop} (hgd : o.guard = none) (s x : Operand)
    (ho : o.op = .call { callee := .builtin .append, args := #[s, x], argTypes := #[136, 136] })
    (B g n cap : Nat) (A : List Int) (hs : a.eval s = .slice (some ⟨g, 0, none⟩) n cap) (hF : Own64 w B g n cap A)
    (bo : Nat) (y : Int) (hx : a.eval x = .slice (some ⟨bo, 0, none⟩) 1 1) (hX : w.cell? ⟨bo, 0, none⟩ = some (.int .i64 y))
    (hlen : n + 1 ≤ 1048576) (hB : B ≤ w.heap.size)
    (h : ∀ g' cap' w', Own64 w' B g' (n + 1) cap' (A ++ [y]) → Below B w w' → wpList Tryz.prog ops Q rest (a.put o.dst (.slice (some ⟨g', 0, none⟩) (n + 1) cap')) w') : wpList Tryz.prog ops Q (o :: rest) a w := by
  obtain ⟨i0, hi, hz0, hz1, hz2⟩ := info_parts Tryz.infoI64
  refine wpList_append_own w hgd s x 136 ho B 2 i0 (.int .i64 0) 1 8 Tryz.underlying136 hi hz0 hz1 hz2 rfl (by decide) _ n _ hs hF.own ⟨bo, 0, none⟩ 1 1 [.int .i64 y] hx rfl ?_ (ints_oneCell .i64 [y]) (by unfold maxLen; omega) (by omega) hB ?_
  · intro j u hj
    match j, hj with
    | 0, hj =>
      simp at hj
      subst hj
      have e2 : (Addr.mk bo 0 none).add 0 = ⟨bo, 0, none⟩ := by simp [Addr.add]
      rw [e2, hX]
  · intro v' w' hown hg hnil
    have hb : Below B w w' := (Below.refl _ _).grown hg hB (fun k hk => by simp [Value.ownBlock] at hk; subst hk; exact hF.base)
    obtain ⟨h1, h2⟩ := hown
    rcases h2 with ⟨h3, h4⟩ | ⟨g', c', cur, hv, hg2, hr⟩
    · omega
    · subst hv
      have e : A.map (Value.int .i64) ++ [.int .i64 y] = (A ++ [y]).map (Value.int .i64) := by simp
      rw [e] at h1 hr
      exact h g' c' w' ⟨⟨h1, Or.inr ⟨g', c', cur, rfl, hg2, hr⟩⟩, hg2⟩ hb
theorem cell64_new (w : World) (x : Int) : (w.alloc (.cells #[.int .i64 x] 2)).cell? ⟨w.heap.size, 0, none⟩ = some (.int .i64 x) := by
  have e := heap_alloc_new w (.cells #[.int .i64 x] 2)
  unfold World.cell?
  simp only [e]
  rfl
set_option maxRecDepth 100000 in
set_option maxHeartbeats 1600000 in
theorem refWeights_any (ao : Option Addr) (n ca : Nat) (A : List Int) (w : World) (hA : RowAt w ao n A) (h1 : 1 ≤ n) (h5 : n ≤ 5000) :
   Calls Tryz.prog 74 #[.slice ao n ca] w fun e w' => ∃ g cap, e = .returned (.slice (some ⟨g, 0, none⟩) n cap) ∧ Fresh w' w.heap.size g n cap (tab n (wgt A n)) ∧ Below w.heap.size w w' := by
  obtain ⟨x1, x2⟩ := amax_max A h1
  have x3 := amax_bd A n
  obtain ⟨b, o, rfl, hc⟩ := hA.cells (by omega)
  have c0 := hc (amax A n).toNat (by omega)
  rw [x2] at c0
  have mb := maxTo_bd hA.small n
  go_enter Tryz.func74, Tryz.ntmps74
  go_wp2_with fail
  refine (refArgmax_any _ _ _ _ _ hA).mono ?_
  rintro e w0 ⟨rfl, m0, hw0⟩
  have B0 : Below w.heap.size w w0 := hw0 ▸ below_drewN (Below.refl _ _) m0
  have c1 : w0.cell? ⟨b, o + (amax A n).toNat, none⟩ = some (.int .i32 (maxTo A n)) := by rw [hw0]; exact c0
  clear hw0 c0 hc x2
  have F0 := own64_empty w0
  have B1 : Below w.heap.size w (w0.alloc (.cells #[] 2)) := B0.alloc B0.size _
  have s0 := B0.size
  go_wp2
  generalize w0.alloc (.cells #[] 2) = w1 at *
  clear c1 x1 x3
  go_loopg [4, 5, 6] n (fun r s q i wr => ∃ (k g cap : Nat), k ≤ n ∧ r = n - k ∧ i = .int .i64 k ∧ s = .slice (some ⟨g, 0, none⟩) k cap ∧ q = .int .i64 (psum A n k) ∧ Own64 wr w0.heap.size g k cap (tab k (powW A n)) ∧ Below w.heap.size w wr ∧ w0.heap.size ≤ wr.heap.size)
  case atStart => exact ⟨0, _, _, by omega, by omega, rfl, rfl, rfl, F0, B1, by have := F0.lt; omega⟩
  case round =>
    obtain ⟨k, g, cap, hk, rfl, rfl, rfl, rfl, F2, B2, s2⟩ := hrel
    clear F0 B0 B1
    by_cases hlt : k < n
    · obtain ⟨b2, o2, e2, hc⟩ := (hA.below B2).cells (by omega)
      simp only [Option.some.injEq, Addr.mk.injEq, and_true] at e2
      obtain ⟨rfl, rfl⟩ := e2
      have a1 := hA.small.el k
      have c1 := hc k hlt
      have HP : Hid (powI (sat (el A k - maxTo A n)) = powW A n k) := rfl
      have HS : Hid (tab (k + 1) (powW A n) = tab k (powW A n) ++ [powW A n k]) := tab_snoc1 k _
      have HQ : Hid (psum A n (k + 1) = psum A n k + powW A n k) := psum_succ A n k
      have pb := powW_bd A n k
      have qb := psum_bd A n k
      have sb := sat_bd (el A k - maxTo A n)
      generalize maxTo A n = top at *
      generalize el A k = x at *
      clear hc hA
      go_wp2_with (first | (go_at_call 68; refine (refSat_any _ _ (by omega) (by omega)).mono ?_; rintro e wr ⟨rfl, rfl⟩) | (go_at_call 92; refine (refPow_any _ _ (by omega) (by omega)).mono ?_; rintro e w2 ⟨rfl, B3⟩; rw [HP.out]; have c3 := cell64_new w2 (powW A n k); have B4 : Below w2.heap.size w2 (w2.alloc (.cells #[.int .i64 (powW A n k)] 2)) := (Below.refl _ _).alloc (Nat.le_refl _) _; have s3 := B3.size; have s4 := B4.size; have F4 := (F2.below B3).below B4; have B5 := below_then (below_then B2 B3) B4; generalize hw4 : w2.alloc (.cells #[.int .i64 (powW A n k)] 2) = w4 at *; generalize powW A n k = y at *) | (at_builtin; refine wpList_append_64 rfl _ _ rfl w0.heap.size g k cap _ rfl (by exact F4) w2.heap.size y rfl (by exact c3) (by omega) (by omega) ?_; intro g' cap' w' F7 B7))
      go_roundg (n - (k + 1))
      case measure => omega
      case rel => exact ⟨k + 1, _, _, by omega, rfl, by go_num, rfl, by rw [HQ.out], by rw [HS.out]; exact F7, B5.trans (B7.mono (by omega)), by have := B7.size; omega⟩
    · obtain rfl : k = n := by omega
      generalize wr = w2 at *
      have F3 := fresh_empty w2
      have B3 : Below w2.heap.size w2 (w2.alloc (.cells #[] 83)) := (Below.refl _ _).alloc (Nat.le_refl _) _
      have F4 := F2.below B3
      have g1 := F2.lt
      have s3 := B3.size
      replace B3 := below_then B2 B3
      have qb := psum_bd A k k
      have qt := psum_top A h1
      have qn : psum A k k ≠ 0 := by omega
      go_wp2
      clear F2 B2
      generalize w2.alloc (.cells #[] 83) = w3 at *
      go_loopg [8, 9] k (fun r s i wr => ∃ (j g' cap' : Nat), j ≤ k ∧ r = k - j ∧ i = .int .i64 j ∧ s = .slice (some ⟨g', 0, none⟩) j cap' ∧ Fresh wr w2.heap.size g' j cap' (tab j (wgt A k)) ∧ Own64 wr w0.heap.size g k cap (tab k (powW A k)) ∧ Below w.heap.size w wr ∧ w2.heap.size ≤ wr.heap.size)
      case atStart => exact ⟨0, _, _, by omega, by omega, rfl, rfl, F3, F4, B3, s3⟩
      case round =>
        obtain ⟨j, g', cap', hj, rfl, rfl, rfl, F5, F6, B6, s6⟩ := hrel
        clear F3 F4 B3
        by_cases hlj : j < k
        · have c1 := F6.cell hlj
          rw [el_tab hlj] at c1
          have pb := powW_bd A k j
          have HW : Hid (65536 * powW A k j / psum A k k = wgt A k j) := rfl
          have wb := wgt_bd A hlj
          have E9 : Hid (wrap32 (wgt A k j) = wgt A k j) := by show _ = _; unfold wrap32; omega
          have HS : Hid (tab (j + 1) (wgt A k) = tab j (wgt A k) ++ [wgt A k j]) := tab_snoc1 j _
          have R := rowAt_one wr (wgt A k j) (by omega)
          have BA : Below wr.heap.size wr (wr.alloc (.cells #[.int .i32 (wgt A k j)] 83)) := (Below.refl _ _).alloc (Nat.le_refl _) _
          have F7 := F5.below BA
          have F8 := F6.below BA
          have s8 := BA.size
          replace BA := below_then B6 BA
          have E10 : wrap32 (65536 * powW A k j / psum A k k) = wgt A k j := E9.out
          generalize hw7 : wr.alloc (.cells #[.int .i32 (wgt A k j)] 83) = w7 at *
          generalize wgt A k j = z at *
          clear F5 F6 B6 HW E9
          go_wp2_with (at_builtin; refine wpList_append_row rfl _ _ rfl w2.heap.size g' j cap' _ rfl (by exact F7) (some ⟨wr.heap.size, 0, none⟩) 1 1 _ rfl (by exact R) (fun h => by cases h) (by omega) (by omega) ?_; intro g'' cap'' w' F9 B9)
          go_roundg (k - (j + 1))
          case measure => omega
          case rel => exact ⟨j + 1, _, _, by omega, rfl, by go_num, rfl, by rw [HS.out]; exact F9, F8.of_block (B9.block _ (by omega)), BA.trans (B9.mono (by omega)), by have := B9.size; omega⟩
        · obtain rfl : j = k := by omega
          go_wp2
          go_ret
          exact ⟨_, _, rfl, F5.mono (by omega), B6⟩
end Go.Proofs.YtmdjlaileakbeaaGreatDoor

/- The document's own answers of layer 7: the errors' numbers, and Attend, number by number. -/
namespace Go.Proofs.YtmdjlaileakbeaaGreatDoor
open Go.ChangeShapes Go.WideShapes Go.ChangeAt Go.RowKit
theorem tab_snoc8 (n : Nat) (f : Nat → Int) : tab (n + 1) f = tab n f ++ [f n] := by unfold tab; rw [List.range_succ, List.map_append]; rfl
set_option maxRecDepth 100000 in
set_option maxHeartbeats 3200000 in
theorem refAttend_any (ko vo : Option Addr) (q o0 n m cq ck cv : Nat) (Q : List Int) (K V : List (List Int)) (h : Int) (w : World) (hQ : Arg w (some ⟨q, o0, none⟩) n cq Q) (hK : GridAt w ko m K) (hV : GridAt w vo m V) (hf : hchkN n m m K V h = 0) :
   Calls Tryz.prog 51 #[.slice (some ⟨q, o0, none⟩) n cq, .slice ko m ck, .slice vo m cv, .int .i64 h] w fun e w' => ∃ g cap, e = .returned (.slice (some ⟨g, 0, none⟩) n cap) ∧ Fresh w' w.heap.size g n cap (tab n (attEl Q K V m (n / h.toNat))) ∧ Below w.heap.size w w' := by
  obtain ⟨hh, hn, hm, hd, -, hlk, hlv⟩ := hchkN_ok hf
  obtain ⟨H, rfl⟩ : ∃ H : Nat, h = H := ⟨h.toNat, by omega⟩
  rw [Int.toNat_natCast] at hd ⊢
  obtain ⟨s, hs⟩ : ∃ s, s = n / H := ⟨_, rfl⟩
  have hns : H * s = n := by rw [hs]; exact Nat.mul_div_cancel' (Nat.dvd_of_mod_eq_zero hd)
  have h1 : 1 ≤ s := by
    rcases Nat.eq_zero_or_pos s with e | e
    · rw [e] at hns; omega
    · exact e
  have hsn : s ≤ n := by rw [hs]; exact Nat.div_le_self _ _
  have hdiv : (n : Int) / (H : Int) = s := by rw [hs]; rfl
  rw [← hs]
  have F0 := fresh_empty w
  have B0 : Below w.heap.size w (w.alloc (.cells #[] 83)) := (Below.refl _ _).alloc (Nat.le_refl _) _
  have HK : Hid (∀ wv, Below w.heap.size w wv → GridAt wv ko m K) := fun wv hb => hK.below hb
  have HV : Hid (∀ wv, Below w.heap.size w wv → GridAt wv vo m V) := fun wv hb => hV.below hb
  have HQ : Hid (∀ wv, Below w.heap.size w wv → Arg wv (some ⟨q, o0, none⟩) n cq Q) := fun wv hb => hQ.below hb
  have hz : (H : Int) ≠ 0 := by omega
  clear hs hf hK hV hQ
  go_enter Tryz.func51, Tryz.ntmps51
  go_wp2_with fail
  generalize w.alloc (.cells #[] 83) = w0 at *
  go_loopg [10, 23] n (fun r s0 i wr => ∃ (j g cap : Nat), j ≤ n ∧ r = n - j ∧ i = .int .i64 j ∧ s0 = .slice (some ⟨g, 0, none⟩) j cap ∧ Fresh wr w.heap.size g j cap (tab j (attEl Q K V m s)) ∧ Below w.heap.size w wr)
  case atStart => exact ⟨0, _, _, by omega, by omega, rfl, rfl, F0, B0⟩
  case round =>
    obtain ⟨j, g, cap, hj, rfl, rfl, rfl, F1, B1⟩ := hrel
    clear F0 B0
    generalize wr = w1 at *
    by_cases hlt : j < n
    · obtain ⟨f, hfe⟩ : ∃ f, f = j / s * s := ⟨_, rfl⟩
      obtain ⟨r0, hre⟩ : ∃ r, r = j % s := ⟨_, rfl⟩
      have hdm : f + r0 = j := by rw [hfe, hre, Nat.mul_comm]; exact Nat.div_add_mod j s
      have hfs : f + s ≤ n := by
        have : j / s < H := (Nat.div_lt_iff_lt_mul (by omega)).2 (by omega)
        rw [hfe, ← hns, ← Nat.succ_mul]
        exact Nat.mul_le_mul_right _ this
      have hmod : (j : Int) % (s : Int) = (r0 : Int) := by rw [hre]; rfl
      have hsub : (j : Int) - (r0 : Int) = (f : Int) := by omega
      have hs0 : (s : Int) ≠ 0 := by omega
      have HE : Hid (attEl Q K V m s j = dotN (tab m (wgt (tab m fun i => scoreN (partOf Q f s) (partOf (rowOf K i) f s) s) m)) (tab m fun i => el (rowOf V i) j) m) := by
        show _ = _
        unfold attEl headEl scrs colOf
        rw [← hfe]
        congr 3
        refine tab_congr fun i hi => ?_
        rw [rowOf_parts (by rw [(HK.out _ B1).len]; exact hi)]
      have HX : Hid (tab (j + 1) (attEl Q K V m s) = tab j (attEl Q K V m s) ++ [attEl Q K V m s j]) := tab_snoc8 j _
      have ab := attEl_bd Q K V m s j
      clear hfe hre
      have FS := (fresh_empty w1).below ((Below.refl _ (w1.alloc (.cells #[] 83))).alloc (Nat.le_refl _) (.cells #[] 83))
      have FC := (fresh_empty (w1.alloc (.cells #[] 83))).mono (B' := w1.heap.size) (by simp)
      have sz0 : (w1.alloc (.cells #[] 83)).heap.size = w1.heap.size + 1 := by simp
      rw [sz0] at FC
      have B2 : Below w1.heap.size w1 ((w1.alloc (.cells #[] 83)).alloc (.cells #[] 83)) := ((Below.refl _ w1).alloc (Nat.le_refl _) _).alloc (by simp) _
      have s1 := B1.size
      have g1 := F1.lt
      go_wp2_with fail
      clear sz0 hmod hsub hs0 hdiv hz hd
      generalize (w1.alloc (.cells #[] 83)).alloc (.cells #[] 83) = w2 at *
      go_loopg [13, 14, 35] m (fun r a1 a2 i wr => ∃ (k gS cS gC cC : Nat), k ≤ m ∧ r = m - k ∧ i = .int .i64 k ∧ a1 = .slice (some ⟨gS, 0, none⟩) k cS ∧ a2 = .slice (some ⟨gC, 0, none⟩) k cC ∧ Fresh wr w1.heap.size gS k cS (tab k fun i => scoreN (partOf Q f s) (partOf (rowOf K i) f s) s) ∧ Fresh wr w1.heap.size gC k cC (tab k fun i => el (rowOf V i) j) ∧ gS ≠ gC ∧ Below w1.heap.size w1 wr)
      case atStart => exact ⟨0, _, _, _, _, by omega, by omega, rfl, rfl, rfl, FS, FC, by omega, B2⟩
      case round =>
        clear FS FC B2
        obtain ⟨k, gS, cS, gC, cC, hk, rfl, rfl, rfl, rfl, FS, FC, hne, B2⟩ := hrel
        generalize wr = w3 at *
        have B3 := below_then B1 B2
        by_cases hlk2 : k < m
        · have RK := HK.out _ B3
          have RV := HV.out w (Below.refl _ _)
          have AQ := HQ.out _ B3
          obtain ⟨bk, ok, rfl, hck⟩ := RK.cells (by omega)
          obtain ⟨ro, m1, c1, q1, A1⟩ := hck k hlk2
          have l1 := A1.row.len
          rw [hlk k hlk2] at l1
          subst l1
          obtain ⟨b3, o3, rfl, -⟩ := A1.row.cells (by omega)
          obtain ⟨bv, ov, rfl, hcv⟩ := RV.cells (by omega)
          obtain ⟨ro2, m2, c2, q2, A2⟩ := hcv k hlk2
          have l2 := A2.row.len
          rw [hlv k hlk2] at l2
          subst l2
          obtain ⟨b4, o4, rfl, hc4⟩ := A2.row.cells (by omega)
          have q3 := hc4 j hlt
          have vb := A2.row.small.el j
          have CS := refScore_any q o0 n cq b3 o3 n c1 f s Q (rowOf K k) w3 AQ A1 hfs hfs (by omega) (Or.inl h1)
          have HS : Hid (tab (k + 1) (fun i => scoreN (partOf Q f s) (partOf (rowOf K i) f s) s) = tab k (fun i => scoreN (partOf Q f s) (partOf (rowOf K i) f s) s) ++ [scoreN (partOf Q f s) (partOf (rowOf K k) f s) s]) := tab_snoc8 k _
          have HC : Hid (tab (k + 1) (fun i => el (rowOf V i) j) = tab k (fun i => el (rowOf V i) j) ++ [el (rowOf V k) j]) := tab_snoc8 k _
          have sb := scoreN_bd (partOf Q f s) (partOf (rowOf K k) f s) s
          have lv1 : bv < w.heap.size := by simpa using World.block_lt_of_cell? w _ q2
          have lv2 : b4 < w.heap.size := by simpa using World.block_lt_of_cell? w _ q3
          have s3 := B2.size
          have lS := FS.lt
          have lC := FC.lt
          generalize scoreN (partOf Q f s) (partOf (rowOf K k) f s) s = x at *
          generalize el (rowOf V k) j = y at *
          clear hck hcv hc4 A1 A2 RK RV AQ
          have HQ2 : Hid (w.cell? ⟨bv, ov + k, none⟩ = some (.slice (some ⟨b4, o4, none⟩) n c2)) := q2
          have HQ3 : Hid (w.cell? ⟨b4, o4 + j, none⟩ = some (.int .i32 y)) := q3
          clear q2 q3
          go_wp2_with fail
          refine CS.mono ?_
          rintro e w4 ⟨rfl, d, hw4⟩
          have B4 : Below w3.heap.size w3 w4 := hw4 ▸ below_drewN (Below.refl _ _) d
          clear hw4 CS q1
          have RX := rowAt_one w4 x (by omega)
          have BX : Below w4.heap.size w4 (w4.alloc (.cells #[.int .i32 x] 83)) := (Below.refl _ _).alloc (Nat.le_refl _) _
          have B5 := below_then B4 BX
          have FS5 := FS.below B5
          have FC5 := FC.below B5
          have s4 := B4.size
          have s5 := BX.size
          have B6 := below_then B2 B5
          clear BX B4 FS FC B2
          generalize hw5 : w4.alloc (.cells #[.int .i32 x] 83) = w5 at *
          go_wp2_with (first
            | (at_builtin; refine wpList_append_one2 rfl (.tmp 38) _ rfl w1.heap.size gS k cS _ rfl (by exact FS5) w4.heap.size x rfl (by exact RX) (by omega) (by omega) ?_; intro gS' cS' w6 FS6 B7 K6 W6; have FC6 := FC5.of_block (K6 gC (by omega) (by omega)); have D6 := below_then B1 (B6.trans B7); have q2 := (D6.cell (p := ⟨bv, ov + k, none⟩) (by exact lv1)).trans HQ2.out; have q3 := (D6.cell (p := ⟨b4, o4 + j, none⟩) (by exact lv2)).trans HQ3.out; have RY := rowAt_one w6 y (by omega); have BY : Below w6.heap.size w6 (w6.alloc (.cells #[.int .i32 y] 83)) := (Below.refl _ _).alloc (Nat.le_refl _) _; have FS7 := FS6.below BY; have FC7 := FC6.below BY; have s6 := B7.size; have lS6 := FS6.lt; have lC6 := FC6.lt; have s7 := BY.size; have B8 := below_then (B6.trans B7) BY; clear BY K6 D6 B7; generalize hw7 : w6.alloc (.cells #[.int .i32 y] 83) = w7 at *)
            | (at_builtin; refine wpList_append_one2 rfl (.tmp 49) _ rfl w1.heap.size gC k cC _ rfl (by exact FC7) w6.heap.size y rfl (by exact RY) (by omega) (by omega) ?_; intro gC' cC' w8 FC8 B9 K8 W8; have FS8 := FS7.of_block (K8 gS' (by omega) (by omega))))
          go_roundg (m - (k + 1))
          case measure => omega
          case rel => exact ⟨k + 1, gS', cS', gC', cC', by omega, rfl, by go_num, rfl, rfl, by rw [HS.out]; exact FS8, by rw [HC.out]; exact FC8, by omega, B8.trans B9⟩
        · obtain rfl : k = m := by omega
          have s3 := B2.size
          replace F1 := F1.below B2
          clear HK HV HQ hne B2
          go_wp2_with fail
          refine (refWeights_any _ _ _ _ _ FS.rowAt (by omega) (by omega)).mono ?_
          rintro e w4 ⟨g4, c4, rfl, F4, B4⟩
          replace F1 := F1.below B4
          replace FC := FC.below B4
          replace B4 := below_then B3 B4
          clear FS B3
          go_wp2_with fail
          refine (refDot_any _ _ _ _ _ _ _ _ F4.rowAt FC.rowAt).mono ?_
          rw [← HE.out]
          rintro e w5 ⟨rfl, d, hw5⟩
          have B5 : Below w4.heap.size w4 w5 := hw5 ▸ below_drewN (Below.refl _ _) d
          clear hw5 F4 FC HE
          generalize attEl Q K V k s j = x at *
          have RX := rowAt_one w5 x (by omega)
          have BX : Below w5.heap.size w5 (w5.alloc (.cells #[.int .i32 x] 83)) := (Below.refl _ _).alloc (Nat.le_refl _) _
          have B6 := below_then B5 BX
          have F6 := F1.below B6
          have s5 := B5.size
          have s6 := BX.size
          have s4 := B4.size
          replace B6 := below_then B4 B6
          clear BX B5 F1 B4
          generalize hw6 : w5.alloc (.cells #[.int .i32 x] 83) = w6 at *
          go_wp2_with (at_builtin; refine wpList_append_one2 rfl _ _ rfl w.heap.size g j cap _ rfl (by exact F6) w5.heap.size x rfl (by exact RX) (by omega) (by omega) ?_; intro g' cap' w7 F7 B7 K7 W7)
          go_roundg (n - (j + 1))
          case measure => omega
          case rel => exact ⟨j + 1, g', cap', by omega, rfl, by go_num, rfl, by rw [HX.out]; exact F7, B6.trans B7⟩
    · obtain rfl : j = n := by omega
      go_wp2
      go_ret
      exact ⟨_, _, rfl, F1, B1⟩
end Go.Proofs.YtmdjlaileakbeaaGreatDoor
