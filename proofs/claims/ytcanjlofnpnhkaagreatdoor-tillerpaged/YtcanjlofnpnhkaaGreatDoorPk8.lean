/- Contracts of the program's functions, part 8 of 13: what each call returns and leaves of memory. -/
import Derived.Test.YtcanjlofnpnhkaaGreatDoorPk5
import Derived.Test.YtcanjlofnpnhkaaGreatDoorPk7
import Derived.Test.YtcanjlofnpnhkaaGreatDoorPk6
import Derived.Test.YtcanjlofnpnhkaaGreatDoorPk3
import Derived.Deep.CutRange
import Derived.Deep.MidRow
/- Lists of lists of rows that grow side by side: what each hangs on. -/
namespace Go.Proofs.YtcanjlofnpnhkaaGreatDoor
open Go.ChangeShapes Go.WideShapes Go.ChangeAt Go.RowKit
theorem Arg.same {w w' : World} {ro : Option Addr} {m c : Nat} {A : List Int} (h : Arg w ro m c A) (hb : ∀ b, b < w.heap.size → w'.heap[b]? = w.heap[b]?) : Arg w' ro m c A := by
  refine ⟨⟨h.row.len, h.row.max, h.row.small, fun hn => ?_⟩, h.fit, h.max, h.nil, h.cold_of hb⟩
  obtain ⟨b, o, e, hc⟩ := h.row.cells hn
  refine ⟨b, o, e, fun t ht => ?_⟩
  have h1 := hc t ht
  rw [World.cell?_of_block (w := w) (hb b (by simpa using World.block_lt_of_cell? w _ h1))]
  exact h1
/-- From w to w' only blocks that aren't p's turned, and what was p's is p''s. -/
structure Tn (p p' : Nat → Prop) (w w' : World) : Prop where
  size : w.heap.size ≤ w'.heap.size
  keep : ∀ b, b < w.heap.size → p b → p' b ∧ w'.heap[b]? = w.heap[b]?
theorem Tn.below {p : Nat → Prop} {w w' : World} (h : Below w.heap.size w w') : Tn p p w w' := ⟨h.size, fun b hb hp => ⟨hp, h.block b hb⟩⟩
theorem Tn.trans {p p' p2 : Nat → Prop} {w w' w2 : World} (h : Tn p p' w w') (k : Tn p' p2 w' w2) : Tn p p2 w w2 :=
  ⟨Nat.le_trans h.size k.size, fun b hb hp => by
    obtain ⟨a1, a2⟩ := h.keep b hb hp
    obtain ⟨b1, b2⟩ := k.keep b (Nat.lt_of_lt_of_le hb h.size) a1
    exact ⟨b1, b2.trans a2⟩⟩
theorem Hangs.turn {p p' : Nat → Prop} {w w' : World} {Φ : World → Prop} (h : Hangs p w Φ) (t : Tn p p' w w') : Hangs p' w' Φ := fun w2 h2 =>
  h w2 fun b hb hl => by
    obtain ⟨q, e⟩ := t.keep b hl hb
    exact (h2 b q (Nat.lt_of_lt_of_le hl t.size)).trans e
/-- The blocks that aren't those of five values, nor block h, nor the one ahead of it. -/
def offO (q : Nat → Prop) (v1 v2 v3 v4 v5 : Value) (h : Nat) (b : Nat) : Prop := v1.ownBlock ≠ some b ∧ v2.ownBlock ≠ some b ∧ v3.ownBlock ≠ some b ∧ v4.ownBlock ≠ some b ∧ v5.ownBlock ≠ some b ∧ b ≠ h ∧ b + 1 ≠ h ∧ q b
theorem Tn.app1 {q : Nat → Prop} {v1 v1' v2 v3 v4 v5 : Value} {h : Nat} {w w' : World} (hG : w.grownBy w' v1.ownBlock) (hN : ∀ g, v1'.ownBlock = some g → v1.ownBlock = some g ∨ w.heap.size ≤ g) : Tn (offO q v1 v2 v3 v4 v5 h) (offO q v1' v2 v3 v4 v5 h) w w' :=
  ⟨hG.size, fun b hb hp => ⟨⟨fun e => by rcases hN b e with a | a; exact hp.1 a; omega, hp.2⟩, hG.block b hb (fun e => hp.1 e.symm)⟩⟩
theorem Tn.app2 {q : Nat → Prop} {v1 v2 v2' v3 v4 v5 : Value} {h : Nat} {w w' : World} (hG : w.grownBy w' v2.ownBlock) (hN : ∀ g, v2'.ownBlock = some g → v2.ownBlock = some g ∨ w.heap.size ≤ g) : Tn (offO q v1 v2 v3 v4 v5 h) (offO q v1 v2' v3 v4 v5 h) w w' :=
  ⟨hG.size, fun b hb hp => ⟨⟨hp.1, fun e => by rcases hN b e with a | a; exact hp.2.1 a; omega, hp.2.2⟩, hG.block b hb (fun e => hp.2.1 e.symm)⟩⟩
theorem Tn.app3 {q : Nat → Prop} {v1 v2 v3 v3' v4 v5 : Value} {h : Nat} {w w' : World} (hG : w.grownBy w' v3.ownBlock) (hN : ∀ g, v3'.ownBlock = some g → v3.ownBlock = some g ∨ w.heap.size ≤ g) : Tn (offO q v1 v2 v3 v4 v5 h) (offO q v1 v2 v3' v4 v5 h) w w' :=
  ⟨hG.size, fun b hb hp => ⟨⟨hp.1, hp.2.1, fun e => by rcases hN b e with a | a; exact hp.2.2.1 a; omega, hp.2.2.2⟩, hG.block b hb (fun e => hp.2.2.1 e.symm)⟩⟩
theorem Tn.app4 {q : Nat → Prop} {v1 v2 v3 v4 v4' v5 : Value} {h : Nat} {w w' : World} (hG : w.grownBy w' v4.ownBlock) (hN : ∀ g, v4'.ownBlock = some g → v4.ownBlock = some g ∨ w.heap.size ≤ g) : Tn (offO q v1 v2 v3 v4 v5 h) (offO q v1 v2 v3 v4' v5 h) w w' :=
  ⟨hG.size, fun b hb hp => ⟨⟨hp.1, hp.2.1, hp.2.2.1, fun e => by rcases hN b e with a | a; exact hp.2.2.2.1 a; omega, hp.2.2.2.2⟩, hG.block b hb (fun e => hp.2.2.2.1 e.symm)⟩⟩
theorem Tn.app5 {q : Nat → Prop} {v1 v2 v3 v4 v5 v5' : Value} {h : Nat} {w w' : World} (hG : w.grownBy w' v5.ownBlock) (hN : ∀ g, v5'.ownBlock = some g → v5.ownBlock = some g ∨ w.heap.size ≤ g) : Tn (offO q v1 v2 v3 v4 v5 h) (offO q v1 v2 v3 v4 v5' h) w w' :=
  ⟨hG.size, fun b hb hp => ⟨⟨hp.1, hp.2.1, hp.2.2.1, hp.2.2.2.1, fun e => by rcases hN b e with a | a; exact hp.2.2.2.2.1 a; omega, hp.2.2.2.2.2⟩, hG.block b hb (fun e => hp.2.2.2.2.1 e.symm)⟩⟩
theorem Tn.set {q : Nat → Prop} {v1 v2 v3 v4 v5 : Value} {h : Nat} (w : World) (o : Nat) (v : Value) : Tn (offO q v1 v2 v3 v4 v5 h) (offO q v1 v2 v3 v4 v5 h) w (w.setCell ⟨h, o, none⟩ v) :=
  ⟨by simp [World.setCell], fun b _ hp => ⟨hp, Below.heap_setCell _ _ _ b hp.2.2.2.2.2.1⟩⟩
/-- A new block as the fourth or the fifth. -/
theorem Tn.new4 {q : Nat → Prop} {v1 v2 v3 v5 : Value} {h k n c : Nat} (w : World) (hk : w.heap.size ≤ k) : Tn (offO q v1 v2 v3 (.slice none 0 0) v5 h) (offO q v1 v2 v3 (.slice (some ⟨k, 0, none⟩) n c) v5 h) w w :=
  ⟨Nat.le_refl _, fun b hb hp => ⟨⟨hp.1, hp.2.1, hp.2.2.1, fun e => by simp [Value.ownBlock] at e; omega, hp.2.2.2.2⟩, rfl⟩⟩
theorem Tn.new5 {q : Nat → Prop} {v1 v2 v3 v4 : Value} {h k n c : Nat} (w : World) (hk : w.heap.size ≤ k) : Tn (offO q v1 v2 v3 v4 (.slice none 0 0) h) (offO q v1 v2 v3 v4 (.slice (some ⟨k, 0, none⟩) n c) h) w w :=
  ⟨Nat.le_refl _, fun b hb hp => ⟨⟨hp.1, hp.2.1, hp.2.2.1, hp.2.2.2.1, fun e => by simp [Value.ownBlock] at e; omega, hp.2.2.2.2.2⟩, rfl⟩⟩
theorem Tn.drop {q : Nat → Prop} {v1 v2 v3 v4 v5 : Value} {h : Nat} (w : World) : Tn (offO q v1 v2 v3 v4 v5 h) (offO q v1 v2 v3 (.slice none 0 0) (.slice none 0 0) h) w w :=
  ⟨Nat.le_refl _, fun b _ hp => ⟨⟨hp.1, hp.2.1, hp.2.2.1, (fun e => by cases e), (fun e => by cases e), hp.2.2.2.2.2⟩, rfl⟩⟩
/-- The values of rows, and what they read as and hang on. -/
structure HRows (p : Nat → Prop) (w : World) (vs : List Value) (R : List (List Int)) : Prop where
  len : vs.length = R.length
  rows : ∀ t, t < R.length → ∃ ro m c, vs[t]? = some (.slice ro m c) ∧ Hangs p w (fun w => Arg w ro m c (rowOf R t))
theorem HRows.turn {p p' : Nat → Prop} {w w' : World} {vs : List Value} {R : List (List Int)} (h : HRows p w vs R) (t : Tn p p' w w') : HRows p' w' vs R :=
  ⟨h.len, fun k hk => let ⟨ro, m, c, e, A⟩ := h.rows k hk; ⟨ro, m, c, e, A.turn t⟩⟩
theorem HRows.now {p : Nat → Prop} {w : World} {vs : List Value} {R : List (List Int)} (h : HRows p w vs R) : RowsAt w vs R :=
  ⟨h.len, fun k hk => let ⟨ro, m, c, e, A⟩ := h.rows k hk; ⟨ro, m, c, e, A.now⟩⟩
theorem HRows.nil (p : Nat → Prop) (w : World) : HRows p w [] [] := ⟨rfl, fun t ht => by simp at ht⟩
theorem HRows.old {p : Nat → Prop} {w1 w : World} {vs : List Value} {R : List (List Int)} (h : RowsAt w1 vs R) (hb : Below w1.heap.size w1 w) (hp : ∀ b, b < w1.heap.size → p b) : HRows p w vs R :=
  ⟨h.len, fun k hk => let ⟨ro, m, c, e, A⟩ := h.rows k hk; ⟨ro, m, c, e, fun _ h2 => A.same fun b hb2 => (h2 b (hp b hb2) (Nat.lt_of_lt_of_le hb2 hb.size)).trans (hb.block b hb2)⟩⟩
theorem HRows.snoc {p : Nat → Prop} {w : World} {vs : List Value} {R : List (List Int)} (h : HRows p w vs R) {ro : Option Addr} {m c : Nat} {Y : List Int} (hY : Hangs p w (fun w => Arg w ro m c Y)) : HRows p w (vs ++ [.slice ro m c]) (R ++ [Y]) := by
  have hl := h.len
  refine ⟨by simp [hl], fun t ht => ?_⟩
  rw [List.length_append, List.length_singleton] at ht
  rcases Nat.lt_or_ge t R.length with h1 | h1
  · obtain ⟨ro', m', c', e, A⟩ := h.rows t h1
    refine ⟨ro', m', c', by rw [List.getElem?_append_left (by omega)]; exact e, ?_⟩
    have : rowOf (R ++ [Y]) t = rowOf R t := by unfold rowOf; simp only [List.getD_eq_getElem?_getD]; rw [List.getElem?_append_left h1]
    rw [this]
    exact A
  · obtain rfl : t = R.length := by omega
    refine ⟨ro, m, c, by rw [← hl]; simp, ?_⟩
    have : rowOf (R ++ [Y]) R.length = Y := by unfold rowOf; simp
    rw [this]
    exact hY
/-- A list of rows of the call's own hangs on its block and on what its rows hang on. -/
theorem HRows.grid {p : Nat → Prop} {w : World} {B g n cap : Nat} {vs : List Value} {R : List (List Int)} (h : HRows p w vs R) (O : w.ownsRow B 35 1 (.slice (some ⟨g, 0, none⟩) n cap) n vs) (hg : p g) (hn : n ≤ 9223372036854775807) : Hangs p w (fun w => GridAt w (some ⟨g, 0, none⟩) n R) := by
  intro w2 h2
  have hgl : g < w.heap.size := (O.lt g rfl).2
  have O2 : w2.ownsRow B 35 1 (.slice (some ⟨g, 0, none⟩) n cap) n vs := owns_mono O (Nat.le_refl _) (fun b hb => by
    simp [Value.ownBlock] at hb
    subst hb
    exact h2 _ hg hgl)
  exact grid_of_owns O2 ⟨h.len, fun k hk => let ⟨ro, m, c, e, A⟩ := h.rows k hk; ⟨ro, m, c, e, A w2 h2⟩⟩ hn
/-- Lists of lists of rows of the call's own. -/
structure OCu (w : World) (B : Nat) (p : Nat → Prop) (v : Value) (C : List (List (List Int))) : Prop where
  own : ∃ vs, w.ownsRow B 105 1 v C.length vs ∧ ∀ (t : Nat) (R : List (List Int)), C[t]? = some R → ∃ g m c, vs[t]? = some (.slice (some ⟨g, 0, none⟩) m c) ∧ m ≤ c ∧ c ≤ 9223372036854775807 ∧ p g ∧ g < w.heap.size ∧ Hangs p w (fun w => GridAt w (some ⟨g, 0, none⟩) m R)
theorem OCu.nil (w : World) (B : Nat) (p : Nat → Prop) : OCu w B p (.slice none 0 0) [] := ⟨[], World.ownsRow_nil _ _ _ _, fun t R hR => by simp at hR⟩
/-- Its own block stays, and what its lists hang on. -/
theorem OCu.turn {p p' : Nat → Prop} {w w' : World} {B : Nat} {v : Value} {C : List (List (List Int))} (h : OCu w B p v C) (t : Tn p p' w w') (hb : ∀ b, v.ownBlock = some b → w'.heap[b]? = w.heap[b]?) : OCu w' B p' v C := by
  obtain ⟨vs, h1, h2⟩ := h.own
  exact ⟨vs, owns_mono h1 (Nat.le_refl _) hb, fun k R hR => let ⟨g, m, c, e, h3, h4, hg, hl, h5⟩ := h2 k R hR; ⟨g, m, c, e, h3, h4, (t.keep g hl hg).1, Nat.lt_of_lt_of_le hl t.size, h5.turn t⟩⟩
theorem OCu.form {w : World} {B : Nat} {p : Nat → Prop} {v : Value} {C : List (List (List Int))} (h : OCu w B p v C) : ∃ a c, v = .slice a C.length c ∧ C.length ≤ c ∧ c ≤ 9223372036854775807 := by
  obtain ⟨vs, h1, _⟩ := h.own
  rcases h1.2 with ⟨h2, h3⟩ | ⟨g, cap, cur, h3, h4, h5, h6, h7, _⟩
  · rw [h3]; exact ⟨none, 0, h2, Nat.le_refl _, by omega⟩
  · exact ⟨_, _, h3, h6, by unfold maxLen at h7; exact h7⟩
theorem OCu.lt {w : World} {B : Nat} {p : Nat → Prop} {v : Value} {C : List (List (List Int))} (h : OCu w B p v C) : ∀ g, v.ownBlock = some g → B ≤ g ∧ g < w.heap.size := by
  obtain ⟨vs, h1, _⟩ := h.own
  exact fun g e => h1.lt g e
theorem OCu.ne_blk {w : World} {B b : Nat} {p : Nat → Prop} {T' : TypeId} {v : Value} {C : List (List (List Int))} {cs : Array Value} (h : OCu w B p v C) (h' : w.heap[b]? = some (.cells cs T' (0, 0))) (hT : (105 : TypeId) ≠ T') : v.ownBlock ≠ some b := by
  intro e
  obtain ⟨vs, h1, _⟩ := h.own
  rcases h1.2 with ⟨h2, h3⟩ | ⟨g', cap, cur, h3, h4, h5, _⟩
  · rw [h2] at e; cases e
  · rw [h3] at e
    simp only [Value.ownBlock, Option.some.injEq] at e
    subst e
    rw [h'] at h5
    injection h5 with h5
    injection h5 with _ e2 _
    exact hT e2.symm
/-- append of a list of rows onto lists of lists, in a region or out of it. -/
theorem wp_append_cu {w : World} {o : Oper} {a : Act} {K : Act → World → Prop} {Q : Exit → Act → World → Prop} (s x : Operand)
    (ho : o.op = .call { callee := .builtin .append, args := #[s, x], argTypes := #[26, 26] })
    (B : Nat) (p : Nat → Prop) (v : Value) (C : List (List (List Int))) (n : Nat) (hn : C.length = n) (hs : a.eval s = v) (hF : OCu w B p v C)
    (bo g1 m1 c1 : Nat) (R : List (List Int)) (hx : a.eval x = .slice (some ⟨bo, 0, none⟩) 1 1) (hX : w.cell? ⟨bo, 0, none⟩ = some (.slice (some ⟨g1, 0, none⟩) m1 c1)) (hm1 : m1 ≤ c1) (hc1 : c1 ≤ 9223372036854775807) (hpg : p g1) (hgl : g1 < w.heap.size) (hY : Hangs p w (fun w => GridAt w (some ⟨g1, 0, none⟩) m1 R))
    (hlen : n + 1 ≤ 1048576) (hB : B ≤ w.heap.size)
    (h : ∀ ea ec w', (∀ p', Tn p p' w w' → OCu w' B p' (.slice ea (n + 1) ec) (C ++ [R])) → w.grownBy w' v.ownBlock → (∀ g, (Value.slice ea (n + 1) ec).ownBlock = some g → v.ownBlock = some g ∨ w.heap.size ≤ g) → K (a.put o.dst (.slice ea (n + 1) ec)) w') : o.wp Tryz.prog a w K Q := by
  subst hn
  obtain ⟨i0, hi, hz0, hz1, hz2⟩ := info_parts Tryz.infoList
  obtain ⟨vs, h1, h2⟩ := hF.own
  refine wp_append_own2 w s x 26 ho B 105 i0 (.slice none 0 0) 1 24 Tryz.underlying26 hi hz0 hz1 hz2 rfl (by decide) v C.length vs hs h1 ⟨bo, 0, none⟩ 1 1 [.slice (some ⟨g1, 0, none⟩) m1 c1] hx rfl ?_ (by intro u hu; simp at hu; subst hu; rfl) (by unfold maxLen; omega) (by omega) hB ?_
  · intro j u hj
    match j, hj with
    | 0, hj =>
      simp at hj
      subst hj
      have e2 : (Addr.mk bo 0 none).add 0 = ⟨bo, 0, none⟩ := by simp [Addr.add]
      rw [e2, hX]
  · intro v' w' hown hg hnil hwh
    have hlv : vs.length = C.length := by have := h1.1; omega
    have hlen2 : (C ++ [R]).length = C.length + 1 := by simp
    have mk : ∀ p', Tn p p' w w' → OCu w' B p' v' (C ++ [R]) := fun p' t => ⟨vs ++ [.slice (some ⟨g1, 0, none⟩) m1 c1], by rw [hlen2]; exact hown, fun k R' hR' => by
      by_cases htk : k < C.length
      · rw [List.getElem?_append_left htk] at hR'
        obtain ⟨g3, m3, c3, e3, q1, q2, q4, q5, q3⟩ := h2 k R' hR'
        exact ⟨g3, m3, c3, by rw [List.getElem?_append_left (by omega)]; exact e3, q1, q2, (t.keep g3 q5 q4).1, Nat.lt_of_lt_of_le q5 t.size, q3.turn t⟩
      · rw [List.getElem?_append_right (by omega)] at hR'
        have e0 : k - C.length = 0 := by
          rcases Nat.eq_zero_or_pos (k - C.length) with e | e
          · exact e
          · rw [List.getElem?_eq_none (by simp; omega)] at hR'; cases hR'
        rw [e0] at hR'
        simp at hR'
        subst hR'
        exact ⟨g1, m1, c1, by rw [List.getElem?_append_right (by omega), hlv, e0]; rfl, hm1, hc1, (t.keep g1 hgl hpg).1, Nat.lt_of_lt_of_le hgl t.size, hY.turn t⟩⟩
    obtain ⟨ea, ec, e4⟩ := owns_slice hown
    subst e4
    exact h ea ec w' mk hg (fun g e => by rcases hwh g e with b | b; exact Or.inl b; exact Or.inr (by omega))
theorem wpList_append_cu {w : World} {ops : Array Oper} {rest : List Oper} {o : Oper} {a : Act} {Q : Exit → Act → World → Prop} (hgd : o.guard = none) (s x : Operand)
    (ho : o.op = .call { callee := .builtin .append, args := #[s, x], argTypes := #[26, 26] })
    (B : Nat) (p : Nat → Prop) (v : Value) (C : List (List (List Int))) (n : Nat) (hn : C.length = n) (hs : a.eval s = v) (hF : OCu w B p v C)
    (bo g1 m1 c1 : Nat) (R : List (List Int)) (hx : a.eval x = .slice (some ⟨bo, 0, none⟩) 1 1) (hX : w.cell? ⟨bo, 0, none⟩ = some (.slice (some ⟨g1, 0, none⟩) m1 c1)) (hm1 : m1 ≤ c1) (hc1 : c1 ≤ 9223372036854775807) (hpg : p g1) (hgl : g1 < w.heap.size) (hY : Hangs p w (fun w => GridAt w (some ⟨g1, 0, none⟩) m1 R))
    (hlen : n + 1 ≤ 1048576) (hB : B ≤ w.heap.size)
    (h : ∀ ea ec w', (∀ p', Tn p p' w w' → OCu w' B p' (.slice ea (n + 1) ec) (C ++ [R])) → w.grownBy w' v.ownBlock → (∀ g, (Value.slice ea (n + 1) ec).ownBlock = some g → v.ownBlock = some g ∨ w.heap.size ≤ g) → wpList Tryz.prog ops Q rest (a.put o.dst (.slice ea (n + 1) ec)) w') : wpList Tryz.prog ops Q (o :: rest) a w :=
  wpList_plain hgd fun _ hK => wp_append_cu s x ho B p v C n hn hs hF bo g1 m1 c1 R hx hX hm1 hc1 hpg hgl hY hlen hB fun ea ec w' h1 h2 h3 => hK _ _ (h ea ec w' h1 h2 h3)
/-- append of rows onto a row of rows of the call's own. -/
theorem wp_append_hr {w : World} {o : Oper} {a : Act} {K : Act → World → Prop} {Q : Exit → Act → World → Prop} (s x : Operand)
    (ho : o.op = .call { callee := .builtin .append, args := #[s, x], argTypes := #[105, 105] })
    (B : Nat) (v : Value) (n : Nat) (vs : List Value) (hs : a.eval s = v) (O : w.ownsRow B 35 1 v n vs)
    (ad : Addr) (m c : Nat) (ns : List Value) (hx : a.eval x = .slice (some ad) m c) (hl : ns.length = m) (hn : ∀ j u, ns[j]? = some u → w.cell? (ad.add j) = some u) (h1 : ∀ u ∈ ns, u.oneCell' = true)
    (hlen : n + m ≤ 1048576) (hB : B ≤ w.heap.size)
    (h : ∀ ea ec w', w'.ownsRow B 35 1 (.slice ea (n + m) ec) (n + m) (vs ++ ns) → w.grownBy w' v.ownBlock → (∀ g, (Value.slice ea (n + m) ec).ownBlock = some g → v.ownBlock = some g ∨ w.heap.size ≤ g) → (1 ≤ n + m → ∃ g, ea = some ⟨g, 0, none⟩) → K (a.put o.dst (.slice ea (n + m) ec)) w') : o.wp Tryz.prog a w K Q := by
  obtain ⟨i0, hi, hz0, hz1, hz2⟩ := info_parts Tryz.infoRow
  refine wp_append_own2 w s x 105 ho B 35 i0 (.slice none 0 0) 1 24 Tryz.underlying105 hi hz0 hz1 hz2 rfl (by decide) v n vs hs O ad m c ns hx (by omega) hn h1 (by unfold maxLen; omega) (by omega) hB ?_
  intro v' w' O1 G1 _ N1
  have O2 := O1
  rcases O2.2 with ⟨h2, h3⟩ | ⟨g, cap, cur, h3, h4⟩
  · subst h2
    have e0 : n + m = 0 := h3
    have q := h none 0 w' (by rw [e0]; rw [e0] at O1; exact O1) G1 (fun g e => by simp [Value.ownBlock] at e) (fun hh => absurd hh (by omega))
    rw [e0] at q
    exact q
  · subst h3
    exact h _ cap w' O1 G1 (fun g' e => by rcases N1 g' e with b | b; exact Or.inl b; exact Or.inr (by omega)) (fun _ => ⟨g, rfl⟩)
theorem wpList_append_hr {w : World} {ops : Array Oper} {rest : List Oper} {o : Oper} {a : Act} {Q : Exit → Act → World → Prop} (hgd : o.guard = none) (s x : Operand)
    (ho : o.op = .call { callee := .builtin .append, args := #[s, x], argTypes := #[105, 105] })
    (B : Nat) (v : Value) (n : Nat) (vs : List Value) (hs : a.eval s = v) (O : w.ownsRow B 35 1 v n vs)
    (ad : Addr) (m c : Nat) (ns : List Value) (hx : a.eval x = .slice (some ad) m c) (hl : ns.length = m) (hn : ∀ j u, ns[j]? = some u → w.cell? (ad.add j) = some u) (h1 : ∀ u ∈ ns, u.oneCell' = true)
    (hlen : n + m ≤ 1048576) (hB : B ≤ w.heap.size)
    (h : ∀ ea ec w', w'.ownsRow B 35 1 (.slice ea (n + m) ec) (n + m) (vs ++ ns) → w.grownBy w' v.ownBlock → (∀ g, (Value.slice ea (n + m) ec).ownBlock = some g → v.ownBlock = some g ∨ w.heap.size ≤ g) → (1 ≤ n + m → ∃ g, ea = some ⟨g, 0, none⟩) → wpList Tryz.prog ops Q rest (a.put o.dst (.slice ea (n + m) ec)) w') : wpList Tryz.prog ops Q (o :: rest) a w :=
  wpList_plain hgd fun _ hK => wp_append_hr s x ho B v n vs hs O ad m c ns hx hl hn h1 hlen hB fun ea ec w' h1 h2 h3 h4 => hK _ _ (h ea ec w' h1 h2 h3 h4)
/-- Lists of lists as they are handed in. -/
structure DCube (w : World) (s : Sl) (C : List (List (List Int))) : Prop where
  len : C.length = s.n
  fit : s.n ≤ s.c
  max : s.c ≤ 9223372036854775807
  small : s.n ≤ 1000
  cells : 0 < s.n → ∃ b o, s.ao = some ⟨b, o, none⟩ ∧ ∀ (t : Nat) (R : List (List Int)), C[t]? = some R → ∃ b1 o1 n c, w.cell? ⟨b, o + t, none⟩ = some (.slice (some ⟨b1, o1, none⟩) n c) ∧ n ≤ c ∧ c ≤ 9223372036854775807 ∧ GridAt w (some ⟨b1, o1, none⟩) n R
theorem DCube.below {w w' : World} {s : Sl} {C : List (List (List Int))} (h : DCube w s C) (hb : Below w.heap.size w w') : DCube w' s C := by
  refine ⟨h.len, h.fit, h.max, h.small, fun hn => ?_⟩
  obtain ⟨b, o, e, hc⟩ := h.cells hn
  refine ⟨b, o, e, fun t R hR => ?_⟩
  obtain ⟨b1, o1, n, c, h1, h2, h3, h4⟩ := hc t R hR
  have hlt : b < w.heap.size := by simpa using World.block_lt_of_cell? w _ h1
  exact ⟨b1, o1, n, c, by rw [hb.cell (by exact hlt)]; exact h1, h2, h3, h4.below hb⟩
theorem dcube_nil (w : World) : DCube w ⟨none, 0, 0⟩ [] := ⟨rfl, Nat.le_refl _, by decide, by decide, fun h => absurd h (by decide)⟩
theorem DCube.cube {w : World} {s : Sl} {C : List (List (List Int))} (h : DCube w s C) : CubeAt w s.ao s.n C := by
  refine ⟨h.len, by have := h.small; omega, fun hn => ?_⟩
  obtain ⟨b, o, e, hc⟩ := h.cells hn
  refine ⟨b, o, e, fun t R hR => ?_⟩
  obtain ⟨b1, o1, n, c, h1, h2, h3, h4⟩ := hc t R hR
  exact ⟨_, n, c, h1, (fun e => by cases e), h2, h3, h4⟩
/-- Lists of lists as they are handed in, and what they hang on. -/
structure PCube (p : Nat → Prop) (w : World) (s : Sl) (C : List (List (List Int))) : Prop where
  len : C.length = s.n
  fit : s.n ≤ s.c
  max : s.c ≤ 9223372036854775807
  small : s.n ≤ 1000
  cells : 0 < s.n → ∃ b o, s.ao = some ⟨b, o, none⟩ ∧ p b ∧ ∀ (t : Nat) (R : List (List Int)), C[t]? = some R → ∃ b1 o1 n c, w.cell? ⟨b, o + t, none⟩ = some (.slice (some ⟨b1, o1, none⟩) n c) ∧ n ≤ c ∧ c ≤ 9223372036854775807 ∧ p b1 ∧ Hangs p w (fun w => GridAt w (some ⟨b1, o1, none⟩) n R)
theorem PCube.dcube {p : Nat → Prop} {w : World} {s : Sl} {C : List (List (List Int))} (h : PCube p w s C) : DCube w s C := by
  refine ⟨h.len, h.fit, h.max, h.small, fun hn => ?_⟩
  obtain ⟨b, o, e, hp, hc⟩ := h.cells hn
  refine ⟨b, o, e, fun t R hR => ?_⟩
  obtain ⟨b1, o1, n, c, h1, h2, h3, h4, h5⟩ := hc t R hR
  exact ⟨b1, o1, n, c, h1, h2, h3, h5.now⟩
theorem PCube.turn {p p' : Nat → Prop} {w w' : World} {s : Sl} {C : List (List (List Int))} (h : PCube p w s C) (T : Tn p p' w w') (hpp : ∀ b, p b → p' b) : PCube p' w' s C := by
  refine ⟨h.len, h.fit, h.max, h.small, fun hn => ?_⟩
  obtain ⟨b, o, e, hp, hc⟩ := h.cells hn
  refine ⟨b, o, e, hpp b hp, fun t R hR => ?_⟩
  obtain ⟨b1, o1, n, c, h1, h2, h3, h4, h5⟩ := hc t R hR
  have hlt : b < w.heap.size := by simpa using World.block_lt_of_cell? w _ h1
  exact ⟨b1, o1, n, c, by rw [World.cell?_of_block (w := w) (a := ⟨b, o + t, none⟩) (T.keep b hlt hp).2]; exact h1, h2, h3, hpp b1 h4, h5.turn T⟩
theorem PCube.below {p : Nat → Prop} {w w' : World} {s : Sl} {C : List (List (List Int))} (h : PCube p w s C) (hb : Below w.heap.size w w') : PCube p w' s C := h.turn (Tn.below hb) fun _ h => h
/-- The same without a word on their room. -/
structure PCubeW (p : Nat → Prop) (w : World) (s : Sl) (C : List (List (List Int))) : Prop where
  len : C.length = s.n
  small : s.n ≤ 1000
  cells : 0 < s.n → ∃ b o, s.ao = some ⟨b, o, none⟩ ∧ p b ∧ ∀ (t : Nat) (R : List (List Int)), C[t]? = some R → ∃ b1 o1 n c, w.cell? ⟨b, o + t, none⟩ = some (.slice (some ⟨b1, o1, none⟩) n c) ∧ n ≤ c ∧ c ≤ 9223372036854775807 ∧ p b1 ∧ Hangs p w (fun w => GridAt w (some ⟨b1, o1, none⟩) n R)
theorem PCube.weak {p : Nat → Prop} {w : World} {s : Sl} {C : List (List (List Int))} (h : PCube p w s C) : PCubeW p w s C := ⟨h.len, h.small, h.cells⟩
theorem PCubeW.below {p : Nat → Prop} {w w' : World} {s : Sl} {C : List (List (List Int))} (h : PCubeW p w s C) (hb : Below w.heap.size w w') : PCubeW p w' s C := by
  refine ⟨h.len, h.small, fun hn => ?_⟩
  obtain ⟨b, o, e, hp, hc⟩ := h.cells hn
  refine ⟨b, o, e, hp, fun t R hR => ?_⟩
  obtain ⟨b1, o1, n, c, h1, h2, h3, h4, h5⟩ := hc t R hR
  have hlt : b < w.heap.size := by simpa using World.block_lt_of_cell? w _ h1
  exact ⟨b1, o1, n, c, by rw [World.cell?_of_block (w := w) (a := ⟨b, o + t, none⟩) (hb.block b hlt)]; exact h1, h2, h3, h4, h5.below hb⟩
theorem pcube_nil (p : Nat → Prop) (w : World) : PCube p w ⟨none, 0, 0⟩ [] := ⟨rfl, Nat.le_refl _, by decide, by decide, fun h => absurd h (by decide)⟩
theorem GridAt.same {w w' : World} {b1 o1 n : Nat} {R : List (List Int)} (h : GridAt w (some ⟨b1, o1, none⟩) n R) (hb : ∀ b, b < w.heap.size → w'.heap[b]? = w.heap[b]?) : GridAt w' (some ⟨b1, o1, none⟩) n R := by
  refine ⟨h.len, h.max, fun hn => ?_⟩
  obtain ⟨b, o, e, hc⟩ := h.cells hn
  refine ⟨b, o, e, fun t ht => ?_⟩
  obtain ⟨ro, m, c, h1, h2⟩ := hc t ht
  exact ⟨ro, m, c, by rw [World.cell?_of_block (w := w) (a := ⟨b, o + t, none⟩) (hb b (by simpa using World.block_lt_of_cell? w _ h1))]; exact h1, h2.same hb⟩
/-- Rows that hang on p, in a world in which p's blocks stand. -/
theorem HRows.oldp {p P : Nat → Prop} {w1 w : World} {vs : List Value} {b1 o1 n : Nat} {R : List (List Int)} (hr : RowsAt w1 vs R) (hv : ∀ j u, vs[j]? = some u → w1.cell? ((Addr.mk b1 o1 none).add j) = some u) (hG : Hangs p w1 (fun w => GridAt w (some ⟨b1, o1, none⟩) n R)) (hp1 : p b1) (hb : Below w1.heap.size w1 w) (hP : ∀ b, b < w1.heap.size → p b → P b) : HRows P w vs R := by
  refine ⟨hr.len, fun t ht => ?_⟩
  obtain ⟨ro, m, c, e, A⟩ := hr.rows t ht
  refine ⟨ro, m, c, e, fun w2 h2 => ?_⟩
  have hs : ∀ b, p b → b < w1.heap.size → w2.heap[b]? = w1.heap[b]? := fun b hpb hl => (h2 b (hP b hl hpb) (Nat.lt_of_lt_of_le hl hb.size)).trans (hb.block b hl)
  have hg := hG w2 hs
  have hn : R.length = n := hg.len
  obtain ⟨b', o', e', hc⟩ := hg.cells (by omega)
  simp only [Option.some.injEq, Addr.mk.injEq, and_true] at e'
  obtain ⟨rfl, rfl⟩ := e'
  obtain ⟨ro', m', c', k1, k2⟩ := hc t (by omega)
  have c0 := hv t _ e
  have e2 : (Addr.mk b1 o1 none).add t = ⟨b1, o1 + t, none⟩ := by simp [Addr.add]
  rw [e2] at c0
  have hl1 : b1 < w1.heap.size := by simpa using World.block_lt_of_cell? w1 _ c0
  rw [World.cell?_of_block (w := w1) (a := ⟨b1, o1 + t, none⟩) (hs b1 hp1 hl1), c0] at k1
  simp only [Option.some.injEq, Value.slice.injEq] at k1
  obtain ⟨rfl, rfl, rfl⟩ := k1
  exact k2
theorem OCu.pcube {w : World} {B : Nat} {p : Nat → Prop} {v : Value} {C : List (List (List Int))} (h : OCu w B p v C) (hl : C.length ≤ 1000) {P : Nat → Prop} (hP : ∀ b, p b → P b) (hB : ∀ b, B ≤ b → P b) : ∃ s : Sl, v = s.v ∧ s.n = C.length ∧ PCube P w s C := by
  obtain ⟨a, c, e, h1, h2⟩ := h.form
  refine ⟨⟨a, C.length, c⟩, e, rfl, rfl, h1, h2, hl, fun hn => ?_⟩
  obtain ⟨vs, O, hc⟩ := h.own
  rcases O.2 with ⟨h3, h4⟩ | ⟨g, cap, cur, h3, h4⟩
  · have : 0 < C.length := hn
    omega
  · rw [h3] at e
    simp only [Value.slice.injEq] at e
    refine ⟨g, 0, by rw [← e.1], hB g h4.1, fun t R hR => ?_⟩
    obtain ⟨g1, m, c1, e1, q1, q2, q4, q5, q3⟩ := hc t R hR
    have := O.cells (g := g) (by rw [h3]; rfl) t _ e1
    have e2 : (Addr.mk g 0 none).add t = ⟨g, t, none⟩ := by simp [Addr.add]; intro h; exact h.symm
    rw [e2] at this
    exact ⟨g1, 0, m, c1, by rw [Nat.zero_add]; exact this, q1, q2, hP g1 q4, q3.mono fun b _ hb => hP b hb⟩
theorem var3 (w : World) (T : TypeId) (z row : Array Value) : Blk (w.alloc (.cells z T)) w.heap.size T z ∧ Blk ((w.alloc (.cells z T)).setRow w.heap.size row) w.heap.size T row ∧ Below w.heap.size w ((w.alloc (.cells z T)).setRow w.heap.size row) ∧ ((w.alloc (.cells z T)).setRow w.heap.size row).heap.size = w.heap.size + 1 :=
  ⟨blk_new w T z, (blk_new w T z).row row, below_setRow ((Below.refl _ _).alloc (Nat.le_refl _) _) (Nat.le_refl _) _, by simp⟩
theorem OCu.ne_rows {w : World} {B B' n : Nat} {p : Nat → Prop} {v u : Value} {vs : List Value} {C : List (List (List Int))} (h : OCu w B p v C) (O : w.ownsRow B' 35 1 u n vs) (g : Nat) (e : v.ownBlock = some g) : u.ownBlock ≠ some g := by
  intro e2
  rcases O.2 with ⟨h2, h3⟩ | ⟨g', cap, cur, h3, h4, h5, _⟩
  · rw [h2] at e2; cases e2
  · rw [h3] at e2
    simp only [Value.ownBlock, Option.some.injEq] at e2
    subst e2
    exact h.ne_blk (show w.heap[g']? = some (.cells cur 35 (0, 0)) from h5) (by decide) e
end Go.Proofs.YtcanjlofnpnhkaaGreatDoor

/- The document's Same of lists of rows, and of views: of two that read alike it is true. -/
namespace Go.Proofs.YtcanjlofnpnhkaaGreatDoor
open Go.ChangeShapes Go.WideShapes Go.ChangeAt Go.RowKit
theorem drewN_cell (w : World) (m : Nat) {a : Addr} {v : Value} (h : w.cell? a = some v) : (w.drewN m).cell? a = some v := by
  have hlt := World.block_lt_of_cell? w _ h
  rw [(below_drewN (Below.refl w.heap.size w) m).cell hlt]; exact h
set_option maxHeartbeats 800000 in
theorem cubeSame_eq (ao bo : Option Addr) (n ca cb : Nat) (C : List (List (List Int))) (w : World) (hA : CubeAt w ao n C) (hB : CubeAt w bo n C) :
   Calls Tryz.prog 40 #[.slice ao n ca, .slice bo n cb] w fun e w' => e = .returned (.bool true) ∧ ∃ m, w' = w.drewN m := by
  have hn := hA.max
  have hl := hA.len
  go_enter Tryz.func40, Tryz.ntmps40
  go_wp2
  go_loopg [14] n (fun r i wr => ∃ k : Nat, k ≤ n ∧ r = n - k ∧ i = .int .i64 k ∧ ∃ m, wr = w.drewN m)
  case atStart => exact ⟨0, by omega, by omega, rfl, 0, rfl⟩
  case round =>
    obtain ⟨k, hk, rfl, rfl, m0, hw0⟩ := hrel
    have HW : Hid (wr = w.drewN m0) := hw0
    clear hw0
    by_cases hlt : k < n
    · obtain ⟨b, o, rfl, hc⟩ := hA.cells (by omega)
      obtain ⟨b', o', rfl, hc'⟩ := hB.cells (by omega)
      obtain ⟨R, hR⟩ : ∃ R, C[k]? = some R := ⟨_, List.getElem?_eq_getElem (show k < C.length by omega)⟩
      obtain ⟨ro, n1, c1, q1, -, -, -, G1⟩ := hc k R hR
      obtain ⟨ro2, n2, c2, q2, -, -, -, G2⟩ := hc' k R hR
      have e12 : n2 = n1 := by rw [← G2.len, G1.len]
      subst e12
      have hn2 := G1.max
      have Q1 : Hid (∀ m, (w.drewN m).cell? ⟨b, o + k, none⟩ = some (.slice ro n2 c1)) := fun m => drewN_cell w m q1
      have Q2 : Hid (∀ m, (w.drewN m).cell? ⟨b', o' + k, none⟩ = some (.slice ro2 n2 c2)) := fun m => drewN_cell w m q2
      clear hA hB hc hc' q1 q2
      have q1 : wr.cell? ⟨b, o + k, none⟩ = some (.slice ro n2 c1) := by rw [HW.out]; exact Q1.out _
      have q2 : wr.cell? ⟨b', o' + k, none⟩ = some (.slice ro2 n2 c2) := by rw [HW.out]; exact Q2.out _
      go_wp2_with fail
      go_quiet (fail)
      replace HW : Hid (wr.drewN nq = w.drewN (m0 + nq)) := by show _ = _; rw [HW.out, World.drewN_drewN]
      generalize wr.drewN nq = wq at *
      generalize m0 + nq = m1 at *
      clear q1 q2
      have q1 : wq.cell? ⟨b, o + k, none⟩ = some (.slice ro n2 c1) := by rw [HW.out]; exact Q1.out _
      go_wp2_with fail
      clear q1
      go_loopg [33] n2 (fun r i wr => ∃ j : Nat, j ≤ n2 ∧ r = n2 - j ∧ i = .int .i64 j ∧ ∃ m, wr = w.drewN m)
      case atStart => exact ⟨0, by omega, by omega, rfl, m1, HW.out⟩
      case round =>
        obtain ⟨j, hj, rfl, rfl, m2, hw2⟩ := hrel
        have HV : Hid (wr = w.drewN m2) := hw2
        clear hw2 HW
        by_cases hjt : j < n2
        · obtain ⟨d, p, rfl, hd⟩ := G1.cells (by omega)
          obtain ⟨d', p', rfl, hd'⟩ := G2.cells (by omega)
          obtain ⟨r1, l1, x1, s1, A1⟩ := hd j hjt
          obtain ⟨r2, l2, x2, s2, A2⟩ := hd' j hjt
          have el12 : l2 = l1 := by rw [← A2.row.len, A1.row.len]
          subst el12
          have q1 : wr.cell? ⟨b, o + k, none⟩ = some (.slice (some ⟨d, p, none⟩) n2 c1) := by rw [HV.out]; exact Q1.out _
          have q2 : wr.cell? ⟨b', o' + k, none⟩ = some (.slice (some ⟨d', p', none⟩) n2 c2) := by rw [HV.out]; exact Q2.out _
          have t1 : wr.cell? ⟨d, p + j, none⟩ = some (.slice r1 l2 x1) := by rw [HV.out]; exact drewN_cell w m2 s1
          have t2 : wr.cell? ⟨d', p' + j, none⟩ = some (.slice r2 l2 x2) := by rw [HV.out]; exact drewN_cell w m2 s2
          have SS := fun m => same_any r1 r2 l2 x1 x2 _ (wr.drewN m) (by rw [HV.out, World.drewN_drewN]; exact A1.row.below (below_drewN (Below.refl _ _) _)) (by rw [HV.out, World.drewN_drewN]; exact A2.row.below (below_drewN (Below.refl _ _) _))
          clear hd hd' s1 s2 A1 A2 G1 G2
          go_wp2_with fail
          go_quiet (first | (go_at_call 55; exact Calls.quiet_of (SS _)))
          go_wp2_with fail
          go_roundg (n2 - (j + 1))
          case measure => omega
          case rel => exact ⟨j + 1, by omega, rfl, by go_num, m2 + nq, by rw [HV.out, World.drewN_drewN]⟩
        · obtain rfl : j = n2 := by omega
          clear G1 G2
          go_wp2_with fail
          go_roundg (n - (k + 1))
          case measure => omega
          case rel => exact ⟨k + 1, by omega, rfl, by go_num, m2, HV.out⟩
    · obtain rfl : k = n := by omega
      go_wp2
      go_ret
      exact ⟨rfl, m0, HW.out⟩
/-- A view that was told, as cells. -/
structure ToldAt (w : World) (t k v : Sl) (X : Vw) : Prop where
  t : IArg w t.ao t.n t.c X.T
  k : CubeAt w k.ao k.n X.K
  v : CubeAt w v.ao v.n X.V
theorem ToldAt.below {w w' : World} {t k v : Sl} {X : Vw} (h : ToldAt w t k v X) (hb : Below w.heap.size w w') : ToldAt w' t k v X := ⟨h.t.below hb, h.k.below hb, h.v.below hb⟩
set_option maxHeartbeats 800000 in
theorem viewSame_eq (t k v t' k' v' : Sl) (X : Vw) (w : World) (h1 : ToldAt w t k v X) (h2 : ToldAt w t' k' v' X) :
   Calls Tryz.prog 17 #[.agg #[t.v, k.v, v.v], .agg #[t'.v, k'.v, v'.v]] w fun e w' => e = .returned (.bool true) ∧ Below w.heap.size w w' := by
  obtain ⟨tn, hn⟩ : ∃ tn, X.T.length = tn := ⟨_, rfl⟩
  obtain ⟨kn, hkn⟩ : ∃ kn, X.K.length = kn := ⟨_, rfl⟩
  obtain ⟨vn, hvn⟩ : ∃ vn, X.V.length = vn := ⟨_, rfl⟩
  have et1 := h1.t.row.len
  have et2 := h2.t.row.len
  have ek1 := h1.k.len
  have ek2 := h2.k.len
  have ev1 := h1.v.len
  have ev2 := h2.v.len
  rw [hn] at et1 et2
  rw [hkn] at ek1 ek2
  rw [hvn] at ev1 ev2
  have T1 : Hid (∀ wv, Below w.heap.size w wv → IArg wv t.ao t.n t.c X.T) := fun wv hb => h1.t.below hb
  have T2 : Hid (∀ wv, Below w.heap.size w wv → IArg wv t'.ao t'.n t'.c X.T) := fun wv hb => h2.t.below hb
  have K1 : Hid (∀ wv, Below w.heap.size w wv → CubeAt wv k.ao k.n X.K) := fun wv hb => h1.k.below hb
  have K2 : Hid (∀ wv, Below w.heap.size w wv → CubeAt wv k'.ao k'.n X.K) := fun wv hb => h2.k.below hb
  have V1 : Hid (∀ wv, Below w.heap.size w wv → CubeAt wv v.ao v.n X.V) := fun wv hb => h1.v.below hb
  have V2 : Hid (∀ wv, Below w.heap.size w wv → CubeAt wv v'.ao v'.n X.V) := fun wv hb => h2.v.below hb
  obtain ⟨ta, t1, tc⟩ := t
  obtain ⟨ta', t1', tc'⟩ := t'
  obtain ⟨ka, k1, kc⟩ := k
  obtain ⟨ka', k1', kc'⟩ := k'
  obtain ⟨va, v1, vc⟩ := v
  obtain ⟨va', v1', vc'⟩ := v'
  unfold Sl.v
  simp only at *
  subst et1 et2 ek1 ek2 ev1 ev2
  clear h1 h2 hn hkn hvn
  have X0 := blk_new w 67 #[.slice ta tn tc, .slice ka kn kc, .slice va vn vc]
  have B0 : Below w.heap.size w (w.alloc (.cells #[.slice ta tn tc, .slice ka kn kc, .slice va vn vc] 67)) := (Below.refl _ _).alloc (Nat.le_refl _) _
  generalize hw0 : w.alloc (.cells #[.slice ta tn tc, .slice ka kn kc, .slice va vn vc] 67) = w0 at *
  have X1 := blk_new w0 67 #[.slice ta' tn tc', .slice ka' kn kc', .slice va' vn vc']
  have B1 : Below w0.heap.size w0 (w0.alloc (.cells #[.slice ta' tn tc', .slice ka' kn kc', .slice va' vn vc'] 67)) := (Below.refl _ _).alloc (Nat.le_refl _) _
  generalize hw1 : w0.alloc (.cells #[.slice ta' tn tc', .slice ka' kn kc', .slice va' vn vc'] 67) = w1 at *
  replace X0 := X0.below B1
  have D1 := below_then B0 B1
  clear B0 B1
  have a0 : w1.cell? ⟨w.heap.size, 0, none⟩ = some (.slice ta tn tc) := X0.cell 0 rfl
  have a1 : w1.cell? ⟨w.heap.size, 1, none⟩ = some (.slice ka kn kc) := X0.cell 1 rfl
  have a2 : w1.cell? ⟨w.heap.size, 2, none⟩ = some (.slice va vn vc) := X0.cell 2 rfl
  have b0 : w1.cell? ⟨w0.heap.size, 0, none⟩ = some ((.slice ta' tn tc')) := X1.cell 0 rfl
  have b1 : w1.cell? ⟨w0.heap.size, 1, none⟩ = some ((.slice ka' kn kc')) := X1.cell 1 rfl
  have b2 : w1.cell? ⟨w0.heap.size, 2, none⟩ = some ((.slice va' vn vc')) := X1.cell 2 rfl
  have hn := (T1.out w (Below.refl _ _)).row.max
  go_enter Tryz.func17, Tryz.ntmps17
  go_wp2_with fail
  refine (cubeSame_eq ka ka' kn kc kc' X.K _ (K1.out _ D1) (K2.out _ D1)).mono ?_
  rintro e w2 ⟨rfl, m2, hm2⟩
  have B2 : Below w1.heap.size w1 w2 := by rw [hm2]; exact below_drewN (Below.refl _ _) m2
  clear hm2 a0 a1 a2 b0 b1 b2 hw0 hw1
  replace X0 := X0.below B2
  replace X1 := X1.below B2
  have D2 := below_then D1 B2
  have a0 : w2.cell? ⟨w.heap.size, 0, none⟩ = some (.slice ta tn tc) := X0.cell 0 rfl
  have a1 : w2.cell? ⟨w.heap.size, 1, none⟩ = some (.slice ka kn kc) := X0.cell 1 rfl
  have a2 : w2.cell? ⟨w.heap.size, 2, none⟩ = some (.slice va vn vc) := X0.cell 2 rfl
  have b0 : w2.cell? ⟨w0.heap.size, 0, none⟩ = some ((.slice ta' tn tc')) := X1.cell 0 rfl
  have b1 : w2.cell? ⟨w0.heap.size, 1, none⟩ = some ((.slice ka' kn kc')) := X1.cell 1 rfl
  have b2 : w2.cell? ⟨w0.heap.size, 2, none⟩ = some ((.slice va' vn vc')) := X1.cell 2 rfl
  go_wp2_with fail
  refine (cubeSame_eq va va' vn vc vc' X.V _ (V1.out _ D2) (V2.out _ D2)).mono ?_
  rintro e w3 ⟨rfl, m3, hm3⟩
  have B3 : Below w2.heap.size w2 w3 := by rw [hm3]; exact below_drewN (Below.refl _ _) m3
  clear hm3 a0 a1 a2 b0 b1 b2 D1
  replace X0 := X0.below B3
  replace X1 := X1.below B3
  have D3 := below_then D2 B3
  have a0 : w3.cell? ⟨w.heap.size, 0, none⟩ = some (.slice ta tn tc) := X0.cell 0 rfl
  have a1 : w3.cell? ⟨w.heap.size, 1, none⟩ = some (.slice ka kn kc) := X0.cell 1 rfl
  have a2 : w3.cell? ⟨w.heap.size, 2, none⟩ = some (.slice va vn vc) := X0.cell 2 rfl
  have b0 : w3.cell? ⟨w0.heap.size, 0, none⟩ = some ((.slice ta' tn tc')) := X1.cell 0 rfl
  have b1 : w3.cell? ⟨w0.heap.size, 1, none⟩ = some ((.slice ka' kn kc')) := X1.cell 1 rfl
  have b2 : w3.cell? ⟨w0.heap.size, 2, none⟩ = some ((.slice va' vn vc')) := X1.cell 2 rfl
  go_wp2_with fail
  clear a0 a1 a2 b0 b1 b2
  go_loopg [32] tn (fun r i wr => ∃ j : Nat, j ≤ tn ∧ r = tn - j ∧ i = .int .i64 j ∧ Blk wr w.heap.size 67 #[.slice ta tn tc, .slice ka kn kc, .slice va vn vc] ∧ Blk wr w0.heap.size 67 #[.slice ta' tn tc', .slice ka' kn kc', .slice va' vn vc'] ∧ Below w.heap.size w wr)
  case atStart => exact ⟨0, by omega, by omega, rfl, X0, X1, D3⟩
  case round =>
    clear X0 X1 D3 B3 B2 D2
    obtain ⟨j, hj, rfl, rfl, X0, X1, DR⟩ := hrel
    by_cases hjt : j < tn
    · obtain ⟨d, p, rfl, hd⟩ := (T1.out _ DR).row.cells (by omega)
      obtain ⟨d', p', rfl, hd'⟩ := (T2.out _ DR).row.cells (by omega)
      have c1 := hd j hjt
      have c2 := hd' j hjt
      clear hd hd'
      have a0 : wr.cell? ⟨w.heap.size, 0, none⟩ = some (.slice (some ⟨d, p, none⟩) tn tc) := X0.cell 0 rfl
      have b0 : wr.cell? ⟨w0.heap.size, 0, none⟩ = some (.slice (some ⟨d', p', none⟩) tn tc') := X1.cell 0 rfl
      go_wp2_with fail
      go_quiet (fail)
      go_wp2
      go_roundg (tn - (j + 1))
      case measure => omega
      case rel => exact ⟨j + 1, by omega, rfl, by go_num, X0.below (below_drewN (Below.refl _ _) nq), X1.below (below_drewN (Below.refl _ _) nq), below_drewN DR nq⟩
    · obtain rfl : j = tn := by omega
      go_wp2
      go_ret
      exact ⟨rfl, DR⟩
end Go.Proofs.YtcanjlofnpnhkaaGreatDoor

/- Rows of rows of the call's own: a copy of at most so many rows of at most 40 numbers. -/
namespace Go.Proofs.YtcanjlofnpnhkaaGreatDoor
open Go.ChangeShapes Go.WideShapes Go.ChangeAt Go.RowKit
theorem rowOf_snoc (R : List (List Int)) (Y : List Int) (t : Nat) : rowOf (R ++ [Y]) t = if t < R.length then rowOf R t else if t = R.length then Y else [] := by
  unfold rowOf
  simp only [List.getD_eq_getElem?_getD]
  by_cases h : t < R.length
  · rw [if_pos h, List.getElem?_append_left h]
  · rw [if_neg h, List.getElem?_append_right (by omega)]
    by_cases e : t = R.length
    · subst e; simp
    · rw [if_neg e, List.getElem?_eq_none (by simp; omega)]; rfl
/-- Block g is a row of rows, all of the call's own, one above the other. -/
structure OwnGrid (w : World) (B g k cap : Nat) (R : List (List Int)) : Prop where
  base : B ≤ g
  len : R.length = k
  own : ∃ vs, w.ownsRow B 35 1 (.slice (some ⟨g, 0, none⟩) k cap) k vs ∧ ∃ gs : Nat → Nat, (∀ t, t < k → ∃ m c, vs[t]? = some (.slice (some ⟨gs t, 0, none⟩) m c) ∧ Fresh w B (gs t) m c (rowOf R t)) ∧ ∀ t u, t < u → u < k → gs t < gs u
theorem own_block {w : World} {B e g k cap : Nat} {vs : List Value} (h : w.ownsRow B e 1 (.slice (some ⟨g, 0, none⟩) k cap) k vs) : B ≤ g ∧ ∃ cur, w.heap[g]? = some (.cells cur e (0, 0)) := by
  rcases h.2 with ⟨h3, _⟩ | ⟨g', c', cur, hv, hg, hh, _⟩
  · cases h3
  · simp only [Value.slice.injEq, Option.some.injEq, Addr.mk.injEq, and_true] at hv
    obtain ⟨rfl, -⟩ := hv
    exact ⟨hg, cur, hh⟩
theorem OwnGrid.grid {w : World} {B g k cap : Nat} {R : List (List Int)} (h : OwnGrid w B g k cap R) (hk : k ≤ 9223372036854775807) : GridAt w (some ⟨g, 0, none⟩) k R := by
  obtain ⟨vs, h1, gs, h2, _⟩ := h.own
  refine ⟨h.len, hk, fun _ => ⟨g, 0, rfl, fun t ht => ?_⟩⟩
  obtain ⟨m, c, e, F⟩ := h2 t ht
  have hc := h1.cells (g := g) rfl t _ e
  have e2 : (Addr.mk g 0 none).add t = ⟨g, t, none⟩ := by simp [Addr.add]; intro h; exact h.symm
  rw [e2] at hc
  exact ⟨_, _, _, by rw [Nat.zero_add]; exact hc, F.arg⟩
theorem OwnGrid.below {w w' : World} {B g k cap : Nat} {R : List (List Int)} (h : OwnGrid w B g k cap R) (hb : Below w.heap.size w w') : OwnGrid w' B g k cap R := by
  obtain ⟨vs, h1, gs, h2, h3⟩ := h.own
  exact ⟨h.base, h.len, vs, owns_below h1 hb, gs, fun t ht => let ⟨m, c, e, F⟩ := h2 t ht; ⟨m, c, e, F.below hb⟩, h3⟩
theorem ownGrid_empty (w : World) : OwnGrid (w.alloc (.cells #[] 35)) w.heap.size w.heap.size 0 0 [] :=
  ⟨Nat.le_refl _, rfl, [], ⟨rfl, Or.inr ⟨w.heap.size, 0, #[], rfl, Nat.le_refl _, heap_alloc_new _ _, Nat.le_refl _, by decide, rfl, rfl⟩⟩, fun t => t, fun t ht => by omega, fun t u _ hu => by omega⟩
/-- append(out, row), out a row of rows of the call's own, the row a newer one. -/
theorem wpList_append_grid {w : World} {ops : Array Oper} {rest : List Oper} {o : Oper} {a : Act} {Q : Exit → Act → World → Prop} (hgd : o.guard = none) (s x : Operand)
    (ho : o.op = .call { callee := .builtin .append, args := #[s, x], argTypes := #[105, 105] })
    (B g k cap : Nat) (R : List (List Int)) (hs : a.eval s = .slice (some ⟨g, 0, none⟩) k cap) (hF : OwnGrid w B g k cap R) (w1 : World) (hF1 : OwnGrid w1 B g k cap R) (hold : Below w1.heap.size w1 w)
    (bo g1 m1 c1 : Nat) (Y : List Int) (hx : a.eval x = .slice (some ⟨bo, 0, none⟩) 1 1) (hX : w.cell? ⟨bo, 0, none⟩ = some (.slice (some ⟨g1, 0, none⟩) m1 c1)) (hY : Fresh w B g1 m1 c1 Y) (hg1 : w1.heap.size ≤ g1)
    (hlen : k + 1 ≤ 1048576) (hB : B ≤ w.heap.size)
    (h : ∀ g' cap' w', OwnGrid w' B g' (k + 1) cap' (R ++ [Y]) → Below B w w' → wpList Tryz.prog ops Q rest (a.put o.dst (.slice (some ⟨g', 0, none⟩) (k + 1) cap')) w') : wpList Tryz.prog ops Q (o :: rest) a w := by
  obtain ⟨i0, hi, hz0, hz1, hz2⟩ := info_parts Tryz.infoRow
  obtain ⟨vs, h1', gs, h2', h3⟩ := hF1.own
  have h1 := owns_below h1' hold
  have h2 : ∀ t, t < k → ∃ m c, vs[t]? = some (.slice (some ⟨gs t, 0, none⟩) m c) ∧ Fresh w B (gs t) m c (rowOf R t) := fun t ht => let ⟨m, c, e, F⟩ := h2' t ht; ⟨m, c, e, F.below hold⟩
  have hlt : ∀ t, t < k → gs t < w1.heap.size := fun t ht => let ⟨m, c, e, F⟩ := h2' t ht; F.lt
  refine wpList_append_own w hgd s x 105 ho B 35 i0 (.slice none 0 0) 1 24 Tryz.underlying105 hi hz0 hz1 hz2 rfl (by decide) _ k _ hs h1 ⟨bo, 0, none⟩ 1 1 [.slice (some ⟨g1, 0, none⟩) m1 c1] hx rfl ?_ (by intro u hu; simp at hu; subst hu; rfl) (by unfold maxLen; omega) (by omega) hB ?_
  · intro j u hj
    match j, hj with
    | 0, hj =>
      simp at hj
      subst hj
      have e2 : (Addr.mk bo 0 none).add 0 = ⟨bo, 0, none⟩ := by simp [Addr.add]
      rw [e2, hX]
  · intro v' w' hown hg hnil
    have hb : Below B w w' := (Below.refl _ _).grown hg hB (fun k hk => by simp [Value.ownBlock] at hk; subst hk; exact hF.base)
    obtain ⟨_, cur, hcur⟩ := own_block h1
    have keep : ∀ {b m c : Nat} {Z : List Int}, Fresh w B b m c Z → Fresh w' B b m c Z := fun {b m c Z} F => F.of_block (hg.block b F.lt (by
      intro e
      simp [Value.ownBlock] at e
      subst e
      obtain ⟨c2, hb2, _⟩ := F.row
      rw [hcur] at hb2
      simp at hb2))
    have hlv : vs.length = k := by have := h1.1; omega
    have hown2 := hown
    obtain ⟨_, h4⟩ := hown2
    rcases h4 with ⟨_, h5⟩ | ⟨g', c', cur', hv, hg2, hr⟩
    · omega
    · subst hv
      refine h g' c' w' ⟨hg2, by simp [hF.len], _, hown, fun t => if t < k then gs t else g1, fun t ht => ?_, fun t u htu hu => ?_⟩ hb
      · rw [rowOf_snoc, hF.len]
        by_cases htk : t < k
        · obtain ⟨m3, c3, e3, F3⟩ := h2 t htk
          simp only [if_pos htk]
          exact ⟨m3, c3, by rw [List.getElem?_append_left (by omega)]; exact e3, keep F3⟩
        · obtain rfl : t = k := by omega
          simp only [Nat.lt_irrefl, if_false, if_pos]
          exact ⟨m1, c1, by rw [List.getElem?_append_right (by omega), hlv]; simp, keep hY⟩
      · simp only []
        rw [if_pos (show t < k by omega)]
        by_cases huk : u < k
        · rw [if_pos huk]; exact h3 t u htu huk
        · rw [if_neg huk]; have := hlt t (by omega); omega
theorem cellRow_new (w : World) (v : Value) : (w.alloc (.cells #[v] 35)).cell? ⟨w.heap.size, 0, none⟩ = some v := by
  have e := heap_alloc_new w (.cells #[v] 35)
  unfold World.cell?
  simp only [e]
  rfl
theorem take_snoc {R : List (List Int)} {k : Nat} (hk : k < R.length) : (R.take (k + 1)).map (List.take 40) = (R.take k).map (List.take 40) ++ [(rowOf R k).take 40] := by
  unfold rowOf
  rw [List.take_add_one, List.map_append, List.getD_eq_getElem?_getD, List.getElem?_eq_getElem hk]
  rfl
/-- At most lim rows of at most 40 numbers. -/
def rowsN (R : List (List Int)) (lim : Nat) : List (List Int) := (R.take lim).map (List.take 40)
set_option maxHeartbeats 1600000 in
theorem hrows_any (ao : Option Addr) (n ca : Nat) (R : List (List Int)) (lim : Nat) (li : Int) (w : World) (hli : li = lim) (hR : GridAt w ao n R) (hlim : lim ≤ 5000) :
   Calls Tryz.prog 56 #[.slice ao n ca, .int .i64 li] w fun e w' => ∃ g k cap, e = .returned (.slice (some ⟨g, 0, none⟩) k cap) ∧ k ≤ lim ∧ OwnGrid w' w.heap.size g k cap (rowsN R lim) ∧ Below w.heap.size w w' := by
  subst hli
  have hn := hR.max
  have hl := hR.len
  have F0 := ownGrid_empty w
  have B0 : Below w.heap.size w (w.alloc (.cells #[] 35)) := (Below.refl _ _).alloc (Nat.le_refl _) _
  have HR : Hid (∀ wv, Below w.heap.size w wv → GridAt wv ao n R) := fun wv hb => hR.below hb
  go_enter Tryz.func56, Tryz.ntmps56
  go_wp2
  generalize w.alloc (.cells #[] 35) = w0 at *
  clear hR
  go_loopg [5, 6] lim (fun r s i wr => ∃ (k g cap : Nat), k ≤ lim ∧ k ≤ n ∧ r = lim - k ∧ i = .int .i64 k ∧ s = .slice (some ⟨g, 0, none⟩) k cap ∧ OwnGrid wr w.heap.size g k cap (rowsN R k) ∧ Below w.heap.size w wr)
  case atStart => exact ⟨0, _, _, by omega, by omega, by omega, rfl, rfl, by unfold rowsN; rw [List.take_zero]; exact F0, B0⟩
  case round =>
    obtain ⟨k, g, cap, hk, hkn, rfl, rfl, rfl, F2, B2⟩ := hrel
    clear F0 B0
    by_cases hlt : k < n
    · by_cases h6 : k < lim
      · obtain ⟨b, o, rfl, hc⟩ := (HR.out _ B2).cells (by omega)
        obtain ⟨ro, m1, c1, q1, A1⟩ := hc k hlt
        have HS : Hid (rowsN R (k + 1) = rowsN R k ++ [(rowOf R k).take 40]) := take_snoc (by omega)
        have s2 := B2.size
        clear hc
        go_wp2_with (first | (go_at_call 65; refine (few_any _ _ _ _ 40 _ _ rfl A1 (by omega)).mono ?_; rintro e w3 ⟨g3, n3, c3, rfl, hm3, F3, B3⟩; have BL : Below w3.heap.size w3 (w3.alloc (.cells #[.slice (some ⟨g3, 0, none⟩) n3 c3] 35)) := (Below.refl _ _).alloc (Nat.le_refl _) _; have cX := cellRow_new w3 (.slice (some ⟨g3, 0, none⟩) n3 c3); have F4 := (F3.mono s2).below BL; have G4 := (F2.below B3).below BL; have s3 := B3.size; have s4 := BL.size; have B4 := below_then (below_then B2 B3) BL; have BO := below_then B3 BL; have hg3 := F3.base; generalize hw4 : w3.alloc (.cells #[.slice (some ⟨g3, 0, none⟩) n3 c3] 35) = w4 at *) | (at_builtin; refine wpList_append_grid rfl _ _ rfl w.heap.size g k cap _ rfl (by exact G4) _ (by exact F2) (by exact BO) w3.heap.size g3 n3 c3 _ rfl (by exact cX) (by exact F4) (by exact hg3) (by omega) (by omega) ?_; intro g' cap' w' F7 B7))
        go_roundg (lim - (k + 1))
        case measure => omega
        case rel => exact ⟨k + 1, _, _, by omega, by omega, rfl, by go_num, rfl, by rw [HS.out]; exact F7, B4.trans B7⟩
      · obtain rfl : k = lim := by omega
        go_wp2
        go_ret
        exact ⟨_, _, _, rfl, Nat.le_refl _, F2, B2⟩
    · obtain rfl : k = n := by omega
      have e : rowsN R k = rowsN R lim := by unfold rowsN; rw [List.take_of_length_le (by omega), List.take_of_length_le (by omega)]
      rw [e] at F2
      clear e
      go_wp2
      go_ret
      exact ⟨_, _, _, rfl, hk, F2, B2⟩
theorem rowsN_len (R : List (List Int)) (lim t : Nat) : (rowOf (rowsN R lim) t).length ≤ 40 := by
  unfold rowOf rowsN
  rw [List.getD_eq_getElem?_getD]
  cases e : ((R.take lim).map (List.take 40))[t]? with
  | none => simp
  | some x =>
    obtain ⟨y, _, rfl⟩ := List.mem_map.1 (List.mem_of_getElem? e)
    simp
    omega
end Go.Proofs.YtcanjlofnpnhkaaGreatDoor

/- At most so many tokens, in memory of one's own. -/
namespace Go.Proofs.YtcanjlofnpnhkaaGreatDoor
open Go.ChangeShapes Go.WideShapes Go.ChangeAt Go.RowKit
theorem IArg.take {w : World} {ao : Option Addr} {n ca : Nat} {A : List Int} (h : IArg w ao n ca A) {m : Nat} (hm : m ≤ n) : IArg w ao m ca (A.take m) := by
  have hl := h.row.len
  have hf := h.fit
  refine ⟨⟨by rw [List.length_take]; omega, by have := h.row.max; omega, fun k => ?_, fun hn => ?_⟩, by omega, h.max, h.nil⟩
  · rcases Nat.lt_or_ge k m with hk | hk
    · rw [el_take hk]; exact h.row.small k
    · rw [el_over (by rw [List.length_take]; omega)]; omega
  · obtain ⟨b, o, e, hc⟩ := h.row.cells (by omega)
    refine ⟨b, o, e, fun t ht => ?_⟩
    rw [el_take ht]
    exact hc t (by omega)
theorem few8_gen (ao : Option Addr) (n ca : Nat) (A Z : List Int) (lim : Nat) (w : World) (hA : IArg w ao n ca A) (hlim : lim ≤ 4096) (hZ : Z = A.take lim) :
   Calls Tryz.prog 5 #[.slice ao n ca, .int .i64 (lim : Int)] w fun e w' => ∃ b c, e = .returned (.slice (some ⟨b, 0, none⟩) Z.length c) ∧ IOwn w' w.heap.size (.slice (some ⟨b, 0, none⟩) Z.length c) Z.length Z ∧ Below w.heap.size w w' := by
  obtain ⟨i0, hi, hz0, hz1, hz2⟩ := info_parts Tryz.infoInt
  have hl := hA.row.len
  have hf := hA.fit
  have hmx := hA.max
  have B0 : Below w.heap.size w (w.alloc (.cells #[] 3)) := (Below.refl _ _).alloc (Nat.le_refl _) _
  have O0 : (w.alloc (.cells #[] 3)).ownsRow w.heap.size 3 1 (.slice (some ⟨w.heap.size, 0, none⟩) 0 0) 0 [] := World.ownsRow_made w #[] 0 (Nat.le_refl _) (by decide) rfl
  have key : ∀ (ao : Option Addr) (m : Nat) (Z' : List Int), IArg w ao m ca Z' → Z' = Z → m ≤ 4096 → ∀ (ops : Array Oper) (rest : List Oper) (o : Oper) (a : Act) (Q : Exit → Act → World → Prop) (s x : Operand), o.guard = none → o.op = .call { callee := .builtin .append, args := #[s, x], argTypes := #[25, 25] } → a.eval s = .slice (some ⟨w.heap.size, 0, none⟩) 0 0 → a.eval x = .slice ao m ca →
      (∀ b c w', IOwn w' w.heap.size (.slice (some ⟨b, 0, none⟩) Z.length c) Z.length Z → Below w.heap.size w w' → wpList Tryz.prog ops Q rest (a.put o.dst (.slice (some ⟨b, 0, none⟩) Z.length c)) w') → wpList Tryz.prog ops Q (o :: rest) a (w.alloc (.cells #[] 3)) := by
    intro ao m Z' hZ' eZ hm ops rest o a Q s x hg ho hs hx hK
    have hlz : Z'.length = m := hZ'.row.len
    cases ao with
    | none =>
      have hc0 := hZ'.nil rfl
      have hm0 : m = 0 := by have := hZ'.fit; omega
      subst hm0
      obtain rfl : Z' = [] := List.length_eq_zero_iff.1 hlz
      rw [hc0] at hx
      refine wpList_append_own_none hg s x 25 ho w.heap.size 3 i0 1 Tryz.underlying25 hi _ 0 [] hs O0 hx ?_
      have := hK w.heap.size 0 _ (by rw [← eZ]; exact O0) B0
      rw [← eZ] at this
      exact this
    | some ad =>
      refine wpList_append_own _ hg s x 25 ho w.heap.size 3 i0 (.int .i64 0) 1 8 Tryz.underlying25 hi hz0 hz1 hz2 rfl (by decide) _ 0 [] hs O0 ad m ca (Z'.map (Value.int .i64)) hx (by simp [hlz]) ((hZ'.row.below B0).vals) (ints_oneCell _ _) (by unfold maxLen; omega) (by omega) (by simp) ?_
      intro v' w' O1 G1 N1
      have hb : Below w.heap.size (w.alloc (.cells #[] 3)) w' := (Below.refl _ _).grown G1 (by simp) (fun k hk => (O0.lt k hk).1)
      rw [Nat.zero_add, List.nil_append] at O1
      have hv : ∃ b c, v' = .slice (some ⟨b, 0, none⟩) m c := by
        rcases O1.2 with ⟨h3, _⟩ | ⟨g, cap, cur, hv, _⟩
        · have := (N1.1 h3).1; cases this
        · exact ⟨_, _, hv⟩
      obtain ⟨b, c, rfl⟩ := hv
      have e : Z.length = m := by rw [← eZ, hlz]
      have := hK b c w' (by rw [e, ← eZ]; exact O1) (B0.trans hb)
      rw [e] at this
      exact this
  have hZl : Z.length ≤ lim := by rw [hZ, List.length_take]; omega
  by_cases h0 : lim < n
  · have hle : (lim : Int) ≤ (ca : Int) := by omega
    have KT := hA.take (m := lim) (by omega)
    rw [← hZ] at KT
    clear hl hA hZ
    go_enter Tryz.func5, Tryz.ntmps5
    go_wp2_with (at_builtin; refine key _ _ _ KT rfl (by omega) _ _ _ _ _ _ _ rfl rfl rfl rfl ?_; intro b c w' O1 B1)
    go_ret
    exact ⟨b, c, rfl, O1, B1⟩
  · have e1 : Hid (A = Z) := by show _ = _; rw [hZ, List.take_of_length_le (by omega)]
    have hn : n ≤ 4096 := by omega
    clear hl hZ
    go_enter Tryz.func5, Tryz.ntmps5
    go_wp2_with (at_builtin; refine key _ _ _ hA e1.out hn _ _ _ _ _ _ _ rfl rfl rfl rfl ?_; intro b c w' O1 B1)
    go_ret
    exact ⟨b, c, rfl, O1, B1⟩
theorem few8_any (ao : Option Addr) (n ca : Nat) (A : List Int) (lim : Nat) (w : World) (hA : IArg w ao n ca A) (hlim : lim ≤ 4096) :
   Calls Tryz.prog 5 #[.slice ao n ca, .int .i64 (lim : Int)] w fun e w' => ∃ b c, e = .returned (.slice (some ⟨b, 0, none⟩) (A.take lim).length c) ∧ IOwn w' w.heap.size (.slice (some ⟨b, 0, none⟩) (A.take lim).length c) (A.take lim).length (A.take lim) ∧ Below w.heap.size w w' := few8_gen ao n ca A _ lim w hA hlim rfl
end Go.Proofs.YtcanjlofnpnhkaaGreatDoor

/- lists: a copy of lists of rows, of the call's own. -/
namespace Go.Proofs.YtcanjlofnpnhkaaGreatDoor
open Go.ChangeShapes Go.WideShapes Go.ChangeAt Go.RowKit
theorem OwnGrid.hangs {w : World} {B g k cap : Nat} {R : List (List Int)} (h : OwnGrid w B g k cap R) (hk : k ≤ 9223372036854775807) : Hangs (fun b => B ≤ b) w (fun w => GridAt w (some ⟨g, 0, none⟩) k R) := by
  intro w2 h2
  obtain ⟨vs, h1, gs, h3, h4⟩ := h.own
  have hl : g < w.heap.size := by obtain ⟨_, cur, hc⟩ := own_block h1; exact (Array.getElem?_eq_some_iff.1 hc).1
  refine OwnGrid.grid (B := B) (cap := cap) ⟨h.base, h.len, vs, owns_mono h1 (Nat.le_refl _) (fun b hb => ?_), gs, fun t ht => ?_, h4⟩ hk
  · simp [Value.ownBlock] at hb
    subst hb
    exact h2 _ h.base hl
  · obtain ⟨m, c, e, F⟩ := h3 t ht
    exact ⟨m, c, e, F.of_block (h2 _ F.base F.lt)⟩
theorem own_caps {w : World} {B e g k cap : Nat} {vs : List Value} (h : w.ownsRow B e 1 (.slice (some ⟨g, 0, none⟩) k cap) k vs) : k ≤ cap ∧ cap ≤ 9223372036854775807 := by
  rcases h.2 with ⟨h3, _⟩ | ⟨g', c', cur, hv, hg, hh, hnc, hcm, _⟩
  · cases h3
  · simp only [Value.slice.injEq, Option.some.injEq, Addr.mk.injEq, and_true] at hv
    obtain ⟨-, -, rfl⟩ := hv
    exact ⟨hnc, hcm⟩
/-- Block g is a list of lists, of the call's own. -/
structure OwnCube (w : World) (B g k cap : Nat) (C : List (List (List Int))) : Prop where
  base : B ≤ g
  len : C.length = k
  own : ∃ vs, w.ownsRow B 105 1 (.slice (some ⟨g, 0, none⟩) k cap) k vs ∧ ∀ (t : Nat) (R : List (List Int)), C[t]? = some R → ∃ ro m c, vs[t]? = some (.slice ro m c) ∧ (ro = none → c = 0) ∧ m ≤ c ∧ c ≤ 9223372036854775807 ∧ Hangs (fun b => B ≤ b ∧ b ≠ g) w (fun w => GridAt w ro m R)
theorem OwnCube.below {w w' : World} {B g k cap : Nat} {C : List (List (List Int))} (h : OwnCube w B g k cap C) (hb : Below w.heap.size w w') : OwnCube w' B g k cap C := by
  obtain ⟨vs, h1, h2⟩ := h.own
  exact ⟨h.base, h.len, vs, owns_below h1 hb, fun t R hR => let ⟨ro, m, c, e, h3, h4, h5, h6⟩ := h2 t R hR; ⟨ro, m, c, e, h3, h4, h5, h6.below hb⟩⟩
theorem OwnCube.lt {w : World} {B g k cap : Nat} {C : List (List (List Int))} (h : OwnCube w B g k cap C) : g < w.heap.size := by
  obtain ⟨vs, h1, _⟩ := h.own
  obtain ⟨_, cur, hc⟩ := own_block h1
  exact (Array.getElem?_eq_some_iff.1 hc).1
theorem OwnCube.cube {w : World} {B g k cap : Nat} {C : List (List (List Int))} (h : OwnCube w B g k cap C) (hk : k ≤ 9223372036854775807) : CubeAt w (some ⟨g, 0, none⟩) k C := by
  obtain ⟨vs, h1, h2⟩ := h.own
  refine ⟨h.len, hk, fun _ => ⟨g, 0, rfl, fun t R hR => ?_⟩⟩
  obtain ⟨ro, m, c, e, h3, h4, h5, h6⟩ := h2 t R hR
  have hc := h1.cells (g := g) rfl t _ e
  have e2 : (Addr.mk g 0 none).add t = ⟨g, t, none⟩ := by simp [Addr.add]; intro h; exact h.symm
  rw [e2] at hc
  exact ⟨ro, m, c, by rw [Nat.zero_add]; exact hc, h3, h4, h5, h6.now⟩
theorem OwnCube.hangs {w : World} {B g k cap : Nat} {C : List (List (List Int))} (h : OwnCube w B g k cap C) (hk : k ≤ 9223372036854775807) : New B w (fun w => CubeAt w (some ⟨g, 0, none⟩) k C) := by
  intro w2 h2
  obtain ⟨vs, h1, h3⟩ := h.own
  refine OwnCube.cube (B := B) (cap := cap) ⟨h.base, h.len, vs, owns_mono h1 (Nat.le_refl _) (fun b hb => ?_), fun t R hR => ?_⟩ hk
  · simp [Value.ownBlock] at hb
    subst hb
    exact h2 _ h.base h.lt
  · obtain ⟨ro, m, c, e, h4, h5, h6, h7⟩ := h3 t R hR
    have hs : w.heap.size ≤ w.heap.size := Nat.le_refl _
    exact ⟨ro, m, c, e, h4, h5, h6, fun w3 h8 => h7 w3 fun b hb hlt => (h8 b hb (Nat.lt_of_not_le fun hge => by
      have e1 := h2 b hb.1 hlt
      rw [Array.getElem?_eq_none hge, Array.getElem?_eq_getElem hlt] at e1
      cases e1)).trans (h2 b hb.1 hlt)⟩
theorem ownCube_empty (w : World) : OwnCube (w.alloc (.cells #[] 105)) w.heap.size w.heap.size 0 0 [] :=
  ⟨Nat.le_refl _, rfl, [], ⟨rfl, Or.inr ⟨w.heap.size, 0, #[], rfl, Nat.le_refl _, heap_alloc_new _ _, Nat.le_refl _, by decide, rfl, rfl⟩⟩, fun t R hR => by simp at hR⟩
theorem wpList_append_cube {w : World} {ops : Array Oper} {rest : List Oper} {o : Oper} {a : Act} {Q : Exit → Act → World → Prop} (hgd : o.guard = none) (s x : Operand)
    (ho : o.op = .call { callee := .builtin .append, args := #[s, x], argTypes := #[26, 26] })
    (B g k cap : Nat) (C : List (List (List Int))) (hs : a.eval s = .slice (some ⟨g, 0, none⟩) k cap) (hF : OwnCube w B g k cap C)
    (bo g1 m1 c1 : Nat) (R : List (List Int)) (hx : a.eval x = .slice (some ⟨bo, 0, none⟩) 1 1) (hX : w.cell? ⟨bo, 0, none⟩ = some (.slice (some ⟨g1, 0, none⟩) m1 c1)) (hm1 : m1 ≤ c1) (hc1 : c1 ≤ 9223372036854775807) (hY : Hangs (fun b => B ≤ b ∧ b ≠ g) w (fun w => GridAt w (some ⟨g1, 0, none⟩) m1 R))
    (hlen : k + 1 ≤ 1048576) (hB : B ≤ w.heap.size)
    (h : ∀ g' cap' w', OwnCube w' B g' (k + 1) cap' (C ++ [R]) → Below B w w' → wpList Tryz.prog ops Q rest (a.put o.dst (.slice (some ⟨g', 0, none⟩) (k + 1) cap')) w') : wpList Tryz.prog ops Q (o :: rest) a w := by
  obtain ⟨i0, hi, hz0, hz1, hz2⟩ := info_parts Tryz.infoList
  obtain ⟨vs, h1, h2⟩ := hF.own
  refine wpList_plain hgd fun _ hK => wp_append_own2 w s x 26 ho B 105 i0 (.slice none 0 0) 1 24 Tryz.underlying26 hi hz0 hz1 hz2 rfl (by decide) _ k _ hs h1 ⟨bo, 0, none⟩ 1 1 [.slice (some ⟨g1, 0, none⟩) m1 c1] hx rfl ?_ (by intro u hu; simp at hu; subst hu; rfl) (by unfold maxLen; omega) (by omega) hB ?_
  · intro j u hj
    match j, hj with
    | 0, hj =>
      simp at hj
      subst hj
      have e2 : (Addr.mk bo 0 none).add 0 = ⟨bo, 0, none⟩ := by simp [Addr.add]
      rw [e2, hX]
  · intro v' w' hown hg hnil hwh
    have hb : Below B w w' := (Below.refl _ _).grown hg hB (fun k hk => by simp [Value.ownBlock] at hk; subst hk; exact hF.base)
    have hlv : vs.length = k := by have := h1.1; omega
    have hown2 := hown
    obtain ⟨_, h4⟩ := hown2
    rcases h4 with ⟨_, h5⟩ | ⟨g', c', cur', hv, hg2, hr⟩
    · omega
    · subst hv
      have hw := hwh g' rfl
      have tr : ∀ {Φ : World → Prop}, Hangs (fun b => B ≤ b ∧ b ≠ g) w Φ → Hangs (fun b => B ≤ b ∧ b ≠ g') w' Φ := fun {Φ} hh w2 hh2 => hh w2 fun b hb1 hlt => by
        have hne : b ≠ g' := by
          rcases hw with e | e
          · simp [Value.ownBlock] at e; omega
          · omega
        exact (hh2 b ⟨hb1.1, hne⟩ (Nat.lt_of_lt_of_le hlt hg.size)).trans (hg.block b hlt (by simp [Value.ownBlock]; omega))
      refine hK _ _ (h g' c' w' ⟨hg2, by simp [hF.len], _, hown, fun t R' hR' => ?_⟩ hb)
      by_cases htk : t < k
      · rw [List.getElem?_append_left (by rw [hF.len]; exact htk)] at hR'
        obtain ⟨ro, m3, c3, e3, q1, q2, q3, q4⟩ := h2 t R' hR'
        exact ⟨ro, m3, c3, by rw [List.getElem?_append_left (by omega)]; exact e3, q1, q2, q3, tr q4⟩
      · rw [List.getElem?_append_right (by rw [hF.len]; omega), hF.len] at hR'
        have e0 : t - k = 0 := by
          rcases Nat.eq_zero_or_pos (t - k) with e | e
          · exact e
          · rw [List.getElem?_eq_none (by simp; omega)] at hR'; cases hR'
        rw [e0] at hR'
        simp at hR'
        subst hR'
        exact ⟨some ⟨g1, 0, none⟩, m1, c1, by rw [List.getElem?_append_right (by omega), hlv, e0]; rfl, (fun h => by cases h), hm1, hc1, tr hY⟩
theorem cellList_new (w : World) (v : Value) : (w.alloc (.cells #[v] 105)).cell? ⟨w.heap.size, 0, none⟩ = some v := by
  have e := heap_alloc_new w (.cells #[v] 105)
  unfold World.cell?
  simp only [e]
  rfl
end Go.Proofs.YtcanjlofnpnhkaaGreatDoor

/- Package block: addRows (copies of rows behind those that are there), rowsOf (a part of each list of rows). -/
namespace Go.Proofs.YtcanjlofnpnhkaaGreatDoor
open Go.ChangeShapes Go.WideShapes Go.ChangeAt Go.RowKit
theorem cellRowB (w : World) (v : Value) : (w.alloc (.cells #[v] 35)).cell? ⟨w.heap.size, 0, none⟩ = some v := by
  have e := heap_alloc_new w (.cells #[v] 35)
  unfold World.cell?
  simp only [e]
  rfl
theorem one_at0 {w : World} {k : Nat} {v : Value} (h : w.cell? ⟨k, 0, none⟩ = some v) : ∀ j u, [v][j]? = some u → w.cell? ((Addr.mk k 0 none).add j) = some u := by
  intro j u hj
  match j, hj with
  | 0, hj =>
    simp at hj
    subst hj
    have e2 : (Addr.mk k 0 none).add 0 = ⟨k, 0, none⟩ := by simp [Addr.add]
    rw [e2, h]
/-- The blocks from s on that are not a value's own. -/
def offV (s : Nat) (u : Value) (b : Nat) : Prop := s ≤ b ∧ u.ownBlock ≠ some b
theorem Tn.offV {s : Nat} {u u' : Value} {w w' : World} (hG : w.grownBy w' u.ownBlock) (hN : ∀ g, u'.ownBlock = some g → u.ownBlock = some g ∨ w.heap.size ≤ g) : Tn (offV s u) (offV s u') w w' :=
  ⟨hG.size, fun b hb hp => ⟨⟨hp.1, fun e => by rcases hN b e with a | a; exact hp.2 a; omega⟩, hG.block b hb (fun e => hp.2 e.symm)⟩⟩
theorem grown_below {w w1 w2 : World} {r : Option Nat} (h : w.grownBy w1 r) (hb : Below w1.heap.size w1 w2) : w.grownBy w2 r :=
  ⟨hb.os.trans h.os, hb.tape.trans h.tape, hb.output.trans h.output, Nat.le_trans h.size hb.size, fun k hk hr => (hb.block k (Nat.lt_of_lt_of_le hk h.size)).trans (h.block k hk hr)⟩
theorem grown_trans {w w1 w2 : World} {r r1 : Option Nat} (h : w.grownBy w1 r) (h1 : w1.grownBy w2 r1) (hr : ∀ g, r1 = some g → r = some g ∨ w.heap.size ≤ g) : w.grownBy w2 r :=
  ⟨h1.os.trans h.os, h1.tape.trans h.tape, h1.output.trans h.output, Nat.le_trans h.size h1.size, fun k hk hk2 => (h1.block k (Nat.lt_of_lt_of_le hk h.size) (fun e => by
    rcases hr k e.symm with a | a
    · exact hk2 a.symm
    · omega)).trans (h.block k hk hk2)⟩
theorem grown_refl (w : World) (r : Option Nat) : w.grownBy w r := ⟨rfl, rfl, rfl, Nat.le_refl _, fun _ _ _ => rfl⟩
/-- addRows: copies of rows, behind those of a row of the call's own. -/
theorem take_rowOf {R : List (List Int)} {j : Nat} (h : j < R.length) : R.take (j + 1) = R.take j ++ [rowOf R j] := by
  unfold rowOf
  rw [List.take_add_one, List.getD_eq_getElem?_getD, List.getElem?_eq_getElem h]
  rfl
set_option maxRecDepth 100000 in
set_option maxHeartbeats 1600000 in
theorem addRows_any (B : Nat) (v : Value) (k : Nat) (vs : List Value) (ao : Option Addr) (m ca : Nat) (R : List (List Int)) (w : World) (O : w.ownsRow B 35 1 v k vs) (hR : ∀ wv, w.grownBy wv v.ownBlock → GridAt wv ao m R) (hl : ∀ t, t < m → (rowOf R t).length ≤ 1048576) (hk : k + m ≤ 4096) (hB : B ≤ w.heap.size) :
   Calls Tryz.prog 54 #[v, .slice ao m ca] w fun e w' => ∃ a c, e = .returned (.slice a (k + m) c) ∧ (∃ ns, w'.ownsRow B 35 1 (.slice a (k + m) c) (k + m) (vs ++ ns) ∧ HRows (offV w.heap.size (.slice a (k + m) c)) w' ns R) ∧ w.grownBy w' v.ownBlock ∧ ∀ g, (Value.slice a (k + m) c).ownBlock = some g → v.ownBlock = some g ∨ w.heap.size ≤ g := by
  have HR : Hid (∀ wv, w.grownBy wv v.ownBlock → GridAt wv ao m R) := hR
  have hlen := (hR w (grown_refl _ _)).len
  clear hR
  go_enter Tryz.func54, Tryz.ntmps54
  go_wp2
  go_loopg [0, 9] m (fun r s0 s9 wr => ∃ (j : Nat) (u : Value) (ns : List Value), j ≤ m ∧ r = m - j ∧ s9 = .int .i64 (j : Int) ∧ s0 = u ∧ wr.ownsRow B 35 1 u (k + j) (vs ++ ns) ∧ HRows (offV w.heap.size u) wr ns (R.take j) ∧ w.grownBy wr v.ownBlock ∧ ∀ g, u.ownBlock = some g → v.ownBlock = some g ∨ w.heap.size ≤ g)
  case atStart => exact ⟨0, v, [], by omega, by omega, rfl, rfl, by rw [List.append_nil]; exact O, by rw [List.take_zero]; exact HRows.nil _ _, grown_refl _ _, fun g h => Or.inl h⟩
  case round =>
    obtain ⟨j, u, ns, hj, rfl, rfl, hu, O1, H1, G1, N1⟩ := hrel
    have hu2 := hu.symm
    subst hu2
    clear O
    by_cases hlt : j < m
    · obtain ⟨b, o, rfl, hc⟩ := (HR.out wr G1).cells (by omega)
      obtain ⟨ro, n1, c1, q1, A1⟩ := hc j hlt
      have hn1 : n1 ≤ 1048576 := by rw [← A1.row.len]; exact hl j hlt
      have CL := clone_arg ro n1 c1 _ wr A1 hn1
      have hsz := G1.size
      clear hc A1
      go_upto_region 4 with fail
      clear q1
      go_wp2_with fail
      refine CL.mono ?_
      rintro e w1 ⟨ro', c', rfl, NA, B1⟩
      clear CL
      have O2 := owns_below O1 B1
      have H2 := H1.turn (Tn.below B1)
      have G2 := grown_below G1 B1
      have BA : Below w1.heap.size w1 (w1.alloc (.cells #[.slice ro' n1 c'] 35)) := (Below.refl _ _).alloc (Nat.le_refl _) _
      have CN := cellRowB w1 (.slice ro' n1 c')
      generalize hw2 : w1.alloc (.cells #[.slice ro' n1 c'] 35) = w2 at *
      have O3 := owns_below O2 BA
      have H3 := H2.turn (Tn.below BA)
      have G3 := grown_below G2 BA
      have N3 : Hangs (offV w.heap.size u) w2 (fun w => Arg w ro' n1 c' (rowOf R j)) := Hangs.mono (NA.below BA) fun b _ hb => ⟨Nat.le_trans hsz hb, fun e => by
        have := (O1.lt b e).2; omega⟩
      have hs1 := B1.size
      have hs2 := BA.size
      clear O1 O2 H1 H2 G1 G2 NA
      go_wp2_with (at_builtin; refine wpList_append_hr rfl _ _ rfl B u (k + j) (vs ++ ns) rfl (by exact O3) ⟨w1.heap.size, 0, none⟩ 1 1 [.slice ro' n1 c'] rfl rfl (one_at0 CN) (by intro x hx; simp at hx; subst hx; rfl) (by omega) (by omega) ?_; intro ea ec w3 O4 G4 N4 E4)
      go_roundg (m - (j + 1))
      case measure => omega
      case rel =>
        have T := Tn.offV (s := w.heap.size) G4 N4
        refine ⟨j + 1, _, ns ++ [.slice ro' n1 c'], by omega, rfl, by go_num, rfl, by rw [← List.append_assoc]; exact O4, ?_, grown_trans G3 G4 (fun g h => N1 g h), fun g h => ?_⟩
        · rw [take_rowOf (by rw [hlen]; exact hlt)]
          exact (H3.turn T).snoc (N3.turn T)
        · rcases N4 g h with a | a
          · exact N1 g a
          · exact Or.inr (by omega)
    · obtain rfl : m = j := by omega
      go_wp2
      go_ret
      have e9 : R.take m = R := List.take_of_length_le (by omega)
      rw [e9] at H1
      obtain ⟨a, c, e8⟩ := owns_slice O1
      subst e8
      exact ⟨a, c, rfl, ⟨ns, O1, H1⟩, G1, N1⟩
end Go.Proofs.YtcanjlofnpnhkaaGreatDoor

/- Package block: rowsOf (a part of each list of rows, copied). -/
namespace Go.Proofs.YtcanjlofnpnhkaaGreatDoor
open Go.ChangeShapes Go.WideShapes Go.ChangeAt Go.RowKit
/-- The rows from a place up to another one. -/
def partR (R : List (List Int)) (fr to' : Nat) : List (List Int) := (R.drop fr).take (to' - fr)
theorem rowOf_drop (R : List (List Int)) (m t : Nat) : rowOf (R.drop m) t = rowOf R (m + t) := by
  unfold rowOf
  simp [List.getD_eq_getElem?_getD, List.getElem?_drop]
theorem GridAt.drop {w : World} {b o n : Nat} {R : List (List Int)} (h : GridAt w (some ⟨b, o, none⟩) n R) {m : Nat} (hm : m ≤ n) : GridAt w (some ⟨b, o + m, none⟩) (n - m) (R.drop m) := by
  have hl := h.len
  have hx := h.max
  refine ⟨by rw [List.length_drop]; omega, by omega, fun h0 => ?_⟩
  obtain ⟨b', o', e, hc⟩ := h.cells (by omega)
  simp only [Option.some.injEq, Addr.mk.injEq, and_true] at e
  obtain ⟨rfl, rfl⟩ := e
  refine ⟨b, o + m, rfl, fun t ht => ?_⟩
  rw [rowOf_drop, Nat.add_assoc]
  exact hc (m + t) (by omega)
theorem rowOf_takeB {R : List (List Int)} {m t : Nat} (h : t < m) : rowOf (R.take m) t = rowOf R t := by
  unfold rowOf
  rw [List.getD_eq_getElem?_getD, List.getD_eq_getElem?_getD, List.getElem?_take_of_lt h]
theorem GridAt.takeB {w : World} {ao : Option Addr} {n : Nat} {R : List (List Int)} (h : GridAt w ao n R) {m : Nat} (hm : m ≤ n) : GridAt w ao m (R.take m) := by
  have hl := h.len
  have hx := h.max
  refine ⟨by rw [List.length_take]; omega, by omega, fun h0 => ?_⟩
  obtain ⟨b, o, e, hc⟩ := h.cells (by omega)
  refine ⟨b, o, e, fun t ht => ?_⟩
  rw [rowOf_takeB ht]
  exact hc t (by omega)
theorem GridAt.partR {w : World} {b o n : Nat} {R : List (List Int)} (h : GridAt w (some ⟨b, o, none⟩) n R) {fr to' : Nat} (h1 : fr ≤ to') (h2 : to' ≤ n) : GridAt w (some ⟨b, o + fr, none⟩) (to' - fr) (partR R fr to') := (h.drop (by omega)).takeB (by omega)
/-- A row of rows of the call's own, and what its rows hang on: what the list hangs on. -/
theorem rows_hang {w : World} {B s n gA : Nat} {u : Value} {ua : Option Addr} {uc : Nat} {ns : List Value} {R : List (List Int)} (O : w.ownsRow B 35 1 (.slice ua n uc) n ([] ++ ns)) (H : HRows (offV s u) w ns R) (hub : ∀ g, (Value.slice ua n uc).ownBlock = some g → B ≤ g) (hB : gA < B) (hs : gA < s) (hn : n ≤ 4096) : Hangs (fun b => gA < b) w (fun w => GridV w ua n ns R) := by
  rw [List.nil_append] at O
  intro w2 h2
  have hl := O.1
  have H2 := (H.turn (p' := fun b => gA < b) (w' := w) ⟨Nat.le_refl _, fun b _ hp => ⟨Nat.lt_of_lt_of_le hs hp.1, rfl⟩⟩)
  have O2 : w2.ownsRow B 35 1 (.slice ua n uc) n ns := owns_mono O (Nat.le_refl _) (fun b hb => h2 b (Nat.lt_of_lt_of_le hB (hub b hb)) (O.lt b hb).2)
  refine ⟨⟨H.len, fun t ht => ?_⟩, by omega, by omega, fun h0 => ?_⟩
  · obtain ⟨ro, m, c, e, A⟩ := H2.rows t ht
    exact ⟨ro, m, c, e, A w2 h2⟩
  · rcases O2.2 with ⟨q1, q2⟩ | ⟨g, cap, cur, q1, _⟩
    · omega
    · simp only [Value.slice.injEq] at q1
      obtain ⟨rfl, -, rfl⟩ := q1
      refine ⟨g, 0, rfl, fun j x hj => ?_⟩
      have hc := O2.cells (g := g) rfl j _ hj
      have e3 : (Addr.mk g 0 none).add j = ⟨g, j, none⟩ := by simp [Addr.add]; intro h; exact h.symm
      rw [e3] at hc
      rw [Nat.zero_add]
      exact hc
theorem owns_form {w : World} {B n : Nat} {e : TypeId} {ua : Option Addr} {uc : Nat} {ns : List Value} (O : w.ownsRow B e 1 (.slice ua n uc) n ns) : (ua = none → uc = 0) ∧ n ≤ uc ∧ uc ≤ 9223372036854775807 := by
  rcases O.2 with ⟨q1, q2⟩ | ⟨g, cap, cur, q1, _, _, q4, q5, _⟩
  · simp only [Value.slice.injEq] at q1
    exact ⟨fun _ => q1.2.2, by omega, by omega⟩
  · simp only [Value.slice.injEq] at q1
    obtain ⟨rfl, -, rfl⟩ := q1
    unfold maxLen at q5
    exact ⟨(fun h => by cases h), q4, q5⟩
set_option maxRecDepth 100000 in
set_option maxHeartbeats 3200000 in
theorem rowsOf_any (ao : Option Addr) (m ca : Nat) (C : List (List (List Int))) (fr to' : Nat) (w : World) (hC : CubeAt w ao m C) (hm : m ≤ 4096) (h1 : fr < to') (h2 : to' ≤ 4096) (hl : ∀ R ∈ C, to' ≤ R.length ∧ ∀ t, t < R.length → (rowOf R t).length ≤ 1048576) :
   Calls Tryz.prog 51 #[.slice ao m ca, .int .i64 (fr : Int), .int .i64 (to' : Int)] w fun e w' => ∃ g, e = .returned (.slice (some ⟨g, 0, none⟩) m m) ∧ New w.heap.size w' (fun w => CubeAt w (some ⟨g, 0, none⟩) m (C.map fun R => partR R fr to')) ∧ Below w.heap.size w w' := by
  have hmk := run_make_row' (P := Tryz.prog) 26 105 (.slice none 0 0) 24 Tryz.underlying26 Tryz.infoList rfl .i64 .i64 m (by omega) (by omega)
  have hmk0 : ∀ w : World, (Instr.makeSlice 105 (.int .i64 0) (.int .i64 ((to' - fr : Nat) : Int))).run Tryz.prog w = .ok (.slice (some ⟨w.heap.size, 0, none⟩) 0 (to' - fr)) (w.alloc (.cells (madeCells #[.slice none 0 0] (to' - fr)) 35)) := fun w => by
    obtain ⟨i0, hi, hz0, hz1, hz2⟩ := info_parts Tryz.infoRow
    have h9 := run_make (P := Tryz.prog) w 105 35 i0 (.slice none 0 0) Tryz.underlying105 hi hz0 .i64 .i64 0 ((to' - fr : Nat) : Int) (by omega) (by omega) (by rw [hz2]; omega) (by omega)
    rw [hz1, Nat.mul_one] at h9
    exact h9
  have KK := kv_made w m (fun b => w.heap.size < b) (C.map fun R => partR R fr to') [] rfl
  have BB : Below w.heap.size w (w.alloc (.cells (madeCells #[.slice none 0 0] m) 105)) := (Below.refl _ _).alloc (Nat.le_refl _) _
  have hgA : w.heap.size < (w.alloc (.cells (madeCells #[.slice none 0 0] m) 105)).heap.size := by simp
  obtain ⟨gA, hg⟩ : ∃ gA, gA = w.heap.size := ⟨_, rfl⟩
  have hgs : w.heap.size ≤ gA := by omega
  have HSB : Hid (IntKind.i64.wrap ((to' : Int) - (fr : Int)) = ((to' - fr : Nat) : Int)) := by
    show _ = _
    rw [wrap_in (by omega)]
    omega
  have HC : Hid (∀ wv, Below w.heap.size w wv → CubeAt wv ao m C) := fun wv hb => hC.below hb
  have HLN : Hid (C.length = m) := hC.len
  have HLC : Hid (∀ R ∈ C, to' ≤ R.length ∧ ∀ t, t < R.length → (rowOf R t).length ≤ 1048576) := hl
  clear hC hl
  go_enter Tryz.func51, Tryz.ntmps51
  go_upto_region 3 with fail
  rw [← hg] at KK hgA
  have hg' : Hid (w.heap.size = gA) := hg.symm
  rw [show (some (⟨w.heap.size, 0, none⟩ : Addr)) = some ⟨gA, 0, none⟩ by rw [hg]]
  clear hg hmk
  generalize w.alloc (.cells (madeCells #[.slice none 0 0] m) 105) = w0 at *
  go_loopg [15] m (fun r s15 wr => ∃ i : Nat, i ≤ m ∧ r = m - i ∧ s15 = .int .i64 (i : Int) ∧ KV wr gA m i (fun b => gA < b) (C.map fun R => partR R fr to') [] ∧ Below w.heap.size w wr ∧ gA < wr.heap.size)
  case atStart => exact ⟨0, by omega, by omega, rfl, KK, BB, hgA⟩
  case round =>
    clear KK BB hgA
    obtain ⟨i, hi, rfl, rfl, KK, BB, hgA⟩ := hrel
    by_cases hlt : i < m
    · obtain ⟨b, o, rfl, hc⟩ := (HC.out wr BB).cells (by omega)
      have hR : C[i]? = some (C[i]'(by rw [HLN.out]; exact hlt)) := List.getElem?_eq_getElem _
      have hmem : C[i]'(by rw [HLN.out]; exact hlt) ∈ C := List.getElem_mem _
      have HAI : Hid ((C.map fun R => partR R fr to').getD i [] = partR (C[i]'(by rw [HLN.out]; exact hlt)) fr to') := by
        show _ = _
        rw [List.getD_eq_getElem?_getD, List.getElem?_map, hR]; rfl
      generalize C[i]'(by rw [HLN.out]; exact hlt) = R at hR hmem HAI
      obtain ⟨ro, n, c, k1, k2, k3, k4, G1⟩ := hc i R hR
      clear hc
      obtain ⟨f1, f2⟩ := HLC.out R hmem
      rw [G1.len] at f1 f2
      obtain ⟨b1, o1, rfl, _⟩ := G1.cells (by omega)
      have CA : ∀ wa wv : World, Below wr.heap.size wr wa → Below wa.heap.size wa wv → wv.ownsRow wa.heap.size 35 1 (.slice (some ⟨wa.heap.size, 0, none⟩) 0 (to' - fr)) 0 [] → Calls Tryz.prog 54 #[.slice (some ⟨wa.heap.size, 0, none⟩) 0 (to' - fr), .slice (some ⟨b1, o1 + fr, none⟩) (to' - fr) (c - fr)] wv _ := fun wa wv q1 q2 O => addRows_any wa.heap.size _ 0 [] _ (to' - fr) (c - fr) (partR R fr to') wv O (fun wx hx => (G1.below (below_then q1 (q2.grown hx q2.size (fun k hk => by simp [Value.ownBlock] at hk; omega)))).partR (by omega) f1) (fun t ht => by
        unfold partR
        rw [rowOf_takeB ht, rowOf_drop]
        exact f2 _ (by omega)) (by omega) q2.size
      go_upto_region 5 with fail
      have BD : Below wr.heap.size wr wr.drew := (Below.refl _ _).drew
      refine wp_region_held_drew (S := fun _ => True) (by kernel_rfl) (trivial) (fun hHeld => ?_)
      generalize hA : wr.drew = wA at *
      clear hA
      refine wpAnyH_take (i := 0) (v := (.slice (some ⟨gA, 0, none⟩) m m)) rfl (by kernel_rfl) (by kernel_rfl) (by kernel_rfl) (fun _ _ _ h => h) (Or.inl ⟨by rfl, ?_⟩) (by assumption) ?_
      · intro w' hSw
        go_simp
      simp only [List.getElem_toArray, List.getElem_cons_zero, Act.put, List.setIfInBounds_toArray, List.set_cons_zero, List.set_cons_succ]
      refine wpAnyH_take (i := 1) (v := (.int .i64 (i : Int))) rfl (by kernel_rfl) (by kernel_rfl) (by kernel_rfl) (fun _ _ _ h => h) (Or.inl ⟨by rfl, ?_⟩) (by assumption) ?_
      · intro w' hSw
        go_simp
      simp only [List.getElem_toArray, List.getElem_cons_succ, List.getElem_cons_zero, Act.put, List.setIfInBounds_toArray, List.set_cons_zero, List.set_cons_succ]
      refine wpAnyH_take (i := 2) (v := (.int .i64 (to' : Int))) rfl (by kernel_rfl) (by kernel_rfl) (by kernel_rfl) (fun _ _ _ h => h) (Or.inl ⟨by rfl, ?_⟩) (by assumption) ?_
      · intro w' hSw
        go_simp
      simp only [List.getElem_toArray, List.getElem_cons_succ, List.getElem_cons_zero, Act.put, List.setIfInBounds_toArray, List.set_cons_zero, List.set_cons_succ]
      refine wpAnyH_take (i := 3) (v := (.int .i64 (fr : Int))) rfl (by kernel_rfl) (by kernel_rfl) (by kernel_rfl) (fun _ _ _ h => h) (Or.inl ⟨by rfl, ?_⟩) (by assumption) ?_
      · intro w' hSw
        go_simp
      simp only [List.getElem_toArray, List.getElem_cons_succ, List.getElem_cons_zero, Act.put, List.setIfInBounds_toArray, List.set_cons_zero, List.set_cons_succ]
      refine wpAnyH_take (i := 4) (v := (.int .i64 ((to' - fr : Nat) : Int))) rfl (by kernel_rfl) (by kernel_rfl) (by kernel_rfl) (fun _ _ _ h => h) (Or.inl ⟨by rfl, ?_⟩) (by assumption) ?_
      · intro w' hSw
        have hsb := HSB.out
        go_simp
      simp only [List.getElem_toArray, List.getElem_cons_succ, List.getElem_cons_zero, Act.put, List.setIfInBounds_toArray, List.set_cons_zero, List.set_cons_succ]
      refine wpAnyH_take (i := 6) (v := (.slice (some ⟨b1, o1, none⟩) n c)) rfl (by kernel_rfl) (by kernel_rfl) (by kernel_rfl) (fun _ _ _ h => h) (Or.inl ⟨by rfl, ?_⟩) (by assumption) ?_
      · intro w' hSw
        go_simp
      simp only [List.getElem_toArray, List.getElem_cons_succ, List.getElem_cons_zero, Act.put, List.setIfInBounds_toArray, List.set_cons_zero, List.set_cons_succ]
      refine wpAnyH_take (i := 7) (v := (.int .i64 (fr : Int))) rfl (by kernel_rfl) (by kernel_rfl) (by kernel_rfl) (fun _ _ _ h => h) (Or.inl ⟨by rfl, ?_⟩) (by assumption) ?_
      · intro w' hSw
        go_simp
      simp only [List.getElem_toArray, List.getElem_cons_succ, List.getElem_cons_zero, Act.put, List.setIfInBounds_toArray, List.set_cons_zero, List.set_cons_succ]
      refine wpAnyH_take (i := 8) (v := (.int .i64 (to' : Int))) rfl (by kernel_rfl) (by kernel_rfl) (by kernel_rfl) (fun _ _ _ h => h) (Or.inl ⟨by rfl, ?_⟩) (by assumption) ?_
      · intro w' hSw
        go_simp
      simp only [List.getElem_toArray, List.getElem_cons_succ, List.getElem_cons_zero, Act.put, List.setIfInBounds_toArray, List.set_cons_zero, List.set_cons_succ]
      refine wpAnyH_take (i := 9) (v := (.slice (some ⟨b1, o1 + fr, none⟩) (to' - fr) (c - fr))) rfl (by kernel_rfl) (by kernel_rfl) (by kernel_rfl) (fun _ _ _ h => h) (Or.inl ⟨by rfl, ?_⟩) (by assumption) ?_
      · intro w' hSw
        (go_simp; rw [if_pos (show to' ≤ c by omega), if_pos (show fr ≤ to' by omega), if_neg (show ¬ c = fr by omega)])
      simp only [List.getElem_toArray, List.getElem_cons_succ, List.getElem_cons_zero, Act.put, List.setIfInBounds_toArray, List.set_cons_zero, List.set_cons_succ]
      refine wpAnyH_ready (rs := [5]) (by kernel_rfl) (by simp) ?_
      refine AllReadyH.cons rfl (fun Kc hKc => ?_) AllReadyH.nil
      simp only [List.getElem_toArray, List.getElem_cons_succ, List.getElem_cons_zero]
      rw [if_pos (by rfl)]
      go_wp2_with fail
      have BM : Below wA.heap.size wA (wA.alloc (.cells (madeCells #[.slice none 0 0] (to' - fr)) 35)) := (Below.refl _ _).alloc (Nat.le_refl _) _
      have OM : (wA.alloc (.cells (madeCells #[.slice none 0 0] (to' - fr)) 35)).ownsRow wA.heap.size 35 1 (.slice (some ⟨wA.heap.size, 0, none⟩) 0 (to' - fr)) 0 [] := World.ownsRow_made wA _ _ (Nat.le_refl _) (by unfold maxLen; omega) (by simp [madeCells])
      generalize hwM : wA.alloc _ = wM at *
      refine hKc.out _ _ trivial (fun hHeld => ?_)
      clear hKc Kc hwM
      refine wpAnyH_ready (rs := [10]) (by kernel_rfl) (by simp) ?_
      refine AllReadyH.cons rfl (fun Kc hKc => ?_) AllReadyH.nil
      simp only [List.getElem_toArray, List.getElem_cons_succ, List.getElem_cons_zero]
      rw [if_pos (by rfl)]
      go_wp2_with fail
      refine (CA wA wM BD BM OM).mono ?_
      rintro e w3 ⟨ua, uc, rfl, ⟨ns, O3, H3⟩, G3, N3⟩
      go_wp2_with fail
      refine hKc.out _ _ trivial (fun hHeld => ?_)
      clear hKc Kc
      have sA : wA.heap.size ≤ wM.heap.size := BM.size
      have BW : Below wA.heap.size wA w3 := BM.grown G3 (by omega) (fun k hk => by simp [Value.ownBlock] at hk; omega)
      have BWr : Below wr.heap.size wr w3 := below_then BD BW
      have hub : ∀ g, (Value.slice ua (0 + (to' - fr)) uc).ownBlock = some g → wA.heap.size ≤ g := fun g e => by
        rcases N3 g e with a | a
        · simp [Value.ownBlock] at a; omega
        · omega
      have hgA2 : gA < wA.heap.size := Nat.lt_of_lt_of_le hgA BD.size
      have NG : Hangs (fun b => gA < b) w3 (fun w => GridV w ua (0 + (to' - fr)) ns (partR R fr to')) := rows_hang O3 H3 hub hgA2 (by show gA < wM.heap.size; omega) (by omega)
      rw [Nat.zero_add] at NG O3 hub
      obtain ⟨f1, f2, f3⟩ := owns_form O3
      replace KK := KK.below BWr
      have fz := KK.frozen i
      obtain ⟨r9, n9, v9, cu, _, _⟩ := KK.at hlt
      have hAi : (C.map fun R => partR R fr to').getD i [] = partR R fr to' := HAI.out
      have KN := KK.step hlt (fun h => Nat.lt_irrefl _ h) f1 f2 f3 (by rw [hAi]; exact NG)
      have BN := Below.setCell (p := ⟨gA, i, none⟩) (BB.trans (BWr.mono BB.size)) (by show w.heap.size ≤ gA; omega) (.slice ua (to' - fr) uc)
      clear H3 G3 N3 NG
      refine wpAnyH_take (i := 11) (v := (.pointer (some ⟨gA, i, none⟩))) rfl (by kernel_rfl) (by kernel_rfl) (by kernel_rfl) (fun _ _ _ h => h) (Or.inl ⟨by rfl, ?_⟩) (by assumption) ?_
      · intro w' hSw
        go_simp
      simp only [List.getElem_toArray, List.getElem_cons_succ, List.getElem_cons_zero, Act.put, List.setIfInBounds_toArray, List.set_cons_zero, List.set_cons_succ]
      refine wpAnyH_ready (rs := [12]) (by kernel_rfl) (by simp) ?_
      refine AllReadyH.cons rfl (fun Kc hKc => ?_) AllReadyH.nil
      simp only [List.getElem_toArray, List.getElem_cons_succ, List.getElem_cons_zero]
      rw [if_pos (by rfl)]
      go_wp2_with fail
      refine hKc.out _ _ trivial (fun hHeld => ?_)
      clear hKc Kc
      refine wpAnyH_done (by kernel_rfl) ?_ _
      go_wp2_with fail
      go_roundg (m - (i + 1))
      case measure => omega
      case rel => exact ⟨i + 1, by omega, rfl, by go_num, KN, BN, by have := BWr.size; simp [World.setCell]; omega⟩
    · obtain rfl : m = i := by omega
      go_wp2
      go_ret
      exact ⟨gA, rfl, KK.cube (by simp [HLN.out]) (by omega) (fun b hb => by have := hg'.out; omega) hgs, BB⟩
end Go.Proofs.YtcanjlofnpnhkaaGreatDoor

/- Package block: pages, rows of pages. -/
namespace Go.Proofs.YtcanjlofnpnhkaaGreatDoor
open Go.ChangeShapes Go.WideShapes Go.ChangeAt Go.RowKit
/-- A page, as lists. -/
structure Pg where
  T : List Int
  F : Int
  K : List (List (List Int))
  V : List (List (List Int))
/-- A page, as cells. -/
structure PgV where
  t : Sl
  f : Int
  k : Sl
  v : Sl
def PgV.cells (p : PgV) : Array Value := #[p.t.v, .int .i64 p.f, p.k.v, p.v.v]
structure PgAt (w : World) (p : PgV) (X : Pg) : Prop where
  t : IArg w p.t.ao p.t.n p.t.c X.T
  f : p.f = X.F
  k : CubeAt w p.k.ao p.k.n X.K
  v : CubeAt w p.v.ao p.v.n X.V
theorem PgAt.below {w w' : World} {p : PgV} {X : Pg} (h : PgAt w p X) (hb : Below w.heap.size w w') : PgAt w' p X := ⟨h.t.below hb, h.f, h.k.below hb, h.v.below hb⟩
theorem pg_one (p : PgV) : p.cells.all (·.oneCell') = true := by simp [PgV.cells, Sl.v, Value.oneCell']
theorem pg_size (p : PgV) : p.cells.size = 4 := rfl
theorem pg_len (p : PgV) : p.cells.toList.length = 4 := rfl
theorem Tryz.infoPg : (Tryz.prog.info? 30).map (·.size) = some 4 := by kernel_rfl
theorem Tryz.infoPgr : (Tryz.prog.info? 30).map (fun i => (i.zero, i.size, i.bytes)) = some (some (.agg #[.slice none 0 0, .int .i64 0, .slice none 0 0, .slice none 0 0]), 4, 80) := by kernel_rfl
theorem load_pg {w : World} {g : Nat} {cs : Array Value} (h : Blk w g 30 cs) (hs : cs.size = 4) : (loadVar 30 ⟨g, 0, none⟩).run Tryz.prog w = .ok (.agg cs) w :=
  run_loadVar_row w g _ _ cs _ _ h Tryz.underlying30 rfl (by rw [hs]; exact Tryz.infoPg)
theorem results_cB {fn : Func} {p : Tmp} {ty : TypeId} (h : fn.results = #[.cell p ty]) (tmps : Array Value) (w : World) (g : Nat) (cs : Array Value)
    (hp : tmps.getD p undef = .pointer (some ⟨g, 0, none⟩)) (hl : (loadVar ty ⟨g, 0, none⟩).run Tryz.prog w = .ok (.agg cs) w) :
    (results fn tmps).run Tryz.prog w = .ok (.agg cs) w := by
  have hp' : tmps[p]?.getD undef = .pointer (some ⟨g, 0, none⟩) := by simpa using hp
  simp [results, h, hp', asAddr, hl]
theorem results_cBt {fn : Func} {p q : Tmp} {ty : TypeId} (h : fn.results = #[.cell p ty, .tmp q]) (tmps : Array Value) (w : World) (g : Nat) (cs : Array Value)
    (hp : tmps.getD p undef = .pointer (some ⟨g, 0, none⟩)) (hl : (loadVar ty ⟨g, 0, none⟩).run Tryz.prog w = .ok (.agg cs) w) :
    (results fn tmps).run Tryz.prog w = .ok (.tuple #[.agg cs, tmps.getD q undef]) w := by
  have hp' : tmps[p]?.getD undef = .pointer (some ⟨g, 0, none⟩) := by simpa using hp
  simp [results, h, hp', asAddr, hl]
/-- The page of a view from a place up to another one. -/
def pgOf (X : Vw) (fr to' : Nat) : Pg := ⟨X.T.take to', fr, X.K.map fun R => partR R fr to', X.V.map fun R => partR R fr to'⟩
def flatP (l : List PgV) : List Value := l.flatMap fun p => p.cells.toList
theorem flatP_len : ∀ l : List PgV, (flatP l).length = l.length * 4
  | [] => rfl
  | p :: l => by
    have := flatP_len l
    unfold flatP at *
    rw [List.flatMap_cons, List.length_append, this, pg_len, List.length_cons]
    omega
theorem flatP_snoc (l : List PgV) (p : PgV) : flatP (l ++ [p]) = flatP l ++ p.cells.toList := by unfold flatP; simp
theorem flatP_at : ∀ (l : List PgV) (t : Nat) (x : PgV), l[t]? = some x → ∀ (j : Nat) (v : Value), x.cells.toList[j]? = some v → (flatP l)[t * 4 + j]? = some v
  | [], t, x, h, _, _, _ => by simp at h
  | b :: l, t, x, h, j, v, hv => by
    have hj : j < 4 := by have := (List.getElem?_eq_some_iff.1 hv).1; rw [pg_len] at this; exact this
    have hc : flatP (b :: l) = b.cells.toList ++ flatP l := by unfold flatP; rw [List.flatMap_cons]
    cases t with
    | zero =>
      simp at h
      subst h
      rw [hc, Nat.zero_mul, Nat.zero_add, List.getElem?_append_left (by rw [pg_len]; exact hj)]
      exact hv
    | succ t =>
      have ih := flatP_at l t x (by simpa using h) j v hv
      rw [hc, List.getElem?_append_right (by rw [pg_len]; omega), pg_len, show (t + 1) * 4 + j - 4 = t * 4 + j by omega]
      exact ih
/-- A row of pages, as it is handed in. -/
structure PgsAt (w : World) (s : Sl) (l : List Pg) : Prop where
  len : l.length = s.n
  max : s.n ≤ 1000000
  fit : s.n ≤ s.c
  cells : 0 < s.n → ∃ g o, s.ao = some ⟨g, o, none⟩ ∧ ∀ (t : Nat) (X : Pg), l[t]? = some X → ∃ p : PgV, w.rangeAt g (o + t * 4) p.cells.toList ∧ PgAt w p X
theorem pg_range {w w' : World} {b o : Nat} {p : PgV} (h : w.rangeAt b o p.cells.toList) (hb : Below w.heap.size w w') : w'.rangeAt b o p.cells.toList := by
  have c0 := h 0 p.t.v rfl
  have hlt : b < w.heap.size := by simpa using World.block_lt_of_cell? w _ c0
  exact rangeAt_block h (hb.block b hlt)
theorem PgsAt.below {w w' : World} {s : Sl} {l : List Pg} (h : PgsAt w s l) (hb : Below w.heap.size w w') : PgsAt w' s l := by
  refine ⟨h.len, h.max, h.fit, fun hn => ?_⟩
  obtain ⟨g, o, e, hc⟩ := h.cells hn
  exact ⟨g, o, e, fun t X hX => let ⟨p, h1, h2⟩ := hc t X hX; ⟨p, pg_range h1 hb, h2.below hb⟩⟩
/-- A row of pages of the call's own; its pages hang on blocks from s on. -/
def OwnPg (w : World) (B s : Nat) (u : Value) (l : List Pg) : Prop :=
  ∃ pvs : List PgV, w.ownsRow B 30 4 u l.length (flatP pvs) ∧ pvs.length = l.length ∧ ∀ (t : Nat) (X : Pg), l[t]? = some X → ∃ p, pvs[t]? = some p ∧ Hangs (offV s u) w (fun w => PgAt w p X)
theorem ownPg_nil (w : World) (B s : Nat) : OwnPg w B s (.slice none 0 0) [] := ⟨[], World.ownsRow_nil _ _ _ _, rfl, fun t X h => by simp at h⟩
theorem owns4 {w w' : World} {B n : Nat} {u : Value} {xs : List Value} {e : TypeId} {z : Nat} (h : w.ownsRow B e z u n xs) (hb : ∀ b, u.ownBlock = some b → w'.heap[b]? = w.heap[b]?) : w'.ownsRow B e z u n xs := by
  obtain ⟨h1, h2⟩ := h
  refine ⟨h1, ?_⟩
  rcases h2 with h2 | ⟨g, cap, cur, hv, hg, hh, r⟩
  · exact Or.inl h2
  · exact Or.inr ⟨g, cap, cur, hv, hg, by rw [hb g (by rw [hv]; rfl)]; exact hh, r⟩
theorem owns4_lt {w : World} {B n : Nat} {u : Value} {xs : List Value} {e : TypeId} {z : Nat} (h : w.ownsRow B e z u n xs) {b : Nat} (hb : u.ownBlock = some b) : B ≤ b ∧ b < w.heap.size := by
  rcases h.2 with ⟨h1, _⟩ | ⟨g, cap, cur, hv, hg, hh, _⟩
  · rw [h1] at hb; cases hb
  · rw [hv] at hb
    simp only [Value.ownBlock, Option.some.injEq] at hb
    subst hb
    exact ⟨hg, (Array.getElem?_eq_some_iff.1 hh).1⟩
theorem OwnPg.below {w w' : World} {B s : Nat} {u : Value} {l : List Pg} (h : OwnPg w B s u l) (hb : Below w.heap.size w w') : OwnPg w' B s u l := by
  obtain ⟨pvs, O, hl, hp⟩ := h
  exact ⟨pvs, owns4 O (fun b e => hb.block b (owns4_lt O e).2), hl, fun t X hX => let ⟨p, e, H⟩ := hp t X hX; ⟨p, e, H.below hb⟩⟩
theorem OwnPg.lt {w : World} {B s : Nat} {u : Value} {l : List Pg} (h : OwnPg w B s u l) {b : Nat} (hb : u.ownBlock = some b) : B ≤ b ∧ b < w.heap.size := by
  obtain ⟨pvs, O, _⟩ := h
  exact owns4_lt O hb
theorem OwnPg.form {w : World} {B s : Nat} {u : Value} {l : List Pg} (h : OwnPg w B s u l) : ∃ a c, u = .slice a l.length c := by
  obtain ⟨pvs, O, _⟩ := h
  rcases O.2 with ⟨h1, h2⟩ | ⟨g, cap, cur, hv, _⟩
  · exact ⟨none, 0, by rw [h1, h2]⟩
  · exact ⟨_, _, hv⟩
/-- append(l, page). -/
theorem wpList_append_pg {w : World} {ops : Array Oper} {rest : List Oper} {o : Oper} {a : Act} {Q : Exit → Act → World → Prop} (hgd : o.guard = none) (s' x : Operand)
    (ho : o.op = .call { callee := .builtin .append, args := #[s', x], argTypes := #[51, 51] })
    (B s : Nat) (u : Value) (l : List Pg) (n : Nat) (hn : l.length = n) (hs : a.eval s' = u) (hF : OwnPg w B s u l) (bo : Nat) (p : PgV) (X : Pg) (hx : a.eval x = .slice (some ⟨bo, 0, none⟩) 1 1) (hX : Blk w bo 30 p.cells) (hp : Hangs (offV s u) w (fun w => PgAt w p X))
    (hlen : n + 1 ≤ 1000000) (hB : B ≤ w.heap.size)
    (h : ∀ ea ec w', OwnPg w' B s (.slice ea (n + 1) ec) (l ++ [X]) → w.grownBy w' u.ownBlock → (∀ g, (Value.slice ea (n + 1) ec).ownBlock = some g → u.ownBlock = some g ∨ w.heap.size ≤ g) → wpList Tryz.prog ops Q rest (a.put o.dst (.slice ea (n + 1) ec)) w') : wpList Tryz.prog ops Q (o :: rest) a w := by
  subst hn
  obtain ⟨i0, hi, hzz⟩ := Option.map_eq_some_iff.1 Tryz.infoPgr
  simp only [Prod.mk.injEq] at hzz
  obtain ⟨hz0, hz1, hz2⟩ := hzz
  obtain ⟨pvs, O, hl, hq⟩ := hF
  refine wpList_plain hgd fun _ hK => wp_append_own2 w s' x 51 ho B 30 i0 _ 4 80 Tryz.underlying51 hi hz0 hz1 hz2 rfl (by decide) u l.length (flatP pvs) hs O ⟨bo, 0, none⟩ 1 1 p.cells.toList hx rfl ?_ ?_ (by unfold maxLen; omega) (by omega) hB ?_
  · intro j v hj
    rw [Addr.add_mid, Nat.zero_add]
    exact hX.cell j (by simpa using hj)
  · intro v hv
    exact (Array.all_eq_true_iff_forall_mem.1 (pg_one p)) v (by simpa using hv)
  · intro v' w' O1 G1 _ N1
    have N2 : ∀ g, v'.ownBlock = some g → u.ownBlock = some g ∨ w.heap.size ≤ g := fun g e => by
      rcases N1 g e with b | b
      · exact Or.inl b
      · exact Or.inr (by omega)
    have T := Tn.offV (s := s) G1 N2
    have F : OwnPg w' B s v' (l ++ [X]) := by
      refine ⟨pvs ++ [p], by rw [flatP_snoc, List.length_append, List.length_singleton]; exact O1, by simp [hl], fun t Y hY => ?_⟩
      rcases Nat.lt_or_ge t l.length with h1 | h1
      · rw [List.getElem?_append_left h1] at hY
        obtain ⟨q, e, H⟩ := hq t Y hY
        exact ⟨q, by rw [List.getElem?_append_left (by omega)]; exact e, H.turn T⟩
      · rw [List.getElem?_append_right h1] at hY
        have e0 : t - l.length = 0 := by
          rcases Nat.eq_zero_or_pos (t - l.length) with e | e
          · exact e
          · rw [List.getElem?_eq_none (by simp; omega)] at hY; cases hY
        rw [e0] at hY
        simp at hY
        subst hY
        exact ⟨p, by rw [List.getElem?_append_right (by omega), hl, e0]; rfl, hp.turn T⟩
    obtain ⟨ea, ec, e4⟩ := F.form
    rw [List.length_append, List.length_singleton] at e4
    subst e4
    exact hK _ _ (h ea ec w' F G1 N2)
/-- What a row of pages hangs on. -/
theorem OwnPg.new {w : World} {B s : Nat} {a : Option Addr} {n c : Nat} {l : List Pg} (h : OwnPg w B s (.slice a n c) l) (hn : n ≤ 1000000) (hB : s ≤ B) : New s w (fun w => PgsAt w ⟨a, n, c⟩ l) := by
  obtain ⟨pvs, O, hl, hq⟩ := h
  have hln : l.length = n := by
    obtain ⟨a2, c2, e⟩ := OwnPg.form (⟨pvs, O, hl, hq⟩ : OwnPg w B s (.slice a n c) l)
    simp only [Value.slice.injEq] at e
    exact e.2.1.symm
  intro w2 h2
  have O2 := owns4 O (fun b e => h2 b (Nat.le_trans hB (owns4_lt O e).1) (owns4_lt O e).2)
  have hfit : n ≤ c := by
    rcases O.2 with ⟨q1, q2⟩ | ⟨g, cap, cur, q1, _, _, q4, _⟩
    · omega
    · simp only [Value.slice.injEq] at q1
      obtain ⟨-, -, rfl⟩ := q1
      omega
  refine ⟨hln, hn, hfit, fun hn0 => ?_⟩
  have hn1 : 0 < n := hn0
  rcases O2.2 with ⟨q1, q2⟩ | ⟨g, cap, cur, q1, _⟩
  · omega
  · simp only [Value.slice.injEq] at q1
    obtain ⟨rfl, -, rfl⟩ := q1
    refine ⟨g, 0, rfl, fun t X hX => ?_⟩
    obtain ⟨p, e, H⟩ := hq t X hX
    refine ⟨p, fun j v hv => ?_, H w2 fun b hb hl2 => h2 b hb.1 hl2⟩
    have hc := O2.cells (g := g) rfl (t * 4 + j) v (flatP_at pvs t p e j v hv)
    rw [Addr.add_mid] at hc
    rw [Nat.zero_add] at hc ⊢
    exact hc
end Go.Proofs.YtcanjlofnpnhkaaGreatDoor

/- Package block: rowsFit, placesFit, Check. -/
namespace Go.Proofs.YtcanjlofnpnhkaaGreatDoor
open Go.ChangeShapes Go.WideShapes Go.ChangeAt Go.RowKit
def rfR (R : List (List Int)) (places dim : Int) : Bool := decide ((R.length : Int) = places) && R.all fun r : List Int => decide ((r.length : Int) = dim)
def rfB (C : List (List (List Int))) (places dim : Int) : Bool := C.all fun R : List (List Int) => rfR R places dim
theorem rfB_true {C : List (List (List Int))} {places dim : Int} (h : ∀ (t : Nat) (R : List (List Int)), C[t]? = some R → rfR R places dim = true) : rfB C places dim = true := by
  unfold rfB
  rw [List.all_eq_true]
  intro R hR
  obtain ⟨t, ht⟩ := List.getElem?_of_mem hR
  exact h t R ht
theorem rfB_false {C : List (List (List Int))} {places dim : Int} {t : Nat} {R : List (List Int)} (hR : C[t]? = some R) (h : rfR R places dim = false) : rfB C places dim = false := by
  cases e : rfB C places dim with
  | false => rfl
  | true =>
    unfold rfB at e
    rw [List.all_eq_true] at e
    rw [e R (List.mem_of_getElem? hR)] at h
    cases h
theorem rfR_true {R : List (List Int)} {places dim : Int} (h1 : (R.length : Int) = places) (h : ∀ t, t < R.length → ((rowOf R t).length : Int) = dim) : rfR R places dim = true := by
  unfold rfR
  rw [Bool.and_eq_true, List.all_eq_true]
  refine ⟨by simpa using h1, fun r hr => ?_⟩
  obtain ⟨t, ht⟩ := List.getElem?_of_mem hr
  have hlt := (List.getElem?_eq_some_iff.1 ht).1
  have := h t hlt
  unfold rowOf at this
  rw [List.getD_eq_getElem?_getD, ht] at this
  simpa using this
theorem rfR_short {R : List (List Int)} {places dim : Int} (h1 : (R.length : Int) ≠ places) : rfR R places dim = false := by
  unfold rfR
  rw [Bool.and_eq_false_iff]
  exact Or.inl (by simpa using h1)
theorem rfR_row {R : List (List Int)} {places dim : Int} {t : Nat} (ht : t < R.length) (h : ((rowOf R t).length : Int) ≠ dim) : rfR R places dim = false := by
  cases e : rfR R places dim with
  | false => rfl
  | true =>
    unfold rfR at e
    rw [Bool.and_eq_true, List.all_eq_true] at e
    have := e.2 _ (List.getElem_mem ht)
    unfold rowOf at h
    rw [List.getD_eq_getElem?_getD, List.getElem?_eq_getElem ht] at h
    exact absurd (by simpa using this) h
set_option maxRecDepth 100000 in
set_option maxHeartbeats 1600000 in
theorem rowsFit_any (ao : Option Addr) (m ca : Nat) (C : List (List (List Int))) (places dim : Int) (w : World) (hC : CubeAt w ao m C) :
   Calls Tryz.prog 44 #[.slice ao m ca, .int .i64 places, .int .i64 dim] w fun e w' => e = .returned (.bool (rfB C places dim)) ∧ w' = w := by
  have hm := hC.max
  have HLN : Hid (C.length = m) := hC.len
  obtain ⟨q, hq⟩ : ∃ q, rfB C places dim = q := ⟨_, rfl⟩
  rw [hq]
  have HQ : Hid (rfB C places dim = q) := hq
  clear hq
  go_enter Tryz.func44, Tryz.ntmps44
  go_wp2
  go_loopg [13] m (fun r i wr => ∃ k : Nat, k ≤ m ∧ r = m - k ∧ i = .int .i64 (k : Int) ∧ w = wr ∧ ∀ t R, t < k → C[t]? = some R → rfR R places dim = true)
  case atStart => exact ⟨0, by omega, by omega, rfl, rfl, fun t R h => by omega⟩
  case round =>
    obtain ⟨k, hk, rfl, rfl, rfl, HA⟩ := hrel
    by_cases hlt : k < m
    · obtain ⟨b, o, rfl, hc⟩ := hC.cells (by omega)
      have hR : C[k]? = some (C[k]'(by rw [HLN.out]; exact hlt)) := List.getElem?_eq_getElem _
      generalize C[k]'(by rw [HLN.out]; exact hlt) = R at hR
      obtain ⟨ro, n, c, k1, k2, k3, k4, G⟩ := hc k R hR
      have hn := G.max
      have hgl := G.len
      have HGL : Hid (R.length = n) := hgl
      clear hc hC hgl
      by_cases hnp : (n : Int) = places
      · have hnp2 : ((n : Int) == places) = true := by simpa using hnp
        have HNP : Hid ((n : Int) = places) := hnp
        clear hnp
        go_upto_region 7 with fail
        clear k1 hnp2
        go_loopg [23] n (fun r i wr => ∃ j : Nat, j ≤ n ∧ r = n - j ∧ i = .int .i64 (j : Int) ∧ w = wr ∧ ∀ t, t < j → ((rowOf R t).length : Int) = dim)
        case atStart => exact ⟨0, by omega, by omega, rfl, rfl, fun t h => by omega⟩
        case round =>
          obtain ⟨j, hj, rfl, rfl, rfl, HB⟩ := hrel
          by_cases hjt : j < n
          · obtain ⟨b2, o2, rfl, hr⟩ := G.cells (by omega)
            obtain ⟨r3, l3, c3, s1, A⟩ := hr j hjt
            have hal := A.row.len
            have HAL : Hid ((rowOf R j).length = l3) := hal
            clear hr G A hal
            by_cases hld : (l3 : Int) = dim
            · have hld2 : ((l3 : Int) == dim) = true := by simpa using hld
              have HLD : Hid ((l3 : Int) = dim) := hld
              clear hld
              go_wp2_with fail
              go_roundg (n - (j + 1))
              case measure => omega
              case rel =>
                refine ⟨j + 1, by omega, rfl, by go_num, rfl, fun t ht => ?_⟩
                rcases Nat.lt_or_ge t j with h | h
                · exact HB t h
                · obtain rfl : t = j := by omega
                  rw [HAL.out]
                  exact HLD.out
            · have hld2 : ((l3 : Int) == dim) = false := by simpa using hld
              have HLD : Hid (¬ (l3 : Int) = dim) := hld
              clear hld
              go_wp2_with fail
              go_ret
              refine ⟨?_, rfl⟩
              rw [← HQ.out, rfB_false hR (rfR_row (t := j) (by rw [HGL.out]; exact hjt) (by rw [HAL.out]; exact HLD.out))]
              rfl
          · obtain rfl : n = j := by omega
            go_wp2_with fail
            go_roundg (m - (k + 1))
            case measure => omega
            case rel =>
              refine ⟨k + 1, by omega, rfl, by go_num, rfl, fun t R' ht hR' => ?_⟩
              rcases Nat.lt_or_ge t k with h | h
              · exact HA t R' h hR'
              · obtain rfl : t = k := by omega
                rw [hR] at hR'
                simp only [Option.some.injEq] at hR'
                subst hR'
                exact rfR_true (by rw [HGL.out]; exact HNP.out) (fun t ht => HB t (by rw [HGL.out] at ht; exact ht))
      · have hnp2 : ((n : Int) == places) = false := by simpa using hnp
        have HNP : Hid (¬ (n : Int) = places) := hnp
        clear hnp G
        go_wp2_with fail
        go_ret
        refine ⟨?_, rfl⟩
        rw [← HQ.out, rfB_false hR (rfR_short (by rw [HGL.out]; exact HNP.out))]
        rfl
    · obtain rfl : m = k := by omega
      go_wp2
      go_ret
      refine ⟨?_, rfl⟩
      rw [← HQ.out, rfB_true fun t R hR => HA t R (by have := (List.getElem?_eq_some_iff.1 hR).1; rw [HLN.out] at this; exact this) hR]
      rfl
/-- Has a page its places? -/
def plB (n : Nat) (F : Int) : Bool := decide (0 ≤ F) && decide (n ≤ 128) && decide (1 ≤ (n : Int) - F) && decide ((n : Int) - F ≤ 16)
set_option maxRecDepth 100000 in
set_option maxHeartbeats 1600000 in
theorem placesFit_any (ta : Option Addr) (n tz : Nat) (F : Int) (ka va : Option Addr) (kn kz vn vz : Nat) (w : World) (hn : n ≤ 9223372036854775807) (hF : -9223372036854775808 ≤ F ∧ F ≤ 9223372036854775807) :
   Calls Tryz.prog 43 #[.agg #[.slice ta n tz, .int .i64 F, .slice ka kn kz, .slice va vn vz]] w fun e w' => e = .returned (.bool (plB n F)) ∧ Below w.heap.size w w' := by
  have X0 := blk_new w 30 #[.slice ta n tz, .int .i64 F, .slice ka kn kz, .slice va vn vz]
  have B0 : Below w.heap.size w (w.alloc (.cells #[.slice ta n tz, .int .i64 F, .slice ka kn kz, .slice va vn vz] 30)) := (Below.refl _ _).alloc (Nat.le_refl _) _
  generalize hw0 : w.alloc (.cells #[.slice ta n tz, .int .i64 F, .slice ka kn kz, .slice va vn vz] 30) = w0 at *
  have c0 : w0.cell? ⟨w.heap.size, 0, none⟩ = some (.slice ta n tz) := X0.cell 0 rfl
  have c1 : w0.cell? ⟨w.heap.size, 1, none⟩ = some (.int .i64 F) := X0.cell 1 rfl
  obtain ⟨q, hq⟩ : ∃ q, plB n F = q := ⟨_, rfl⟩
  have HQ : Hid (plB n F = q) := hq
  rw [hq]
  clear hq X0
  go_enter Tryz.func43, Tryz.ntmps43
  by_cases h1 : F < 0
  · go_wp2_with fail
    go_ret
    refine ⟨?_, B0⟩
    rw [← HQ.out]; unfold plB
    rw [show decide (0 ≤ F) = false from decide_eq_false (by omega)]; rfl
  · by_cases h2 : (128 : Int) < (n : Int)
    · go_wp2_with fail
      go_ret
      refine ⟨?_, B0⟩
      rw [← HQ.out]; unfold plB
      rw [show decide (n ≤ 128) = false from decide_eq_false (by omega), Bool.and_false]; rfl
    · obtain ⟨d, hd⟩ : ∃ d, (n : Int) - F = d := ⟨_, rfl⟩
      have e1' : IntKind.i64.wrap ((n : Int) - F) = d := by rw [hd]; exact wrap_in (by omega)
      have HD : Hid ((n : Int) - F = d) := hd
      clear hd
      by_cases h3 : d < 1
      · go_wp2_with fail
        go_ret
        refine ⟨?_, B0⟩
        rw [← HQ.out]; unfold plB
        have := HD.out
        rw [show decide (1 ≤ (n : Int) - F) = false from decide_eq_false (by omega), Bool.and_false]; rfl
      · go_wp2_with fail
        go_ret
        refine ⟨?_, B0⟩
        show Ending.returned (Value.bool (decide (d ≤ 16))) = _
        rw [← HQ.out]; unfold plB
        have := HD.out
        rw [show decide (0 ≤ F) = true from decide_eq_true (by omega), show decide (n ≤ 128) = true from decide_eq_true (by omega), show decide (1 ≤ (n : Int) - F) = true from decide_eq_true (by omega), HD.out]
        rfl
end Go.Proofs.YtcanjlofnpnhkaaGreatDoor

/- Package block: Check. -/
namespace Go.Proofs.YtcanjlofnpnhkaaGreatDoor
open Go.ChangeShapes Go.WideShapes Go.ChangeAt Go.RowKit
/-- The error of a block. -/
def ckN (Vo D L : Int) (X : Pg) : Int :=
  if plB X.T.length X.F = false ∨ (X.K.length : Int) ≠ L ∨ (X.V.length : Int) ≠ L then 4 else if X.T.all (tokB Vo) = true then (if rfB X.K ((X.T.length : Int) - X.F) D = true ∧ rfB X.V ((X.T.length : Int) - X.F) D = true then 0 else 4) else 7
theorem plB_true {n : Nat} {F : Int} (h : plB n F = true) : 0 ≤ F ∧ n ≤ 128 ∧ 1 ≤ (n : Int) - F ∧ (n : Int) - F ≤ 16 := by
  unfold plB at h
  simp only [Bool.and_eq_true, decide_eq_true_eq] at h
  omega
set_option maxRecDepth 100000 in
set_option maxHeartbeats 3200000 in
theorem check11_any (Vo D Hd H L : Int) (p : PgV) (X : Pg) (w : World) (hp : PgAt w p X) (hF : -9223372036854775808 ≤ X.F ∧ X.F ≤ 9223372036854775807) :
   Calls Tryz.prog 21 #[.agg (cfgC Vo D Hd H L), .agg p.cells] w fun e w' => e = .returned (.int .i64 (ckN Vo D L X)) ∧ Below w.heap.size w w' := by
  obtain ⟨⟨ta, tn, tz⟩, F, ⟨ka, kn, kz⟩, ⟨va, vn, vz⟩⟩ := p
  obtain ⟨T, F', K, V⟩ := X
  have hpf : F = F' := hp.f
  subst hpf
  have hpt : IArg w ta tn tz T := hp.t
  have hpk : CubeAt w ka kn K := hp.k
  have hpv : CubeAt w va vn V := hp.v
  have hF' : -9223372036854775808 ≤ F ∧ F ≤ 9223372036854775807 := hF
  clear hp hF
  have et := hpt.row.len
  have ek := hpk.len
  have ev := hpv.len
  have htm := hpt.row.max
  have HN : Hid (ckN Vo D L ⟨T, F, K, V⟩ = if plB tn F = false ∨ (kn : Int) ≠ L ∨ (vn : Int) ≠ L then 4 else if T.all (tokB Vo) = true then (if rfB K ((tn : Int) - F) D = true ∧ rfB V ((tn : Int) - F) D = true then 0 else 4) else 7) := by
    show _ = _
    rw [← et, ← ek, ← ev]
    rfl
  generalize ckN Vo D L ⟨T, F, K, V⟩ = res at *
  clear ek ev
  show Calls Tryz.prog 21 #[.agg (cfgC Vo D Hd H L), .agg #[.slice ta tn tz, .int .i64 F, .slice ka kn kz, .slice va vn vz]] w _
  have X0 := blk_new w 23 (cfgC Vo D Hd H L)
  have B0 : Below w.heap.size w (w.alloc (.cells (cfgC Vo D Hd H L) 23)) := (Below.refl _ _).alloc (Nat.le_refl _) _
  have s0 : (w.alloc (.cells (cfgC Vo D Hd H L) 23)).heap.size = w.heap.size + 1 := by simp
  unfold cfgC at *
  generalize hw0 : w.alloc (.cells #[.int .i64 Vo, .int .i64 D, .int .i64 Hd, .int .i64 H, .int .i64 L] 23) = w0 at *
  have X1 := blk_new w0 30 #[.slice ta tn tz, .int .i64 F, .slice ka kn kz, .slice va vn vz]
  have B1 : Below w0.heap.size w0 (w0.alloc (.cells #[.slice ta tn tz, .int .i64 F, .slice ka kn kz, .slice va vn vz] 30)) := (Below.refl _ _).alloc (Nat.le_refl _) _
  rw [s0] at X1
  generalize hw1 : w0.alloc (.cells #[.slice ta tn tz, .int .i64 F, .slice ka kn kz, .slice va vn vz] 30) = w1 at *
  replace X0 := X0.below B1
  replace B1 := below_then B0 B1
  have CF := placesFit_any ta tn tz F ka va kn kz vn vz w1 htm hF'
  have a0 : w1.cell? ⟨w.heap.size, 0, none⟩ = some (.int .i64 Vo) := X0.cell 0 rfl
  have a1 : w1.cell? ⟨w.heap.size, 1, none⟩ = some (.int .i64 D) := X0.cell 1 rfl
  have a4 : w1.cell? ⟨w.heap.size, 4, none⟩ = some (.int .i64 L) := X0.cell 4 rfl
  have b0 : w1.cell? ⟨w.heap.size + 1, 0, none⟩ = some (.slice ta tn tz) := X1.cell 0 rfl
  have b1 : w1.cell? ⟨w.heap.size + 1, 1, none⟩ = some (.int .i64 F) := X1.cell 1 rfl
  have b2 : w1.cell? ⟨w.heap.size + 1, 2, none⟩ = some (.slice ka kn kz) := X1.cell 2 rfl
  have b3 : w1.cell? ⟨w.heap.size + 1, 3, none⟩ = some (.slice va vn vz) := X1.cell 3 rfl
  go_enter Tryz.func21, Tryz.ntmps21
  cases hpl : plB tn F with
  | false =>
    rw [hpl] at CF HN
    have HR : Hid (res = 4) := by show _ = _; rw [HN.out, if_pos (Or.inl rfl)]
    clear HN hpl
    go_wp2_with fail
    refine CF.mono ?_
    rintro e w2 ⟨rfl, B2⟩
    clear hw0 hw1 a0 a1 a4 b0 b1 b2 b3
    go_wp2_with fail
    go_ret
    exact ⟨ret_int HR.out.symm, below_then B1 B2⟩
  | true =>
    rw [hpl] at CF HN
    have HP := plB_true hpl
    clear hpl
    have X1' : ∀ w2, Below w1.heap.size w1 w2 → Blk w2 (w.heap.size + 1) 30 #[.slice ta tn tz, .int .i64 F, .slice ka kn kz, .slice va vn vz] := fun w2 hb => X1.below hb
    have X0' : ∀ w2, Below w1.heap.size w1 w2 → Blk w2 w.heap.size 23 #[.int .i64 Vo, .int .i64 D, .int .i64 Hd, .int .i64 H, .int .i64 L] := fun w2 hb => X0.below hb
    by_cases hk : (kn : Int) = L
    · by_cases hv : (vn : Int) = L
      · have hk2 : ((kn : Int) == L) = true := by simpa using hk
        have hv2 : ((vn : Int) == L) = true := by simpa using hv
        have HM : Hid (res = if T.all (tokB Vo) = true then (if rfB K ((tn : Int) - F) D = true ∧ rfB V ((tn : Int) - F) D = true then 0 else 4) else 7) := by
          show _ = _
          rw [HN.out, if_neg (by simp [hk, hv])]
        clear HN
        obtain ⟨d, hd⟩ : ∃ d, (tn : Int) - F = d := ⟨_, rfl⟩
        rw [hd] at HM
        have e1' : IntKind.i64.wrap ((tn : Int) - F) = d := by rw [hd]; exact wrap_in (by omega)
        clear hd
        go_wp2_with fail
        refine CF.mono ?_
        rintro e w2 ⟨rfl, B2⟩
        replace X0 := X0.below B2
        replace X1 := X1.below B2
        have BT := below_then B1 B2
        have R := hpt.row.below BT
        have C1 := hpk.below BT
        have C2 := hpv.below BT
        clear hw0 hw1 a0 a1 a4 b0 b1 b2 b3 X0' X1' B0 B1 B2 CF hpt hpk hpv
        have a0 : w2.cell? ⟨w.heap.size, 0, none⟩ = some (.int .i64 Vo) := X0.cell 0 rfl
        have a1 : w2.cell? ⟨w.heap.size, 1, none⟩ = some (.int .i64 D) := X0.cell 1 rfl
        have a4 : w2.cell? ⟨w.heap.size, 4, none⟩ = some (.int .i64 L) := X0.cell 4 rfl
        have b0 : w2.cell? ⟨w.heap.size + 1, 0, none⟩ = some (.slice ta tn tz) := X1.cell 0 rfl
        have b1 : w2.cell? ⟨w.heap.size + 1, 1, none⟩ = some (.int .i64 F) := X1.cell 1 rfl
        have b2 : w2.cell? ⟨w.heap.size + 1, 2, none⟩ = some (.slice ka kn kz) := X1.cell 2 rfl
        have b3 : w2.cell? ⟨w.heap.size + 1, 3, none⟩ = some (.slice va vn vz) := X1.cell 3 rfl
        clear X0 X1
        obtain ⟨b, o, rfl, hc⟩ := R.cells (by omega)
        go_wp2_with fail
        go_loopg [32] tn (fun r i wr => ∃ k : Nat, k ≤ tn ∧ r = tn - k ∧ i = .int .i64 k ∧ (T.take k).all (tokB Vo) = true ∧ wr = w2)
        case atStart => exact ⟨0, by omega, by omega, rfl, rfl, rfl⟩
        case round =>
          obtain ⟨k, hkn, rfl, rfl, hall, rfl⟩ := hrel
          by_cases hlt : k < tn
          · have ck := hc k hlt
            have sx := R.small k
            have HS : Hid ((T.take (k + 1)).all (tokB Vo) = ((T.take k).all (tokB Vo) && tokB Vo (el T k))) := all_take_el (by omega)
            have HB : Hid (tokB Vo (el T k) = false → T.all (tokB Vo) = false) := fun h => all_not (by omega) h
            have HT : Hid (tokB Vo (el T k) = decide (0 ≤ el T k ∧ el T k < Vo)) := rfl
            clear hc
            generalize el T k = x at *
            by_cases h2 : x < 0
            · have HR : Hid (res = 7) := by show _ = _; rw [HM.out, HB.out (by rw [HT.out]; exact decide_eq_false (by omega))]; rfl
              clear HM HS HB HT
              go_wp2_with fail
              go_ret
              exact ⟨ret_int HR.out.symm, BT⟩
            · by_cases h3 : Vo ≤ x
              · have HR : Hid (res = 7) := by show _ = _; rw [HM.out, HB.out (by rw [HT.out]; exact decide_eq_false (by omega))]; rfl
                clear HM HS HB HT
                go_wp2_with fail
                go_ret
                exact ⟨ret_int HR.out.symm, BT⟩
              · have HA : Hid ((T.take (k + 1)).all (tokB Vo) = true) := by show _ = _; rw [HS.out, hall, HT.out, decide_eq_true (by omega)]; rfl
                clear HS HB HT
                go_wp2_with fail
                go_roundg (tn - (k + 1))
                case measure => omega
                case rel => exact ⟨k + 1, by omega, rfl, by go_num, HA.out, rfl⟩
          · obtain rfl : tn = k := by omega
            have HE : Hid (res = if rfB K d D = true ∧ rfB V d D = true then 0 else 4) := by
              show _ = _
              rw [HM.out, if_pos (by rw [← et] at hall; rw [List.take_length] at hall; exact hall)]
            clear HM hall hc
            have RK := rowsFit_any ka kn kz K d D wr C1
            have RV := rowsFit_any va vn vz V d D wr C2
            cases hq : rfB K d D with
            | false =>
              rw [hq] at RK HE
              go_wp2_with fail
              refine RK.mono ?_
              rintro e w3 ⟨rfl, rfl⟩
              go_wp2_with fail
              go_ret
              exact ⟨ret_int (by rw [HE.out]; simp), BT⟩
            | true =>
              rw [hq] at RK HE
              cases hq2 : rfB V d D with
              | false =>
                rw [hq2] at RV HE
                go_wp2_with fail
                refine RK.mono ?_
                rintro e w3 ⟨rfl, rfl⟩
                go_wp2_with fail
                refine RV.mono ?_
                rintro e w3 ⟨rfl, rfl⟩
                go_wp2_with fail
                go_ret
                exact ⟨ret_int (by rw [HE.out]; simp), BT⟩
              | true =>
                rw [hq2] at RV HE
                go_wp2_with fail
                refine RK.mono ?_
                rintro e w3 ⟨rfl, rfl⟩
                go_wp2_with fail
                refine RV.mono ?_
                rintro e w3 ⟨rfl, rfl⟩
                go_wp2_with fail
                go_ret
                exact ⟨ret_int (by rw [HE.out]; simp), BT⟩
      · have hk2 : ((kn : Int) == L) = true := by simpa using hk
        have hv2 : ((vn : Int) == L) = false := by simpa using hv
        have HR : Hid (res = 4) := by show _ = _; rw [HN.out, if_pos (Or.inr (Or.inr hv))]
        clear HN
        go_wp2_with fail
        refine CF.mono ?_
        rintro e w2 ⟨rfl, B2⟩
        replace X0 := X0.below B2
        replace X1 := X1.below B2
        clear hw0 hw1 a0 a1 a4 b0 b1 b2 b3
        have a4 : w2.cell? ⟨w.heap.size, 4, none⟩ = some (.int .i64 L) := X0.cell 4 rfl
        have b2 : w2.cell? ⟨w.heap.size + 1, 2, none⟩ = some (.slice ka kn kz) := X1.cell 2 rfl
        have b3 : w2.cell? ⟨w.heap.size + 1, 3, none⟩ = some (.slice va vn vz) := X1.cell 3 rfl
        go_wp2_with fail
        go_ret
        exact ⟨ret_int HR.out.symm, below_then B1 B2⟩
    · have hk2 : ((kn : Int) == L) = false := by simpa using hk
      have HR : Hid (res = 4) := by show _ = _; rw [HN.out, if_pos (Or.inr (Or.inl hk))]
      clear HN
      go_wp2_with fail
      refine CF.mono ?_
      rintro e w2 ⟨rfl, B2⟩
      replace X0 := X0.below B2
      replace X1 := X1.below B2
      clear hw0 hw1 a0 a1 a4 b0 b1 b2 b3
      have a4 : w2.cell? ⟨w.heap.size, 4, none⟩ = some (.int .i64 L) := X0.cell 4 rfl
      have b2 : w2.cell? ⟨w.heap.size + 1, 2, none⟩ = some (.slice ka kn kz) := X1.cell 2 rfl
      go_wp2_with fail
      go_ret
      exact ⟨ret_int HR.out.symm, below_then B1 B2⟩
end Go.Proofs.YtcanjlofnpnhkaaGreatDoor
