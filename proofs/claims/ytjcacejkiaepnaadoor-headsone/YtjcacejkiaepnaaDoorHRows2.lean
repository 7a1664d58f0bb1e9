/- Two rows of rows that grow side by side; rows that are all alike; one row alone. -/
import Derived.Test.YtjcacejkiaepnaaDoorHSwap
import Derived.Test.YtjcacejkiaepnaaDoorApp2
namespace Go.Proofs.YtjcacejkiaepnaaDoor
open Go.ChangeShapes Go.WideShapes Go.ChangeAt Go.RowKit
theorem owns_of_block {w w' : World} {B e g k cap : Nat} {vs : List Value} (h : w.ownsRow B e 1 (.slice (some ⟨g, 0, none⟩) k cap) k vs) (hb : w'.heap[g]? = w.heap[g]?) : w'.ownsRow B e 1 (.slice (some ⟨g, 0, none⟩) k cap) k vs := by
  refine ⟨h.1, ?_⟩
  rcases h.2 with ⟨h3, _⟩ | ⟨g', c', cur, hv, hg, hh, hr⟩
  · cases h3
  · simp only [Value.slice.injEq, Option.some.injEq, Addr.mk.injEq, and_true, true_and] at hv
    obtain ⟨rfl, rfl⟩ := hv
    exact Or.inr ⟨g, cap, cur, rfl, hg, hb.trans hh, hr⟩
theorem OwnGrid.lt {w : World} {B g k cap : Nat} {R : List (List Int)} (h : OwnGrid w B g k cap R) : g < w.heap.size := h.gr.lt
theorem OwnGrid.mono {w : World} {B B' g k cap : Nat} {R : List (List Int)} (h : OwnGrid w B g k cap R) (hB : B' ≤ B) : OwnGrid w B' g k cap R := by
  obtain ⟨vs, h1, gs, h3, h4⟩ := h.own
  refine ⟨Nat.le_trans hB h.base, h.len, vs, ⟨h1.1, ?_⟩, gs, fun t ht => let ⟨m, c, e, F⟩ := h3 t ht; ⟨m, c, e, F.mono hB⟩, h4⟩
  rcases h1.2 with ⟨h3, _⟩ | ⟨g', c', cur, hv, hg, hr⟩
  · cases h3
  · exact Or.inr ⟨g', c', cur, hv, Nat.le_trans hB hg, hr⟩
theorem OwnGrid.keep {w w' : World} {B B2 g g2 k k2 cap cap2 : Nat} {R R2 : List (List Int)} (h : OwnGrid w B g k cap R) (h2 : OwnGrid w B2 g2 k2 cap2 R2) (hne : g ≠ g2) (hb : ∀ b, b < w.heap.size → b ≠ g2 → w'.heap[b]? = w.heap[b]?) : OwnGrid w' B g k cap R := by
  have hl := h.lt
  obtain ⟨vs, h1, gs, h3, h4⟩ := h.own
  exact ⟨h.base, h.len, vs, owns_of_block h1 (hb g hl hne), gs, fun t ht => let ⟨m, c, e, F⟩ := h3 t ht; ⟨m, c, e, F.of_block (hb _ F.lt (h2.gr.ne F))⟩, h4⟩
/-- append(out, row), out a row of rows of the call's own, the row a newer one: all other blocks stay. -/
theorem wpList_append_grid2 {w : World} {ops : Array Oper} {rest : List Oper} {o : Oper} {a : Act} {Q : Exit → Act → World → Prop} (hgd : o.guard = none) (s x : Operand)
    (ho : o.op = .call { callee := .builtin .append, args := #[s, x], argTypes := #[23, 23] })
    (B g k cap : Nat) (R : List (List Int)) (hs : a.eval s = .slice (some ⟨g, 0, none⟩) k cap) (w1 : World) (hF1 : OwnGrid w1 B g k cap R) (hold : Below w1.heap.size w1 w)
    (bo g1 m1 c1 : Nat) (Y : List Int) (hx : a.eval x = .slice (some ⟨bo, 0, none⟩) 1 1) (hX : w.cell? ⟨bo, 0, none⟩ = some (.slice (some ⟨g1, 0, none⟩) m1 c1)) (hY : Fresh w B g1 m1 c1 Y) (hg1 : w1.heap.size ≤ g1)
    (hlen : k + 1 ≤ 1048576) (hB : B ≤ w.heap.size)
    (h : ∀ g' cap' w', OwnGrid w' B g' (k + 1) cap' (R ++ [Y]) → Below B w w' → (∀ b, b < w.heap.size → b ≠ g → w'.heap[b]? = w.heap[b]?) → (g' = g ∨ g' = w.heap.size) → wpList Tryd.prog ops Q rest (a.put o.dst (.slice (some ⟨g', 0, none⟩) (k + 1) cap')) w') : wpList Tryd.prog ops Q (o :: rest) a w := by
  obtain ⟨i0, hi, hz0, hz1, hz2⟩ := info_parts Tryd.infoRow
  have hF := hF1.below hold
  obtain ⟨vs, h1', gs, h2', h3⟩ := hF1.own
  have h1 := owns_below h1' hold
  have h2 : ∀ t, t < k → ∃ m c, vs[t]? = some (.slice (some ⟨gs t, 0, none⟩) m c) ∧ Fresh w B (gs t) m c (rowOf R t) := fun t ht => let ⟨m, c, e, F⟩ := h2' t ht; ⟨m, c, e, F.below hold⟩
  have hlt : ∀ t, t < k → gs t < w1.heap.size := fun t ht => let ⟨m, c, e, F⟩ := h2' t ht; F.lt
  refine wpList_plain hgd fun _ hK => wp_append_own2 w s x 23 ho B 22 i0 (.slice none 0 0) 1 24 Tryd.underlying23 hi hz0 hz1 hz2 rfl (by decide) _ k _ hs h1 ⟨bo, 0, none⟩ 1 1 [.slice (some ⟨g1, 0, none⟩) m1 c1] hx rfl ?_ (by intro u hu; simp at hu; subst hu; rfl) (by unfold maxLen; omega) (by omega) hB ?_
  · intro j u hj
    match j, hj with
    | 0, hj =>
      simp at hj
      subst hj
      have e2 : (Addr.mk bo 0 none).add 0 = ⟨bo, 0, none⟩ := by simp [Addr.add]
      rw [e2, hX]
  · intro v' w' hown hg hnil hwh
    have hb : Below B w w' := (Below.refl _ _).grown hg hB (fun k hk => by simp [Value.ownBlock] at hk; subst hk; exact hF.base)
    have keep : ∀ {b m c : Nat} {Z : List Int}, Fresh w B b m c Z → Fresh w' B b m c Z := fun {b m c Z} F => F.of_block (hg.block b F.lt (by
      intro e
      simp [Value.ownBlock] at e
      exact hF.gr.ne F e))
    have hlv : vs.length = k := by have := h1.1; omega
    have hown2 := hown
    obtain ⟨_, h4⟩ := hown2
    rcases h4 with ⟨_, h5⟩ | ⟨g', c', cur', hv, hg2, hr⟩
    · omega
    · subst hv
      refine hK _ _ (h g' c' w' ⟨hg2, by simp [hF.len], _, hown, fun t => if t < k then gs t else g1, fun t ht => ?_, fun t u htu hu => ?_⟩ hb (fun b hb2 hne => hg.block b hb2 (fun e => hne (Option.some.inj e))) ?_)
      · rw [rowOf_snoc, hF.len]
        by_cases htk : t < k
        · obtain ⟨m3, c3, e3, F3⟩ := h2 t htk
          simp only [if_pos htk]
          exact ⟨m3, c3, by rw [List.getElem?_append_left (by omega)]; exact e3, keep F3⟩
        · obtain rfl : t = k := by omega
          simp only [Nat.lt_irrefl, if_false, if_pos]
          exact ⟨m1, c1, by rw [List.getElem?_append_right (by omega), hlv]; simp, keep hY⟩
      · simp only []
        rw [if_pos (show t < k by omega)]
        by_cases huk : u < k
        · rw [if_pos huk]; exact h3 t u htu huk
        · rw [if_neg huk]; have := hlt t (by omega); omega
      · rcases hwh g' rfl with hq | hq
        · exact Or.inl (Option.some.inj hq).symm
        · exact Or.inr hq
theorem rowOf_rep {Y : List Int} {k t : Nat} (h : t < k) : rowOf (List.replicate k Y) t = Y := by
  unfold rowOf
  simp [List.getD_eq_getElem?_getD, h]
theorem sumTo_const (x : Int) (n : Nat) : sumTo (fun _ => x) n = n * x := by
  induction n with
  | zero => rw [sumTo_zero]; simp
  | succ n ih => rw [sumTo_succ, ih, Int.natCast_add, Int.add_mul]; simp
/-- With one key alone the answer is its value. -/
theorem att_one (Q Kr Vr : List Int) (s j : Nat) (hV : Small Vr) : attEl Q [Kr] [Vr] 1 s j = max (el Vr j) (-2147483647) := by
  unfold attEl
  have z : ∀ i, i < 1 → i = 0 := fun i hi => by omega
  rw [head_sum _ _ _ _ _ _ (by omega) (fun i hi => by rw [z i hi]; exact hV)]
  rw [sumTo_succ, sumTo_zero, wgt_same (x := el (scrs (partOf Q (j / s * s) s) (partsOf [Kr] (j / s * s) s) 1 s) 0) (by omega) (fun j hj => by rw [z j hj]) (by omega)]
  have b := hV.el j
  show sat (rnd (0 + 65536 / 1 * el Vr j) 65536) = _
  generalize el Vr j = v at *
  unfold sat rnd
  omega
/-- With keys and values all alike the answer is nearly the value. -/
theorem att_rep (Q Kr Vr : List Int) (s j m : Nat) (hm : 2 ≤ m ∧ m ≤ 40) (hV : Small Vr) : ∃ c : Int, 65536 - m < c ∧ c ≤ 65536 ∧ attEl Q (List.replicate m Kr) (List.replicate m Vr) m s j = sat (rnd (c * el Vr j) 65536) := by
  unfold attEl
  rw [head_sum _ _ _ _ _ _ (by omega) (fun i hi => by rw [rowOf_rep hi]; exact hV)]
  have hw : ∀ i, i < m → wgt (scrs (partOf Q (j / s * s) s) (partsOf (List.replicate m Kr) (j / s * s) s) m s) m i = 65536 / m := fun i hi => by
    refine wgt_same (x := scoreN (partOf Q (j / s * s) s) (partOf Kr (j / s * s) s) s) (by omega) (fun t ht => ?_) hi
    unfold scrs
    rw [el_tab ht, rowOf_parts (by simpa using ht), rowOf_rep ht]
  rw [sumTo_congr (g := fun _ => 65536 / (m : Int) * el Vr j) fun i hi => by rw [hw i hi, rowOf_rep hi], sumTo_const, ← Int.mul_assoc]
  refine ⟨(m : Int) * (65536 / (m : Int)), ?_, ?_, rfl⟩
  · have := Int.emod_add_mul_ediv 65536 (m : Int)
    have := Int.emod_lt_of_pos 65536 (show (0 : Int) < m by omega)
    omega
  · have := Int.emod_add_mul_ediv 65536 (m : Int)
    have := Int.emod_nonneg 65536 (show (m : Int) ≠ 0 by omega)
    omega
/-- How far from the value that is. -/
theorem near_rep {v c : Int} {m : Nat} (hv : -2147483648 ≤ v ∧ v ≤ 2147483647) (h1 : 65536 - m < c) (h2 : c ≤ 65536) (hm : 2 ≤ m ∧ m ≤ 40) :
    ∃ T : Int, T = (if v < 0 then -v else v) * m ∧ 0 ≤ T ∧ T ≤ 85899345920 ∧ v - sat (rnd (c * v) 65536) ≤ T / 65536 + 1 ∧ -(T / 65536 + 1) ≤ v - sat (rnd (c * v) 65536) := by
  refine ⟨_, rfl, ?_⟩
  by_cases hn : v < 0
  · rw [if_pos hn]
    have a1 := Int.mul_le_mul_of_nonneg_right (show (65536 - m : Int) ≤ c by omega) (show (0 : Int) ≤ -v by omega)
    have a2 := Int.mul_le_mul_of_nonneg_right h2 (show (0 : Int) ≤ -v by omega)
    have a3 := Int.mul_le_mul_of_nonneg_left (show (m : Int) ≤ 40 by omega) (show (0 : Int) ≤ -v by omega)
    have a4 := Int.mul_nonneg (show (0 : Int) ≤ -v by omega) (show (0 : Int) ≤ m by omega)
    rw [Int.sub_mul, Int.mul_comm (m : Int)] at a1
    have e : c * v = -(c * -v) := by rw [Int.mul_neg, Int.neg_neg]
    rw [e]
    generalize c * -v = P at *
    generalize -v * (m : Int) = T at *
    unfold sat rnd
    omega
  · rw [if_neg hn]
    have a1 := Int.mul_le_mul_of_nonneg_right (show (65536 - m : Int) ≤ c by omega) (show (0 : Int) ≤ v by omega)
    have a2 := Int.mul_le_mul_of_nonneg_right h2 (show (0 : Int) ≤ v by omega)
    have a3 := Int.mul_le_mul_of_nonneg_left (show (m : Int) ≤ 40 by omega) (show (0 : Int) ≤ v by omega)
    have a4 := Int.mul_nonneg (show (0 : Int) ≤ v by omega) (show (0 : Int) ≤ m by omega)
    rw [Int.sub_mul, Int.mul_comm (m : Int)] at a1
    generalize c * v = P at *
    generalize v * (m : Int) = T at *
    unfold sat rnd
    omega
end Go.Proofs.YtjcacejkiaepnaaDoor
