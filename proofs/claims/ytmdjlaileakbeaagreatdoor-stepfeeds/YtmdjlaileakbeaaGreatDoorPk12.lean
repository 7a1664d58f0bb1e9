/- Contracts of the program's functions, part 12 of 19: what each call returns and leaves of memory. -/
import Derived.Test.YtmdjlaileakbeaaGreatDoorPk11
import Derived.Test.YtmdjlaileakbeaaGreatDoorPk10
import Derived.Test.YtmdjlaileakbeaaGreatDoorPk6
import Derived.Laws.AppendOwnNone
import Derived.Test.YtmdjlaileakbeaaGreatDoorPk3
import Derived.Test.YtmdjlaileakbeaaGreatDoorPk7
import Derived.Deep.CutBlock
import Derived.Deep.CutRange
import Derived.Test.YtmdjlaileakbeaaGreatDoorPk8
import Derived.Deep.MidRow
/- The document's Feed of layer 9: rows that nobody asks, what it answers. -/
namespace Go.Proofs.YtmdjlaileakbeaaGreatDoor
open Go.ChangeShapes Go.WideShapes Go.ChangeAt Go.RowKit
/-- As many lists of as many empty rows as there are: k of them. -/
def nilK (n k : Nat) : List (List (List Int)) := List.replicate k (List.replicate n [])
def nilR (L n : Nat) : List (List (List Int)) := if n = 0 then [] else nilK n (L + 1)
theorem nilK_snoc (n k : Nat) : nilK n (k + 1) = nilK n k ++ [List.replicate n []] := by unfold nilK; rw [List.replicate_succ']
theorem nilK_len (n k : Nat) : (nilK n k).length = k := by unfold nilK; simp
theorem nilK_at {n k l : Nat} (h : l < k) : (nilK n k).getD l [] = List.replicate n [] := by
  unfold nilK
  rw [List.getD_eq_getElem?_getD, List.getElem?_replicate, if_pos h]
  rfl
theorem nilR_m (L n : Nat) : (if (nilR L n).length = 0 then 0 else ((nilR L n).getD 0 []).length) = n := by
  unfold nilR
  by_cases h : n = 0
  · rw [if_pos h]; exact h.symm
  · rw [if_neg h, if_neg (by rw [nilK_len]; omega), nilK_at (by omega)]; simp
theorem nilR_at {L n l : Nat} (h : l ≤ L) : ((nilR L n).getD l []).length = n := by
  unfold nilR
  by_cases h0 : n = 0
  · rw [if_pos h0, h0]; rfl
  · rw [if_neg h0, nilK_at (by omega)]; simp
theorem nilR_small (L n l : Nat) (hn : n ≤ 1000) : ((nilR L n).getD l []).length ≤ 1000 := by
  unfold nilR
  by_cases h0 : n = 0
  · rw [if_pos h0]; simp
  · rw [if_neg h0]
    by_cases h : l < L + 1
    · rw [nilK_at h]; simp; exact hn
    · unfold nilK
      rw [List.getD_eq_getElem?_getD, List.getElem?_eq_none (by simp; omega)]
      simp
theorem nils_grid {w : World} {g n : Nat} (hn : n ≤ 9223372036854775807) (h : ∀ i, i < n → w.cell? ⟨g, i, none⟩ = some (.slice none 0 0)) : GridAt w (some ⟨g, 0, none⟩) n (List.replicate n []) := by
  refine ⟨by simp, hn, fun _ => ⟨g, 0, rfl, fun t ht => ⟨none, 0, 0, by rw [Nat.zero_add]; exact h t ht, ?_⟩⟩⟩
  have e : rowOf (List.replicate n ([] : List Int)) t = [] := by
    unfold rowOf
    rw [List.getD_eq_getElem?_getD, List.getElem?_replicate, if_pos ht]
    rfl
  rw [e]
  exact ⟨RowAt.nil w none, by omega, by omega, fun _ => rfl, fun b o e => by cases e⟩
theorem CubeAt.pcw {w w' : World} {q : Nat → Prop} {s : Sl} {C : List (List (List Int))} (h : CubeAt w s.ao s.n C) (hs : s.n ≤ 1000) (hne : ∀ R ∈ C, 1 ≤ R.length) (hb : Below w.heap.size w w') (hq : ∀ b, b < w.heap.size → q b) : PCubeW q w' s C := ⟨h.len, hs, fun hn => by
  obtain ⟨b, o, e, hc⟩ := h.cells hn
  have lt0 : b < w.heap.size := by
    obtain ⟨R, hR⟩ : ∃ R, C[0]? = some R := ⟨_, List.getElem?_eq_getElem (by have := h.len; omega)⟩
    obtain ⟨ro, n, c, h1, _⟩ := hc 0 R hR
    simpa using World.block_lt_of_cell? w _ h1
  refine ⟨b, o, e, hq b lt0, fun t R hR => ?_⟩
  obtain ⟨ro, n, c, h1, h2, h3, h4, h5⟩ := hc t R hR
  have h6 := hne R (List.mem_of_getElem? hR)
  have h7 := h5.len
  obtain ⟨b1, o1, rfl, h8⟩ := h5.cells (by omega)
  obtain ⟨r9, m9, c9, h9, _⟩ := h8 0 (by omega)
  have lt1 : b1 < w.heap.size := by simpa using World.block_lt_of_cell? w _ h9
  exact ⟨b1, o1, n, c, cell_keep h1 hb, h3, h4, hq b1 lt1, fun w2 h2 => h5.same fun b hb' => (h2 b (hq b hb') (Nat.lt_of_lt_of_le hb' hb.size)).trans (hb.block b hb')⟩⟩
theorem goK_new (M : Mdl) (D H Hd m L : Nat) (K V : List (List (List Int))) (x : List Int) : (List.range L).map (goK M D H Hd m K V x) = newK M D H Hd m L K V x := rfl
theorem goV_new (M : Mdl) (D H Hd m L : Nat) (K V : List (List (List Int))) (x : List Int) : (List.range L).map (goV M D H Hd m K V x) = newV M D H Hd m L K V x := rfl
theorem fit_rows {V D L : Nat} {X : Vw} (hf : VwFit (V : Int) D L X) : (∀ l, l < L → ((X.K).getD l []).length = X.T.length ∧ ∀ t, t < X.T.length → (rowOf (X.K.getD l []) t).length = D) ∧ ∀ l, l < L → ((X.V).getD l []).length = X.T.length ∧ ∀ t, t < X.T.length → (rowOf (X.V.getD l []) t).length = D := by
  have go : ∀ C : List (List (List Int)), (C.length = if X.T.length = 0 then 0 else L) → (∀ R ∈ C, R.length = X.T.length ∧ ∀ t, t < X.T.length → (rowOf R t).length = D) → ∀ l, l < L → (C.getD l []).length = X.T.length ∧ ∀ t, t < X.T.length → (rowOf (C.getD l []) t).length = D := fun C hC hR l hl => by
    by_cases h0 : X.T.length = 0
    · rw [if_pos h0] at hC
      rw [List.length_eq_zero_iff.1 hC, h0]
      exact ⟨rfl, fun t ht => absurd ht (by omega)⟩
    · rw [if_neg h0] at hC
      rw [List.getD_eq_getElem?_getD, List.getElem?_eq_getElem (by omega)]
      exact hR _ (List.getElem_mem _)
  exact ⟨go _ hf.k hf.ks, go _ hf.v hf.vs⟩
theorem fit_one {V D L : Nat} {X : Vw} (hf : VwFit (V : Int) D L X) : (∀ R ∈ X.K, 1 ≤ R.length) ∧ ∀ R ∈ X.V, 1 ≤ R.length := by
  by_cases h0 : X.T.length = 0
  · have h1 := hf.k
    have h2 := hf.v
    rw [if_pos h0] at h1 h2
    rw [List.length_eq_zero_iff.1 h1, List.length_eq_zero_iff.1 h2]
    exact ⟨(fun R hR => by cases hR), (fun R hR => by cases hR)⟩
  · exact ⟨(fun R hR => by have := (hf.ks R hR).1; omega), (fun R hR => by have := (hf.vs R hR).1; omega)⟩
theorem ints_made (w : World) (B : Nat) (hB : B ≤ w.heap.size) : IOwn (w.alloc (.cells #[] 3)) B (.slice (some ⟨w.heap.size, 0, none⟩) 0 0) 0 [] :=
  owns_mono (World.ownsRow_made w #[] 0 (Nat.le_refl _) (by decide) rfl) hB (fun _ _ => rfl)
theorem iarg_oneF {w : World} {g : Nat} {x : Int} (h : Blk w g 3 #[.int .i64 x]) (hx : -9223372036854775808 ≤ x ∧ x ≤ 9223372036854775807) : IArg w (some ⟨g, 0, none⟩) 1 1 [x] := by
  refine ⟨⟨rfl, by omega, fun k => ?_, fun _ => ⟨g, 0, rfl, fun t ht => ?_⟩⟩, Nat.le_refl _, by omega, fun h => by cases h⟩
  · rcases k with _ | k
    · exact hx
    · rw [el_over (by simp)]; omega
  · obtain rfl : t = 0 := by omega
    exact h.cell 0 rfl
/-- append of numbers onto a row of the call's own, as one operation. -/
theorem wp_append_i {w : World} {o : Oper} {a : Act} {K : Act → World → Prop} {Q : Exit → Act → World → Prop} (s x : Operand)
    (ho : o.op = .call { callee := .builtin .append, args := #[s, x], argTypes := #[30, 30] })
    (B : Nat) (v : Value) (n : Nat) (A : List Int) (hs : a.eval s = v) (O : IOwn w B v n A) (ao : Option Addr) (m c : Nat) (Z : List Int) (hx : a.eval x = .slice ao m c) (hZ : IArg w ao m c Z)
    (hlen : n + m ≤ 1048576) (hB : B ≤ w.heap.size)
    (h : ∀ v' w', IOwn w' B v' (n + m) (A ++ Z) → w.grownBy w' v.ownBlock → (∀ g, v'.ownBlock = some g → v.ownBlock = some g ∨ w.heap.size ≤ g) → K (a.put o.dst v') w') : o.wp Tryz.prog a w K Q := by
  obtain ⟨i0, hi, hzz⟩ := Option.map_eq_some_iff.1 Tryz.infoInt
  simp only [Prod.mk.injEq] at hzz
  obtain ⟨hz0, hz1, hz2⟩ := hzz
  cases ao with
  | none =>
    have hc0 := hZ.nil rfl
    have hm0 : m = 0 := by have := hZ.fit; omega
    subst hm0
    obtain rfl : Z = [] := List.length_eq_zero_iff.1 hZ.row.len
    rw [hc0] at hx
    have hrun := run_append_owned_none (P := Tryz.prog) (w := w) B 30 o.type 3 i0 1 Tryz.underlying30 hi v n _ O
    unfold Oper.wp
    simp [execOp, ho, resolve, invoke, builtin, hs, hx, hrun, Result.andThen]
    exact h v w (by rw [List.append_nil]; exact O) (World.grownBy.refl _ _) (fun g e => Or.inl e)
  | some ad =>
    refine wp_append_own2 w s x 30 ho B 3 i0 (.int .i64 0) 1 8 Tryz.underlying30 hi hz0 hz1 hz2 rfl (by decide) v n _ hs O ad m c (Z.map (Value.int .i64)) hx (by simp [hZ.row.len]) hZ.row.vals (ints_oneCell _ _) (by unfold maxLen; omega) (by omega) hB ?_
    intro v' w' O1 G1 _ N1
    exact h v' w' (by unfold IOwn; rw [List.map_append]; exact O1) G1 (fun g e => by rcases N1 g e with b | b; exact Or.inl b; exact Or.inr (by omega))
theorem yields_rowF {ops : Array Oper} {S : World → Prop} {op : Oper} {a : Act} (hw : Region.wanted op (yielded ops a.tmps) = true) (ty : TypeId) (x : Operand) (ho : op.op = .load ty x)
    (g : Nat) (hx : a.eval x = .pointer (some ⟨g, 0, none⟩)) (T : TypeId) (cs : Array Value) (d : TypeDesc) (hS : ∀ w, S w → Blk w g T cs) (hu : Tryz.prog.underlying ty = some d) (hd : d.isRow = true) (hi : (Tryz.prog.info? ty).map (·.size) = some cs.size) :
    YieldsIf Tryz.prog ops S op (.agg cs) a := by
  have := yieldsIf_load_mid (P := Tryz.prog) (S := S) hw ty x ho g 0 hx cs.toList d (fun w h j v hv => by rw [Nat.zero_add]; exact (hS w h).cell j (by simpa using hv)) hu hd (by simpa using hi)
  simpa using this
theorem toks_small {A : List Int} {t : Int} (hA : ∀ k, -9223372036854775808 ≤ el A k ∧ el A k ≤ 9223372036854775807) (ht : -9223372036854775808 ≤ t ∧ t ≤ 9223372036854775807) (k : Nat) : -9223372036854775808 ≤ el ([] ++ A ++ [t]) k ∧ el ([] ++ A ++ [t]) k ≤ 9223372036854775807 := by
  rw [List.nil_append]
  rcases Nat.lt_trichotomy k A.length with h | h | h
  · have e : el (A ++ [t]) k = el A k := by unfold el; rw [List.getD_eq_getElem?_getD, List.getD_eq_getElem?_getD, List.getElem?_append_left h]
    rw [e]; exact hA k
  · subst h
    have e : el (A ++ [t]) A.length = t := by unfold el; simp [List.getD_eq_getElem?_getD]
    rw [e]; exact ht
  · rw [el_over (by simp; omega)]; omega
end Go.Proofs.YtmdjlaileakbeaaGreatDoor

/- Rows of rows of the call's own: a copy of at most so many rows of at most 40 numbers. -/
namespace Go.Proofs.YtmdjlaileakbeaaGreatDoor
open Go.ChangeShapes Go.WideShapes Go.ChangeAt Go.RowKit
theorem rowOf_snoc (R : List (List Int)) (Y : List Int) (t : Nat) : rowOf (R ++ [Y]) t = if t < R.length then rowOf R t else if t = R.length then Y else [] := by
  unfold rowOf
  simp only [List.getD_eq_getElem?_getD]
  by_cases h : t < R.length
  · rw [if_pos h, List.getElem?_append_left h]
  · rw [if_neg h, List.getElem?_append_right (by omega)]
    by_cases e : t = R.length
    · subst e; simp
    · rw [if_neg e, List.getElem?_eq_none (by simp; omega)]; rfl
/-- Block g is a row of rows, all of the call's own, one above the other. -/
structure OwnGrid (w : World) (B g k cap : Nat) (R : List (List Int)) : Prop where
  base : B ≤ g
  len : R.length = k
  own : ∃ vs, w.ownsRow B 24 1 (.slice (some ⟨g, 0, none⟩) k cap) k vs ∧ ∃ gs : Nat → Nat, (∀ t, t < k → ∃ m c, vs[t]? = some (.slice (some ⟨gs t, 0, none⟩) m c) ∧ Fresh w B (gs t) m c (rowOf R t)) ∧ ∀ t u, t < u → u < k → gs t < gs u
theorem own_block {w : World} {B e g k cap : Nat} {vs : List Value} (h : w.ownsRow B e 1 (.slice (some ⟨g, 0, none⟩) k cap) k vs) : B ≤ g ∧ ∃ cur, w.heap[g]? = some (.cells cur e (0, 0)) := by
  rcases h.2 with ⟨h3, _⟩ | ⟨g', c', cur, hv, hg, hh, _⟩
  · cases h3
  · simp only [Value.slice.injEq, Option.some.injEq, Addr.mk.injEq, and_true] at hv
    obtain ⟨rfl, -⟩ := hv
    exact ⟨hg, cur, hh⟩
theorem OwnGrid.grid {w : World} {B g k cap : Nat} {R : List (List Int)} (h : OwnGrid w B g k cap R) (hk : k ≤ 9223372036854775807) : GridAt w (some ⟨g, 0, none⟩) k R := by
  obtain ⟨vs, h1, gs, h2, _⟩ := h.own
  refine ⟨h.len, hk, fun _ => ⟨g, 0, rfl, fun t ht => ?_⟩⟩
  obtain ⟨m, c, e, F⟩ := h2 t ht
  have hc := h1.cells (g := g) rfl t _ e
  have e2 : (Addr.mk g 0 none).add t = ⟨g, t, none⟩ := by simp [Addr.add]; intro h; exact h.symm
  rw [e2] at hc
  exact ⟨_, _, _, by rw [Nat.zero_add]; exact hc, F.arg⟩
theorem OwnGrid.below {w w' : World} {B g k cap : Nat} {R : List (List Int)} (h : OwnGrid w B g k cap R) (hb : Below w.heap.size w w') : OwnGrid w' B g k cap R := by
  obtain ⟨vs, h1, gs, h2, h3⟩ := h.own
  exact ⟨h.base, h.len, vs, owns_below h1 hb, gs, fun t ht => let ⟨m, c, e, F⟩ := h2 t ht; ⟨m, c, e, F.below hb⟩, h3⟩
theorem ownGrid_empty (w : World) : OwnGrid (w.alloc (.cells #[] 24)) w.heap.size w.heap.size 0 0 [] :=
  ⟨Nat.le_refl _, rfl, [], ⟨rfl, Or.inr ⟨w.heap.size, 0, #[], rfl, Nat.le_refl _, heap_alloc_new _ _, Nat.le_refl _, by decide, rfl, rfl⟩⟩, fun t => t, fun t ht => by omega, fun t u _ hu => by omega⟩
/-- append(out, row), out a row of rows of the call's own, the row a newer one. -/
theorem wpList_append_grid {w : World} {ops : Array Oper} {rest : List Oper} {o : Oper} {a : Act} {Q : Exit → Act → World → Prop} (hgd : o.guard = none) (s x : Operand)
    (ho : o.op = .call { callee := .builtin .append, args := #[s, x], argTypes := #[77, 77] })
    (B g k cap : Nat) (R : List (List Int)) (hs : a.eval s = .slice (some ⟨g, 0, none⟩) k cap) (hF : OwnGrid w B g k cap R) (w1 : World) (hF1 : OwnGrid w1 B g k cap R) (hold : Below w1.heap.size w1 w)
    (bo g1 m1 c1 : Nat) (Y : List Int) (hx : a.eval x = .slice (some ⟨bo, 0, none⟩) 1 1) (hX : w.cell? ⟨bo, 0, none⟩ = some (.slice (some ⟨g1, 0, none⟩) m1 c1)) (hY : Fresh w B g1 m1 c1 Y) (hg1 : w1.heap.size ≤ g1)
    (hlen : k + 1 ≤ 1048576) (hB : B ≤ w.heap.size)
    (h : ∀ g' cap' w', OwnGrid w' B g' (k + 1) cap' (R ++ [Y]) → Below B w w' → wpList Tryz.prog ops Q rest (a.put o.dst (.slice (some ⟨g', 0, none⟩) (k + 1) cap')) w') : wpList Tryz.prog ops Q (o :: rest) a w := by
  obtain ⟨i0, hi, hz0, hz1, hz2⟩ := info_parts Tryz.infoRow
  obtain ⟨vs, h1', gs, h2', h3⟩ := hF1.own
  have h1 := owns_below h1' hold
  have h2 : ∀ t, t < k → ∃ m c, vs[t]? = some (.slice (some ⟨gs t, 0, none⟩) m c) ∧ Fresh w B (gs t) m c (rowOf R t) := fun t ht => let ⟨m, c, e, F⟩ := h2' t ht; ⟨m, c, e, F.below hold⟩
  have hlt : ∀ t, t < k → gs t < w1.heap.size := fun t ht => let ⟨m, c, e, F⟩ := h2' t ht; F.lt
  refine wpList_append_own w hgd s x 77 ho B 24 i0 (.slice none 0 0) 1 24 Tryz.underlying77 hi hz0 hz1 hz2 rfl (by decide) _ k _ hs h1 ⟨bo, 0, none⟩ 1 1 [.slice (some ⟨g1, 0, none⟩) m1 c1] hx rfl ?_ (by intro u hu; simp at hu; subst hu; rfl) (by unfold maxLen; omega) (by omega) hB ?_
  · intro j u hj
    match j, hj with
    | 0, hj =>
      simp at hj
      subst hj
      have e2 : (Addr.mk bo 0 none).add 0 = ⟨bo, 0, none⟩ := by simp [Addr.add]
      rw [e2, hX]
  · intro v' w' hown hg hnil
    have hb : Below B w w' := (Below.refl _ _).grown hg hB (fun k hk => by simp [Value.ownBlock] at hk; subst hk; exact hF.base)
    obtain ⟨_, cur, hcur⟩ := own_block h1
    have keep : ∀ {b m c : Nat} {Z : List Int}, Fresh w B b m c Z → Fresh w' B b m c Z := fun {b m c Z} F => F.of_block (hg.block b F.lt (by
      intro e
      simp [Value.ownBlock] at e
      subst e
      obtain ⟨c2, hb2, _⟩ := F.row
      rw [hcur] at hb2
      simp at hb2))
    have hlv : vs.length = k := by have := h1.1; omega
    have hown2 := hown
    obtain ⟨_, h4⟩ := hown2
    rcases h4 with ⟨_, h5⟩ | ⟨g', c', cur', hv, hg2, hr⟩
    · omega
    · subst hv
      refine h g' c' w' ⟨hg2, by simp [hF.len], _, hown, fun t => if t < k then gs t else g1, fun t ht => ?_, fun t u htu hu => ?_⟩ hb
      · rw [rowOf_snoc, hF.len]
        by_cases htk : t < k
        · obtain ⟨m3, c3, e3, F3⟩ := h2 t htk
          simp only [if_pos htk]
          exact ⟨m3, c3, by rw [List.getElem?_append_left (by omega)]; exact e3, keep F3⟩
        · obtain rfl : t = k := by omega
          simp only [Nat.lt_irrefl, if_false, if_pos]
          exact ⟨m1, c1, by rw [List.getElem?_append_right (by omega), hlv]; simp, keep hY⟩
      · simp only []
        rw [if_pos (show t < k by omega)]
        by_cases huk : u < k
        · rw [if_pos huk]; exact h3 t u htu huk
        · rw [if_neg huk]; have := hlt t (by omega); omega
theorem cellRow_new (w : World) (v : Value) : (w.alloc (.cells #[v] 24)).cell? ⟨w.heap.size, 0, none⟩ = some v := by
  have e := heap_alloc_new w (.cells #[v] 24)
  unfold World.cell?
  simp only [e]
  rfl
theorem take_snoc {R : List (List Int)} {k : Nat} (hk : k < R.length) : (R.take (k + 1)).map (List.take 40) = (R.take k).map (List.take 40) ++ [(rowOf R k).take 40] := by
  unfold rowOf
  rw [List.take_add_one, List.map_append, List.getD_eq_getElem?_getD, List.getElem?_eq_getElem hk]
  rfl
/-- At most lim rows of at most 40 numbers. -/
def rowsN (R : List (List Int)) (lim : Nat) : List (List Int) := (R.take lim).map (List.take 40)
set_option maxHeartbeats 1600000 in
theorem hrows_any (ao : Option Addr) (n ca : Nat) (R : List (List Int)) (lim : Nat) (li : Int) (w : World) (hli : li = lim) (hR : GridAt w ao n R) (hlim : lim ≤ 5000) :
   Calls Tryz.prog 32 #[.slice ao n ca, .int .i64 li] w fun e w' => ∃ g k cap, e = .returned (.slice (some ⟨g, 0, none⟩) k cap) ∧ k ≤ lim ∧ OwnGrid w' w.heap.size g k cap (rowsN R lim) ∧ Below w.heap.size w w' := by
  subst hli
  have hn := hR.max
  have hl := hR.len
  have F0 := ownGrid_empty w
  have B0 : Below w.heap.size w (w.alloc (.cells #[] 24)) := (Below.refl _ _).alloc (Nat.le_refl _) _
  have HR : Hid (∀ wv, Below w.heap.size w wv → GridAt wv ao n R) := fun wv hb => hR.below hb
  go_enter Tryz.func32, Tryz.ntmps32
  go_wp2
  generalize w.alloc (.cells #[] 24) = w0 at *
  clear hR
  go_loopg [5, 6] lim (fun r s i wr => ∃ (k g cap : Nat), k ≤ lim ∧ k ≤ n ∧ r = lim - k ∧ i = .int .i64 k ∧ s = .slice (some ⟨g, 0, none⟩) k cap ∧ OwnGrid wr w.heap.size g k cap (rowsN R k) ∧ Below w.heap.size w wr)
  case atStart => exact ⟨0, _, _, by omega, by omega, by omega, rfl, rfl, by unfold rowsN; rw [List.take_zero]; exact F0, B0⟩
  case round =>
    obtain ⟨k, g, cap, hk, hkn, rfl, rfl, rfl, F2, B2⟩ := hrel
    clear F0 B0
    by_cases hlt : k < n
    · by_cases h6 : k < lim
      · obtain ⟨b, o, rfl, hc⟩ := (HR.out _ B2).cells (by omega)
        obtain ⟨ro, m1, c1, q1, A1⟩ := hc k hlt
        have HS : Hid (rowsN R (k + 1) = rowsN R k ++ [(rowOf R k).take 40]) := take_snoc (by omega)
        have s2 := B2.size
        clear hc
        go_wp2_with (first | (go_at_call 17; refine (few_any _ _ _ _ 40 _ _ rfl A1 (by omega)).mono ?_; rintro e w3 ⟨g3, n3, c3, rfl, hm3, F3, B3⟩; have BL : Below w3.heap.size w3 (w3.alloc (.cells #[.slice (some ⟨g3, 0, none⟩) n3 c3] 24)) := (Below.refl _ _).alloc (Nat.le_refl _) _; have cX := cellRow_new w3 (.slice (some ⟨g3, 0, none⟩) n3 c3); have F4 := (F3.mono s2).below BL; have G4 := (F2.below B3).below BL; have s3 := B3.size; have s4 := BL.size; have B4 := below_then (below_then B2 B3) BL; have BO := below_then B3 BL; have hg3 := F3.base; generalize hw4 : w3.alloc (.cells #[.slice (some ⟨g3, 0, none⟩) n3 c3] 24) = w4 at *) | (at_builtin; refine wpList_append_grid rfl _ _ rfl w.heap.size g k cap _ rfl (by exact G4) _ (by exact F2) (by exact BO) w3.heap.size g3 n3 c3 _ rfl (by exact cX) (by exact F4) (by exact hg3) (by omega) (by omega) ?_; intro g' cap' w' F7 B7))
        go_roundg (lim - (k + 1))
        case measure => omega
        case rel => exact ⟨k + 1, _, _, by omega, by omega, rfl, by go_num, rfl, by rw [HS.out]; exact F7, B4.trans B7⟩
      · obtain rfl : k = lim := by omega
        go_wp2
        go_ret
        exact ⟨_, _, _, rfl, Nat.le_refl _, F2, B2⟩
    · obtain rfl : k = n := by omega
      have e : rowsN R k = rowsN R lim := by unfold rowsN; rw [List.take_of_length_le (by omega), List.take_of_length_le (by omega)]
      rw [e] at F2
      clear e
      go_wp2
      go_ret
      exact ⟨_, _, _, rfl, hk, F2, B2⟩
theorem rowsN_len (R : List (List Int)) (lim t : Nat) : (rowOf (rowsN R lim) t).length ≤ 40 := by
  unfold rowOf rowsN
  rw [List.getD_eq_getElem?_getD]
  cases e : ((R.take lim).map (List.take 40))[t]? with
  | none => simp
  | some x =>
    obtain ⟨y, _, rfl⟩ := List.mem_map.1 (List.mem_of_getElem? e)
    simp
    omega
end Go.Proofs.YtmdjlaileakbeaaGreatDoor

/- At most so many tokens, in memory of one's own. -/
namespace Go.Proofs.YtmdjlaileakbeaaGreatDoor
open Go.ChangeShapes Go.WideShapes Go.ChangeAt Go.RowKit
theorem IArg.take {w : World} {ao : Option Addr} {n ca : Nat} {A : List Int} (h : IArg w ao n ca A) {m : Nat} (hm : m ≤ n) : IArg w ao m ca (A.take m) := by
  have hl := h.row.len
  have hf := h.fit
  refine ⟨⟨by rw [List.length_take]; omega, by have := h.row.max; omega, fun k => ?_, fun hn => ?_⟩, by omega, h.max, h.nil⟩
  · rcases Nat.lt_or_ge k m with hk | hk
    · rw [el_take hk]; exact h.row.small k
    · rw [el_over (by rw [List.length_take]; omega)]; omega
  · obtain ⟨b, o, e, hc⟩ := h.row.cells (by omega)
    refine ⟨b, o, e, fun t ht => ?_⟩
    rw [el_take ht]
    exact hc t (by omega)
theorem few8_gen (ao : Option Addr) (n ca : Nat) (A Z : List Int) (lim : Nat) (w : World) (hA : IArg w ao n ca A) (hlim : lim ≤ 4096) (hZ : Z = A.take lim) :
   Calls Tryz.prog 18 #[.slice ao n ca, .int .i64 (lim : Int)] w fun e w' => ∃ b c, e = .returned (.slice (some ⟨b, 0, none⟩) Z.length c) ∧ IOwn w' w.heap.size (.slice (some ⟨b, 0, none⟩) Z.length c) Z.length Z ∧ Below w.heap.size w w' := by
  obtain ⟨i0, hi, hz0, hz1, hz2⟩ := info_parts Tryz.infoInt
  have hl := hA.row.len
  have hf := hA.fit
  have hmx := hA.max
  have B0 : Below w.heap.size w (w.alloc (.cells #[] 3)) := (Below.refl _ _).alloc (Nat.le_refl _) _
  have O0 : (w.alloc (.cells #[] 3)).ownsRow w.heap.size 3 1 (.slice (some ⟨w.heap.size, 0, none⟩) 0 0) 0 [] := World.ownsRow_made w #[] 0 (Nat.le_refl _) (by decide) rfl
  have key : ∀ (ao : Option Addr) (m : Nat) (Z' : List Int), IArg w ao m ca Z' → Z' = Z → m ≤ 4096 → ∀ (ops : Array Oper) (rest : List Oper) (o : Oper) (a : Act) (Q : Exit → Act → World → Prop) (s x : Operand), o.guard = none → o.op = .call { callee := .builtin .append, args := #[s, x], argTypes := #[30, 30] } → a.eval s = .slice (some ⟨w.heap.size, 0, none⟩) 0 0 → a.eval x = .slice ao m ca →
      (∀ b c w', IOwn w' w.heap.size (.slice (some ⟨b, 0, none⟩) Z.length c) Z.length Z → Below w.heap.size w w' → wpList Tryz.prog ops Q rest (a.put o.dst (.slice (some ⟨b, 0, none⟩) Z.length c)) w') → wpList Tryz.prog ops Q (o :: rest) a (w.alloc (.cells #[] 3)) := by
    intro ao m Z' hZ' eZ hm ops rest o a Q s x hg ho hs hx hK
    have hlz : Z'.length = m := hZ'.row.len
    cases ao with
    | none =>
      have hc0 := hZ'.nil rfl
      have hm0 : m = 0 := by have := hZ'.fit; omega
      subst hm0
      obtain rfl : Z' = [] := List.length_eq_zero_iff.1 hlz
      rw [hc0] at hx
      refine wpList_append_own_none hg s x 30 ho w.heap.size 3 i0 1 Tryz.underlying30 hi _ 0 [] hs O0 hx ?_
      have := hK w.heap.size 0 _ (by rw [← eZ]; exact O0) B0
      rw [← eZ] at this
      exact this
    | some ad =>
      refine wpList_append_own _ hg s x 30 ho w.heap.size 3 i0 (.int .i64 0) 1 8 Tryz.underlying30 hi hz0 hz1 hz2 rfl (by decide) _ 0 [] hs O0 ad m ca (Z'.map (Value.int .i64)) hx (by simp [hlz]) ((hZ'.row.below B0).vals) (ints_oneCell _ _) (by unfold maxLen; omega) (by omega) (by simp) ?_
      intro v' w' O1 G1 N1
      have hb : Below w.heap.size (w.alloc (.cells #[] 3)) w' := (Below.refl _ _).grown G1 (by simp) (fun k hk => (O0.lt k hk).1)
      rw [Nat.zero_add, List.nil_append] at O1
      have hv : ∃ b c, v' = .slice (some ⟨b, 0, none⟩) m c := by
        rcases O1.2 with ⟨h3, _⟩ | ⟨g, cap, cur, hv, _⟩
        · have := (N1.1 h3).1; cases this
        · exact ⟨_, _, hv⟩
      obtain ⟨b, c, rfl⟩ := hv
      have e : Z.length = m := by rw [← eZ, hlz]
      have := hK b c w' (by rw [e, ← eZ]; exact O1) (B0.trans hb)
      rw [e] at this
      exact this
  have hZl : Z.length ≤ lim := by rw [hZ, List.length_take]; omega
  by_cases h0 : lim < n
  · have hle : (lim : Int) ≤ (ca : Int) := by omega
    have KT := hA.take (m := lim) (by omega)
    rw [← hZ] at KT
    clear hl hA hZ
    go_enter Tryz.func18, Tryz.ntmps18
    go_wp2_with (at_builtin; refine key _ _ _ KT rfl (by omega) _ _ _ _ _ _ _ rfl rfl rfl rfl ?_; intro b c w' O1 B1)
    go_ret
    exact ⟨b, c, rfl, O1, B1⟩
  · have e1 : Hid (A = Z) := by show _ = _; rw [hZ, List.take_of_length_le (by omega)]
    have hn : n ≤ 4096 := by omega
    clear hl hZ
    go_enter Tryz.func18, Tryz.ntmps18
    go_wp2_with (at_builtin; refine key _ _ _ hA e1.out hn _ _ _ _ _ _ _ rfl rfl rfl rfl ?_; intro b c w' O1 B1)
    go_ret
    exact ⟨b, c, rfl, O1, B1⟩
theorem few8_any (ao : Option Addr) (n ca : Nat) (A : List Int) (lim : Nat) (w : World) (hA : IArg w ao n ca A) (hlim : lim ≤ 4096) :
   Calls Tryz.prog 18 #[.slice ao n ca, .int .i64 (lim : Int)] w fun e w' => ∃ b c, e = .returned (.slice (some ⟨b, 0, none⟩) (A.take lim).length c) ∧ IOwn w' w.heap.size (.slice (some ⟨b, 0, none⟩) (A.take lim).length c) (A.take lim).length (A.take lim) ∧ Below w.heap.size w w' := few8_gen ao n ca A _ lim w hA hlim rfl
end Go.Proofs.YtmdjlaileakbeaaGreatDoor

/- lists: a copy of lists of rows, of the call's own. -/
namespace Go.Proofs.YtmdjlaileakbeaaGreatDoor
open Go.ChangeShapes Go.WideShapes Go.ChangeAt Go.RowKit
theorem OwnGrid.hangs {w : World} {B g k cap : Nat} {R : List (List Int)} (h : OwnGrid w B g k cap R) (hk : k ≤ 9223372036854775807) : Hangs (fun b => B ≤ b) w (fun w => GridAt w (some ⟨g, 0, none⟩) k R) := by
  intro w2 h2
  obtain ⟨vs, h1, gs, h3, h4⟩ := h.own
  have hl : g < w.heap.size := by obtain ⟨_, cur, hc⟩ := own_block h1; exact (Array.getElem?_eq_some_iff.1 hc).1
  refine OwnGrid.grid (B := B) (cap := cap) ⟨h.base, h.len, vs, owns_mono h1 (Nat.le_refl _) (fun b hb => ?_), gs, fun t ht => ?_, h4⟩ hk
  · simp [Value.ownBlock] at hb
    subst hb
    exact h2 _ h.base hl
  · obtain ⟨m, c, e, F⟩ := h3 t ht
    exact ⟨m, c, e, F.of_block (h2 _ F.base F.lt)⟩
theorem own_caps {w : World} {B e g k cap : Nat} {vs : List Value} (h : w.ownsRow B e 1 (.slice (some ⟨g, 0, none⟩) k cap) k vs) : k ≤ cap ∧ cap ≤ 9223372036854775807 := by
  rcases h.2 with ⟨h3, _⟩ | ⟨g', c', cur, hv, hg, hh, hnc, hcm, _⟩
  · cases h3
  · simp only [Value.slice.injEq, Option.some.injEq, Addr.mk.injEq, and_true] at hv
    obtain ⟨-, -, rfl⟩ := hv
    exact ⟨hnc, hcm⟩
/-- Block g is a list of lists, of the call's own. -/
structure OwnCube (w : World) (B g k cap : Nat) (C : List (List (List Int))) : Prop where
  base : B ≤ g
  len : C.length = k
  own : ∃ vs, w.ownsRow B 77 1 (.slice (some ⟨g, 0, none⟩) k cap) k vs ∧ ∀ (t : Nat) (R : List (List Int)), C[t]? = some R → ∃ ro m c, vs[t]? = some (.slice ro m c) ∧ (ro = none → c = 0) ∧ m ≤ c ∧ c ≤ 9223372036854775807 ∧ Hangs (fun b => B ≤ b ∧ b ≠ g) w (fun w => GridAt w ro m R)
theorem OwnCube.below {w w' : World} {B g k cap : Nat} {C : List (List (List Int))} (h : OwnCube w B g k cap C) (hb : Below w.heap.size w w') : OwnCube w' B g k cap C := by
  obtain ⟨vs, h1, h2⟩ := h.own
  exact ⟨h.base, h.len, vs, owns_below h1 hb, fun t R hR => let ⟨ro, m, c, e, h3, h4, h5, h6⟩ := h2 t R hR; ⟨ro, m, c, e, h3, h4, h5, h6.below hb⟩⟩
theorem OwnCube.lt {w : World} {B g k cap : Nat} {C : List (List (List Int))} (h : OwnCube w B g k cap C) : g < w.heap.size := by
  obtain ⟨vs, h1, _⟩ := h.own
  obtain ⟨_, cur, hc⟩ := own_block h1
  exact (Array.getElem?_eq_some_iff.1 hc).1
theorem OwnCube.cube {w : World} {B g k cap : Nat} {C : List (List (List Int))} (h : OwnCube w B g k cap C) (hk : k ≤ 9223372036854775807) : CubeAt w (some ⟨g, 0, none⟩) k C := by
  obtain ⟨vs, h1, h2⟩ := h.own
  refine ⟨h.len, hk, fun _ => ⟨g, 0, rfl, fun t R hR => ?_⟩⟩
  obtain ⟨ro, m, c, e, h3, h4, h5, h6⟩ := h2 t R hR
  have hc := h1.cells (g := g) rfl t _ e
  have e2 : (Addr.mk g 0 none).add t = ⟨g, t, none⟩ := by simp [Addr.add]; intro h; exact h.symm
  rw [e2] at hc
  exact ⟨ro, m, c, by rw [Nat.zero_add]; exact hc, h3, h4, h5, h6.now⟩
theorem OwnCube.hangs {w : World} {B g k cap : Nat} {C : List (List (List Int))} (h : OwnCube w B g k cap C) (hk : k ≤ 9223372036854775807) : New B w (fun w => CubeAt w (some ⟨g, 0, none⟩) k C) := by
  intro w2 h2
  obtain ⟨vs, h1, h3⟩ := h.own
  refine OwnCube.cube (B := B) (cap := cap) ⟨h.base, h.len, vs, owns_mono h1 (Nat.le_refl _) (fun b hb => ?_), fun t R hR => ?_⟩ hk
  · simp [Value.ownBlock] at hb
    subst hb
    exact h2 _ h.base h.lt
  · obtain ⟨ro, m, c, e, h4, h5, h6, h7⟩ := h3 t R hR
    have hs : w.heap.size ≤ w.heap.size := Nat.le_refl _
    exact ⟨ro, m, c, e, h4, h5, h6, fun w3 h8 => h7 w3 fun b hb hlt => (h8 b hb (Nat.lt_of_not_le fun hge => by
      have e1 := h2 b hb.1 hlt
      rw [Array.getElem?_eq_none hge, Array.getElem?_eq_getElem hlt] at e1
      cases e1)).trans (h2 b hb.1 hlt)⟩
theorem ownCube_empty (w : World) : OwnCube (w.alloc (.cells #[] 77)) w.heap.size w.heap.size 0 0 [] :=
  ⟨Nat.le_refl _, rfl, [], ⟨rfl, Or.inr ⟨w.heap.size, 0, #[], rfl, Nat.le_refl _, heap_alloc_new _ _, Nat.le_refl _, by decide, rfl, rfl⟩⟩, fun t R hR => by simp at hR⟩
theorem wpList_append_cube {w : World} {ops : Array Oper} {rest : List Oper} {o : Oper} {a : Act} {Q : Exit → Act → World → Prop} (hgd : o.guard = none) (s x : Operand)
    (ho : o.op = .call { callee := .builtin .append, args := #[s, x], argTypes := #[31, 31] })
    (B g k cap : Nat) (C : List (List (List Int))) (hs : a.eval s = .slice (some ⟨g, 0, none⟩) k cap) (hF : OwnCube w B g k cap C)
    (bo g1 m1 c1 : Nat) (R : List (List Int)) (hx : a.eval x = .slice (some ⟨bo, 0, none⟩) 1 1) (hX : w.cell? ⟨bo, 0, none⟩ = some (.slice (some ⟨g1, 0, none⟩) m1 c1)) (hm1 : m1 ≤ c1) (hc1 : c1 ≤ 9223372036854775807) (hY : Hangs (fun b => B ≤ b ∧ b ≠ g) w (fun w => GridAt w (some ⟨g1, 0, none⟩) m1 R))
    (hlen : k + 1 ≤ 1048576) (hB : B ≤ w.heap.size)
    (h : ∀ g' cap' w', OwnCube w' B g' (k + 1) cap' (C ++ [R]) → Below B w w' → wpList Tryz.prog ops Q rest (a.put o.dst (.slice (some ⟨g', 0, none⟩) (k + 1) cap')) w') : wpList Tryz.prog ops Q (o :: rest) a w := by
  obtain ⟨i0, hi, hz0, hz1, hz2⟩ := info_parts Tryz.infoList
  obtain ⟨vs, h1, h2⟩ := hF.own
  refine wpList_plain hgd fun _ hK => wp_append_own2 w s x 31 ho B 77 i0 (.slice none 0 0) 1 24 Tryz.underlying31 hi hz0 hz1 hz2 rfl (by decide) _ k _ hs h1 ⟨bo, 0, none⟩ 1 1 [.slice (some ⟨g1, 0, none⟩) m1 c1] hx rfl ?_ (by intro u hu; simp at hu; subst hu; rfl) (by unfold maxLen; omega) (by omega) hB ?_
  · intro j u hj
    match j, hj with
    | 0, hj =>
      simp at hj
      subst hj
      have e2 : (Addr.mk bo 0 none).add 0 = ⟨bo, 0, none⟩ := by simp [Addr.add]
      rw [e2, hX]
  · intro v' w' hown hg hnil hwh
    have hb : Below B w w' := (Below.refl _ _).grown hg hB (fun k hk => by simp [Value.ownBlock] at hk; subst hk; exact hF.base)
    have hlv : vs.length = k := by have := h1.1; omega
    have hown2 := hown
    obtain ⟨_, h4⟩ := hown2
    rcases h4 with ⟨_, h5⟩ | ⟨g', c', cur', hv, hg2, hr⟩
    · omega
    · subst hv
      have hw := hwh g' rfl
      have tr : ∀ {Φ : World → Prop}, Hangs (fun b => B ≤ b ∧ b ≠ g) w Φ → Hangs (fun b => B ≤ b ∧ b ≠ g') w' Φ := fun {Φ} hh w2 hh2 => hh w2 fun b hb1 hlt => by
        have hne : b ≠ g' := by
          rcases hw with e | e
          · simp [Value.ownBlock] at e; omega
          · omega
        exact (hh2 b ⟨hb1.1, hne⟩ (Nat.lt_of_lt_of_le hlt hg.size)).trans (hg.block b hlt (by simp [Value.ownBlock]; omega))
      refine hK _ _ (h g' c' w' ⟨hg2, by simp [hF.len], _, hown, fun t R' hR' => ?_⟩ hb)
      by_cases htk : t < k
      · rw [List.getElem?_append_left (by rw [hF.len]; exact htk)] at hR'
        obtain ⟨ro, m3, c3, e3, q1, q2, q3, q4⟩ := h2 t R' hR'
        exact ⟨ro, m3, c3, by rw [List.getElem?_append_left (by omega)]; exact e3, q1, q2, q3, tr q4⟩
      · rw [List.getElem?_append_right (by rw [hF.len]; omega), hF.len] at hR'
        have e0 : t - k = 0 := by
          rcases Nat.eq_zero_or_pos (t - k) with e | e
          · exact e
          · rw [List.getElem?_eq_none (by simp; omega)] at hR'; cases hR'
        rw [e0] at hR'
        simp at hR'
        subst hR'
        exact ⟨some ⟨g1, 0, none⟩, m1, c1, by rw [List.getElem?_append_right (by omega), hlv, e0]; rfl, (fun h => by cases h), hm1, hc1, tr hY⟩
theorem cellList_new (w : World) (v : Value) : (w.alloc (.cells #[v] 77)).cell? ⟨w.heap.size, 0, none⟩ = some v := by
  have e := heap_alloc_new w (.cells #[v] 77)
  unfold World.cell?
  simp only [e]
  rfl
end Go.Proofs.YtmdjlaileakbeaaGreatDoor

/- Told: a view as the document's, of the call's own. -/
namespace Go.Proofs.YtmdjlaileakbeaaGreatDoor
open Go.ChangeShapes Go.WideShapes Go.ChangeAt Go.RowKit
theorem take_one {C : List (List (List Int))} {k : Nat} {R : List (List Int)} (h : C[k]? = some R) : C.take (k + 1) = C.take k ++ [R] := by
  rw [List.take_add_one, h]; rfl
set_option maxHeartbeats 800000 in
theorem lists_any (ao : Option Addr) (n ca : Nat) (C : List (List (List Int))) (w : World) (hC : CubeAt w ao n C) (hn : n ≤ 5) (hr : ∀ R ∈ C, rowsN R 130 = R) :
   Calls Tryz.prog 19 #[.slice ao n ca] w fun e w' => ∃ g cap, e = .returned (.slice (some ⟨g, 0, none⟩) n cap) ∧ New w.heap.size w' (fun w => CubeAt w (some ⟨g, 0, none⟩) n C) ∧ Below w.heap.size w w' := by
  have hl := hC.len
  have F0 := ownCube_empty w
  have B0 : Below w.heap.size w (w.alloc (.cells #[] 77)) := (Below.refl _ _).alloc (Nat.le_refl _) _
  have HC : Hid (∀ wv, Below w.heap.size w wv → CubeAt wv ao n C) := fun wv hb => hC.below hb
  go_enter Tryz.func19, Tryz.ntmps19
  go_wp2
  generalize w.alloc (.cells #[] 77) = w0 at *
  clear hC
  go_loopg [3, 4] n (fun r s i wr => ∃ (k g cap : Nat), k ≤ n ∧ r = n - k ∧ i = .int .i64 k ∧ s = .slice (some ⟨g, 0, none⟩) k cap ∧ OwnCube wr w.heap.size g k cap (C.take k) ∧ Below w.heap.size w wr)
  case atStart => exact ⟨0, _, _, by omega, by omega, rfl, rfl, by rw [List.take_zero]; exact F0, B0⟩
  case round =>
    obtain ⟨k, g, cap, hk, rfl, rfl, rfl, F2, B2⟩ := hrel
    clear F0 B0
    by_cases hlt : k < n
    · obtain ⟨b, o, rfl, hc⟩ := (HC.out _ B2).cells (by omega)
      obtain ⟨R, hR⟩ : ∃ R, C[k]? = some R := ⟨_, List.getElem?_eq_getElem (show k < C.length by omega)⟩
      obtain ⟨ro, m1, c1, q1, -, -, -, G1⟩ := hc k R hR
      have HS : Hid (C.take (k + 1) = C.take k ++ [R]) := take_one hR
      have HRR : Hid (rowsN R 130 = R) := hr R (List.mem_of_getElem? hR)
      have s2 := B2.size
      have lg := F2.lt
      have h5 : (k : Int) < 5 := by omega
      clear hc
      go_wp2_with fail
      refine (hrows_any ro m1 c1 R 130 130 _ rfl G1 (by omega)).mono ?_
      rintro e w3 ⟨g3, n3, c3, rfl, hm3, OG, B3⟩
      rw [HRR.out] at OG
      obtain ⟨p1, p2⟩ := own_caps OG.own.choose_spec.1
      have NG := OG.hangs (by omega)
      have BL : Below w3.heap.size w3 (w3.alloc (.cells #[.slice (some ⟨g3, 0, none⟩) n3 c3] 77)) := (Below.refl _ _).alloc (Nat.le_refl _) _
      have cX := cellList_new w3 (.slice (some ⟨g3, 0, none⟩) n3 c3)
      have F4 := (F2.below B3).below BL
      have s3 := B3.size
      have s4 := BL.size
      have NG4 : Hangs (fun b => w.heap.size ≤ b ∧ b ≠ g) (w3.alloc (.cells #[.slice (some ⟨g3, 0, none⟩) n3 c3] 77)) (fun w => GridAt w (some ⟨g3, 0, none⟩) n3 R) := Hangs.mono (Hangs.below NG BL) (fun b _ hb => ⟨by omega, by omega⟩)
      have B4 := below_then (below_then B2 B3) BL
      clear NG OG F2 G1 q1
      generalize hw4 : w3.alloc (.cells #[.slice (some ⟨g3, 0, none⟩) n3 c3] 77) = w4 at *
      go_wp2_with (at_builtin; refine wpList_append_cube rfl _ _ rfl w.heap.size g k cap _ rfl (by exact F4) w3.heap.size g3 n3 c3 R rfl (by exact cX) p1 p2 (by exact NG4) (by omega) (by omega) ?_; intro g' cap' w' F7 B7)
      go_roundg (n - (k + 1))
      case measure => omega
      case rel => exact ⟨k + 1, _, _, by omega, rfl, by go_num, rfl, by rw [HS.out]; exact F7, B4.trans B7⟩
    · obtain rfl : k = n := by omega
      go_wp2
      go_ret
      rw [List.take_of_length_le (by omega)] at F2
      exact ⟨_, _, rfl, F2.hangs (by omega), B2⟩
/-- Told. -/
theorem Tryz.infoRV : (Tryz.prog.info? 41).map (·.size) = some 3 := by kernel_rfl
set_option maxRecDepth 100000 in
set_option maxHeartbeats 800000 in
theorem told9_any (vv : VwV) (X : Vw) (w : World) (hv : VwAt w vv X) (hT : X.T.length ≤ 130) (hK : X.K.length ≤ 5) (hV : X.V.length ≤ 5) (hrk : ∀ R ∈ X.K, rowsN R 130 = R) (hrv : ∀ R ∈ X.V, rowsN R 130 = R) :
   Calls Tryz.prog 5 #[.agg vv.cells] w fun e w' => ∃ t k v : Sl, e = .returned (.agg #[t.v, k.v, v.v]) ∧ ToldAt w' t k v X ∧ Below w.heap.size w w' := by
  have lt := hv.t.row.len
  have lk := hv.k.len
  have lv := hv.v.len
  have hsm := hv.t.row.small
  have HT : Hid (∀ wv, Below w.heap.size w wv → IArg wv vv.t.ao vv.t.n vv.t.c X.T) := fun wv hb => hv.t.below hb
  have HK : Hid (∀ wv, Below w.heap.size w wv → CubeAt wv vv.k.ao vv.k.n X.K) := fun wv hb => hv.k.below hb
  have HV : Hid (∀ wv, Below w.heap.size w wv → CubeAt wv vv.v.ao vv.v.n X.V) := fun wv hb => hv.v.below hb
  clear hv
  obtain ⟨⟨ta, tn, tc⟩, ⟨ka, kn, kc⟩, ⟨va, vn, vc⟩⟩ := vv
  unfold VwV.cells Sl.v
  simp only at *
  have lt' : tn ≤ 130 := by omega
  have lk' : kn ≤ 5 := by omega
  have lv' : vn ≤ 5 := by omega
  clear lt lk lv hK hV
  have X0 := blk_new w 35 #[.slice ta tn tc, .slice ka kn kc, .slice va vn vc]
  have B0 : Below w.heap.size w (w.alloc (.cells #[.slice ta tn tc, .slice ka kn kc, .slice va vn vc] 35)) := (Below.refl _ _).alloc (Nat.le_refl _) _
  generalize hw0 : w.alloc (.cells #[.slice ta tn tc, .slice ka kn kc, .slice va vn vc] 35) = w0 at *
  have lt0 := X0.lt
  have X1 := blk_new w0 41 #[.slice none 0 0, .slice none 0 0, .slice none 0 0]
  have B1 : Below w0.heap.size w0 (w0.alloc (.cells #[.slice none 0 0, .slice none 0 0, .slice none 0 0] 41)) := (Below.refl _ _).alloc (Nat.le_refl _) _
  generalize hw1 : w0.alloc (.cells #[.slice none 0 0, .slice none 0 0, .slice none 0 0] 41) = w1 at *
  replace X0 := X0.below B1
  have D := below_then B0 B1
  clear B0 B1
  have lt1 := X1.lt
  go_enter Tryz.func5, Tryz.ntmps5
  go_wp2_with fail
  clear hw0 hw1
  replace X0 := X0.below ((Below.refl _ _).drew)
  replace X1 := X1.below ((Below.refl _ _).drew)
  replace D := D.drew
  replace lt1 : w0.heap.size < w1.drew.heap.size := lt1
  refine wp_region_held_drew (S := fun w' => Blk w' w.heap.size 35 #[.slice ta tn tc, .slice ka kn kc, .slice va vn vc]) (by kernel_rfl) (X0) (fun hHeld => ?_)
  generalize hA : w1.drew = wA at *
  clear hA
  refine wpAnyH_take (i := 0) (v := (.pointer (some ⟨w.heap.size, 0, none⟩))) rfl (by kernel_rfl) (by kernel_rfl) (by kernel_rfl) (fun _ _ _ h => h) (Or.inl ⟨by rfl, ?_⟩) (by assumption) ?_
  · intro w' hSw
    go_simp
  simp only [List.getElem_toArray, List.getElem_cons_zero, Act.put, List.setIfInBounds_toArray, List.set_cons_zero, List.set_cons_succ]
  refine wpAnyH_take (i := 1) (v := (.slice ta tn tc)) rfl (by kernel_rfl) (by kernel_rfl) (by kernel_rfl) (fun _ _ _ h => h) (Or.inl ⟨by rfl, ?_⟩) (by assumption) ?_
  · intro w' hSw
    have cc0 : w'.cell? ⟨w.heap.size, 0, none⟩ = some (.slice ta tn tc) := hSw.cell 0 rfl
    go_simp
  simp only [List.getElem_toArray, List.getElem_cons_succ, List.getElem_cons_zero, Act.put, List.setIfInBounds_toArray, List.set_cons_zero, List.set_cons_succ]
  refine wpAnyH_take (i := 3) (v := (.pointer (some ⟨w.heap.size, 1, none⟩))) rfl (by kernel_rfl) (by kernel_rfl) (by kernel_rfl) (fun _ _ _ h => h) (Or.inl ⟨by rfl, ?_⟩) (by assumption) ?_
  · intro w' hSw
    go_simp
  simp only [List.getElem_toArray, List.getElem_cons_succ, List.getElem_cons_zero, Act.put, List.setIfInBounds_toArray, List.set_cons_zero, List.set_cons_succ]
  refine wpAnyH_take (i := 4) (v := (.pointer (some ⟨w.heap.size, 1, none⟩))) rfl (by kernel_rfl) (by kernel_rfl) (by kernel_rfl) (fun _ _ _ h => h) (Or.inl ⟨by rfl, ?_⟩) (by assumption) ?_
  · intro w' hSw
    go_simp
  simp only [List.getElem_toArray, List.getElem_cons_succ, List.getElem_cons_zero, Act.put, List.setIfInBounds_toArray, List.set_cons_zero, List.set_cons_succ]
  refine wpAnyH_take (i := 5) (v := (.slice ka kn kc)) rfl (by kernel_rfl) (by kernel_rfl) (by kernel_rfl) (fun _ _ _ h => h) (Or.inl ⟨by rfl, ?_⟩) (by assumption) ?_
  · intro w' hSw
    have cc1 : w'.cell? ⟨w.heap.size, 1, none⟩ = some (.slice ka kn kc) := hSw.cell 1 rfl
    go_simp
  simp only [List.getElem_toArray, List.getElem_cons_succ, List.getElem_cons_zero, Act.put, List.setIfInBounds_toArray, List.set_cons_zero, List.set_cons_succ]
  refine wpAnyH_take (i := 7) (v := (.pointer (some ⟨w.heap.size, 1, none⟩))) rfl (by kernel_rfl) (by kernel_rfl) (by kernel_rfl) (fun _ _ _ h => h) (Or.inl ⟨by rfl, ?_⟩) (by assumption) ?_
  · intro w' hSw
    go_simp
  simp only [List.getElem_toArray, List.getElem_cons_succ, List.getElem_cons_zero, Act.put, List.setIfInBounds_toArray, List.set_cons_zero, List.set_cons_succ]
  refine wpAnyH_take (i := 8) (v := (.pointer (some ⟨w.heap.size, 2, none⟩))) rfl (by kernel_rfl) (by kernel_rfl) (by kernel_rfl) (fun _ _ _ h => h) (Or.inl ⟨by rfl, ?_⟩) (by assumption) ?_
  · intro w' hSw
    go_simp
  simp only [List.getElem_toArray, List.getElem_cons_succ, List.getElem_cons_zero, Act.put, List.setIfInBounds_toArray, List.set_cons_zero, List.set_cons_succ]
  refine wpAnyH_take (i := 9) (v := (.slice va vn vc)) rfl (by kernel_rfl) (by kernel_rfl) (by kernel_rfl) (fun _ _ _ h => h) (Or.inl ⟨by rfl, ?_⟩) (by assumption) ?_
  · intro w' hSw
    have cc2 : w'.cell? ⟨w.heap.size, 2, none⟩ = some (.slice va vn vc) := hSw.cell 2 rfl
    go_simp
  simp only [List.getElem_toArray, List.getElem_cons_succ, List.getElem_cons_zero, Act.put, List.setIfInBounds_toArray, List.set_cons_zero, List.set_cons_succ]
  refine wpAnyH_ready (rs := [2]) (by kernel_rfl) (by simp) ?_
  refine AllReadyH.cons rfl (fun Kc hKc => ?_) AllReadyH.nil
  simp only [List.getElem_toArray, List.getElem_cons_succ, List.getElem_cons_zero]
  rw [if_pos (by rfl)]
  go_wp2_with fail
  refine (few8_gen ta tn tc X.T X.T 130 _ (HT.out _ D) (by omega) (List.take_of_length_le (by omega)).symm).mono ?_
  rintro e w2 ⟨tb, tc2, rfl, OT, B2⟩
  have zA2 := B2.size
  replace X0 := X0.below B2
  replace X1 := X1.below B2
  replace D := below_then D B2
  go_wp2_with fail
  refine hKc.out _ _ (X0) (fun hHeld => ?_)
  clear hKc Kc
  refine wpAnyH_ready (rs := [6]) (by kernel_rfl) (by simp) ?_
  refine AllReadyH.cons rfl (fun Kc hKc => ?_) AllReadyH.nil
  simp only [List.getElem_toArray, List.getElem_cons_succ, List.getElem_cons_zero]
  rw [if_pos (by rfl)]
  go_wp2_with fail
  refine (lists_any ka kn kc X.K _ (HK.out _ D) (by omega) hrk).mono ?_
  rintro e w3 ⟨kg, kc2, rfl, NK, B3⟩
  replace OT := owns_below OT B3
  have z3 := B3.size
  replace X0 := X0.below B3
  replace X1 := X1.below B3
  replace D := below_then D B3
  go_wp2_with fail
  refine hKc.out _ _ (X0) (fun hHeld => ?_)
  clear hKc Kc
  refine wpAnyH_ready (rs := [10]) (by kernel_rfl) (by simp) ?_
  refine AllReadyH.cons rfl (fun Kc hKc => ?_) AllReadyH.nil
  simp only [List.getElem_toArray, List.getElem_cons_succ, List.getElem_cons_zero]
  rw [if_pos (by rfl)]
  go_wp2_with fail
  refine (lists_any va vn vc X.V _ (HV.out _ D) (by omega) hrv).mono ?_
  rintro e w4 ⟨vg, vc2, rfl, NV, B4⟩
  replace OT := owns_below OT B4
  replace NK := NK.below B4
  replace X0 := X0.below B4
  replace X1 := X1.below B4
  replace D := below_then D B4
  go_wp2_with fail
  refine hKc.out _ _ (X0) (fun hHeld => ?_)
  clear hKc Kc
  refine wpAnyH_take (i := 11) (v := (.agg #[.slice (some ⟨tb, 0, none⟩) X.T.length tc2, .slice (some ⟨kg, 0, none⟩) kn kc2, .slice (some ⟨vg, 0, none⟩) vn vc2])) rfl (by kernel_rfl) (by kernel_rfl) (by kernel_rfl) (fun _ _ _ h => h) (Or.inl ⟨by rfl, ?_⟩) (by assumption) ?_
  · intro w' hSw
    go_simp
  simp only [List.getElem_toArray, List.getElem_cons_succ, List.getElem_cons_zero, Act.put, List.setIfInBounds_toArray, List.set_cons_zero, List.set_cons_succ]
  refine wpAnyH_ready (rs := [12]) (by kernel_rfl) (by simp) ?_
  refine AllReadyH.cons rfl (fun Kc hKc => ?_) AllReadyH.nil
  simp only [List.getElem_toArray, List.getElem_cons_succ, List.getElem_cons_zero]
  rw [if_pos (by rfl)]
  have hall : Array.all (#[.slice (some ⟨tb, 0, none⟩) X.T.length tc2, .slice (some ⟨kg, 0, none⟩) kn kc2, .slice (some ⟨vg, 0, none⟩) vn vc2] : Array Value) (fun v => v.oneCell') = true := by simp [Value.oneCell']
  refine wp_store_row 41 _ _ rfl w0.heap.size #[.slice (some ⟨tb, 0, none⟩) X.T.length tc2, .slice (some ⟨kg, 0, none⟩) kn kc2, .slice (some ⟨vg, 0, none⟩) vn vc2] rfl rfl 41 _ X1 Tryz.infoRV rfl hall ?_
  refine hKc.out _ _ (Blk.of_block X0 (setRow_other _ _ _ _ (by omega))) (fun hHeld => ?_)
  clear hKc Kc
  refine wpAnyH_done (by kernel_rfl) ?_ _
  clear hHeld
  go_wp2
  refine bodyPost_ret (results_cell_row rfl _ _ w0.heap.size 41 _ _ _ rfl (X1.row _) Tryz.underlying41 rfl Tryz.infoRV) rfl ?_
  have so : ∀ (b : Nat) (x : Array Value), b ≠ w0.heap.size → (w4.setRow w0.heap.size x).heap[b]? = w4.heap[b]? := fun b x hb => setRow_other _ _ _ _ hb
  obtain ⟨x1, y1, e1, IT⟩ := IOwn.arg (A := X.T) (owns_mono OT (Nat.le_refl _) (fun b hb => so b #[.slice (some ⟨tb, 0, none⟩) X.T.length tc2, .slice (some ⟨kg, 0, none⟩) kn kc2, .slice (some ⟨vg, 0, none⟩) vn vc2] (by have := (OT.lt b hb).1; omega))) hsm
  simp only [Value.slice.injEq, true_and] at e1
  obtain ⟨rfl, rfl⟩ := e1
  refine ⟨⟨some ⟨tb, 0, none⟩, _, tc2⟩, ⟨some ⟨kg, 0, none⟩, kn, kc2⟩, ⟨some ⟨vg, 0, none⟩, vn, vc2⟩, rfl, ⟨IT, ?_, ?_⟩, below_setRow D (by omega) _⟩
  · exact (Hangs.row NK (g := w0.heap.size) (by show ¬ (_ ≤ _); omega) _).now
  · exact (Hangs.row NV (g := w0.heap.size) (by show ¬ (_ ≤ _); omega) _).now
end Go.Proofs.YtmdjlaileakbeaaGreatDoor

/- The document's Feed of layer 9, of a view that fits. Laid by tools/genrfeed9.py. -/
namespace Go.Proofs.YtmdjlaileakbeaaGreatDoor
open Go.ChangeShapes Go.WideShapes Go.ChangeAt Go.RowKit Go.Deep
theorem nils_made (w : World) {n i : Nat} (h : i < n) : (w.alloc (.cells (madeCells #[.slice none 0 0] n) 24)).cell? ⟨w.heap.size, i, none⟩ = some (.slice none 0 0) := by
  have e := heap_alloc_new w (.cells (madeCells #[.slice none 0 0] n) 24)
  unfold World.cell?
  simp only [e]
  simp [madeCells, h, Nat.mod_one]
theorem OCu.belowC {w w' : World} {B : Nat} {p : Nat → Prop} {v : Value} {C : List (List (List Int))} (h : OCu w B p v C) (hb : Below w.heap.size w w') : OCu w' B p v C := h.turn (Tn.below hb) fun b e => hb.block b (h.lt b e).2
theorem nils_of_block {w w2 : World} {g n : Nat} (h : GridAt w (some ⟨g, 0, none⟩) n (List.replicate n [])) (e : w2.heap[g]? = w.heap[g]?) : GridAt w2 (some ⟨g, 0, none⟩) n (List.replicate n []) := by
  refine ⟨h.len, h.max, fun hn => ?_⟩
  obtain ⟨b, o, hb, hc⟩ := h.cells hn
  simp only [Option.some.injEq, Addr.mk.injEq, and_true] at hb
  obtain ⟨rfl, rfl⟩ := hb
  refine ⟨g, 0, rfl, fun t ht => ?_⟩
  obtain ⟨ro, m, c, h1, h2⟩ := hc t ht
  have e0 : rowOf (List.replicate n ([] : List Int)) t = [] := by
    unfold rowOf
    rw [List.getD_eq_getElem?_getD, List.getElem?_replicate, if_pos ht]
    rfl
  have hm : m = 0 := by have := h2.row.len; rw [e0] at this; simpa using this.symm
  subst hm
  refine ⟨ro, 0, c, by rw [World.cell?_of_block (w := w) (a := ⟨g, 0 + t, none⟩) e]; exact h1, ?_⟩
  rw [e0]
  exact ⟨RowAt.nil w2 ro, h2.fit, h2.max, h2.nil, fun b o hro j hj => absurd hj (by omega)⟩
/-- The rows of the pass behind k lists, in its block. -/
structure FdS (wb wr : World) (v kS vS : Value) (n k : Nat) : Prop where
  blk : Blk wr wb.heap.size 80 #[v, kS, vS]
  c : OCu wr (wb.heap.size + 1) (offO (fun _ => True) v (.slice none 0 0) (.slice none 0 0) (.slice none 0 0) (.slice none 0 0) wb.heap.size) v (nilK n k)
  kp : Below wb.heap.size wb wr
theorem FdS.below {wb wr w' : World} {v kS vS : Value} {n k : Nat} (h : FdS wb wr v kS vS n k) (hb : Below wr.heap.size wr w') : FdS wb w' v kS vS n k := ⟨h.blk.below hb, h.c.belowC hb, below_then h.kp hb⟩
theorem FdS.put {wb wr w' : World} {v kS vS v' : Value} {n k : Nat} (h : FdS wb wr v kS vS n k) (mk : ∀ p', Tn (offO (fun _ => True) v (.slice none 0 0) (.slice none 0 0) (.slice none 0 0) (.slice none 0 0) wb.heap.size) p' wr w' → OCu w' (wb.heap.size + 1) p' v' (nilK n k ++ [List.replicate n []])) (hG : wr.grownBy w' v.ownBlock) (hN : ∀ g, v'.ownBlock = some g → v.ownBlock = some g ∨ wr.heap.size ≤ g) :
    FdS wb (w'.setCell ⟨wb.heap.size, 0, none⟩ v') v' kS vS n (k + 1) := by
  have T1 : Tn (offO (fun _ => True) v (.slice none 0 0) (.slice none 0 0) (.slice none 0 0) (.slice none 0 0) wb.heap.size) (offO (fun _ => True) v' (.slice none 0 0) (.slice none 0 0) (.slice none 0 0) (.slice none 0 0) wb.heap.size) wr w' := Tn.app1 hG hN
  have T2 : Tn (offO (fun _ => True) v' (.slice none 0 0) (.slice none 0 0) (.slice none 0 0) (.slice none 0 0) wb.heap.size) (offO (fun _ => True) v' (.slice none 0 0) (.slice none 0 0) (.slice none 0 0) (.slice none 0 0) wb.heap.size) w' (w'.setCell ⟨wb.heap.size, 0, none⟩ v') := Tn.set w' 0 v'
  have M := mk _ T1
  have nb : ∀ {v : Value} {C : List (List (List Int))} {p : Nat → Prop} {W : World}, OCu W (wb.heap.size + 1) p v C → v.ownBlock ≠ some wb.heap.size := fun hO e => by have := (hO.lt _ e).1; omega
  have hbk := h.blk.of_block (hG.block _ h.blk.lt (fun e => nb h.c e.symm))
  refine ⟨hbk.set 0 v', ?_, ?_⟩
  · rw [nilK_snoc]
    exact M.turn T2 (fun b e => Below.heap_setCell _ _ _ b (fun e2 => nb M (by have e3 : b = wb.heap.size := e2; rw [← e3]; exact e)))
  · refine ⟨hG.os.trans h.kp.os, hG.tape.trans h.kp.tape, hG.output.trans h.kp.output, ?_, fun b hb => ?_⟩
    · have := h.kp.size; have := hG.size; simpa using (by omega : wb.heap.size ≤ w'.heap.size)
    · rw [Below.heap_setCell _ _ _ b (fun e2 => by have e3 : b = wb.heap.size := e2; omega), hG.block b (Nat.lt_of_lt_of_le hb h.kp.size) (fun e => by have := (h.c.lt b e.symm).1; omega)]
      exact h.kp.block b hb
set_option maxRecDepth 100000 in
set_option maxHeartbeats 8000000 in
theorem rfeed_any (V D Hd H L tok : Nat) (W : Wt) (bs : List Bk) (M : Mdl) (t k v : Sl) (X : Vw) (w : World) (hW : WtAt w V D H W bs M) (hbl : bs.length = L) (hv : ToldAt w t k v X) (hf : VwFit (V : Int) D L X) (hlT : X.T.length ≤ 127) (htk : tok < V) (h1 : 1 ≤ D) (h2 : D ≤ 32) (g1 : 1 ≤ Hd) (g2 : Hd ≤ 4) (hd : D % Hd = 0) (q1 : 1 ≤ H) (q2 : H ≤ 128) (hL : L ≤ 900) (hV : V ≤ 5000) :
   Calls Tryz.prog 14 #[.agg (cfgC V D Hd H L), .agg W.cells, .agg #[t.v, k.v, v.v], .int .i64 (tok : Int)] w fun e w' => ∃ (t2 k2 v2 : Sl) (g cap : Nat), e = .returned (.tuple #[.agg #[t2.v, k2.v, v2.v], .slice (some ⟨g, 0, none⟩) V cap]) ∧ ToldAt w' t2 k2 v2 (feedV M D H Hd L X tok) ∧ Fresh w' w.heap.size g V cap (likR M V D (feedX M D H Hd L X tok)) ∧ Below w.heap.size w w' := by
  have HW : Hid (∀ wv, Below w.heap.size w wv → WtAt wv V D H W bs M) := fun wv hb => hW.below hb
  have HVW : Hid (∀ wv, Below w.heap.size w wv → ToldAt wv t k v X) := fun wv hb => hv.below hb
  have HFIT : Hid (VwFit (V : Int) D L X) := hf
  have hklen := hf.k
  have hvlen := hf.v
  have hXl : X.T.length = t.n := hv.t.row.len
  have hXk := hv.k.len
  have hXv := hv.v.len
  have HK9 : Hid (k.n ≤ 1000 ∧ v.n ≤ 1000 ∧ k.n = v.n) := by show _ ∧ _ ∧ _; split at hklen <;> split at hvlen <;> omega
  have HGO := fun (p : Nat → Prop) wv (sr : Sl) (A1 : List (List (List Int))) (hp : ∀ b, b < w.heap.size → p b) (hb : Below w.heap.size w wv) (hr : PCubeW p wv sr A1) (hm : (if A1.length = 0 then 0 else (A1.getD 0 []).length) = X.T.length) (hr1 : ∀ l, (A1.getD l []).length ≤ 1000) => rgo_any p V D Hd H L X.T.length tok W bs M sr k v A1 X.K X.V wv (HW.out wv hb) hbl hr (hv.k.pcw HK9.out.1 (fit_one HFIT.out).1 hb hp) (hv.v.pcw HK9.out.2.1 (fit_one HFIT.out).2 hb hp) hm (by rw [hv.k.len, hv.v.len]; exact HK9.out.2.2) hr1 (fit_rows HFIT.out).1 (fit_rows HFIT.out).2 htk hlT h1 h2 g1 g2 hd q1 q2 hL
  have siz : W.cells.size = 8 := rfl
  have HWC : Hid (W.cells = W.cells) := rfl
  have RL := fun wv (sr sk sv : Sl) (C : List (List (List Int))) (R : List (List Int)) (hb : Below w.heap.size w wv) (hC : DCube wv sr C) (hk : C.length = L + 1) (hR : C[L]? = some R) (hn : R.length = X.T.length + 1) (hx : (rowOf R X.T.length).length = D) => rlikes_any V D H X.T.length L W bs M sr sk sv C R wv (HW.out wv hb) hC hk hR hn hx h1 (by omega)
  have HTL : Hid (X.T.length = t.n) := hXl
  have HTT : Hid (∀ wv, Below w.heap.size w wv → IArg wv t.ao t.n t.c X.T) := fun wv hb => (HVW.out wv hb).t
  have htn : t.n ≤ 127 := by omega
  have HLM : Hid (L ≤ 900 ∧ tok < V ∧ V ≤ 5000) := ⟨hL, htk, hV⟩
  obtain ⟨KK, hKK⟩ : ∃ K, K = newK M D H Hd X.T.length L X.K X.V (begR M.E D tok X.T.length) := ⟨_, rfl⟩
  obtain ⟨VN, hVN⟩ : ∃ K, K = newV M D H Hd X.T.length L X.K X.V (begR M.E D tok X.T.length) := ⟨_, rfl⟩
  obtain ⟨FX, hFX⟩ : ∃ K, K = feedX M D H Hd L X tok := ⟨_, rfl⟩
  have HKN : Hid (KK = newK M D H Hd X.T.length L X.K X.V (begR M.E D tok X.T.length)) := hKK
  have HVN : Hid (VN = newV M D H Hd X.T.length L X.K X.V (begR M.E D tok X.T.length)) := hVN
  have HFX : Hid (FX = feedX M D H Hd L X tok) := hFX
  rw [show feedV M D H Hd L X tok = ⟨X.T ++ [(tok : Int)], KK, VN⟩ from by rw [hKK, hVN]; rfl, ← hFX]
  clear hKK hVN hFX
  obtain ⟨ta, n, tz⟩ := t
  obtain ⟨ka, kn, kz⟩ := k
  obtain ⟨va, vn, vz⟩ := v
  simp only at HTL HTT htn HK9
  show Calls Tryz.prog 14 #[.agg #[.int .i64 (V : Int), .int .i64 (D : Int), .int .i64 (Hd : Int), .int .i64 (H : Int), .int .i64 (L : Int)], .agg W.cells, .agg #[.slice ta n tz, .slice ka kn kz, .slice va vn vz], .int .i64 (tok : Int)] w _
  unfold cfgC Sl.v at HGO
  unfold Sl.v at RL
  simp only at HGO
  generalize W.cells = ws at *
  clear hW hv hf hklen hvlen hXl hXk hXv HWC hbl h1 h2 g1 g2 hd q1 q2 hlT
  have X0 := blk_new w 23 #[.int .i64 (V : Int), .int .i64 (D : Int), .int .i64 (Hd : Int), .int .i64 (H : Int), .int .i64 (L : Int)]
  have B0 : Below w.heap.size w (w.alloc (.cells #[.int .i64 (V : Int), .int .i64 (D : Int), .int .i64 (Hd : Int), .int .i64 (H : Int), .int .i64 (L : Int)] 23)) := (Below.refl _ _).alloc (Nat.le_refl _) _
  have s0 : (w.alloc (.cells #[.int .i64 (V : Int), .int .i64 (D : Int), .int .i64 (Hd : Int), .int .i64 (H : Int), .int .i64 (L : Int)] 23)).heap.size = w.heap.size + 1 := by simp
  generalize hw0 : w.alloc (.cells #[.int .i64 (V : Int), .int .i64 (D : Int), .int .i64 (Hd : Int), .int .i64 (H : Int), .int .i64 (L : Int)] 23) = w1 at *
  have X1 := blk_new w1 38 ws
  have B1 : Below w1.heap.size w1 (w1.alloc (.cells ws 38)) := (Below.refl _ _).alloc (Nat.le_refl _) _
  have s1 : (w1.alloc (.cells ws 38)).heap.size = w1.heap.size + 1 := by simp
  generalize hw1 : w1.alloc (.cells ws 38) = w2 at *
  have X2 := blk_new w2 41 #[.slice ta n tz, .slice ka kn kz, .slice va vn vz]
  have B2 : Below w2.heap.size w2 (w2.alloc (.cells #[.slice ta n tz, .slice ka kn kz, .slice va vn vz] 41)) := (Below.refl _ _).alloc (Nat.le_refl _) _
  have s2 : (w2.alloc (.cells #[.slice ta n tz, .slice ka kn kz, .slice va vn vz] 41)).heap.size = w2.heap.size + 1 := by simp
  generalize hw2 : w2.alloc (.cells #[.slice ta n tz, .slice ka kn kz, .slice va vn vz] 41) = w3 at *
  have X3 := blk_new w3 41 #[.slice none 0 0, .slice none 0 0, .slice none 0 0]
  have B3 : Below w3.heap.size w3 (w3.alloc (.cells #[.slice none 0 0, .slice none 0 0, .slice none 0 0] 41)) := (Below.refl _ _).alloc (Nat.le_refl _) _
  have s3 : (w3.alloc (.cells #[.slice none 0 0, .slice none 0 0, .slice none 0 0] 41)).heap.size = w3.heap.size + 1 := by simp
  generalize hw3 : w3.alloc (.cells #[.slice none 0 0, .slice none 0 0, .slice none 0 0] 41) = w4 at *
  replace X0 := ((X0.below B1).below B2).below B3
  replace X1 := (X1.below B2).below B3
  replace X2 := X2.below B3
  have D3 := below_then (below_then (below_then B0 B1) B2) B3
  have HSZ : Hid (w1.heap.size = w.heap.size + 1 ∧ w2.heap.size = w1.heap.size + 1 ∧ w3.heap.size = w2.heap.size + 1 ∧ w4.heap.size = w3.heap.size + 1) := ⟨s0, s1, s2, s3⟩
  have HX : Hid (∀ wv, Below w4.heap.size w4 wv → Blk wv w.heap.size 23 #[.int .i64 (V : Int), .int .i64 (D : Int), .int .i64 (Hd : Int), .int .i64 (H : Int), .int .i64 (L : Int)] ∧ Blk wv w1.heap.size 38 ws ∧ Blk wv w2.heap.size 41 #[.slice ta n tz, .slice ka kn kz, .slice va vn vz] ∧ Blk wv w3.heap.size 41 #[.slice none 0 0, .slice none 0 0, .slice none 0 0] ∧ Below w.heap.size w wv) := fun wv hb => ⟨X0.below hb, X1.below hb, X2.below hb, X3.below hb, below_then D3 hb⟩
  obtain ⟨XA, XB, VB, zB⟩ := var3 w4 80 #[.slice none 0 0, .slice none 0 0, .slice none 0 0] #[(.slice none 0 0), .slice ka kn kz, .slice va vn vz]
  generalize hwA : w4.alloc (.cells #[.slice none 0 0, .slice none 0 0, .slice none 0 0] 80) = wA at *
  generalize hwB : wA.setRow w4.heap.size #[(.slice none 0 0), .slice ka kn kz, .slice va vn vz] = w5 at *
  have a1 : w4.cell? ⟨w2.heap.size, 1, none⟩ = some (.slice ka kn kz) := X2.cell 1 rfl
  have a2 : w4.cell? ⟨w2.heap.size, 2, none⟩ = some (.slice va vn vz) := X2.cell 2 rfl
  have b0 : w5.cell? ⟨w2.heap.size, 0, none⟩ = some (.slice ta n tz) := (X2.below VB).cell 0 rfl
  have S0 : FdS w4 w5 (.slice none 0 0) (.slice ka kn kz) (.slice va vn vz) n 0 := ⟨XB, OCu.nil _ _ _, VB⟩
  clear X0 X1 X2 X3 B0 B1 B2 B3 s0 s1 s2 s3 zB XB D3
  go_enter Tryz.func14, Tryz.ntmps14
  go_upto_if 21 with (refine wpList_store_row rfl 80 _ _ rfl w4.heap.size #[(.slice none 0 0), .slice ka kn kz, .slice va vn vz] rfl rfl 80 _ XA Tryz.infoRP8 rfl (by simp [Value.oneCell']) ?_; rw [hwB])
  clear XA hwA hwB hw0 hw1 hw2 hw3 a1 a2 VB
  go_cut [11] from 22 to 36 (fun s11 wc => ∃ (va1 : Option Addr) (vn1 vz1 k : Nat), FdS w4 wc (.slice va1 vn1 vz1) (.slice ka kn kz) (.slice va vn vz) n k ∧ vn1 = k ∧ k = (if n = 0 then 0 else L + 1))
  case first =>
    rcases Nat.eq_zero_or_pos n with hz | hz
    · have hzi : decide ((n : Int) > 0) = false := decide_eq_false (by omega)
      go_wp2_with fail
      go_meet
      case rel => exact ⟨none, 0, 0, 0, S0, rfl, by rw [if_pos hz]⟩
    · have hzi : decide ((n : Int) > 0) = true := decide_eq_true (by omega)
      have hLb := HLM.out.1
      clear b0
      go_wp2_with fail
      go_loopg [11] (L + 2) (fun r s11 wr => ∃ (l : Nat) (p1 : Option Addr) (z1 : Nat), l ≤ L + 1 ∧ r = L + 2 - l ∧ s11 = .int .i64 (l : Int) ∧ FdS w4 wr (.slice p1 l z1) (.slice ka kn kz) (.slice va vn vz) n l)
      case atStart => exact ⟨0, none, 0, by omega, by omega, rfl, S0⟩
      case round =>
        clear S0
        obtain ⟨l, p1, z1, hl, rfl, rfl, GS⟩ := hrel
        obtain ⟨v1, hv1⟩ : ∃ v, v = Value.slice p1 l z1 := ⟨_, rfl⟩
        rw [← hv1] at GS
        have HV1 : Hid (v1 = Value.slice p1 l z1) := hv1
        clear hv1
        have a4 : wr.cell? ⟨w.heap.size, 4, none⟩ = some (.int .i64 (L : Int)) := (HX.out wr GS.kp).1.cell 4 rfl
        by_cases hlt : l ≤ L
        rotate_left
        · have hle : decide ((l : Int) ≤ (L : Int)) = false := decide_eq_false (by omega)
          obtain rfl : l = L + 1 := by omega
          go_wp2_with fail
          go_meet
          case rel => exact ⟨p1, _, z1, _, by rw [← HV1.out]; exact GS, rfl, by rw [if_neg (by omega)]⟩
        have hle : (l : Int) ≤ (L : Int) := by omega
        have XV := (HX.out wr GS.kp).2.2.1
        have hmk := run_make_row' (P := Tryz.prog) 77 24 (.slice none 0 0) 24 Tryz.underlying77 Tryz.infoRow rfl .i64 .i64 n (by omega) (by omega)
        go_upto_region 6 with fail
        clear a4
        refine wp_region_late (S := fun w' => Blk w' w4.heap.size 80 #[v1, (.slice ka kn kz), (.slice va vn vz)] ∧ Blk w' w2.heap.size 41 #[.slice ta n tz, .slice ka kn kz, .slice va vn vz]) 9 (by kernel_rfl) ⟨GS.blk, XV⟩ (fun hHeld => ?_)
        have BD : Below wr.heap.size wr wr.drew := (Below.refl _ wr).drew
        have GD := GS.below BD
        have XD := XV.below BD
        generalize hwd : wr.drew = wd at *
        clear hwd BD GS XV
        refine wpLate_pure (i := 0) (v := (.pointer (some ⟨w4.heap.size, 0, none⟩))) rfl (by decide) (by kernel_rfl) (by kernel_rfl) (by kernel_rfl) (fun _ _ _ h => h) (Or.inl ⟨by rfl, ?_⟩) (fun _ => by assumption) ?_
        · intro w' _
          go_simp
        simp only [List.getElem_toArray, List.getElem_cons_zero, Act.put, List.setIfInBounds_toArray, List.set_cons_zero, List.set_cons_succ]
        refine wpLate_take (i := 1) (v := v1) rfl (by kernel_rfl) (by kernel_rfl) (by kernel_rfl) (by kernel_rfl) (by kernel_rfl) (fun _ _ _ h => h) (Or.inl ⟨by rfl, ?_⟩) (by assumption) ?_
        · intro w' hSw
          have y0 : w'.cell? ⟨w4.heap.size, 0, none⟩ = some v1 := hSw.1.cell 0 rfl
          go_simp
        simp only [List.getElem_toArray, List.getElem_cons_succ, List.getElem_cons_zero, Act.put, List.setIfInBounds_toArray, List.set_cons_zero, List.set_cons_succ]
        refine wpLate_pure (i := 2) (v := (.pointer (some ⟨w2.heap.size, 0, none⟩))) rfl (by decide) (by kernel_rfl) (by kernel_rfl) (by kernel_rfl) (fun _ _ _ h => h) (Or.inl ⟨by rfl, ?_⟩) (fun _ => by assumption) ?_
        · intro w' _
          go_simp
        simp only [List.getElem_toArray, List.getElem_cons_succ, List.getElem_cons_zero, Act.put, List.setIfInBounds_toArray, List.set_cons_zero, List.set_cons_succ]
        refine wpLate_take (i := 3) (v := (.slice ta n tz)) rfl (by kernel_rfl) (by kernel_rfl) (by kernel_rfl) (by kernel_rfl) (by kernel_rfl) (fun _ _ _ h => h) (Or.inl ⟨by rfl, ?_⟩) (by assumption) ?_
        · intro w' hSw
          have y0 : w'.cell? ⟨w2.heap.size, 0, none⟩ = some (.slice ta n tz) := hSw.2.cell 0 rfl
          go_simp
        simp only [List.getElem_toArray, List.getElem_cons_succ, List.getElem_cons_zero, Act.put, List.setIfInBounds_toArray, List.set_cons_zero, List.set_cons_succ]
        refine wpLate_pure (i := 4) (v := (.int .i64 (n : Int))) rfl (by decide) (by kernel_rfl) (by kernel_rfl) (by kernel_rfl) (fun _ _ _ h => h) (Or.inl ⟨by rfl, ?_⟩) (fun _ => by assumption) ?_
        · intro w' _
          go_simp
        simp only [List.getElem_toArray, List.getElem_cons_succ, List.getElem_cons_zero, Act.put, List.setIfInBounds_toArray, List.set_cons_zero, List.set_cons_succ]
        refine wpLate_ready (rs := [5]) (by kernel_rfl) (by simp) ?_
        refine wpLate_cons rfl (fun Kc hKc => ?_) wpLate_nil
        simp only [List.getElem_toArray, List.getElem_cons_succ, List.getElem_cons_zero]
        rw [if_pos (by rfl)]
        go_wp2_with fail
        have BA := below_alloc8 wd (.cells (madeCells #[.slice none 0 0] n) 24)
        have NM : GridAt (wd.alloc (.cells (madeCells #[.slice none 0 0] n) 24)) (some ⟨wd.heap.size, 0, none⟩) n (List.replicate n []) := nils_grid (by omega) (fun i hi => nils_made wd hi)
        have zA : wd.heap.size < (wd.alloc (.cells (madeCells #[.slice none 0 0] n) 24)).heap.size := by simp
        generalize hwA : wd.alloc (.cells (madeCells #[.slice none 0 0] n) 24) = wA at *
        clear hwA
        have hown : ∀ g, v1.ownBlock = some g → g < wd.heap.size := fun g e => (GD.c.lt g e).2
        have GE := GD.below BA
        have XE := XD.below BA
        have hge := GD.blk.lt
        clear GD XD BA
        refine hKc.out _ _ (fun _ _ => ⟨GE.blk, XE⟩) ?_
        clear hKc Kc
        refine wpLate_ready (rs := [6]) (by kernel_rfl) (by simp) ?_
        refine wpLate_cons rfl (fun Kc hKc => ?_) wpLate_nil
        simp only [List.getElem_toArray, List.getElem_cons_succ, List.getElem_cons_zero]
        rw [if_pos (by rfl)]
        go_wp2_with fail
        have BA := below_alloc8 wA (.cells #[(.slice (some ⟨wd.heap.size, 0, none⟩) n n)] 77)
        have xa := cellLists_new wA (.slice (some ⟨wd.heap.size, 0, none⟩) n n)
        have zB : wA.heap.size < (wA.alloc (.cells #[(.slice (some ⟨wd.heap.size, 0, none⟩) n n)] 77)).heap.size := by simp
        generalize hwA : wA.alloc (.cells #[(.slice (some ⟨wd.heap.size, 0, none⟩) n n)] 77) = wB at *
        clear hwA
        have GG := GE.below BA
        have XG := XE.below BA
        have NG := NM.below BA
        have hpg : (offO (fun _ => True) v1 (.slice none 0 0) (.slice none 0 0) (.slice none 0 0) (.slice none 0 0) w4.heap.size) wd.heap.size := ⟨fun e => by have := (GG.c.lt _ e).2; have := hown _ e; omega, (fun e => no_own _ e), (fun e => no_own _ e), (fun e => no_own _ e), (fun e => no_own _ e), by omega, by omega, trivial⟩
        have hY : Hangs (offO (fun _ => True) v1 (.slice none 0 0) (.slice none 0 0) (.slice none 0 0) (.slice none 0 0) w4.heap.size) wB (fun w => GridAt w (some ⟨wd.heap.size, 0, none⟩) n (List.replicate n [])) := fun w2 h2 => nils_of_block NG (h2 _ hpg (by omega))
        clear GE XE BA NM
        refine hKc.out _ _ (fun _ _ => ⟨GG.blk, XG⟩) ?_
        clear hKc Kc
        refine wpLate_ready (rs := [7]) (by kernel_rfl) (by simp) ?_
        refine wpLate_cons rfl (fun Kc hKc => ?_) wpLate_nil
        simp only [List.getElem_toArray, List.getElem_cons_succ, List.getElem_cons_zero]
        rw [if_pos (by rfl)]
        refine wp_append_cu _ _ rfl (w4.heap.size + 1) (offO (fun _ => True) v1 (.slice none 0 0) (.slice none 0 0) (.slice none 0 0) (.slice none 0 0) w4.heap.size) v1 (nilK n l) l (nilK_len n l) rfl GG.c wA.heap.size wd.heap.size n n _ rfl xa (Nat.le_refl _) (by omega) hpg (by omega) hY (by omega) (by have := GG.blk.lt; omega) ?_
        intro b1 bc w7 M7 G7 N7
        have hb7 : Blk w7 w4.heap.size 80 #[v1, (.slice ka kn kz), (.slice va vn vz)] := GG.blk.of_block (G7.block _ GG.blk.lt (fun e => by have := (GG.c.lt _ e.symm).1; omega))
        have hx7 : Blk w7 w2.heap.size 41 #[.slice ta n tz, .slice ka kn kz, .slice va vn vz] := XG.of_block (G7.block _ XG.lt (fun e => by have := (GG.c.lt _ e.symm).1; have := HSZ.out; omega))
        have c7 : w7.cell? ⟨w4.heap.size, 0, none⟩ = some v1 := hb7.cell 0 rfl
        have f7 := hb7.frozen 0
        have GH := GG.put M7 G7 N7
        clear GG hY xa M7 G7 N7 NG XG
        refine hKc.out _ _ (fun _ _ => ⟨hb7, hx7⟩) ?_
        clear hKc Kc
        refine wpLate_pure (i := 8) (v := (.pointer (some ⟨w4.heap.size, 0, none⟩))) rfl (by decide) (by kernel_rfl) (by kernel_rfl) (by kernel_rfl) (fun _ _ _ h => h) (Or.inl ⟨by rfl, ?_⟩) (fun _ => ⟨hb7, hx7⟩) ?_
        · intro w' _
          go_simp
        simp only [List.getElem_toArray, List.getElem_cons_succ, List.getElem_cons_zero, Act.put, List.setIfInBounds_toArray, List.set_cons_zero, List.set_cons_succ]
        refine wpLate_ready (rs := [9]) (by kernel_rfl) (by simp) ?_
        refine wpLate_cons rfl (fun Kc hKc => ?_) wpLate_nil
        simp only [List.getElem_toArray, List.getElem_cons_succ, List.getElem_cons_zero]
        rw [if_pos (by rfl)]
        go_wp2_with fail
        refine hKc.out _ _ (fun hne _ => absurd rfl hne) ?_
        clear hKc Kc
        try simp only [Act.put]
        refine wpLate_done (by kernel_rfl) ?_ _
        clear hb7 hx7 c7 f7
        go_wp2_with fail
        go_roundg (L + 2 - (l + 1))
        case measure => omega
        case rel => exact ⟨l + 1, b1, bc, by omega, rfl, by go_num, GH⟩
  case rest =>
  obtain ⟨va1, vn1, vz1, kk, GS, rfl, hkk⟩ := hcut
  have HK0 : Hid (vn1 = (if n = 0 then 0 else L + 1)) := hkk
  have hLb := HLM.out
  obtain ⟨X0, X1, X2, X3, DW⟩ := HX.out wc GS.kp
  have hEQ : nilK n vn1 = nilR L n := by
    have := HK0.out
    unfold nilR
    by_cases h0 : n = 0
    · rw [if_pos h0] at this ⊢; rw [this]; rfl
    · rw [if_neg h0] at this ⊢; rw [this]
  have hsm : vn1 ≤ 1000 := by have := HK0.out; split at this <;> omega
  obtain ⟨sr, e1, e2, hPC⟩ := GS.c.pcube (P := fun b => b ≠ w3.heap.size) (by rw [nilK_len]; omega) (fun b hb => by have := hb.2.2.2.2.2.2.1; have := HSZ.out; omega) (fun b hb => by have := HSZ.out; omega)
  have GO := HGO (fun b => b ≠ w3.heap.size) wc sr (nilR L n) (fun b hb => by have := HSZ.out; omega) DW (by rw [← hEQ]; exact hPC.weak) (by rw [HTL.out]; exact nilR_m L n) (fun l => nilR_small L n l (by omega))
  rw [show Value.slice sr.ao sr.n sr.c = Value.slice va1 vn1 vz1 from e1.symm] at GO
  rw [goK_new, goV_new, ← HKN.out, ← HVN.out] at GO
  have hR9 : ((List.range (L + 1)).map (goR M D H Hd X.T.length (nilR L n) X.K X.V (begR M.E D tok X.T.length)))[L]? = some (goR M D H Hd X.T.length (nilR L n) X.K X.V (begR M.E D tok X.T.length) L) := by rw [List.getElem?_map, List.getElem?_range (by omega)]; rfl
  have hl9 : ((List.range (L + 1)).map (goR M D H Hd X.T.length (nilR L n) X.K X.V (begR M.E D tok X.T.length))).length = L + 1 := by simp
  have hg9 : (goR M D H Hd X.T.length (nilR L n) X.K X.V (begR M.E D tok X.T.length) L).length = X.T.length + 1 := by
    unfold goR; rw [List.length_append, nilR_at (Nat.le_refl _), HTL.out]; rfl
  have hx9 : rowOf (goR M D H Hd X.T.length (nilR L n) X.K X.V (begR M.E D tok X.T.length) L) X.T.length = FX := by
    have h8 : X.T.length = ((nilR L n).getD L []).length := by rw [nilR_at (Nat.le_refl _), HTL.out]
    show rowOf ((nilR L n).getD L [] ++ [xRow M D H Hd X.T.length X.K X.V (begR M.E D tok X.T.length) L]) X.T.length = _
    rw [show rowOf ((nilR L n).getD L [] ++ [xRow M D H Hd X.T.length X.K X.V (begR M.E D tok X.T.length) L]) X.T.length = rowOf ((nilR L n).getD L [] ++ [xRow M D H Hd X.T.length X.K X.V (begR M.E D tok X.T.length) L]) ((nilR L n).getD L []).length from by rw [← h8], rowOf_last, HFX.out]
    rfl
  have hxl : FX.length = D := by
    rw [HFX.out]
    unfold feedX
    cases L with
    | zero => exact tab_len _ _
    | succ l => exact tab_len _ _
  generalize (List.range (L + 1)).map (goR M D H Hd X.T.length (nilR L n) X.K X.V (begR M.E D tok X.T.length)) = CR at *
  generalize goR M D H Hd X.T.length (nilR L n) X.K X.V (begR M.E D tok X.T.length) L = RR at *
  have RL2 := fun wv (sr sk sv : Sl) (hb : Below w.heap.size w wv) (hC : DCube wv sr CR) => RL wv sr sk sv CR RR hb hC hl9 hR9 hg9 (by rw [hx9]; exact hxl)
  rw [hx9] at RL2
  clear hR9 hl9 hg9 hx9 hxl HGO RL hEQ e1 e2 hPC hkk
  have XP := GS.blk
  have a0 : wc.cell? ⟨w.heap.size, 0, none⟩ = some (.int .i64 (V : Int)) := X0.cell 0 rfl
  have a1 : wc.cell? ⟨w.heap.size, 1, none⟩ = some (.int .i64 (D : Int)) := X0.cell 1 rfl
  have a2 : wc.cell? ⟨w.heap.size, 2, none⟩ = some (.int .i64 (Hd : Int)) := X0.cell 2 rfl
  have a3 : wc.cell? ⟨w.heap.size, 3, none⟩ = some (.int .i64 (H : Int)) := X0.cell 3 rfl
  have a4 : wc.cell? ⟨w.heap.size, 4, none⟩ = some (.int .i64 (L : Int)) := X0.cell 4 rfl
  go_wp2_with (first
    | (refine wpList_load_row rfl 38 _ rfl w1.heap.size rfl 38 _ (0, 0) _ X1 Tryz.underlying38 rfl (by rw [siz]; exact Tryz.infoRW8) ?_)
    | (refine wpList_load_row rfl 80 _ rfl w4.heap.size rfl 80 _ (0, 0) _ XP Tryz.underlying80 rfl Tryz.infoRP8 ?_))
  refine GO.mono ?_
  rintro e w6 ⟨⟨ra, rn, rz⟩, ⟨ja, jn, jz⟩, ⟨ya, yn, yz⟩, rfl, E1, E2, E3, B6⟩
  have D1 := E1.dcube
  have hw3c := X3.lt
  clear E1 GO a0 a1 a2 a3 a4 GS XP X0
  replace X1 := X1.below B6
  replace X2 := X2.below B6
  replace X3 := X3.below B6
  have h36 := X3.lt
  replace DW := below_then DW B6
  rw [show (#[Value.slice (Sl.mk ra rn rz).ao (Sl.mk ra rn rz).n (Sl.mk ra rn rz).c, Value.slice (Sl.mk ja jn jz).ao (Sl.mk ja jn jz).n (Sl.mk ja jn jz).c, Value.slice (Sl.mk ya yn yz).ao (Sl.mk ya yn yz).n (Sl.mk ya yn yz).c] : Array Value) = #[.slice ra rn rz, .slice ja jn jz, .slice ya yn yz] from rfl]
  obtain ⟨ZP, XQ, BQ, zQ⟩ := var3 w6 80 #[.slice none 0 0, .slice none 0 0, .slice none 0 0] #[.slice ra rn rz, .slice ja jn jz, .slice ya yn yz]
  generalize hp1 : w6.alloc (.cells #[.slice none 0 0, .slice none 0 0, .slice none 0 0] 80) = wz at *
  generalize hp2 : wz.setRow w6.heap.size #[.slice ra rn rz, .slice ja jn jz, .slice ya yn yz] = w7 at *
  replace X1 := X1.below BQ
  replace X2 := X2.below BQ
  replace X3 := X3.below BQ
  replace D1 := D1.below BQ
  replace E2 := E2.below BQ
  replace E3 := E3.below BQ
  replace DW := below_then DW BQ
  go_upto_region 8 with (refine wpList_store_row rfl 80 _ _ rfl w6.heap.size _ rfl rfl 80 _ ZP Tryz.infoRP8 rfl (by simp [Value.oneCell']) ?_; rw [hp2])
  clear hp1 hp2 ZP B6 BQ zQ
  have BD : Below w7.heap.size w7 w7.drew := (Below.refl _ w7).drew
  replace X1 := X1.below BD
  replace X2 := X2.below BD
  replace X3 := X3.below BD
  replace XQ := XQ.below BD
  replace D1 := D1.below BD
  replace E2 := E2.below BD
  replace E3 := E3.below BD
  replace DW := DW.drew
  have hT7 := HTT.out _ DW
  have HX7 : Hid (∀ wv, Below w7.drew.heap.size w7.drew wv → (Blk wv w1.heap.size 38 ws ∧ Blk wv w2.heap.size 41 #[.slice ta n tz, .slice ka kn kz, .slice va vn vz] ∧ Blk wv w6.heap.size 80 #[.slice ra rn rz, .slice ja jn jz, .slice ya yn yz]) ∧ Blk wv w3.heap.size 41 #[.slice none 0 0, .slice none 0 0, .slice none 0 0] ∧ DCube wv ⟨ra, rn, rz⟩ CR ∧ (PCube (fun b => b ≠ w3.heap.size ∨ wc.heap.size ≤ b) wv ⟨ja, jn, jz⟩ KK ∧ PCube (fun b => b ≠ w3.heap.size ∨ wc.heap.size ≤ b) wv ⟨ya, yn, yz⟩ VN) ∧ Below w.heap.size w wv ∧ IArg wv ta n tz X.T) := fun wv hb => ⟨⟨X1.below hb, X2.below hb, XQ.below hb⟩, X3.below hb, D1.below hb, ⟨E2.below hb, E3.below hb⟩, below_then DW hb, hT7.below hb⟩
  clear BD
  refine wp_region_held_drew (S := fun w' => Blk w' w1.heap.size 38 ws ∧ Blk w' w2.heap.size 41 #[.slice ta n tz, .slice ka kn kz, .slice va vn vz] ∧ Blk w' w6.heap.size 80 #[.slice ra rn rz, .slice ja jn jz, .slice ya yn yz]) (by kernel_rfl) (⟨X1, X2, XQ⟩) (fun hHeld => ?_)
  have h7A : w3.heap.size < w7.drew.heap.size := X3.lt
  generalize hA : w7.drew = wA at *
  clear hA
  refine wpAnyH_take (i := 1) (v := (.pointer (some ⟨w2.heap.size, 0, none⟩))) rfl (by kernel_rfl) (by kernel_rfl) (by kernel_rfl) (fun _ _ _ h => h) (Or.inl ⟨by rfl, ?_⟩) (by assumption) ?_
  · intro w' hSw
    go_simp
  simp only [List.getElem_toArray, List.getElem_cons_succ, List.getElem_cons_zero, Act.put, List.setIfInBounds_toArray, List.set_cons_zero, List.set_cons_succ]
  refine wpAnyH_take (i := 2) (v := (.slice ta n tz)) rfl (by kernel_rfl) (by kernel_rfl) (by kernel_rfl) (fun _ _ _ h => h) (Or.inl ⟨by rfl, ?_⟩) (by assumption) ?_
  · intro w' hSw
    have y0 : w'.cell? ⟨w2.heap.size, 0, none⟩ = some (.slice ta n tz) := hSw.2.1.cell 0 rfl
    go_simp
  simp only [List.getElem_toArray, List.getElem_cons_succ, List.getElem_cons_zero, Act.put, List.setIfInBounds_toArray, List.set_cons_zero, List.set_cons_succ]
  refine wpAnyH_take (i := 4) (v := (.int .i64 (tok : Int))) rfl (by kernel_rfl) (by kernel_rfl) (by kernel_rfl) (fun _ _ _ h => h) (Or.inl ⟨by rfl, ?_⟩) (by assumption) ?_
  · intro w' hSw
    go_simp
  simp only [List.getElem_toArray, List.getElem_cons_succ, List.getElem_cons_zero, Act.put, List.setIfInBounds_toArray, List.set_cons_zero, List.set_cons_succ]
  refine wpAnyH_take (i := 7) (v := (.pointer (some ⟨w6.heap.size, 1, none⟩))) rfl (by kernel_rfl) (by kernel_rfl) (by kernel_rfl) (fun _ _ _ h => h) (Or.inl ⟨by rfl, ?_⟩) (by assumption) ?_
  · intro w' hSw
    go_simp
  simp only [List.getElem_toArray, List.getElem_cons_succ, List.getElem_cons_zero, Act.put, List.setIfInBounds_toArray, List.set_cons_zero, List.set_cons_succ]
  refine wpAnyH_take (i := 8) (v := (.slice ja jn jz)) rfl (by kernel_rfl) (by kernel_rfl) (by kernel_rfl) (fun _ _ _ h => h) (Or.inl ⟨by rfl, ?_⟩) (by assumption) ?_
  · intro w' hSw
    have y0 : w'.cell? ⟨w6.heap.size, 1, none⟩ = some (.slice ja jn jz) := hSw.2.2.cell 1 rfl
    go_simp
  simp only [List.getElem_toArray, List.getElem_cons_succ, List.getElem_cons_zero, Act.put, List.setIfInBounds_toArray, List.set_cons_zero, List.set_cons_succ]
  refine wpAnyH_take (i := 9) (v := (.pointer (some ⟨w6.heap.size, 2, none⟩))) rfl (by kernel_rfl) (by kernel_rfl) (by kernel_rfl) (fun _ _ _ h => h) (Or.inl ⟨by rfl, ?_⟩) (by assumption) ?_
  · intro w' hSw
    go_simp
  simp only [List.getElem_toArray, List.getElem_cons_succ, List.getElem_cons_zero, Act.put, List.setIfInBounds_toArray, List.set_cons_zero, List.set_cons_succ]
  refine wpAnyH_take (i := 10) (v := (.slice ya yn yz)) rfl (by kernel_rfl) (by kernel_rfl) (by kernel_rfl) (fun _ _ _ h => h) (Or.inl ⟨by rfl, ?_⟩) (by assumption) ?_
  · intro w' hSw
    have y0 : w'.cell? ⟨w6.heap.size, 2, none⟩ = some (.slice ya yn yz) := hSw.2.2.cell 2 rfl
    go_simp
  simp only [List.getElem_toArray, List.getElem_cons_succ, List.getElem_cons_zero, Act.put, List.setIfInBounds_toArray, List.set_cons_zero, List.set_cons_succ]
  refine wpAnyH_take (i := 12) (v := .agg ws) rfl (by kernel_rfl) (by kernel_rfl) (by kernel_rfl) (fun _ _ _ h => h) (yields_rowF (by rfl) 38 _ rfl w1.heap.size rfl 38 ws _ (fun w' hS => hS.1) Tryz.underlying38 rfl (by rw [siz]; exact Tryz.infoRW8)) (by assumption) ?_
  simp only [List.getElem_toArray, List.getElem_cons_succ, List.getElem_cons_zero, Act.put, List.setIfInBounds_toArray, List.set_cons_zero, List.set_cons_succ]
  refine wpAnyH_take (i := 13) (v := .agg #[.slice ra rn rz, .slice ja jn jz, .slice ya yn yz]) rfl (by kernel_rfl) (by kernel_rfl) (by kernel_rfl) (fun _ _ _ h => h) (yields_rowF (by rfl) 80 _ rfl w6.heap.size rfl 80 #[.slice ra rn rz, .slice ja jn jz, .slice ya yn yz] _ (fun w' hS => hS.2.2) Tryz.underlying80 rfl Tryz.infoRP8) (by assumption) ?_
  simp only [List.getElem_toArray, List.getElem_cons_succ, List.getElem_cons_zero, Act.put, List.setIfInBounds_toArray, List.set_cons_zero, List.set_cons_succ]
  have KB : Below wA.heap.size wA wA := Below.refl _ _
  refine wpAnyH_ready (rs := [0, 5]) (by kernel_rfl) (by simp) ?_
  refine AllReadyH.cons rfl (fun Kc hKc => ?_) (AllReadyH.cons rfl (fun Kc hKc => ?_) AllReadyH.nil)
  · simp only [List.getElem_toArray, List.getElem_cons_zero]
    rw [if_pos (by rfl)]
    go_wp2_with fail
    have BA := below_alloc8 wA (.cells #[] 3)
    have OI := ints_made wA wA.heap.size KB.size
    generalize hwZ : wA.alloc (.cells #[] 3) = wa1 at *
    replace KB := below_then KB BA
    clear hwZ BA
    refine hKc.out _ _ (HX7.out _ KB).1 (fun hHeld => ?_)
    clear hKc Kc
    refine wpAnyH_ready (rs := [3, 5]) (by kernel_rfl) (by simp) ?_
    refine AllReadyH.cons rfl (fun Kc hKc => ?_) (AllReadyH.cons rfl (fun Kc hKc => ?_) AllReadyH.nil)
    · simp only [List.getElem_toArray, List.getElem_cons_succ, List.getElem_cons_zero]
      rw [if_pos (by rfl)]
      refine wp_append_i _ _ rfl wA.heap.size (.slice (some ⟨wA.heap.size, 0, none⟩) 0 0) 0 [] rfl OI ta n tz X.T rfl ((HX7.out _ KB).2.2.2.2.2) (by omega) KB.size ?_
      intro u3 wa2 O3 G3 N3
      have BG : Below wA.heap.size wa1 wa2 := (Below.refl _ _).grown G3 KB.size (fun k hk => (OI.lt k hk).1)
      have hO3 : ∀ g, u3.ownBlock = some g → g < wa2.heap.size := fun g e => (O3.lt g e).2
      replace KB := KB.trans BG
      clear BG OI G3 N3
      refine hKc.out _ _ (HX7.out _ KB).1 (fun hHeld => ?_)
      clear hKc Kc
      refine wpAnyH_ready (rs := [5]) (by kernel_rfl) (by simp) ?_
      refine AllReadyH.cons rfl (fun Kc hKc => ?_) AllReadyH.nil
      simp only [List.getElem_toArray, List.getElem_cons_succ, List.getElem_cons_zero]
      rw [if_pos (by rfl)]
      go_wp2_with fail
      have BA := below_alloc8 wa2 (.cells #[.int .i64 (tok : Int)] 3)
      have IB := blk_new wa2 3 #[.int .i64 (tok : Int)]
      obtain ⟨bT, hbT⟩ : ∃ b, b = wa2.heap.size := ⟨_, rfl⟩
      rw [← hbT] at IB
      try rw [← hbT]
      generalize hwZ : wa2.alloc (.cells #[.int .i64 (tok : Int)] 3) = wa3 at *
      replace KB := below_then KB BA
      replace O3 := owns_below O3 BA
      have hI3 : ∀ g, u3.ownBlock = some g → bT = g → False := fun g e e2 => by have := hO3 g e; omega
      clear hwZ BA hbT
      refine hKc.out _ _ (HX7.out _ KB).1 (fun hHeld => ?_)
      clear hKc Kc
      refine wpAnyH_ready (rs := [6]) (by kernel_rfl) (by simp) ?_
      refine AllReadyH.cons rfl (fun Kc hKc => ?_) AllReadyH.nil
      simp only [List.getElem_toArray, List.getElem_cons_succ, List.getElem_cons_zero]
      rw [if_pos (by rfl)]
      refine wp_append_i _ _ rfl wA.heap.size u3 (0 + n) ([] ++ X.T) rfl O3 (some ⟨bT, 0, none⟩) 1 1 [(tok : Int)] rfl (iarg_oneF IB (by have := HLM.out; omega)) (by omega) KB.size ?_
      intro u6 wa4 O6 G6 N6
      have BG : Below wA.heap.size wa3 wa4 := (Below.refl _ _).grown G6 KB.size (fun k hk => (O3.lt k hk).1)
      replace KB := KB.trans BG
      obtain ⟨nn, hnn⟩ : ∃ nn, 0 + n + 1 = nn := ⟨_, rfl⟩
      rw [hnn] at O6
      skip
      have HNN : Hid (0 + n + 1 = nn) := hnn
      obtain ⟨ea6, ec6, e4⟩ := owns_slice O6
      subst e4
      clear BG O3 G6 N6 IB hnn
      refine hKc.out _ _ (HX7.out _ KB).1 (fun hHeld => ?_)
      clear hKc Kc
      refine wpAnyH_take (i := 11) (v := (.agg #[.slice ea6 nn ec6, .slice ja jn jz, .slice ya yn yz])) rfl (by kernel_rfl) (by kernel_rfl) (by kernel_rfl) (fun _ _ _ h => h) (Or.inl ⟨by rfl, ?_⟩) (by assumption) ?_
      · intro w' hSw
        go_simp
      simp only [List.getElem_toArray, List.getElem_cons_succ, List.getElem_cons_zero, Act.put, List.setIfInBounds_toArray, List.set_cons_zero, List.set_cons_succ]
      refine wpAnyH_ready (rs := [14]) (by kernel_rfl) (by simp) ?_
      refine AllReadyH.cons rfl (fun Kc hKc => ?_) AllReadyH.nil
      simp only [List.getElem_toArray, List.getElem_cons_succ, List.getElem_cons_zero]
      rw [if_pos (by rfl)]
      go_wp2_with fail
      refine (RL2 wa4 ⟨ra, rn, rz⟩ ⟨ja, jn, jz⟩ ⟨ya, yn, yz⟩ ((HX7.out _ KB).2.2.2.2.1) ((HX7.out _ KB).2.2.1)).mono ?_
      rintro e wL ⟨gL, cL, rfl, FL, BL⟩
      have hzL := KB.size
      replace KB := below_then KB BL
      replace O6 := owns_below O6 BL
      have hgL := FL.base
      clear BL RL2
      go_wp2_with fail
      refine hKc.out _ _ (HX7.out _ KB).1 (fun hHeld => ?_)
      clear hKc Kc
      refine wpAnyH_ready (rs := [15]) (by kernel_rfl) (by simp) ?_
      refine AllReadyH.cons rfl (fun Kc hKc => ?_) AllReadyH.nil
      simp only [List.getElem_toArray, List.getElem_cons_succ, List.getElem_cons_zero]
      rw [if_pos (by rfl)]
      have hall : Array.all (#[.slice ea6 nn ec6, .slice ja jn jz, .slice ya yn yz] : Array Value) (fun v => v.oneCell') = true := all3c rfl rfl rfl
      obtain ⟨⟨Y1, Y2, Y6⟩, Y3, _, ⟨P2, P3⟩, DL, _⟩ := HX7.out _ KB
      have hs9 := HSZ.out
      have so : ∀ (b : Nat), b ≠ w3.heap.size → (wL.setRow w3.heap.size #[.slice ea6 nn ec6, .slice ja jn jz, .slice ya yn yz]).heap[b]? = wL.heap[b]? := fun b hb => setRow_other _ _ _ _ hb
      refine wp_store_row 41 _ _ rfl w3.heap.size #[.slice ea6 nn ec6, .slice ja jn jz, .slice ya yn yz] rfl rfl 41 _ Y3 Tryz.infoRV rfl hall ?_
      refine hKc.out _ _ ⟨Y1.of_block (so _ (by omega)), Y2.of_block (so _ (by omega)), Y6.of_block (so _ (by omega))⟩ (fun hHeld => ?_)
      clear hKc Kc
      refine wpAnyH_take (i := 16) (v := (.slice (some ⟨gL, 0, none⟩) V cL)) rfl (by kernel_rfl) (by kernel_rfl) (by kernel_rfl) (fun _ _ _ h => h) (Or.inl ⟨by rfl, ?_⟩) (by assumption) ?_
      · intro w' hSw
        go_simp
      simp only [List.getElem_toArray, List.getElem_cons_succ, List.getElem_cons_zero, Act.put, List.setIfInBounds_toArray, List.set_cons_zero, List.set_cons_succ]
      refine wpAnyH_done (by kernel_rfl) ?_ _
      clear hHeld
      go_wp2
      refine bodyPost_ret (results_blk rfl _ _ w3.heap.size #[.slice ea6 nn ec6, .slice ja jn jz, .slice ya yn yz] rfl (run_loadVar_row _ w3.heap.size _ _ _ _ _ (Y3.row #[.slice ea6 nn ec6, .slice ja jn jz, .slice ya yn yz]) Tryz.underlying41 rfl Tryz.infoRV)) rfl ?_
      have TT : Tn (fun b => b ≠ w3.heap.size ∨ wc.heap.size ≤ b) (fun b => b ≠ w3.heap.size ∨ wc.heap.size ≤ b) wL (wL.setRow w3.heap.size #[.slice ea6 nn ec6, .slice ja jn jz, .slice ya yn yz]) := ⟨by simp, fun b _ hb => ⟨hb, so b (by omega)⟩⟩
      have C2 := (P2.turn TT (fun _ h => h)).dcube.cube
      have C3 := (P3.turn TT (fun _ h => h)).dcube.cube
      have hA9 := h7A
      have OF := owns_mono O6 (Nat.le_refl _) (fun b hb => so b (by have := (O6.lt b hb).1; omega))
      have hI7 := hT7.row.small
      obtain ⟨x1, y1, e9, IT⟩ := IOwn.arg (A := [] ++ X.T ++ [(tok : Int)]) OF (fun k => toks_small hI7 (by have := HLM.out; omega) k)
      simp only [Value.slice.injEq, true_and] at e9
      obtain ⟨rfl, rfl⟩ := e9
      exact ⟨⟨ea6, nn, ec6⟩, ⟨ja, jn, jz⟩, ⟨ya, yn, yz⟩, gL, cL, rfl, ⟨IT, C2, C3⟩, (FL.of_block (so gL (by omega))).mono (by have := DL.size; omega), below_setRow DL (by omega) _⟩
    · simp only [List.getElem_toArray, List.getElem_cons_succ, List.getElem_cons_zero]
      rw [if_pos (by rfl)]
      go_wp2_with fail
      have BA := below_alloc8 wa1 (.cells #[.int .i64 (tok : Int)] 3)
      have IB := blk_new wa1 3 #[.int .i64 (tok : Int)]
      have hIT : wa1.heap.size = wA.heap.size → False := fun e => by have h9 := (OI.lt wA.heap.size rfl).2; rw [e] at h9; exact Nat.lt_irrefl _ h9
      obtain ⟨bT, hbT⟩ : ∃ b, b = wa1.heap.size := ⟨_, rfl⟩
      rw [← hbT] at IB hIT
      try rw [← hbT]
      generalize hwZ : wa1.alloc (.cells #[.int .i64 (tok : Int)] 3) = wa2 at *
      replace KB := below_then KB BA
      replace OI := owns_below OI BA
      clear hwZ BA hbT
      refine hKc.out _ _ (HX7.out _ KB).1 (fun hHeld => ?_)
      clear hKc Kc
      refine wpAnyH_ready (rs := [3]) (by kernel_rfl) (by simp) ?_
      refine AllReadyH.cons rfl (fun Kc hKc => ?_) AllReadyH.nil
      simp only [List.getElem_toArray, List.getElem_cons_succ, List.getElem_cons_zero]
      rw [if_pos (by rfl)]
      refine wp_append_i _ _ rfl wA.heap.size (.slice (some ⟨wA.heap.size, 0, none⟩) 0 0) 0 [] rfl OI ta n tz X.T rfl ((HX7.out _ KB).2.2.2.2.2) (by omega) KB.size ?_
      intro u3 wa3 O3 G3 N3
      have BG : Below wA.heap.size wa2 wa3 := (Below.refl _ _).grown G3 KB.size (fun k hk => (OI.lt k hk).1)
      have hI3 : ∀ g, u3.ownBlock = some g → bT = g → False := fun g e e2 => by
        rcases N3 g e with a | a
        · exact hIT (e2.trans (Option.some.inj (show some wA.heap.size = some g from a)).symm)
        · have := IB.lt; omega
      replace IB := IB.of_block (G3.block _ IB.lt (fun e => hIT (Option.some.inj (show some bT = some wA.heap.size from e))))
      replace KB := KB.trans BG
      clear BG OI G3 N3
      refine hKc.out _ _ (HX7.out _ KB).1 (fun hHeld => ?_)
      clear hKc Kc
      refine wpAnyH_ready (rs := [6]) (by kernel_rfl) (by simp) ?_
      refine AllReadyH.cons rfl (fun Kc hKc => ?_) AllReadyH.nil
      simp only [List.getElem_toArray, List.getElem_cons_succ, List.getElem_cons_zero]
      rw [if_pos (by rfl)]
      refine wp_append_i _ _ rfl wA.heap.size u3 (0 + n) ([] ++ X.T) rfl O3 (some ⟨bT, 0, none⟩) 1 1 [(tok : Int)] rfl (iarg_oneF IB (by have := HLM.out; omega)) (by omega) KB.size ?_
      intro u6 wa4 O6 G6 N6
      have BG : Below wA.heap.size wa3 wa4 := (Below.refl _ _).grown G6 KB.size (fun k hk => (O3.lt k hk).1)
      replace KB := KB.trans BG
      obtain ⟨nn, hnn⟩ : ∃ nn, 0 + n + 1 = nn := ⟨_, rfl⟩
      rw [hnn] at O6
      skip
      have HNN : Hid (0 + n + 1 = nn) := hnn
      obtain ⟨ea6, ec6, e4⟩ := owns_slice O6
      subst e4
      clear BG O3 G6 N6 IB hnn
      refine hKc.out _ _ (HX7.out _ KB).1 (fun hHeld => ?_)
      clear hKc Kc
      refine wpAnyH_take (i := 11) (v := (.agg #[.slice ea6 nn ec6, .slice ja jn jz, .slice ya yn yz])) rfl (by kernel_rfl) (by kernel_rfl) (by kernel_rfl) (fun _ _ _ h => h) (Or.inl ⟨by rfl, ?_⟩) (by assumption) ?_
      · intro w' hSw
        go_simp
      simp only [List.getElem_toArray, List.getElem_cons_succ, List.getElem_cons_zero, Act.put, List.setIfInBounds_toArray, List.set_cons_zero, List.set_cons_succ]
      refine wpAnyH_ready (rs := [14]) (by kernel_rfl) (by simp) ?_
      refine AllReadyH.cons rfl (fun Kc hKc => ?_) AllReadyH.nil
      simp only [List.getElem_toArray, List.getElem_cons_succ, List.getElem_cons_zero]
      rw [if_pos (by rfl)]
      go_wp2_with fail
      refine (RL2 wa4 ⟨ra, rn, rz⟩ ⟨ja, jn, jz⟩ ⟨ya, yn, yz⟩ ((HX7.out _ KB).2.2.2.2.1) ((HX7.out _ KB).2.2.1)).mono ?_
      rintro e wL ⟨gL, cL, rfl, FL, BL⟩
      have hzL := KB.size
      replace KB := below_then KB BL
      replace O6 := owns_below O6 BL
      have hgL := FL.base
      clear BL RL2
      go_wp2_with fail
      refine hKc.out _ _ (HX7.out _ KB).1 (fun hHeld => ?_)
      clear hKc Kc
      refine wpAnyH_ready (rs := [15]) (by kernel_rfl) (by simp) ?_
      refine AllReadyH.cons rfl (fun Kc hKc => ?_) AllReadyH.nil
      simp only [List.getElem_toArray, List.getElem_cons_succ, List.getElem_cons_zero]
      rw [if_pos (by rfl)]
      have hall : Array.all (#[.slice ea6 nn ec6, .slice ja jn jz, .slice ya yn yz] : Array Value) (fun v => v.oneCell') = true := all3c rfl rfl rfl
      obtain ⟨⟨Y1, Y2, Y6⟩, Y3, _, ⟨P2, P3⟩, DL, _⟩ := HX7.out _ KB
      have hs9 := HSZ.out
      have so : ∀ (b : Nat), b ≠ w3.heap.size → (wL.setRow w3.heap.size #[.slice ea6 nn ec6, .slice ja jn jz, .slice ya yn yz]).heap[b]? = wL.heap[b]? := fun b hb => setRow_other _ _ _ _ hb
      refine wp_store_row 41 _ _ rfl w3.heap.size #[.slice ea6 nn ec6, .slice ja jn jz, .slice ya yn yz] rfl rfl 41 _ Y3 Tryz.infoRV rfl hall ?_
      refine hKc.out _ _ ⟨Y1.of_block (so _ (by omega)), Y2.of_block (so _ (by omega)), Y6.of_block (so _ (by omega))⟩ (fun hHeld => ?_)
      clear hKc Kc
      refine wpAnyH_take (i := 16) (v := (.slice (some ⟨gL, 0, none⟩) V cL)) rfl (by kernel_rfl) (by kernel_rfl) (by kernel_rfl) (fun _ _ _ h => h) (Or.inl ⟨by rfl, ?_⟩) (by assumption) ?_
      · intro w' hSw
        go_simp
      simp only [List.getElem_toArray, List.getElem_cons_succ, List.getElem_cons_zero, Act.put, List.setIfInBounds_toArray, List.set_cons_zero, List.set_cons_succ]
      refine wpAnyH_done (by kernel_rfl) ?_ _
      clear hHeld
      go_wp2
      refine bodyPost_ret (results_blk rfl _ _ w3.heap.size #[.slice ea6 nn ec6, .slice ja jn jz, .slice ya yn yz] rfl (run_loadVar_row _ w3.heap.size _ _ _ _ _ (Y3.row #[.slice ea6 nn ec6, .slice ja jn jz, .slice ya yn yz]) Tryz.underlying41 rfl Tryz.infoRV)) rfl ?_
      have TT : Tn (fun b => b ≠ w3.heap.size ∨ wc.heap.size ≤ b) (fun b => b ≠ w3.heap.size ∨ wc.heap.size ≤ b) wL (wL.setRow w3.heap.size #[.slice ea6 nn ec6, .slice ja jn jz, .slice ya yn yz]) := ⟨by simp, fun b _ hb => ⟨hb, so b (by omega)⟩⟩
      have C2 := (P2.turn TT (fun _ h => h)).dcube.cube
      have C3 := (P3.turn TT (fun _ h => h)).dcube.cube
      have hA9 := h7A
      have OF := owns_mono O6 (Nat.le_refl _) (fun b hb => so b (by have := (O6.lt b hb).1; omega))
      have hI7 := hT7.row.small
      obtain ⟨x1, y1, e9, IT⟩ := IOwn.arg (A := [] ++ X.T ++ [(tok : Int)]) OF (fun k => toks_small hI7 (by have := HLM.out; omega) k)
      simp only [Value.slice.injEq, true_and] at e9
      obtain ⟨rfl, rfl⟩ := e9
      exact ⟨⟨ea6, nn, ec6⟩, ⟨ja, jn, jz⟩, ⟨ya, yn, yz⟩, gL, cL, rfl, ⟨IT, C2, C3⟩, (FL.of_block (so gL (by omega))).mono (by have := DL.size; omega), below_setRow DL (by omega) _⟩
  · simp only [List.getElem_toArray, List.getElem_cons_succ, List.getElem_cons_zero]
    rw [if_pos (by rfl)]
    go_wp2_with fail
    have BA := below_alloc8 wA (.cells #[.int .i64 (tok : Int)] 3)
    have IB := blk_new wA 3 #[.int .i64 (tok : Int)]
    obtain ⟨bT, hbT⟩ : ∃ b, b = wA.heap.size := ⟨_, rfl⟩
    rw [← hbT] at IB
    try rw [← hbT]
    generalize hwZ : wA.alloc (.cells #[.int .i64 (tok : Int)] 3) = wa1 at *
    replace KB := below_then KB BA
    clear hwZ BA hbT
    refine hKc.out _ _ (HX7.out _ KB).1 (fun hHeld => ?_)
    clear hKc Kc
    refine wpAnyH_ready (rs := [0]) (by kernel_rfl) (by simp) ?_
    refine AllReadyH.cons rfl (fun Kc hKc => ?_) AllReadyH.nil
    simp only [List.getElem_toArray, List.getElem_cons_zero]
    rw [if_pos (by rfl)]
    go_wp2_with fail
    have BA := below_alloc8 wa1 (.cells #[] 3)
    have OI := ints_made wa1 wA.heap.size KB.size
    have hIT : bT = wa1.heap.size → False := fun e => by have := IB.lt; omega
    generalize hwZ : wa1.alloc (.cells #[] 3) = wa2 at *
    replace KB := below_then KB BA
    replace IB := IB.below BA
    clear hwZ BA
    refine hKc.out _ _ (HX7.out _ KB).1 (fun hHeld => ?_)
    clear hKc Kc
    refine wpAnyH_ready (rs := [3]) (by kernel_rfl) (by simp) ?_
    refine AllReadyH.cons rfl (fun Kc hKc => ?_) AllReadyH.nil
    simp only [List.getElem_toArray, List.getElem_cons_succ, List.getElem_cons_zero]
    rw [if_pos (by rfl)]
    refine wp_append_i _ _ rfl wA.heap.size (.slice (some ⟨wa1.heap.size, 0, none⟩) 0 0) 0 [] rfl OI ta n tz X.T rfl ((HX7.out _ KB).2.2.2.2.2) (by omega) KB.size ?_
    intro u3 wa3 O3 G3 N3
    have BG : Below wA.heap.size wa2 wa3 := (Below.refl _ _).grown G3 KB.size (fun k hk => (OI.lt k hk).1)
    have hI3 : ∀ g, u3.ownBlock = some g → bT = g → False := fun g e e2 => by
      rcases N3 g e with a | a
      · exact hIT (e2.trans (Option.some.inj (show some wa1.heap.size = some g from a)).symm)
      · have := IB.lt; omega
    replace IB := IB.of_block (G3.block _ IB.lt (fun e => hIT (Option.some.inj (show some bT = some wa1.heap.size from e))))
    replace KB := KB.trans BG
    clear BG OI G3 N3
    refine hKc.out _ _ (HX7.out _ KB).1 (fun hHeld => ?_)
    clear hKc Kc
    refine wpAnyH_ready (rs := [6]) (by kernel_rfl) (by simp) ?_
    refine AllReadyH.cons rfl (fun Kc hKc => ?_) AllReadyH.nil
    simp only [List.getElem_toArray, List.getElem_cons_succ, List.getElem_cons_zero]
    rw [if_pos (by rfl)]
    refine wp_append_i _ _ rfl wA.heap.size u3 (0 + n) ([] ++ X.T) rfl O3 (some ⟨bT, 0, none⟩) 1 1 [(tok : Int)] rfl (iarg_oneF IB (by have := HLM.out; omega)) (by omega) KB.size ?_
    intro u6 wa4 O6 G6 N6
    have BG : Below wA.heap.size wa3 wa4 := (Below.refl _ _).grown G6 KB.size (fun k hk => (O3.lt k hk).1)
    replace KB := KB.trans BG
    obtain ⟨nn, hnn⟩ : ∃ nn, 0 + n + 1 = nn := ⟨_, rfl⟩
    rw [hnn] at O6
    skip
    have HNN : Hid (0 + n + 1 = nn) := hnn
    obtain ⟨ea6, ec6, e4⟩ := owns_slice O6
    subst e4
    clear BG O3 G6 N6 IB hnn
    refine hKc.out _ _ (HX7.out _ KB).1 (fun hHeld => ?_)
    clear hKc Kc
    refine wpAnyH_take (i := 11) (v := (.agg #[.slice ea6 nn ec6, .slice ja jn jz, .slice ya yn yz])) rfl (by kernel_rfl) (by kernel_rfl) (by kernel_rfl) (fun _ _ _ h => h) (Or.inl ⟨by rfl, ?_⟩) (by assumption) ?_
    · intro w' hSw
      go_simp
    simp only [List.getElem_toArray, List.getElem_cons_succ, List.getElem_cons_zero, Act.put, List.setIfInBounds_toArray, List.set_cons_zero, List.set_cons_succ]
    refine wpAnyH_ready (rs := [14]) (by kernel_rfl) (by simp) ?_
    refine AllReadyH.cons rfl (fun Kc hKc => ?_) AllReadyH.nil
    simp only [List.getElem_toArray, List.getElem_cons_succ, List.getElem_cons_zero]
    rw [if_pos (by rfl)]
    go_wp2_with fail
    refine (RL2 wa4 ⟨ra, rn, rz⟩ ⟨ja, jn, jz⟩ ⟨ya, yn, yz⟩ ((HX7.out _ KB).2.2.2.2.1) ((HX7.out _ KB).2.2.1)).mono ?_
    rintro e wL ⟨gL, cL, rfl, FL, BL⟩
    have hzL := KB.size
    replace KB := below_then KB BL
    replace O6 := owns_below O6 BL
    have hgL := FL.base
    clear BL RL2
    go_wp2_with fail
    refine hKc.out _ _ (HX7.out _ KB).1 (fun hHeld => ?_)
    clear hKc Kc
    refine wpAnyH_ready (rs := [15]) (by kernel_rfl) (by simp) ?_
    refine AllReadyH.cons rfl (fun Kc hKc => ?_) AllReadyH.nil
    simp only [List.getElem_toArray, List.getElem_cons_succ, List.getElem_cons_zero]
    rw [if_pos (by rfl)]
    have hall : Array.all (#[.slice ea6 nn ec6, .slice ja jn jz, .slice ya yn yz] : Array Value) (fun v => v.oneCell') = true := all3c rfl rfl rfl
    obtain ⟨⟨Y1, Y2, Y6⟩, Y3, _, ⟨P2, P3⟩, DL, _⟩ := HX7.out _ KB
    have hs9 := HSZ.out
    have so : ∀ (b : Nat), b ≠ w3.heap.size → (wL.setRow w3.heap.size #[.slice ea6 nn ec6, .slice ja jn jz, .slice ya yn yz]).heap[b]? = wL.heap[b]? := fun b hb => setRow_other _ _ _ _ hb
    refine wp_store_row 41 _ _ rfl w3.heap.size #[.slice ea6 nn ec6, .slice ja jn jz, .slice ya yn yz] rfl rfl 41 _ Y3 Tryz.infoRV rfl hall ?_
    refine hKc.out _ _ ⟨Y1.of_block (so _ (by omega)), Y2.of_block (so _ (by omega)), Y6.of_block (so _ (by omega))⟩ (fun hHeld => ?_)
    clear hKc Kc
    refine wpAnyH_take (i := 16) (v := (.slice (some ⟨gL, 0, none⟩) V cL)) rfl (by kernel_rfl) (by kernel_rfl) (by kernel_rfl) (fun _ _ _ h => h) (Or.inl ⟨by rfl, ?_⟩) (by assumption) ?_
    · intro w' hSw
      go_simp
    simp only [List.getElem_toArray, List.getElem_cons_succ, List.getElem_cons_zero, Act.put, List.setIfInBounds_toArray, List.set_cons_zero, List.set_cons_succ]
    refine wpAnyH_done (by kernel_rfl) ?_ _
    clear hHeld
    go_wp2
    refine bodyPost_ret (results_blk rfl _ _ w3.heap.size #[.slice ea6 nn ec6, .slice ja jn jz, .slice ya yn yz] rfl (run_loadVar_row _ w3.heap.size _ _ _ _ _ (Y3.row #[.slice ea6 nn ec6, .slice ja jn jz, .slice ya yn yz]) Tryz.underlying41 rfl Tryz.infoRV)) rfl ?_
    have TT : Tn (fun b => b ≠ w3.heap.size ∨ wc.heap.size ≤ b) (fun b => b ≠ w3.heap.size ∨ wc.heap.size ≤ b) wL (wL.setRow w3.heap.size #[.slice ea6 nn ec6, .slice ja jn jz, .slice ya yn yz]) := ⟨by simp, fun b _ hb => ⟨hb, so b (by omega)⟩⟩
    have C2 := (P2.turn TT (fun _ h => h)).dcube.cube
    have C3 := (P3.turn TT (fun _ h => h)).dcube.cube
    have hA9 := h7A
    have OF := owns_mono O6 (Nat.le_refl _) (fun b hb => so b (by have := (O6.lt b hb).1; omega))
    have hI7 := hT7.row.small
    obtain ⟨x1, y1, e9, IT⟩ := IOwn.arg (A := [] ++ X.T ++ [(tok : Int)]) OF (fun k => toks_small hI7 (by have := HLM.out; omega) k)
    simp only [Value.slice.injEq, true_and] at e9
    obtain ⟨rfl, rfl⟩ := e9
    exact ⟨⟨ea6, nn, ec6⟩, ⟨ja, jn, jz⟩, ⟨ya, yn, yz⟩, gL, cL, rfl, ⟨IT, C2, C3⟩, (FL.of_block (so gL (by omega))).mono (by have := DL.size; omega), below_setRow DL (by omega) _⟩
end Go.Proofs.YtmdjlaileakbeaaGreatDoor

/- Package block: addRows (copies of rows behind those that are there), rowsOf (a part of each list of rows). -/
namespace Go.Proofs.YtmdjlaileakbeaaGreatDoor
open Go.ChangeShapes Go.WideShapes Go.ChangeAt Go.RowKit
theorem cellRowB (w : World) (v : Value) : (w.alloc (.cells #[v] 24)).cell? ⟨w.heap.size, 0, none⟩ = some v := by
  have e := heap_alloc_new w (.cells #[v] 24)
  unfold World.cell?
  simp only [e]
  rfl
theorem one_at0 {w : World} {k : Nat} {v : Value} (h : w.cell? ⟨k, 0, none⟩ = some v) : ∀ j u, [v][j]? = some u → w.cell? ((Addr.mk k 0 none).add j) = some u := by
  intro j u hj
  match j, hj with
  | 0, hj =>
    simp at hj
    subst hj
    have e2 : (Addr.mk k 0 none).add 0 = ⟨k, 0, none⟩ := by simp [Addr.add]
    rw [e2, h]
/-- The blocks from s on that are not a value's own. -/
def offV (s : Nat) (u : Value) (b : Nat) : Prop := s ≤ b ∧ u.ownBlock ≠ some b
theorem Tn.offV {s : Nat} {u u' : Value} {w w' : World} (hG : w.grownBy w' u.ownBlock) (hN : ∀ g, u'.ownBlock = some g → u.ownBlock = some g ∨ w.heap.size ≤ g) : Tn (offV s u) (offV s u') w w' :=
  ⟨hG.size, fun b hb hp => ⟨⟨hp.1, fun e => by rcases hN b e with a | a; exact hp.2 a; omega⟩, hG.block b hb (fun e => hp.2 e.symm)⟩⟩
theorem grown_below {w w1 w2 : World} {r : Option Nat} (h : w.grownBy w1 r) (hb : Below w1.heap.size w1 w2) : w.grownBy w2 r :=
  ⟨hb.os.trans h.os, hb.tape.trans h.tape, hb.output.trans h.output, Nat.le_trans h.size hb.size, fun k hk hr => (hb.block k (Nat.lt_of_lt_of_le hk h.size)).trans (h.block k hk hr)⟩
theorem grown_trans {w w1 w2 : World} {r r1 : Option Nat} (h : w.grownBy w1 r) (h1 : w1.grownBy w2 r1) (hr : ∀ g, r1 = some g → r = some g ∨ w.heap.size ≤ g) : w.grownBy w2 r :=
  ⟨h1.os.trans h.os, h1.tape.trans h.tape, h1.output.trans h.output, Nat.le_trans h.size h1.size, fun k hk hk2 => (h1.block k (Nat.lt_of_lt_of_le hk h.size) (fun e => by
    rcases hr k e.symm with a | a
    · exact hk2 a.symm
    · omega)).trans (h.block k hk hk2)⟩
theorem grown_refl (w : World) (r : Option Nat) : w.grownBy w r := ⟨rfl, rfl, rfl, Nat.le_refl _, fun _ _ _ => rfl⟩
/-- addRows: copies of rows, behind those of a row of the call's own. -/
theorem take_rowOf {R : List (List Int)} {j : Nat} (h : j < R.length) : R.take (j + 1) = R.take j ++ [rowOf R j] := by
  unfold rowOf
  rw [List.take_add_one, List.getD_eq_getElem?_getD, List.getElem?_eq_getElem h]
  rfl
end Go.Proofs.YtmdjlaileakbeaaGreatDoor

/- Package block: rowsOf (a part of each list of rows, copied). -/
namespace Go.Proofs.YtmdjlaileakbeaaGreatDoor
open Go.ChangeShapes Go.WideShapes Go.ChangeAt Go.RowKit
/-- The rows from a place up to another one. -/
def partR (R : List (List Int)) (fr to' : Nat) : List (List Int) := (R.drop fr).take (to' - fr)
theorem rowOf_drop (R : List (List Int)) (m t : Nat) : rowOf (R.drop m) t = rowOf R (m + t) := by
  unfold rowOf
  simp [List.getD_eq_getElem?_getD, List.getElem?_drop]
theorem GridAt.drop {w : World} {b o n : Nat} {R : List (List Int)} (h : GridAt w (some ⟨b, o, none⟩) n R) {m : Nat} (hm : m ≤ n) : GridAt w (some ⟨b, o + m, none⟩) (n - m) (R.drop m) := by
  have hl := h.len
  have hx := h.max
  refine ⟨by rw [List.length_drop]; omega, by omega, fun h0 => ?_⟩
  obtain ⟨b', o', e, hc⟩ := h.cells (by omega)
  simp only [Option.some.injEq, Addr.mk.injEq, and_true] at e
  obtain ⟨rfl, rfl⟩ := e
  refine ⟨b, o + m, rfl, fun t ht => ?_⟩
  rw [rowOf_drop, Nat.add_assoc]
  exact hc (m + t) (by omega)
theorem rowOf_takeB {R : List (List Int)} {m t : Nat} (h : t < m) : rowOf (R.take m) t = rowOf R t := by
  unfold rowOf
  rw [List.getD_eq_getElem?_getD, List.getD_eq_getElem?_getD, List.getElem?_take_of_lt h]
theorem GridAt.takeB {w : World} {ao : Option Addr} {n : Nat} {R : List (List Int)} (h : GridAt w ao n R) {m : Nat} (hm : m ≤ n) : GridAt w ao m (R.take m) := by
  have hl := h.len
  have hx := h.max
  refine ⟨by rw [List.length_take]; omega, by omega, fun h0 => ?_⟩
  obtain ⟨b, o, e, hc⟩ := h.cells (by omega)
  refine ⟨b, o, e, fun t ht => ?_⟩
  rw [rowOf_takeB ht]
  exact hc t (by omega)
theorem GridAt.partR {w : World} {b o n : Nat} {R : List (List Int)} (h : GridAt w (some ⟨b, o, none⟩) n R) {fr to' : Nat} (h1 : fr ≤ to') (h2 : to' ≤ n) : GridAt w (some ⟨b, o + fr, none⟩) (to' - fr) (partR R fr to') := (h.drop (by omega)).takeB (by omega)
/-- A row of rows of the call's own, and what its rows hang on: what the list hangs on. -/
theorem rows_hang {w : World} {B s n gA : Nat} {u : Value} {ua : Option Addr} {uc : Nat} {ns : List Value} {R : List (List Int)} (O : w.ownsRow B 24 1 (.slice ua n uc) n ([] ++ ns)) (H : HRows (offV s u) w ns R) (hub : ∀ g, (Value.slice ua n uc).ownBlock = some g → B ≤ g) (hB : gA < B) (hs : gA < s) (hn : n ≤ 4096) : Hangs (fun b => gA < b) w (fun w => GridV w ua n ns R) := by
  rw [List.nil_append] at O
  intro w2 h2
  have hl := O.1
  have H2 := (H.turn (p' := fun b => gA < b) (w' := w) ⟨Nat.le_refl _, fun b _ hp => ⟨Nat.lt_of_lt_of_le hs hp.1, rfl⟩⟩)
  have O2 : w2.ownsRow B 24 1 (.slice ua n uc) n ns := owns_mono O (Nat.le_refl _) (fun b hb => h2 b (Nat.lt_of_lt_of_le hB (hub b hb)) (O.lt b hb).2)
  refine ⟨⟨H.len, fun t ht => ?_⟩, by omega, by omega, fun h0 => ?_⟩
  · obtain ⟨ro, m, c, e, A⟩ := H2.rows t ht
    exact ⟨ro, m, c, e, A w2 h2⟩
  · rcases O2.2 with ⟨q1, q2⟩ | ⟨g, cap, cur, q1, _⟩
    · omega
    · simp only [Value.slice.injEq] at q1
      obtain ⟨rfl, -, rfl⟩ := q1
      refine ⟨g, 0, rfl, fun j x hj => ?_⟩
      have hc := O2.cells (g := g) rfl j _ hj
      have e3 : (Addr.mk g 0 none).add j = ⟨g, j, none⟩ := by simp [Addr.add]; intro h; exact h.symm
      rw [e3] at hc
      rw [Nat.zero_add]
      exact hc
theorem owns_form {w : World} {B n : Nat} {e : TypeId} {ua : Option Addr} {uc : Nat} {ns : List Value} (O : w.ownsRow B e 1 (.slice ua n uc) n ns) : (ua = none → uc = 0) ∧ n ≤ uc ∧ uc ≤ 9223372036854775807 := by
  rcases O.2 with ⟨q1, q2⟩ | ⟨g, cap, cur, q1, _, _, q4, q5, _⟩
  · simp only [Value.slice.injEq] at q1
    exact ⟨fun _ => q1.2.2, by omega, by omega⟩
  · simp only [Value.slice.injEq] at q1
    obtain ⟨rfl, -, rfl⟩ := q1
    unfold maxLen at q5
    exact ⟨(fun h => by cases h), q4, q5⟩
end Go.Proofs.YtmdjlaileakbeaaGreatDoor

/- Package block: pages, rows of pages. -/
namespace Go.Proofs.YtmdjlaileakbeaaGreatDoor
open Go.ChangeShapes Go.WideShapes Go.ChangeAt Go.RowKit
/-- A page, as lists. -/
structure Pg where
  T : List Int
  F : Int
  K : List (List (List Int))
  V : List (List (List Int))
/-- A page, as cells. -/
structure PgV where
  t : Sl
  f : Int
  k : Sl
  v : Sl
def PgV.cells (p : PgV) : Array Value := #[p.t.v, .int .i64 p.f, p.k.v, p.v.v]
structure PgAt (w : World) (p : PgV) (X : Pg) : Prop where
  t : IArg w p.t.ao p.t.n p.t.c X.T
  f : p.f = X.F
  k : CubeAt w p.k.ao p.k.n X.K
  v : CubeAt w p.v.ao p.v.n X.V
theorem PgAt.below {w w' : World} {p : PgV} {X : Pg} (h : PgAt w p X) (hb : Below w.heap.size w w') : PgAt w' p X := ⟨h.t.below hb, h.f, h.k.below hb, h.v.below hb⟩
theorem pg_one (p : PgV) : p.cells.all (·.oneCell') = true := by simp [PgV.cells, Sl.v, Value.oneCell']
theorem pg_size (p : PgV) : p.cells.size = 4 := rfl
theorem pg_len (p : PgV) : p.cells.toList.length = 4 := rfl
theorem results_cB {fn : Func} {p : Tmp} {ty : TypeId} (h : fn.results = #[.cell p ty]) (tmps : Array Value) (w : World) (g : Nat) (cs : Array Value)
    (hp : tmps.getD p undef = .pointer (some ⟨g, 0, none⟩)) (hl : (loadVar ty ⟨g, 0, none⟩).run Tryz.prog w = .ok (.agg cs) w) :
    (results fn tmps).run Tryz.prog w = .ok (.agg cs) w := by
  have hp' : tmps[p]?.getD undef = .pointer (some ⟨g, 0, none⟩) := by simpa using hp
  simp [results, h, hp', asAddr, hl]
theorem results_cBt {fn : Func} {p q : Tmp} {ty : TypeId} (h : fn.results = #[.cell p ty, .tmp q]) (tmps : Array Value) (w : World) (g : Nat) (cs : Array Value)
    (hp : tmps.getD p undef = .pointer (some ⟨g, 0, none⟩)) (hl : (loadVar ty ⟨g, 0, none⟩).run Tryz.prog w = .ok (.agg cs) w) :
    (results fn tmps).run Tryz.prog w = .ok (.tuple #[.agg cs, tmps.getD q undef]) w := by
  have hp' : tmps[p]?.getD undef = .pointer (some ⟨g, 0, none⟩) := by simpa using hp
  simp [results, h, hp', asAddr, hl]
/-- The page of a view from a place up to another one. -/
def pgOf (X : Vw) (fr to' : Nat) : Pg := ⟨X.T.take to', fr, X.K.map fun R => partR R fr to', X.V.map fun R => partR R fr to'⟩
def flatP (l : List PgV) : List Value := l.flatMap fun p => p.cells.toList
theorem flatP_len : ∀ l : List PgV, (flatP l).length = l.length * 4
  | [] => rfl
  | p :: l => by
    have := flatP_len l
    unfold flatP at *
    rw [List.flatMap_cons, List.length_append, this, pg_len, List.length_cons]
    omega
theorem flatP_snoc (l : List PgV) (p : PgV) : flatP (l ++ [p]) = flatP l ++ p.cells.toList := by unfold flatP; simp
theorem flatP_at : ∀ (l : List PgV) (t : Nat) (x : PgV), l[t]? = some x → ∀ (j : Nat) (v : Value), x.cells.toList[j]? = some v → (flatP l)[t * 4 + j]? = some v
  | [], t, x, h, _, _, _ => by simp at h
  | b :: l, t, x, h, j, v, hv => by
    have hj : j < 4 := by have := (List.getElem?_eq_some_iff.1 hv).1; rw [pg_len] at this; exact this
    have hc : flatP (b :: l) = b.cells.toList ++ flatP l := by unfold flatP; rw [List.flatMap_cons]
    cases t with
    | zero =>
      simp at h
      subst h
      rw [hc, Nat.zero_mul, Nat.zero_add, List.getElem?_append_left (by rw [pg_len]; exact hj)]
      exact hv
    | succ t =>
      have ih := flatP_at l t x (by simpa using h) j v hv
      rw [hc, List.getElem?_append_right (by rw [pg_len]; omega), pg_len, show (t + 1) * 4 + j - 4 = t * 4 + j by omega]
      exact ih
/-- A row of pages, as it is handed in. -/
structure PgsAt (w : World) (s : Sl) (l : List Pg) : Prop where
  len : l.length = s.n
  max : s.n ≤ 1000000
  fit : s.n ≤ s.c
  cells : 0 < s.n → ∃ g o, s.ao = some ⟨g, o, none⟩ ∧ ∀ (t : Nat) (X : Pg), l[t]? = some X → ∃ p : PgV, w.rangeAt g (o + t * 4) p.cells.toList ∧ PgAt w p X
theorem pg_range {w w' : World} {b o : Nat} {p : PgV} (h : w.rangeAt b o p.cells.toList) (hb : Below w.heap.size w w') : w'.rangeAt b o p.cells.toList := by
  have c0 := h 0 p.t.v rfl
  have hlt : b < w.heap.size := by simpa using World.block_lt_of_cell? w _ c0
  exact rangeAt_block h (hb.block b hlt)
theorem PgsAt.below {w w' : World} {s : Sl} {l : List Pg} (h : PgsAt w s l) (hb : Below w.heap.size w w') : PgsAt w' s l := by
  refine ⟨h.len, h.max, h.fit, fun hn => ?_⟩
  obtain ⟨g, o, e, hc⟩ := h.cells hn
  exact ⟨g, o, e, fun t X hX => let ⟨p, h1, h2⟩ := hc t X hX; ⟨p, pg_range h1 hb, h2.below hb⟩⟩
theorem owns4 {w w' : World} {B n : Nat} {u : Value} {xs : List Value} {e : TypeId} {z : Nat} (h : w.ownsRow B e z u n xs) (hb : ∀ b, u.ownBlock = some b → w'.heap[b]? = w.heap[b]?) : w'.ownsRow B e z u n xs := by
  obtain ⟨h1, h2⟩ := h
  refine ⟨h1, ?_⟩
  rcases h2 with h2 | ⟨g, cap, cur, hv, hg, hh, r⟩
  · exact Or.inl h2
  · exact Or.inr ⟨g, cap, cur, hv, hg, by rw [hb g (by rw [hv]; rfl)]; exact hh, r⟩
theorem owns4_lt {w : World} {B n : Nat} {u : Value} {xs : List Value} {e : TypeId} {z : Nat} (h : w.ownsRow B e z u n xs) {b : Nat} (hb : u.ownBlock = some b) : B ≤ b ∧ b < w.heap.size := by
  rcases h.2 with ⟨h1, _⟩ | ⟨g, cap, cur, hv, hg, hh, _⟩
  · rw [h1] at hb; cases hb
  · rw [hv] at hb
    simp only [Value.ownBlock, Option.some.injEq] at hb
    subst hb
    exact ⟨hg, (Array.getElem?_eq_some_iff.1 hh).1⟩
end Go.Proofs.YtmdjlaileakbeaaGreatDoor

/- Package block: rowsFit, placesFit, Check. -/
namespace Go.Proofs.YtmdjlaileakbeaaGreatDoor
open Go.ChangeShapes Go.WideShapes Go.ChangeAt Go.RowKit
def rfR (R : List (List Int)) (places dim : Int) : Bool := decide ((R.length : Int) = places) && R.all fun r : List Int => decide ((r.length : Int) = dim)
def rfB (C : List (List (List Int))) (places dim : Int) : Bool := C.all fun R : List (List Int) => rfR R places dim
theorem rfB_true {C : List (List (List Int))} {places dim : Int} (h : ∀ (t : Nat) (R : List (List Int)), C[t]? = some R → rfR R places dim = true) : rfB C places dim = true := by
  unfold rfB
  rw [List.all_eq_true]
  intro R hR
  obtain ⟨t, ht⟩ := List.getElem?_of_mem hR
  exact h t R ht
theorem rfB_false {C : List (List (List Int))} {places dim : Int} {t : Nat} {R : List (List Int)} (hR : C[t]? = some R) (h : rfR R places dim = false) : rfB C places dim = false := by
  cases e : rfB C places dim with
  | false => rfl
  | true =>
    unfold rfB at e
    rw [List.all_eq_true] at e
    rw [e R (List.mem_of_getElem? hR)] at h
    cases h
theorem rfR_true {R : List (List Int)} {places dim : Int} (h1 : (R.length : Int) = places) (h : ∀ t, t < R.length → ((rowOf R t).length : Int) = dim) : rfR R places dim = true := by
  unfold rfR
  rw [Bool.and_eq_true, List.all_eq_true]
  refine ⟨by simpa using h1, fun r hr => ?_⟩
  obtain ⟨t, ht⟩ := List.getElem?_of_mem hr
  have hlt := (List.getElem?_eq_some_iff.1 ht).1
  have := h t hlt
  unfold rowOf at this
  rw [List.getD_eq_getElem?_getD, ht] at this
  simpa using this
theorem rfR_short {R : List (List Int)} {places dim : Int} (h1 : (R.length : Int) ≠ places) : rfR R places dim = false := by
  unfold rfR
  rw [Bool.and_eq_false_iff]
  exact Or.inl (by simpa using h1)
theorem rfR_row {R : List (List Int)} {places dim : Int} {t : Nat} (ht : t < R.length) (h : ((rowOf R t).length : Int) ≠ dim) : rfR R places dim = false := by
  cases e : rfR R places dim with
  | false => rfl
  | true =>
    unfold rfR at e
    rw [Bool.and_eq_true, List.all_eq_true] at e
    have := e.2 _ (List.getElem_mem ht)
    unfold rowOf at h
    rw [List.getD_eq_getElem?_getD, List.getElem?_eq_getElem ht] at h
    exact absurd (by simpa using this) h
/-- Has a page its places? -/
def plB (n : Nat) (F : Int) : Bool := decide (0 ≤ F) && decide (n ≤ 128) && decide (1 ≤ (n : Int) - F) && decide ((n : Int) - F ≤ 16)
end Go.Proofs.YtmdjlaileakbeaaGreatDoor
