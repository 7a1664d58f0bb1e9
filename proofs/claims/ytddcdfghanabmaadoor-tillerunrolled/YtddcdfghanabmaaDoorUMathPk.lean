/- What one layer's parts, asked one by one, come to: as lists. -/
import Derived.Test.YtddcdfghanabmaaDoorPk2
import Derived.Test.YtddcdfghanabmaaDoorPk5
import Derived.Test.YtddcdfghanabmaaDoorPk4
import Derived.Test.YtddcdfghanabmaaDoorPk3
import Derived.Test.YtddcdfghanabmaaDoorPk7
/- Numbers: mixes by weights that come to one at most. -/
namespace Go.Proofs.YtddcdfghanabmaaDoor
theorem sumTo_mono {f : Nat → Int} {n : Nat} (h0 : ∀ j, j < n → 0 ≤ f j) {k : Nat} (hk : k ≤ n) : sumTo f k ≤ sumTo f n := by
  induction n with
  | zero => obtain rfl : k = 0 := by omega
            exact Int.le_refl _
  | succ n ih =>
    rcases Nat.lt_or_ge n k with h | h
    · obtain rfl : k = n + 1 := by omega
      exact Int.le_refl _
    · have := ih (fun j hj => h0 j (by omega)) h
      have := h0 n (by omega)
      rw [sumTo_succ]
      omega
theorem mul_lo {lo s : Int} (h : lo ≤ 0) (hs : s ≤ 65536) : lo * 65536 ≤ lo * s := Int.mul_le_mul_of_nonpos_left h hs
theorem mul_hi {hi s : Int} (h : 0 ≤ hi) (hs : s ≤ 65536) : hi * s ≤ hi * 65536 := Int.mul_le_mul_of_nonneg_left hs h
theorem mix_sum (A B : List Int) (n : Nat) (lo hi : Int) (hA : ∀ i, i < n → 0 ≤ el A i) (hS : sumTo (el A) n ≤ 65536) (hB : ∀ i, i < n → lo ≤ el B i ∧ el B i ≤ hi) (hlo : -2147483648 ≤ lo ∧ lo ≤ 0) (hhi : 0 ≤ hi ∧ hi ≤ 2147483647) :
    ∀ k, k ≤ n → dsum A B k = sumTo (fun i => el A i * el B i) k ∧ lo * sumTo (el A) k ≤ dsum A B k ∧ dsum A B k ≤ hi * sumTo (el A) k := by
  intro k
  induction k with
  | zero => intro _; rw [dsum_zero, sumTo_zero, sumTo_zero]; omega
  | succ k ih =>
    intro hk
    obtain ⟨e, l, u⟩ := ih (by omega)
    have h1 := Int.mul_le_mul_of_nonneg_left (hB k (by omega)).1 (hA k (by omega))
    have h2 := Int.mul_le_mul_of_nonneg_left (hB k (by omega)).2 (hA k (by omega))
    have s0 : sumTo (el A) (k + 1) ≤ 65536 := Int.le_trans (sumTo_mono hA hk) hS
    have m1 := mul_lo hlo.2 s0
    have m2 := mul_hi hhi.1 s0
    have e1 : lo * sumTo (el A) (k + 1) = lo * sumTo (el A) k + el A k * lo := by rw [sumTo_succ, Int.mul_add, Int.mul_comm lo (el A k)]
    have e2 : hi * sumTo (el A) (k + 1) = hi * sumTo (el A) k + el A k * hi := by rw [sumTo_succ, Int.mul_add, Int.mul_comm hi (el A k)]
    rw [dsum_succ, sumTo_succ, ← e]
    rw [e1] at m1 ⊢
    rw [e2] at m2 ⊢
    generalize el A k * el B k = x at *
    generalize dsum A B k = d at *
    generalize lo * sumTo (el A) k = y at *
    generalize hi * sumTo (el A) k = z at *
    generalize el A k * lo = p at *
    generalize el A k * hi = q at *
    have g : grow d x = d + x := by unfold grow; rw [if_neg (by omega), if_neg (by omega)]
    rw [g]
    omega
theorem rnd_between {D lo hi : Int} (h1 : lo * 65536 ≤ D) (h2 : D ≤ hi * 65536) : lo ≤ rnd D 65536 ∧ rnd D 65536 ≤ hi := by
  unfold rnd
  omega
/-- What is mixed by a head's weights lies between bounds of the values and nought. -/
theorem head_between (Q : List Int) (K V : List (List Int)) (m n j : Nat) (lo hi : Int) (h1 : 1 ≤ m) (hV : ∀ i, i < m → lo ≤ el (rowOf V i) j ∧ el (rowOf V i) j ≤ hi) (hlo : -2147483648 ≤ lo ∧ lo ≤ 0) (hhi : 0 ≤ hi ∧ hi ≤ 2147483647) :
    lo ≤ headEl Q K V m n j ∧ headEl Q K V m n j ≤ hi := by
  unfold headEl dotN
  have ha : ∀ i, i < m → el (tab m (wgt (scrs Q K m n) m)) i = wgt (scrs Q K m n) m i := fun i hi => el_tab hi
  have hs : sumTo (el (tab m (wgt (scrs Q K m n) m))) m ≤ 65536 := by rw [sumTo_congr ha]; exact (wgt_sum _ h1).1
  obtain ⟨-, l, u⟩ := mix_sum (tab m (wgt (scrs Q K m n) m)) (colOf V m j) m lo hi (fun i hi => by rw [ha i hi]; exact (wgt_bd _ hi).1) hs (fun i hi => by unfold colOf; rw [el_tab hi]; exact hV i hi) hlo hhi m (Nat.le_refl _)
  have := rnd_between (Int.le_trans (mul_lo hlo.2 hs) l) (Int.le_trans u (mul_hi hhi.1 hs))
  unfold sat
  omega
end Go.Proofs.YtddcdfghanabmaaDoor

/- Rows of rows of the call's own: a copy of at most so many rows of at most 40 numbers. -/
namespace Go.Proofs.YtddcdfghanabmaaDoor
open Go.ChangeShapes Go.WideShapes Go.ChangeAt Go.RowKit
theorem rowOf_snoc (R : List (List Int)) (Y : List Int) (t : Nat) : rowOf (R ++ [Y]) t = if t < R.length then rowOf R t else if t = R.length then Y else [] := by
  unfold rowOf
  simp only [List.getD_eq_getElem?_getD]
  by_cases h : t < R.length
  · rw [if_pos h, List.getElem?_append_left h]
  · rw [if_neg h, List.getElem?_append_right (by omega)]
    by_cases e : t = R.length
    · subst e; simp
    · rw [if_neg e, List.getElem?_eq_none (by simp; omega)]; rfl
/-- Block g is a row of rows, all of the call's own, one above the other. -/
structure OwnGrid (w : World) (B g k cap : Nat) (R : List (List Int)) : Prop where
  base : B ≤ g
  len : R.length = k
  own : ∃ vs, w.ownsRow B 27 1 (.slice (some ⟨g, 0, none⟩) k cap) k vs ∧ ∃ gs : Nat → Nat, (∀ t, t < k → ∃ m c, vs[t]? = some (.slice (some ⟨gs t, 0, none⟩) m c) ∧ Fresh w B (gs t) m c (rowOf R t)) ∧ ∀ t u, t < u → u < k → gs t < gs u
theorem own_block {w : World} {B e g k cap : Nat} {vs : List Value} (h : w.ownsRow B e 1 (.slice (some ⟨g, 0, none⟩) k cap) k vs) : B ≤ g ∧ ∃ cur, w.heap[g]? = some (.cells cur e (0, 0)) := by
  rcases h.2 with ⟨h3, _⟩ | ⟨g', c', cur, hv, hg, hh, _⟩
  · cases h3
  · simp only [Value.slice.injEq, Option.some.injEq, Addr.mk.injEq, and_true] at hv
    obtain ⟨rfl, -⟩ := hv
    exact ⟨hg, cur, hh⟩
theorem OwnGrid.grid {w : World} {B g k cap : Nat} {R : List (List Int)} (h : OwnGrid w B g k cap R) (hk : k ≤ 9223372036854775807) : GridAt w (some ⟨g, 0, none⟩) k R := by
  obtain ⟨vs, h1, gs, h2, _⟩ := h.own
  refine ⟨h.len, hk, fun _ => ⟨g, 0, rfl, fun t ht => ?_⟩⟩
  obtain ⟨m, c, e, F⟩ := h2 t ht
  have hc := h1.cells (g := g) rfl t _ e
  have e2 : (Addr.mk g 0 none).add t = ⟨g, t, none⟩ := by simp [Addr.add]; intro h; exact h.symm
  rw [e2] at hc
  exact ⟨_, _, _, by rw [Nat.zero_add]; exact hc, F.arg⟩
theorem OwnGrid.below {w w' : World} {B g k cap : Nat} {R : List (List Int)} (h : OwnGrid w B g k cap R) (hb : Below w.heap.size w w') : OwnGrid w' B g k cap R := by
  obtain ⟨vs, h1, gs, h2, h3⟩ := h.own
  exact ⟨h.base, h.len, vs, owns_below h1 hb, gs, fun t ht => let ⟨m, c, e, F⟩ := h2 t ht; ⟨m, c, e, F.below hb⟩, h3⟩
theorem ownGrid_empty (w : World) : OwnGrid (w.alloc (.cells #[] 27)) w.heap.size w.heap.size 0 0 [] :=
  ⟨Nat.le_refl _, rfl, [], ⟨rfl, Or.inr ⟨w.heap.size, 0, #[], rfl, Nat.le_refl _, heap_alloc_new _ _, Nat.le_refl _, by decide, rfl, rfl⟩⟩, fun t => t, fun t ht => by omega, fun t u _ hu => by omega⟩
/-- append(out, row), out a row of rows of the call's own, the row a newer one. -/
theorem wpList_append_grid {w : World} {ops : Array Oper} {rest : List Oper} {o : Oper} {a : Act} {Q : Exit → Act → World → Prop} (hgd : o.guard = none) (s x : Operand)
    (ho : o.op = .call { callee := .builtin .append, args := #[s, x], argTypes := #[32, 32] })
    (B g k cap : Nat) (R : List (List Int)) (hs : a.eval s = .slice (some ⟨g, 0, none⟩) k cap) (hF : OwnGrid w B g k cap R) (w1 : World) (hF1 : OwnGrid w1 B g k cap R) (hold : Below w1.heap.size w1 w)
    (bo g1 m1 c1 : Nat) (Y : List Int) (hx : a.eval x = .slice (some ⟨bo, 0, none⟩) 1 1) (hX : w.cell? ⟨bo, 0, none⟩ = some (.slice (some ⟨g1, 0, none⟩) m1 c1)) (hY : Fresh w B g1 m1 c1 Y) (hg1 : w1.heap.size ≤ g1)
    (hlen : k + 1 ≤ 1048576) (hB : B ≤ w.heap.size)
    (h : ∀ g' cap' w', OwnGrid w' B g' (k + 1) cap' (R ++ [Y]) → Below B w w' → wpList Tryd.prog ops Q rest (a.put o.dst (.slice (some ⟨g', 0, none⟩) (k + 1) cap')) w') : wpList Tryd.prog ops Q (o :: rest) a w := by
  obtain ⟨i0, hi, hz0, hz1, hz2⟩ := info_parts Tryd.infoRow
  obtain ⟨vs, h1', gs, h2', h3⟩ := hF1.own
  have h1 := owns_below h1' hold
  have h2 : ∀ t, t < k → ∃ m c, vs[t]? = some (.slice (some ⟨gs t, 0, none⟩) m c) ∧ Fresh w B (gs t) m c (rowOf R t) := fun t ht => let ⟨m, c, e, F⟩ := h2' t ht; ⟨m, c, e, F.below hold⟩
  have hlt : ∀ t, t < k → gs t < w1.heap.size := fun t ht => let ⟨m, c, e, F⟩ := h2' t ht; F.lt
  refine wpList_append_own w hgd s x 32 ho B 27 i0 (.slice none 0 0) 1 24 Tryd.underlying32 hi hz0 hz1 hz2 rfl (by decide) _ k _ hs h1 ⟨bo, 0, none⟩ 1 1 [.slice (some ⟨g1, 0, none⟩) m1 c1] hx rfl ?_ (by intro u hu; simp at hu; subst hu; rfl) (by unfold maxLen; omega) (by omega) hB ?_
  · intro j u hj
    match j, hj with
    | 0, hj =>
      simp at hj
      subst hj
      have e2 : (Addr.mk bo 0 none).add 0 = ⟨bo, 0, none⟩ := by simp [Addr.add]
      rw [e2, hX]
  · intro v' w' hown hg hnil
    have hb : Below B w w' := (Below.refl _ _).grown hg hB (fun k hk => by simp [Value.ownBlock] at hk; subst hk; exact hF.base)
    obtain ⟨_, cur, hcur⟩ := own_block h1
    have keep : ∀ {b m c : Nat} {Z : List Int}, Fresh w B b m c Z → Fresh w' B b m c Z := fun {b m c Z} F => F.of_block (hg.block b F.lt (by
      intro e
      simp [Value.ownBlock] at e
      subst e
      obtain ⟨c2, hb2, _⟩ := F.row
      rw [hcur] at hb2
      simp at hb2))
    have hlv : vs.length = k := by have := h1.1; omega
    have hown2 := hown
    obtain ⟨_, h4⟩ := hown2
    rcases h4 with ⟨_, h5⟩ | ⟨g', c', cur', hv, hg2, hr⟩
    · omega
    · subst hv
      refine h g' c' w' ⟨hg2, by simp [hF.len], _, hown, fun t => if t < k then gs t else g1, fun t ht => ?_, fun t u htu hu => ?_⟩ hb
      · rw [rowOf_snoc, hF.len]
        by_cases htk : t < k
        · obtain ⟨m3, c3, e3, F3⟩ := h2 t htk
          simp only [if_pos htk]
          exact ⟨m3, c3, by rw [List.getElem?_append_left (by omega)]; exact e3, keep F3⟩
        · obtain rfl : t = k := by omega
          simp only [Nat.lt_irrefl, if_false, if_pos]
          exact ⟨m1, c1, by rw [List.getElem?_append_right (by omega), hlv]; simp, keep hY⟩
      · simp only []
        rw [if_pos (show t < k by omega)]
        by_cases huk : u < k
        · rw [if_pos huk]; exact h3 t u htu huk
        · rw [if_neg huk]; have := hlt t (by omega); omega
theorem cellRow_new (w : World) (v : Value) : (w.alloc (.cells #[v] 27)).cell? ⟨w.heap.size, 0, none⟩ = some v := by
  have e := heap_alloc_new w (.cells #[v] 27)
  unfold World.cell?
  simp only [e]
  rfl
theorem take_snoc {R : List (List Int)} {k : Nat} (hk : k < R.length) : (R.take (k + 1)).map (List.take 40) = (R.take k).map (List.take 40) ++ [(rowOf R k).take 40] := by
  unfold rowOf
  rw [List.take_add_one, List.map_append, List.getD_eq_getElem?_getD, List.getElem?_eq_getElem hk]
  rfl
/-- At most lim rows of at most 40 numbers. -/
def rowsN (R : List (List Int)) (lim : Nat) : List (List Int) := (R.take lim).map (List.take 40)
theorem rowsN_len (R : List (List Int)) (lim t : Nat) : (rowOf (rowsN R lim) t).length ≤ 40 := by
  unfold rowOf rowsN
  rw [List.getD_eq_getElem?_getD]
  cases e : ((R.take lim).map (List.take 40))[t]? with
  | none => simp
  | some x =>
    obtain ⟨y, _, rfl⟩ := List.mem_map.1 (List.mem_of_getElem? e)
    simp
    omega
end Go.Proofs.YtddcdfghanabmaaDoor

/- Two rows change places: sums, weights and what comes out stay. -/
namespace Go.Proofs.YtddcdfghanabmaaDoor
open Go.ChangeShapes Go.WideShapes Go.ChangeAt Go.RowKit
/-- Two places changed. -/
def sw (I J i : Nat) : Nat := if i = I then J else if i = J then I else i
theorem sw_sw (I J i : Nat) : sw I J (sw I J i) = i := by
  unfold sw
  by_cases h1 : i = I
  · subst h1
    rw [if_pos rfl]
    by_cases h2 : J = i
    · subst h2; rw [if_pos rfl]
    · rw [if_neg h2, if_pos rfl]
  · rw [if_neg h1]
    by_cases h2 : i = J
    · subst h2; rw [if_pos rfl, if_pos rfl]
    · rw [if_neg h2, if_neg h1, if_neg h2]
theorem sw_lt {I J n i : Nat} (hI : I < n) (hJ : J < n) (h : i < n) : sw I J i < n := by unfold sw; split <;> (try split) <;> omega
theorem sumTo_upd (f : Nat → Int) (I : Nat) (a : Int) : ∀ n, I < n → sumTo (fun i => if i = I then a else f i) n = sumTo f n - f I + a := by
  intro n
  induction n with
  | zero => intro h; omega
  | succ n ih =>
    intro h
    rw [sumTo_succ, sumTo_succ]
    rcases Nat.lt_or_ge I n with h1 | h1
    · rw [ih h1, if_neg (by omega)]; omega
    · obtain rfl : I = n := by omega
      rw [if_pos rfl, sumTo_congr (g := f) (fun j hj => by rw [if_neg (by omega)])]; omega
theorem sumTo_sw (f : Nat → Int) {I J n : Nat} (hI : I < n) (hJ : J < n) : sumTo (fun i => f (sw I J i)) n = sumTo f n := by
  by_cases e : I = J
  · subst e
    exact sumTo_congr fun j _ => by
      unfold sw
      by_cases h : j = I
      · rw [if_pos h, h]
      · rw [if_neg h, if_neg h]
  · have h1 : sumTo (fun i => f (sw I J i)) n = sumTo (fun i => if i = I then f J else (fun i => if i = J then f I else f i) i) n := sumTo_congr fun j _ => by
      unfold sw
      by_cases h : j = I
      · simp only [if_pos h]
      · by_cases h2 : j = J
        · simp only [if_neg h, if_pos h2]
        · simp only [if_neg h, if_neg h2]
    rw [h1, sumTo_upd _ I _ n hI, sumTo_upd _ J _ n hJ, if_neg e]
    omega
theorem maxTo_sw {A B : List Int} {I J n : Nat} (h1 : 1 ≤ n) (hI : I < n) (hJ : J < n) (h : ∀ i, i < n → el B i = el A (sw I J i)) : maxTo B n = maxTo A n := by
  obtain ⟨i, hi, e⟩ := maxTo_at B h1
  obtain ⟨j, hj, e2⟩ := maxTo_at A h1
  have a1 := maxTo_ge A (sw_lt hI hJ hi)
  have a2 := maxTo_ge B (sw_lt hI hJ hj)
  rw [h _ (sw_lt hI hJ hj), sw_sw] at a2
  rw [h i hi] at e
  omega
theorem powW_sw {A B : List Int} {I J n : Nat} (h1 : 1 ≤ n) (hI : I < n) (hJ : J < n) (h : ∀ i, i < n → el B i = el A (sw I J i)) {i : Nat} (hi : i < n) : powW B n i = powW A n (sw I J i) := by
  unfold powW
  rw [maxTo_sw h1 hI hJ h, h i hi]
theorem wgt_sw {A B : List Int} {I J n : Nat} (h1 : 1 ≤ n) (hI : I < n) (hJ : J < n) (h : ∀ i, i < n → el B i = el A (sw I J i)) {i : Nat} (hi : i < n) : wgt B n i = wgt A n (sw I J i) := by
  unfold wgt
  rw [powW_sw h1 hI hJ h hi]
  congr 1
  unfold psum
  rw [sumTo_congr (g := fun i => powW A n (sw I J i)) fun j hj => powW_sw h1 hI hJ h hj]
  exact sumTo_sw (powW A n) hI hJ
/-- What a head makes, exactly. -/
theorem head_sum (Q : List Int) (K V : List (List Int)) (m n j : Nat) (h1 : 1 ≤ m) (hV : ∀ i, i < m → Small (rowOf V i)) :
    headEl Q K V m n j = sat (rnd (sumTo (fun i => wgt (scrs Q K m n) m i * el (rowOf V i) j) m) 65536) := by
  unfold headEl dotN
  have ha : ∀ i, i < m → el (tab m (wgt (scrs Q K m n) m)) i = wgt (scrs Q K m n) m i := fun i hi => el_tab hi
  have hs : sumTo (el (tab m (wgt (scrs Q K m n) m))) m ≤ 65536 := by rw [sumTo_congr ha]; exact (wgt_sum _ h1).1
  obtain ⟨e, -, -⟩ := mix_sum (tab m (wgt (scrs Q K m n) m)) (colOf V m j) m (-2147483648) 2147483647 (fun i hi => by rw [ha i hi]; exact (wgt_bd _ hi).1) hs (fun i hi => by unfold colOf; rw [el_tab hi]; exact (hV i hi).el j) (by omega) (by omega) m (Nat.le_refl _)
  rw [e]
  congr 2
  exact sumTo_congr fun i hi => by rw [ha i hi]; unfold colOf; rw [el_tab hi]
/-- Two rows changed. -/
def swapR (R : List (List Int)) (I J : Nat) : List (List Int) := (R.set I (rowOf R J)).set J (rowOf R I)
theorem rowOf_set {R : List (List Int)} {i t : Nat} {Y : List Int} (hi : i < R.length) : rowOf (R.set i Y) t = if t = i then Y else rowOf R t := by
  unfold rowOf; simp only [List.getD_eq_getElem?_getD, List.getElem?_set]
  by_cases e : i = t
  · subst e; simp [hi]
  · rw [if_neg e, if_neg (fun h => e h.symm)]
theorem rowOf_swap {R : List (List Int)} {I J t : Nat} (hI : I < R.length) (hJ : J < R.length) : rowOf (swapR R I J) t = rowOf R (sw I J t) := by
  unfold swapR sw
  rw [rowOf_set (by rw [List.length_set]; exact hJ), rowOf_set hI]
  by_cases h1 : t = J
  · subst h1
    rw [if_pos rfl]
    by_cases h2 : t = I
    · rw [if_pos h2, h2]
    · rw [if_neg h2, if_pos rfl]
  · rw [if_neg h1]
    by_cases h2 : t = I
    · rw [if_pos h2, if_pos h2]
    · rw [if_neg h2, if_neg h2, if_neg h1]
theorem len_swap (R : List (List Int)) (I J : Nat) : (swapR R I J).length = R.length := by unfold swapR; rw [List.length_set, List.length_set]
theorem att_swap (Q : List Int) (K V : List (List Int)) (m s j I J : Nat) (h1 : 1 ≤ m) (hI : I < m) (hJ : J < m) (hK : K.length = m) (hV : V.length = m) (sV : ∀ i, i < m → Small (rowOf V i)) :
    attEl Q (swapR K I J) (swapR V I J) m s j = attEl Q K V m s j := by
  unfold attEl
  rw [head_sum _ _ _ _ _ _ h1 (fun i hi => by rw [rowOf_swap (by omega) (by omega)]; exact sV _ (sw_lt hI hJ hi)), head_sum _ _ _ _ _ _ h1 sV]
  congr 2
  have hsc : ∀ i, i < m → el (scrs (partOf Q (j / s * s) s) (partsOf (swapR K I J) (j / s * s) s) m s) i = el (scrs (partOf Q (j / s * s) s) (partsOf K (j / s * s) s) m s) (sw I J i) := fun i hi => by
    unfold scrs
    rw [el_tab hi, el_tab (sw_lt hI hJ hi), rowOf_parts (by rw [len_swap]; omega), rowOf_parts (by have := sw_lt hI hJ hi; omega), rowOf_swap (by omega) (by omega)]
  rw [sumTo_congr (g := fun i => (fun i => wgt (scrs (partOf Q (j / s * s) s) (partsOf K (j / s * s) s) m s) m i * el (rowOf V i) j) (sw I J i)) fun i hi => by
    simp only []
    rw [wgt_sw h1 hI hJ hsc hi, rowOf_swap (by omega) (by omega)]]
  exact sumTo_sw (fun i => wgt (scrs (partOf Q (j / s * s) s) (partsOf K (j / s * s) s) m s) m i * el (rowOf V i) j) hI hJ
theorem hchkN_of {n m : Nat} {K V : List (List Int)} {h : Int} (h1 : 1 ≤ h ∧ h ≤ 4) (h2 : 1 ≤ n ∧ n ≤ 32) (h3 : 1 ≤ m ∧ m ≤ 128) (h4 : n % h.toNat = 0) (hk : ∀ t, t < m → (rowOf K t).length = n) (hv : ∀ t, t < m → (rowOf V t).length = n) : hchkN n m m K V h = 0 := by
  unfold hchkN
  rw [if_neg (by omega), if_neg (by omega), if_neg (by omega), if_neg (by simp [h4, longs_of hk, longs_of hv])]
theorem chk_swap {n m : Nat} {K V : List (List Int)} {h : Int} {I J : Nat} (hf : hchkN n m m K V h = 0) (hI : I < m) (hJ : J < m) (hK : K.length = m) (hV : V.length = m) : hchkN n m m (swapR K I J) (swapR V I J) h = 0 := by
  obtain ⟨a, b, c, d, -, e, f⟩ := hchkN_ok hf
  exact hchkN_of a b c d (fun t ht => by rw [rowOf_swap (by omega) (by omega)]; exact e _ (sw_lt hI hJ ht)) (fun t ht => by rw [rowOf_swap (by omega) (by omega)]; exact f _ (sw_lt hI hJ ht))
/-- Block g is a row of k rows, each in a block of its own that may be written. -/
structure Gr (w : World) (g k : Nat) (R : List (List Int)) : Prop where
  len : R.length = k
  row : ∃ cur : Array Value, w.heap[g]? = some (.cells cur 27 (0, 0)) ∧ k ≤ cur.size ∧ ∀ t, t < k → ∃ b m c, cur[t]? = some (.slice (some ⟨b, 0, none⟩) m c) ∧ Fresh w 0 b m c (rowOf R t)
theorem OwnGrid.gr {w : World} {B g k cap : Nat} {R : List (List Int)} (h : OwnGrid w B g k cap R) : Gr w g k R := by
  obtain ⟨vs, h1, gs, h2, _⟩ := h.own
  refine ⟨h.len, ?_⟩
  rcases h1.2 with ⟨h3, _⟩ | ⟨g', c', cur, hv, hg, hh, hn, hm, hs, ht⟩
  · cases h3
  · simp only [Value.slice.injEq, Option.some.injEq, Addr.mk.injEq, and_true, true_and] at hv
    obtain ⟨rfl, rfl⟩ := hv
    refine ⟨cur, hh, by omega, fun t htk => ?_⟩
    obtain ⟨m, c, e, F⟩ := h2 t htk
    refine ⟨gs t, m, c, ?_, F.mono (Nat.zero_le _)⟩
    rw [← ht, Nat.mul_one, List.getElem?_take, if_pos htk, Array.getElem?_toList] at e
    exact e
theorem Gr.cell {w : World} {g k : Nat} {R : List (List Int)} (h : Gr w g k R) {t : Nat} (ht : t < k) : ∃ b m c, w.cell? ⟨g, t, none⟩ = some (.slice (some ⟨b, 0, none⟩) m c) ∧ Fresh w 0 b m c (rowOf R t) := by
  obtain ⟨cur, hh, hs, hc⟩ := h.row
  obtain ⟨b, m, c, e, F⟩ := hc t ht
  exact ⟨b, m, c, by simp [World.cell?, hh, e], F⟩
theorem Gr.frozen {w : World} {g k : Nat} {R : List (List Int)} (h : Gr w g k R) (t : Nat) : w.frozen? ⟨g, t, none⟩ = false := by
  obtain ⟨cur, hh, _, _⟩ := h.row
  simp [World.frozen?, hh]
theorem Gr.lt {w : World} {g k : Nat} {R : List (List Int)} (h : Gr w g k R) : g < w.heap.size := by
  obtain ⟨c, hb, _, _⟩ := h.row
  exact (Array.getElem?_eq_some_iff.1 hb).1
theorem Gr.below {w w' : World} {g k : Nat} {R : List (List Int)} (h : Gr w g k R) (hb : Below w.heap.size w w') : Gr w' g k R := by
  have hl := h.lt
  obtain ⟨cur, hh, hs, hc⟩ := h.row
  exact ⟨h.len, cur, (hb.block g hl).trans hh, hs, fun t ht => let ⟨b, m, c, e, F⟩ := hc t ht; ⟨b, m, c, e, F.below hb⟩⟩
theorem Gr.ne {w : World} {g k b m c B : Nat} {R : List (List Int)} {Y : List Int} (h : Gr w g k R) (F : Fresh w B b m c Y) : b ≠ g := by
  intro e
  subst e
  obtain ⟨cur, hh, _, _⟩ := h.row
  obtain ⟨c2, hb2, _⟩ := F.row
  rw [hh] at hb2
  simp at hb2
theorem Gr.set {w : World} {g k : Nat} {R : List (List Int)} (h : Gr w g k R) {i : Nat} (hi : i < k) {b m c : Nat} {Y : List Int} (F : Fresh w 0 b m c Y) : Gr (w.setCell ⟨g, i, none⟩ (.slice (some ⟨b, 0, none⟩) m c)) g k (R.set i Y) := by
  obtain ⟨cur, hh, hs, hc⟩ := h.row
  refine ⟨by rw [List.length_set]; exact h.len, cur.setIfInBounds i (.slice (some ⟨b, 0, none⟩) m c), ?_, by simpa using hs, fun t ht => ?_⟩
  · simp [World.setCell, Array.getElem?_modify, hh]
  · rw [Array.getElem?_setIfInBounds, rowOf_set (by rw [h.len]; exact hi)]
    by_cases e : i = t
    · subst e; rw [if_pos rfl, if_pos (by omega), if_pos rfl]; exact ⟨b, m, c, rfl, F.setOther (h.ne F) _⟩
    · rw [if_neg e, if_neg (fun h => e h.symm)]
      obtain ⟨b', m', c', e', F'⟩ := hc t ht
      exact ⟨b', m', c', e', F'.setOther (h.ne F') _⟩
theorem Gr.grid {w : World} {g k : Nat} {R : List (List Int)} (h : Gr w g k R) (hk : k ≤ 9223372036854775807) : GridAt w (some ⟨g, 0, none⟩) k R := by
  refine ⟨h.len, hk, fun _ => ⟨g, 0, rfl, fun t ht => ?_⟩⟩
  obtain ⟨b, m, c, e, F⟩ := h.cell ht
  exact ⟨_, _, _, by rw [Nat.zero_add]; exact e, F.arg⟩
/-- What stays where a cell of a row of rows is written. -/
theorem Gr.other {w : World} {g g' k k' i : Nat} {R R' : List (List Int)} (h : Gr w g k R) (h' : Gr w g' k' R') (hne : g ≠ g') (v : Value) : Gr (w.setCell ⟨g', i, none⟩ v) g k R := by
  obtain ⟨cur, hh, hs, hc⟩ := h.row
  refine ⟨h.len, cur, (Below.heap_setCell _ _ _ _ hne).trans hh, hs, fun t ht => ?_⟩
  obtain ⟨b, m, c, e, F⟩ := hc t ht
  exact ⟨b, m, c, e, F.setOther (h'.ne F) _⟩
/-- The swap of two rows. -/
theorem Gr.swap {w : World} {g k : Nat} {R : List (List Int)} (h : Gr w g k R) {I J : Nat} (hI : I < k) (hJ : J < k) {b m c b' m' c' : Nat}  (FI : Fresh w 0 b m c (rowOf R I)) (FJ : Fresh w 0 b' m' c' (rowOf R J)) :
    Gr ((w.setCell ⟨g, I, none⟩ (.slice (some ⟨b', 0, none⟩) m' c')).setCell ⟨g, J, none⟩ (.slice (some ⟨b, 0, none⟩) m c)) g k (swapR R I J) := by
  have h1 := h.set hI FJ
  exact h1.set hJ (FI.setOther (h.ne FI) _)
end Go.Proofs.YtddcdfghanabmaaDoor

/- Two rows of rows that grow side by side; rows that are all alike; one row alone. -/
namespace Go.Proofs.YtddcdfghanabmaaDoor
open Go.ChangeShapes Go.WideShapes Go.ChangeAt Go.RowKit
theorem owns_of_block {w w' : World} {B e g k cap : Nat} {vs : List Value} (h : w.ownsRow B e 1 (.slice (some ⟨g, 0, none⟩) k cap) k vs) (hb : w'.heap[g]? = w.heap[g]?) : w'.ownsRow B e 1 (.slice (some ⟨g, 0, none⟩) k cap) k vs := by
  refine ⟨h.1, ?_⟩
  rcases h.2 with ⟨h3, _⟩ | ⟨g', c', cur, hv, hg, hh, hr⟩
  · cases h3
  · simp only [Value.slice.injEq, Option.some.injEq, Addr.mk.injEq, and_true, true_and] at hv
    obtain ⟨rfl, rfl⟩ := hv
    exact Or.inr ⟨g, cap, cur, rfl, hg, hb.trans hh, hr⟩
theorem OwnGrid.lt {w : World} {B g k cap : Nat} {R : List (List Int)} (h : OwnGrid w B g k cap R) : g < w.heap.size := h.gr.lt
theorem OwnGrid.mono {w : World} {B B' g k cap : Nat} {R : List (List Int)} (h : OwnGrid w B g k cap R) (hB : B' ≤ B) : OwnGrid w B' g k cap R := by
  obtain ⟨vs, h1, gs, h3, h4⟩ := h.own
  refine ⟨Nat.le_trans hB h.base, h.len, vs, ⟨h1.1, ?_⟩, gs, fun t ht => let ⟨m, c, e, F⟩ := h3 t ht; ⟨m, c, e, F.mono hB⟩, h4⟩
  rcases h1.2 with ⟨h3, _⟩ | ⟨g', c', cur, hv, hg, hr⟩
  · cases h3
  · exact Or.inr ⟨g', c', cur, hv, Nat.le_trans hB hg, hr⟩
theorem OwnGrid.keep {w w' : World} {B B2 g g2 k k2 cap cap2 : Nat} {R R2 : List (List Int)} (h : OwnGrid w B g k cap R) (h2 : OwnGrid w B2 g2 k2 cap2 R2) (hne : g ≠ g2) (hb : ∀ b, b < w.heap.size → b ≠ g2 → w'.heap[b]? = w.heap[b]?) : OwnGrid w' B g k cap R := by
  have hl := h.lt
  obtain ⟨vs, h1, gs, h3, h4⟩ := h.own
  exact ⟨h.base, h.len, vs, owns_of_block h1 (hb g hl hne), gs, fun t ht => let ⟨m, c, e, F⟩ := h3 t ht; ⟨m, c, e, F.of_block (hb _ F.lt (h2.gr.ne F))⟩, h4⟩
/-- append(out, row), out a row of rows of the call's own, the row a newer one: all other blocks stay. -/
theorem wpList_append_grid2 {w : World} {ops : Array Oper} {rest : List Oper} {o : Oper} {a : Act} {Q : Exit → Act → World → Prop} (hgd : o.guard = none) (s x : Operand)
    (ho : o.op = .call { callee := .builtin .append, args := #[s, x], argTypes := #[32, 32] })
    (B g k cap : Nat) (R : List (List Int)) (hs : a.eval s = .slice (some ⟨g, 0, none⟩) k cap) (w1 : World) (hF1 : OwnGrid w1 B g k cap R) (hold : Below w1.heap.size w1 w)
    (bo g1 m1 c1 : Nat) (Y : List Int) (hx : a.eval x = .slice (some ⟨bo, 0, none⟩) 1 1) (hX : w.cell? ⟨bo, 0, none⟩ = some (.slice (some ⟨g1, 0, none⟩) m1 c1)) (hY : Fresh w B g1 m1 c1 Y) (hg1 : w1.heap.size ≤ g1)
    (hlen : k + 1 ≤ 1048576) (hB : B ≤ w.heap.size)
    (h : ∀ g' cap' w', OwnGrid w' B g' (k + 1) cap' (R ++ [Y]) → Below B w w' → (∀ b, b < w.heap.size → b ≠ g → w'.heap[b]? = w.heap[b]?) → (g' = g ∨ g' = w.heap.size) → wpList Tryd.prog ops Q rest (a.put o.dst (.slice (some ⟨g', 0, none⟩) (k + 1) cap')) w') : wpList Tryd.prog ops Q (o :: rest) a w := by
  obtain ⟨i0, hi, hz0, hz1, hz2⟩ := info_parts Tryd.infoRow
  have hF := hF1.below hold
  obtain ⟨vs, h1', gs, h2', h3⟩ := hF1.own
  have h1 := owns_below h1' hold
  have h2 : ∀ t, t < k → ∃ m c, vs[t]? = some (.slice (some ⟨gs t, 0, none⟩) m c) ∧ Fresh w B (gs t) m c (rowOf R t) := fun t ht => let ⟨m, c, e, F⟩ := h2' t ht; ⟨m, c, e, F.below hold⟩
  have hlt : ∀ t, t < k → gs t < w1.heap.size := fun t ht => let ⟨m, c, e, F⟩ := h2' t ht; F.lt
  refine wpList_plain hgd fun _ hK => wp_append_own2 w s x 32 ho B 27 i0 (.slice none 0 0) 1 24 Tryd.underlying32 hi hz0 hz1 hz2 rfl (by decide) _ k _ hs h1 ⟨bo, 0, none⟩ 1 1 [.slice (some ⟨g1, 0, none⟩) m1 c1] hx rfl ?_ (by intro u hu; simp at hu; subst hu; rfl) (by unfold maxLen; omega) (by omega) hB ?_
  · intro j u hj
    match j, hj with
    | 0, hj =>
      simp at hj
      subst hj
      have e2 : (Addr.mk bo 0 none).add 0 = ⟨bo, 0, none⟩ := by simp [Addr.add]
      rw [e2, hX]
  · intro v' w' hown hg hnil hwh
    have hb : Below B w w' := (Below.refl _ _).grown hg hB (fun k hk => by simp [Value.ownBlock] at hk; subst hk; exact hF.base)
    have keep : ∀ {b m c : Nat} {Z : List Int}, Fresh w B b m c Z → Fresh w' B b m c Z := fun {b m c Z} F => F.of_block (hg.block b F.lt (by
      intro e
      simp [Value.ownBlock] at e
      exact hF.gr.ne F e))
    have hlv : vs.length = k := by have := h1.1; omega
    have hown2 := hown
    obtain ⟨_, h4⟩ := hown2
    rcases h4 with ⟨_, h5⟩ | ⟨g', c', cur', hv, hg2, hr⟩
    · omega
    · subst hv
      refine hK _ _ (h g' c' w' ⟨hg2, by simp [hF.len], _, hown, fun t => if t < k then gs t else g1, fun t ht => ?_, fun t u htu hu => ?_⟩ hb (fun b hb2 hne => hg.block b hb2 (fun e => hne (Option.some.inj e))) ?_)
      · rw [rowOf_snoc, hF.len]
        by_cases htk : t < k
        · obtain ⟨m3, c3, e3, F3⟩ := h2 t htk
          simp only [if_pos htk]
          exact ⟨m3, c3, by rw [List.getElem?_append_left (by omega)]; exact e3, keep F3⟩
        · obtain rfl : t = k := by omega
          simp only [Nat.lt_irrefl, if_false, if_pos]
          exact ⟨m1, c1, by rw [List.getElem?_append_right (by omega), hlv]; simp, keep hY⟩
      · simp only []
        rw [if_pos (show t < k by omega)]
        by_cases huk : u < k
        · rw [if_pos huk]; exact h3 t u htu huk
        · rw [if_neg huk]; have := hlt t (by omega); omega
      · rcases hwh g' rfl with hq | hq
        · exact Or.inl (Option.some.inj hq).symm
        · exact Or.inr hq
theorem rowOf_rep {Y : List Int} {k t : Nat} (h : t < k) : rowOf (List.replicate k Y) t = Y := by
  unfold rowOf
  simp [List.getD_eq_getElem?_getD, h]
theorem sumTo_const (x : Int) (n : Nat) : sumTo (fun _ => x) n = n * x := by
  induction n with
  | zero => rw [sumTo_zero]; simp
  | succ n ih => rw [sumTo_succ, ih, Int.natCast_add, Int.add_mul]; simp
/-- With one key alone the answer is its value. -/
theorem att_one (Q Kr Vr : List Int) (s j : Nat) (hV : Small Vr) : attEl Q [Kr] [Vr] 1 s j = max (el Vr j) (-2147483647) := by
  unfold attEl
  have z : ∀ i, i < 1 → i = 0 := fun i hi => by omega
  rw [head_sum _ _ _ _ _ _ (by omega) (fun i hi => by rw [z i hi]; exact hV)]
  rw [sumTo_succ, sumTo_zero, wgt_same (x := el (scrs (partOf Q (j / s * s) s) (partsOf [Kr] (j / s * s) s) 1 s) 0) (by omega) (fun j hj => by rw [z j hj]) (by omega)]
  have b := hV.el j
  show sat (rnd (0 + 65536 / 1 * el Vr j) 65536) = _
  generalize el Vr j = v at *
  unfold sat rnd
  omega
/-- With keys and values all alike the answer is nearly the value. -/
theorem att_rep (Q Kr Vr : List Int) (s j m : Nat) (hm : 2 ≤ m ∧ m ≤ 40) (hV : Small Vr) : ∃ c : Int, 65536 - m < c ∧ c ≤ 65536 ∧ attEl Q (List.replicate m Kr) (List.replicate m Vr) m s j = sat (rnd (c * el Vr j) 65536) := by
  unfold attEl
  rw [head_sum _ _ _ _ _ _ (by omega) (fun i hi => by rw [rowOf_rep hi]; exact hV)]
  have hw : ∀ i, i < m → wgt (scrs (partOf Q (j / s * s) s) (partsOf (List.replicate m Kr) (j / s * s) s) m s) m i = 65536 / m := fun i hi => by
    refine wgt_same (x := scoreN (partOf Q (j / s * s) s) (partOf Kr (j / s * s) s) s) (by omega) (fun t ht => ?_) hi
    unfold scrs
    rw [el_tab ht, rowOf_parts (by simpa using ht), rowOf_rep ht]
  rw [sumTo_congr (g := fun _ => 65536 / (m : Int) * el Vr j) fun i hi => by rw [hw i hi, rowOf_rep hi], sumTo_const, ← Int.mul_assoc]
  refine ⟨(m : Int) * (65536 / (m : Int)), ?_, ?_, rfl⟩
  · have := Int.emod_add_mul_ediv 65536 (m : Int)
    have := Int.emod_lt_of_pos 65536 (show (0 : Int) < m by omega)
    omega
  · have := Int.emod_add_mul_ediv 65536 (m : Int)
    have := Int.emod_nonneg 65536 (show (m : Int) ≠ 0 by omega)
    omega
/-- How far from the value that is. -/
theorem near_rep {v c : Int} {m : Nat} (hv : -2147483648 ≤ v ∧ v ≤ 2147483647) (h1 : 65536 - m < c) (h2 : c ≤ 65536) (hm : 2 ≤ m ∧ m ≤ 40) :
    ∃ T : Int, T = (if v < 0 then -v else v) * m ∧ 0 ≤ T ∧ T ≤ 85899345920 ∧ v - sat (rnd (c * v) 65536) ≤ T / 65536 + 1 ∧ -(T / 65536 + 1) ≤ v - sat (rnd (c * v) 65536) := by
  refine ⟨_, rfl, ?_⟩
  by_cases hn : v < 0
  · rw [if_pos hn]
    have a1 := Int.mul_le_mul_of_nonneg_right (show (65536 - m : Int) ≤ c by omega) (show (0 : Int) ≤ -v by omega)
    have a2 := Int.mul_le_mul_of_nonneg_right h2 (show (0 : Int) ≤ -v by omega)
    have a3 := Int.mul_le_mul_of_nonneg_left (show (m : Int) ≤ 40 by omega) (show (0 : Int) ≤ -v by omega)
    have a4 := Int.mul_nonneg (show (0 : Int) ≤ -v by omega) (show (0 : Int) ≤ m by omega)
    rw [Int.sub_mul, Int.mul_comm (m : Int)] at a1
    have e : c * v = -(c * -v) := by rw [Int.mul_neg, Int.neg_neg]
    rw [e]
    generalize c * -v = P at *
    generalize -v * (m : Int) = T at *
    unfold sat rnd
    omega
  · rw [if_neg hn]
    have a1 := Int.mul_le_mul_of_nonneg_right (show (65536 - m : Int) ≤ c by omega) (show (0 : Int) ≤ v by omega)
    have a2 := Int.mul_le_mul_of_nonneg_right h2 (show (0 : Int) ≤ v by omega)
    have a3 := Int.mul_le_mul_of_nonneg_left (show (m : Int) ≤ 40 by omega) (show (0 : Int) ≤ v by omega)
    have a4 := Int.mul_nonneg (show (0 : Int) ≤ v by omega) (show (0 : Int) ≤ m by omega)
    rw [Int.sub_mul, Int.mul_comm (m : Int)] at a1
    generalize c * v = P at *
    generalize v * (m : Int) = T at *
    unfold sat rnd
    omega
end Go.Proofs.YtddcdfghanabmaaDoor

/- The answers that the document fixes for layer 7. -/
namespace Go.Proofs.YtddcdfghanabmaaDoor
open Go.ChangeShapes Go.WideShapes Go.ChangeAt Go.RowKit
theorem att_lit : attEl [65536] [[0], [0]] [[2], [4]] 2 1 0 = 3 := by decide +kernel
theorem score_lit : scoreN [65536, 0, 0, 0] [65536, 5, 5, 5] 4 = 32768 := by decide +kernel
theorem chk_lit : hchkN 1 2 2 [[0], [0]] [[2], [4]] 1 = 0 := by decide +kernel
theorem grid_two {w : World} {B C g h m n c d : Nat} {A E : List Int} (hA : Fresh w B g m c A) (hE : Fresh w C h n d E) : GridAt (w.alloc (.cells #[.slice (some ⟨g, 0, none⟩) m c, .slice (some ⟨h, 0, none⟩) n d] 27)) (some ⟨w.heap.size, 0, none⟩) 2 [A, E] := by
  refine ⟨rfl, by omega, fun _ => ⟨_, _, rfl, fun t ht => ?_⟩⟩
  have e := heap_alloc_new w (.cells #[.slice (some ⟨g, 0, none⟩) m c, .slice (some ⟨h, 0, none⟩) n d] 27)
  match t, ht with
  | 0, _ =>
    refine ⟨_, _, _, ?_, (hA.below ((Below.refl _ w).alloc (Nat.le_refl _) _)).arg⟩
    unfold World.cell?
    simp only [Nat.add_zero, e]
    rfl
  | 1, _ =>
    refine ⟨_, _, _, ?_, (hE.below ((Below.refl _ w).alloc (Nat.le_refl _) _)).arg⟩
    unfold World.cell?
    simp only [Nat.zero_add, e]
    rfl
theorem grid_lit1 {w : World} {B g m c : Nat} {A : List Int} (hA : Fresh w B g m c A) : GridAt (w.alloc (.cells #[.slice (some ⟨g, 0, none⟩) m c] 27)) (some ⟨w.heap.size, 0, none⟩) 1 [A] := by
  refine ⟨rfl, by omega, fun _ => ⟨_, _, rfl, fun t ht => ?_⟩⟩
  obtain rfl : t = 0 := by omega
  have e := heap_alloc_new w (.cells #[.slice (some ⟨g, 0, none⟩) m c] 27)
  refine ⟨_, _, _, ?_, (hA.below ((Below.refl _ w).alloc (Nat.le_refl _) _)).arg⟩
  unfold World.cell?
  simp only [Nat.add_zero, e]
  rfl
theorem lit_one (w : World) (x : Int) (hx : -2147483648 ≤ x ∧ x ≤ 2147483647) : Fresh (w.alloc (.cells #[.int .i32 x] 31)) w.heap.size w.heap.size 1 1 [x] := fresh_lit w [x] (by intro y hy; simp at hy; subst hy; exact hx) (by simp)
theorem lit_seven (w w1 w2 w3 w4 w5 w6 w7 : World) (e1 : w.alloc (.cells #[.int .i32 65536] 31) = w1) (e2 : w1.alloc (.cells #[.int .i32 0] 31) = w2) (e3 : w2.alloc (.cells #[.int .i32 0] 31) = w3)
    (e4 : w3.alloc (.cells #[.slice (some ⟨w.heap.size + 1, 0, none⟩) 1 1, .slice (some ⟨w.heap.size + 1 + 1, 0, none⟩) 1 1] 27) = w4) (e5 : w4.alloc (.cells #[.int .i32 2] 31) = w5) (e6 : w5.alloc (.cells #[.int .i32 4] 31) = w6)
    (e7 : w6.alloc (.cells #[.slice (some ⟨w.heap.size + 1 + 1 + 1 + 1, 0, none⟩) 1 1, .slice (some ⟨w.heap.size + 1 + 1 + 1 + 1 + 1, 0, none⟩) 1 1] 27) = w7) :
    Arg w7 (some ⟨w.heap.size, 0, none⟩) 1 1 [65536] ∧ GridAt w7 (some ⟨w.heap.size + 1 + 1 + 1, 0, none⟩) 2 [[0], [0]] ∧ GridAt w7 (some ⟨w.heap.size + 1 + 1 + 1 + 1 + 1 + 1, 0, none⟩) 2 [[2], [4]] ∧ Below w.heap.size w w7 := by
  have s1 : w1.heap.size = w.heap.size + 1 := by rw [← e1]; simp
  have s2 : w2.heap.size = w.heap.size + 1 + 1 := by rw [← e2]; simp [s1]
  have s3 : w3.heap.size = w.heap.size + 1 + 1 + 1 := by rw [← e3]; simp [s2]
  have s4 : w4.heap.size = w.heap.size + 1 + 1 + 1 + 1 := by rw [← e4]; simp [s3]
  have s5 : w5.heap.size = w.heap.size + 1 + 1 + 1 + 1 + 1 := by rw [← e5]; simp [s4]
  have s6 : w6.heap.size = w.heap.size + 1 + 1 + 1 + 1 + 1 + 1 := by rw [← e6]; simp [s5]
  have b1 : Below w.heap.size w w1 := by rw [← e1]; exact (Below.refl _ _).alloc (Nat.le_refl _) _
  have b2 : Below w1.heap.size w1 w2 := by rw [← e2]; exact (Below.refl _ _).alloc (Nat.le_refl _) _
  have b3 : Below w2.heap.size w2 w3 := by rw [← e3]; exact (Below.refl _ _).alloc (Nat.le_refl _) _
  have b4 : Below w3.heap.size w3 w4 := by rw [← e4]; exact (Below.refl _ _).alloc (Nat.le_refl _) _
  have b5 : Below w4.heap.size w4 w5 := by rw [← e5]; exact (Below.refl _ _).alloc (Nat.le_refl _) _
  have b6 : Below w5.heap.size w5 w6 := by rw [← e6]; exact (Below.refl _ _).alloc (Nat.le_refl _) _
  have b7 : Below w6.heap.size w6 w7 := by rw [← e7]; exact (Below.refl _ _).alloc (Nat.le_refl _) _
  have f1 := lit_one w 65536 (by omega)
  rw [e1] at f1
  have f2 := lit_one w1 0 (by omega)
  rw [e2, s1] at f2
  have f3 := lit_one w2 0 (by omega)
  rw [e3, s2] at f3
  have f5 := lit_one w4 2 (by omega)
  rw [e5, s4] at f5
  have f6 := lit_one w5 4 (by omega)
  rw [e6, s5] at f6
  have g4 := grid_two (f2.below b3) f3
  rw [e4, s3] at g4
  have g7 := grid_two (f5.below b6) f6
  rw [e7, s6] at g7
  have c37 := below_then (below_then b5 b6) b7
  exact ⟨(f1.below (below_then (below_then (below_then b2 b3) b4) c37)).arg, g4.below c37, g7, below_then (below_then (below_then (below_then b1 b2) b3) b4) c37⟩
theorem lit_three (w w1 w2 w3 : World) (e1 : w.alloc (.cells #[.int .i32 65536, .int .i32 0, .int .i32 0, .int .i32 0] 31) = w1) (e2 : w1.alloc (.cells #[.int .i32 65536, .int .i32 5, .int .i32 5, .int .i32 5] 31) = w2)
    (e3 : w2.alloc (.cells #[.slice (some ⟨w.heap.size + 1, 0, none⟩) 4 4] 27) = w3) :
    RowAt w3 (some ⟨w.heap.size, 0, none⟩) 4 [65536, 0, 0, 0] ∧ GridAt w3 (some ⟨w.heap.size + 1 + 1, 0, none⟩) 1 [[65536, 5, 5, 5]] ∧ Below w.heap.size w w3 := by
  have s1 : w1.heap.size = w.heap.size + 1 := by rw [← e1]; simp
  have s2 : w2.heap.size = w.heap.size + 1 + 1 := by rw [← e2]; simp [s1]
  have b1 : Below w.heap.size w w1 := by rw [← e1]; exact (Below.refl _ _).alloc (Nat.le_refl _) _
  have b2 : Below w1.heap.size w1 w2 := by rw [← e2]; exact (Below.refl _ _).alloc (Nat.le_refl _) _
  have b3 : Below w2.heap.size w2 w3 := by rw [← e3]; exact (Below.refl _ _).alloc (Nat.le_refl _) _
  have f1 : Fresh (w.alloc (.cells #[.int .i32 65536, .int .i32 0, .int .i32 0, .int .i32 0] 31)) w.heap.size w.heap.size 4 4 [65536, 0, 0, 0] := fresh_lit w [65536, 0, 0, 0] (by unfold Small; decide) (by decide)
  rw [e1] at f1
  have f2 : Fresh (w1.alloc (.cells #[.int .i32 65536, .int .i32 5, .int .i32 5, .int .i32 5] 31)) w1.heap.size w1.heap.size 4 4 [65536, 5, 5, 5] := fresh_lit w1 [65536, 5, 5, 5] (by unfold Small; decide) (by decide)
  rw [e2, s1] at f2
  have g3 := grid_lit1 f2
  rw [e3, s2] at g3
  exact ⟨(f1.below (below_then b2 b3)).rowAt, g3, below_then (below_then b1 b2) b3⟩
end Go.Proofs.YtddcdfghanabmaaDoor

/- Small shapes, and rows of tokens that are the same. -/
namespace Go.Proofs.YtddcdfghanabmaaDoor
open Go.ChangeShapes Go.WideShapes Go.ChangeAt Go.RowKit
/-- Is a shape a small one? -/
def smallN (D H L : Int) : Int := if 8 < D ∨ 8 < H ∨ 2 < L then 0 else 1
theorem small8_any (V D Hd H L : Int) (w : World) : Calls Tryd.prog 7 #[.agg (cfgC V D Hd H L)] w fun e w' => e = .returned (.int .i64 (smallN D H L)) ∧ Below w.heap.size w w' := by
  have X0 := blk_new w 23 (cfgC V D Hd H L)
  have B0 : Below w.heap.size w (w.alloc (.cells (cfgC V D Hd H L) 23)) := (Below.refl _ _).alloc (Nat.le_refl _) _
  unfold cfgC at *
  generalize hw0 : w.alloc (.cells #[.int .i64 V, .int .i64 D, .int .i64 Hd, .int .i64 H, .int .i64 L] 23) = w0 at *
  have a1 : w0.cell? ⟨w.heap.size, 1, none⟩ = some (.int .i64 D) := X0.cell 1 rfl
  have a3 : w0.cell? ⟨w.heap.size, 3, none⟩ = some (.int .i64 H) := X0.cell 3 rfl
  have a4 : w0.cell? ⟨w.heap.size, 4, none⟩ = some (.int .i64 L) := X0.cell 4 rfl
  have HN : Hid (smallN D H L = if 8 < D ∨ 8 < H ∨ 2 < L then 0 else 1) := rfl
  generalize smallN D H L = res at *
  by_cases h1 : 8 < D
  · have HF : Hid (res = 0) := by show _ = _; rw [HN.out, if_pos (Or.inl h1)]
    clear HN
    go_enter Tryd.func7, Tryd.ntmps7
    go_wp2
    go_ret
    exact ⟨ret_int HF.out.symm, B0⟩
  · by_cases h2 : 8 < H
    · have HF : Hid (res = 0) := by show _ = _; rw [HN.out, if_pos (Or.inr (Or.inl h2))]
      clear HN
      go_enter Tryd.func7, Tryd.ntmps7
      go_wp2
      go_ret
      exact ⟨ret_int HF.out.symm, B0⟩
    · by_cases h3 : 2 < L
      · have HF : Hid (res = 0) := by show _ = _; rw [HN.out, if_pos (Or.inr (Or.inr h3))]
        clear HN
        go_enter Tryd.func7, Tryd.ntmps7
        go_wp2
        go_ret
        exact ⟨ret_int HF.out.symm, B0⟩
      · have HF : Hid (res = 1) := by show _ = _; rw [HN.out, if_neg (by omega)]
        clear HN
        go_enter Tryd.func7, Tryd.ntmps7
        go_wp2
        go_ret
        exact ⟨ret_int HF.out.symm, B0⟩
theorem IArg.drop {w : World} {b o n ca : Nat} {A : List Int} (h : IArg w (some ⟨b, o, none⟩) n ca A) {m : Nat} (hm : m ≤ n) : IRowAt w (some ⟨b, o + m, none⟩) (n - m) (A.drop m) := by
  have hl := h.row.len
  refine ⟨by rw [List.length_drop]; omega, by have := h.row.max; omega, fun k => ?_, fun hn => ?_⟩
  · rw [el_drop]; exact h.row.small _
  · obtain ⟨b', o', e, hc⟩ := h.row.cells (by omega)
    simp only [Option.some.injEq, Addr.mk.injEq, and_true] at e
    obtain ⟨rfl, rfl⟩ := e
    refine ⟨b, o + m, rfl, fun t ht => ?_⟩
    rw [el_drop, Nat.add_assoc]
    exact hc _ (by omega)
end Go.Proofs.YtddcdfghanabmaaDoor

/- What one layer's parts, asked one by one, come to: as lists. -/
namespace Go.Proofs.YtddcdfghanabmaaDoor
open Go.ChangeShapes Go.WideShapes Go.ChangeAt Go.RowKit
theorem take_snoc1 {α : Type} {R : List α} {n : Nat} {x : α} (h : R[n]? = some x) (hn : R.length = n + 1) : R.take n ++ [x] = R := by
  have h2 : R.take (n + 1) = R := List.take_of_length_le (by omega)
  rw [List.take_add_one, h] at h2
  exact h2
theorem begL_len (E : List Int) (D : Nat) (A : List Int) : (begL E D A).length = A.length := by unfold begL; simp
theorem begL_atU (E : List Int) (D : Nat) (A : List Int) {t : Nat} (h : t < A.length) : rowOf (begL E D A) t = begR E D (el A t).toNat t := by
  unfold rowOf begL
  rw [List.getD_eq_getElem?_getD, List.getElem?_map, List.getElem?_range h]
  rfl
/-- The last row behind the one layer. -/
theorem un_like (M : Mdl) (V D H Hd : Nat) (A : List Int) (h : 1 ≤ A.length) :
    fullX M V D H Hd 1 A = likR M V D (endR (layAt M 0) D H (plusR (rowOf (begL M.E D A) (A.length - 1)) (apl (layAt M 0).O (tab D (attEl (apl (layAt M 0).Q (nrm (rowOf (begL M.E D A) (A.length - 1)) (layAt M 0).F D) D D) (keysR (layAt M 0) D (begL M.E D A)) (valsR (layAt M 0) D (begL M.E D A)) A.length (D / Hd))) D D) D)) := by
  unfold fullX
  congr 1
  have hl := begL_len M.E D A
  show rowOf (madeR (layAt M 0) D H Hd (begL M.E D A)) (A.length - 1) = _
  rw [madeR_at _ _ _ _ (by omega)]
  unfold oneR midR attR
  have k1 : (keysR (layAt M 0) D (begL M.E D A)).take (A.length - 1) ++ [keyR (layAt M 0) D (rowOf (begL M.E D A) (A.length - 1))] = keysR (layAt M 0) D (begL M.E D A) := by
    have hk : (keysR (layAt M 0) D (begL M.E D A)).length = A.length - 1 + 1 := by unfold keysR; rw [List.length_map]; omega
    refine take_snoc1 ?_ hk
    rw [← keysR_at _ _ (by omega)]
    unfold rowOf
    rw [List.getD_eq_getElem?_getD, List.getElem?_eq_getElem (by omega)]; rfl
  have v1 : (valsR (layAt M 0) D (begL M.E D A)).take (A.length - 1) ++ [valR (layAt M 0) D (rowOf (begL M.E D A) (A.length - 1))] = valsR (layAt M 0) D (begL M.E D A) := by
    have hk : (valsR (layAt M 0) D (begL M.E D A)).length = A.length - 1 + 1 := by unfold valsR; rw [List.length_map]; omega
    refine take_snoc1 ?_ hk
    rw [← valsR_at _ _ (by omega)]
    unfold rowOf
    rw [List.getD_eq_getElem?_getD, List.getElem?_eq_getElem (by omega)]; rfl
  rw [k1, v1, Nat.sub_add_cancel h]
theorem keys_take (L : Lay) (D : Nat) (R : List (List Int)) {i : Nat} (h : i < R.length) : (keysR L D R).take (i + 1) = (keysR L D R).take i ++ [keyR L D (rowOf R i)] := by
  have e : (keysR L D R)[i]? = some (keyR L D (rowOf R i)) := by
    unfold keysR rowOf
    rw [List.getElem?_map, List.getD_eq_getElem?_getD, List.getElem?_eq_getElem h]; rfl
  rw [List.take_add_one, e]; rfl
theorem vals_take (L : Lay) (D : Nat) (R : List (List Int)) {i : Nat} (h : i < R.length) : (valsR L D R).take (i + 1) = (valsR L D R).take i ++ [valR L D (rowOf R i)] := by
  have e : (valsR L D R)[i]? = some (valR L D (rowOf R i)) := by
    unfold valsR rowOf
    rw [List.getElem?_map, List.getD_eq_getElem?_getD, List.getElem?_eq_getElem h]; rfl
  rw [List.take_add_one, e]; rfl
/-- The blocks of a world below a bound, as a world. -/
theorem cut_world (w1 : World) (n : Nat) (h : n ≤ w1.heap.size) : ∃ wm : World, wm.heap.size = n ∧ Below n wm w1 ∧ ∀ b, b < n → wm.heap[b]? = w1.heap[b]? := by
  have e : ∀ b, b < n → ((w1.heap.toList.take n).toArray)[b]? = w1.heap[b]? := fun b hb => by
    rw [List.getElem?_toArray, List.getElem?_take_of_lt hb, Array.getElem?_toList]
  have s : ((w1.heap.toList.take n).toArray).size = n := by simp; omega
  exact ⟨{ w1 with heap := (w1.heap.toList.take n).toArray }, s, ⟨rfl, rfl, rfl, by show ((w1.heap.toList.take n).toArray).size ≤ _; omega, fun k hk => (e k hk).symm⟩, e⟩
theorem full_one (M : Mdl) (D H Hd : Nat) (A : List Int) : fullK M D H Hd 1 A = [keysR (layAt M 0) D (begL M.E D A)] ∧ fullV M D H Hd 1 A = [valsR (layAt M 0) D (begL M.E D A)] := ⟨rfl, rfl⟩
end Go.Proofs.YtddcdfghanabmaaDoor
