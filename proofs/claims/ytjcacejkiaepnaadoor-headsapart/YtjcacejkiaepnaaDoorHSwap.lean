/- Two rows change places: sums, weights and what comes out stay. -/
import Derived.Test.YtjcacejkiaepnaaDoorHNum
import Derived.Test.YtjcacejkiaepnaaDoorHRows
namespace Go.Proofs.YtjcacejkiaepnaaDoor
open Go.ChangeShapes Go.WideShapes Go.ChangeAt Go.RowKit
/-- Two places changed. -/
def sw (I J i : Nat) : Nat := if i = I then J else if i = J then I else i
theorem sw_sw (I J i : Nat) : sw I J (sw I J i) = i := by
  unfold sw
  by_cases h1 : i = I
  · subst h1
    rw [if_pos rfl]
    by_cases h2 : J = i
    · subst h2; rw [if_pos rfl]
    · rw [if_neg h2, if_pos rfl]
  · rw [if_neg h1]
    by_cases h2 : i = J
    · subst h2; rw [if_pos rfl, if_pos rfl]
    · rw [if_neg h2, if_neg h1, if_neg h2]
theorem sw_lt {I J n i : Nat} (hI : I < n) (hJ : J < n) (h : i < n) : sw I J i < n := by unfold sw; split <;> (try split) <;> omega
theorem sumTo_upd (f : Nat → Int) (I : Nat) (a : Int) : ∀ n, I < n → sumTo (fun i => if i = I then a else f i) n = sumTo f n - f I + a := by
  intro n
  induction n with
  | zero => intro h; omega
  | succ n ih =>
    intro h
    rw [sumTo_succ, sumTo_succ]
    rcases Nat.lt_or_ge I n with h1 | h1
    · rw [ih h1, if_neg (by omega)]; omega
    · obtain rfl : I = n := by omega
      rw [if_pos rfl, sumTo_congr (g := f) (fun j hj => by rw [if_neg (by omega)])]; omega
theorem sumTo_sw (f : Nat → Int) {I J n : Nat} (hI : I < n) (hJ : J < n) : sumTo (fun i => f (sw I J i)) n = sumTo f n := by
  by_cases e : I = J
  · subst e
    exact sumTo_congr fun j _ => by
      unfold sw
      by_cases h : j = I
      · rw [if_pos h, h]
      · rw [if_neg h, if_neg h]
  · have h1 : sumTo (fun i => f (sw I J i)) n = sumTo (fun i => if i = I then f J else (fun i => if i = J then f I else f i) i) n := sumTo_congr fun j _ => by
      unfold sw
      by_cases h : j = I
      · simp only [if_pos h]
      · by_cases h2 : j = J
        · simp only [if_neg h, if_pos h2]
        · simp only [if_neg h, if_neg h2]
    rw [h1, sumTo_upd _ I _ n hI, sumTo_upd _ J _ n hJ, if_neg e]
    omega
theorem maxTo_sw {A B : List Int} {I J n : Nat} (h1 : 1 ≤ n) (hI : I < n) (hJ : J < n) (h : ∀ i, i < n → el B i = el A (sw I J i)) : maxTo B n = maxTo A n := by
  obtain ⟨i, hi, e⟩ := maxTo_at B h1
  obtain ⟨j, hj, e2⟩ := maxTo_at A h1
  have a1 := maxTo_ge A (sw_lt hI hJ hi)
  have a2 := maxTo_ge B (sw_lt hI hJ hj)
  rw [h _ (sw_lt hI hJ hj), sw_sw] at a2
  rw [h i hi] at e
  omega
theorem powW_sw {A B : List Int} {I J n : Nat} (h1 : 1 ≤ n) (hI : I < n) (hJ : J < n) (h : ∀ i, i < n → el B i = el A (sw I J i)) {i : Nat} (hi : i < n) : powW B n i = powW A n (sw I J i) := by
  unfold powW
  rw [maxTo_sw h1 hI hJ h, h i hi]
theorem wgt_sw {A B : List Int} {I J n : Nat} (h1 : 1 ≤ n) (hI : I < n) (hJ : J < n) (h : ∀ i, i < n → el B i = el A (sw I J i)) {i : Nat} (hi : i < n) : wgt B n i = wgt A n (sw I J i) := by
  unfold wgt
  rw [powW_sw h1 hI hJ h hi]
  congr 1
  unfold psum
  rw [sumTo_congr (g := fun i => powW A n (sw I J i)) fun j hj => powW_sw h1 hI hJ h hj]
  exact sumTo_sw (powW A n) hI hJ
/-- What a head makes, exactly. -/
theorem head_sum (Q : List Int) (K V : List (List Int)) (m n j : Nat) (h1 : 1 ≤ m) (hV : ∀ i, i < m → Small (rowOf V i)) :
    headEl Q K V m n j = sat (rnd (sumTo (fun i => wgt (scrs Q K m n) m i * el (rowOf V i) j) m) 65536) := by
  unfold headEl dotN
  have ha : ∀ i, i < m → el (tab m (wgt (scrs Q K m n) m)) i = wgt (scrs Q K m n) m i := fun i hi => el_tab hi
  have hs : sumTo (el (tab m (wgt (scrs Q K m n) m))) m ≤ 65536 := by rw [sumTo_congr ha]; exact (wgt_sum _ h1).1
  obtain ⟨e, -, -⟩ := mix_sum (tab m (wgt (scrs Q K m n) m)) (colOf V m j) m (-2147483648) 2147483647 (fun i hi => by rw [ha i hi]; exact (wgt_bd _ hi).1) hs (fun i hi => by unfold colOf; rw [el_tab hi]; exact (hV i hi).el j) (by omega) (by omega) m (Nat.le_refl _)
  rw [e]
  congr 2
  exact sumTo_congr fun i hi => by rw [ha i hi]; unfold colOf; rw [el_tab hi]
/-- Two rows changed. -/
def swapR (R : List (List Int)) (I J : Nat) : List (List Int) := (R.set I (rowOf R J)).set J (rowOf R I)
theorem rowOf_set {R : List (List Int)} {i t : Nat} {Y : List Int} (hi : i < R.length) : rowOf (R.set i Y) t = if t = i then Y else rowOf R t := by
  unfold rowOf; simp only [List.getD_eq_getElem?_getD, List.getElem?_set]
  by_cases e : i = t
  · subst e; simp [hi]
  · rw [if_neg e, if_neg (fun h => e h.symm)]
theorem rowOf_swap {R : List (List Int)} {I J t : Nat} (hI : I < R.length) (hJ : J < R.length) : rowOf (swapR R I J) t = rowOf R (sw I J t) := by
  unfold swapR sw
  rw [rowOf_set (by rw [List.length_set]; exact hJ), rowOf_set hI]
  by_cases h1 : t = J
  · subst h1
    rw [if_pos rfl]
    by_cases h2 : t = I
    · rw [if_pos h2, h2]
    · rw [if_neg h2, if_pos rfl]
  · rw [if_neg h1]
    by_cases h2 : t = I
    · rw [if_pos h2, if_pos h2]
    · rw [if_neg h2, if_neg h2, if_neg h1]
theorem len_swap (R : List (List Int)) (I J : Nat) : (swapR R I J).length = R.length := by unfold swapR; rw [List.length_set, List.length_set]
theorem att_swap (Q : List Int) (K V : List (List Int)) (m s j I J : Nat) (h1 : 1 ≤ m) (hI : I < m) (hJ : J < m) (hK : K.length = m) (hV : V.length = m) (sV : ∀ i, i < m → Small (rowOf V i)) :
    attEl Q (swapR K I J) (swapR V I J) m s j = attEl Q K V m s j := by
  unfold attEl
  rw [head_sum _ _ _ _ _ _ h1 (fun i hi => by rw [rowOf_swap (by omega) (by omega)]; exact sV _ (sw_lt hI hJ hi)), head_sum _ _ _ _ _ _ h1 sV]
  congr 2
  have hsc : ∀ i, i < m → el (scrs (partOf Q (j / s * s) s) (partsOf (swapR K I J) (j / s * s) s) m s) i = el (scrs (partOf Q (j / s * s) s) (partsOf K (j / s * s) s) m s) (sw I J i) := fun i hi => by
    unfold scrs
    rw [el_tab hi, el_tab (sw_lt hI hJ hi), rowOf_parts (by rw [len_swap]; omega), rowOf_parts (by have := sw_lt hI hJ hi; omega), rowOf_swap (by omega) (by omega)]
  rw [sumTo_congr (g := fun i => (fun i => wgt (scrs (partOf Q (j / s * s) s) (partsOf K (j / s * s) s) m s) m i * el (rowOf V i) j) (sw I J i)) fun i hi => by
    simp only []
    rw [wgt_sw h1 hI hJ hsc hi, rowOf_swap (by omega) (by omega)]]
  exact sumTo_sw (fun i => wgt (scrs (partOf Q (j / s * s) s) (partsOf K (j / s * s) s) m s) m i * el (rowOf V i) j) hI hJ
theorem chkN_of {n m : Nat} {K V : List (List Int)} {h : Int} (h1 : 1 ≤ h ∧ h ≤ 4) (h2 : 1 ≤ n ∧ n ≤ 32) (h3 : 1 ≤ m ∧ m ≤ 128) (h4 : n % h.toNat = 0) (hk : ∀ t, t < m → (rowOf K t).length = n) (hv : ∀ t, t < m → (rowOf V t).length = n) : chkN n m m K V h = 0 := by
  unfold chkN
  rw [if_neg (by omega), if_neg (by omega), if_neg (by omega), if_neg (by simp [h4, longs_of hk, longs_of hv])]
theorem chk_swap {n m : Nat} {K V : List (List Int)} {h : Int} {I J : Nat} (hf : chkN n m m K V h = 0) (hI : I < m) (hJ : J < m) (hK : K.length = m) (hV : V.length = m) : chkN n m m (swapR K I J) (swapR V I J) h = 0 := by
  obtain ⟨a, b, c, d, -, e, f⟩ := chkN_ok hf
  exact chkN_of a b c d (fun t ht => by rw [rowOf_swap (by omega) (by omega)]; exact e _ (sw_lt hI hJ ht)) (fun t ht => by rw [rowOf_swap (by omega) (by omega)]; exact f _ (sw_lt hI hJ ht))
/-- Block g is a row of k rows, each in a block of its own that may be written. -/
structure Gr (w : World) (g k : Nat) (R : List (List Int)) : Prop where
  len : R.length = k
  row : ∃ cur : Array Value, w.heap[g]? = some (.cells cur 22 (0, 0)) ∧ k ≤ cur.size ∧ ∀ t, t < k → ∃ b m c, cur[t]? = some (.slice (some ⟨b, 0, none⟩) m c) ∧ Fresh w 0 b m c (rowOf R t)
theorem OwnGrid.gr {w : World} {B g k cap : Nat} {R : List (List Int)} (h : OwnGrid w B g k cap R) : Gr w g k R := by
  obtain ⟨vs, h1, gs, h2, _⟩ := h.own
  refine ⟨h.len, ?_⟩
  rcases h1.2 with ⟨h3, _⟩ | ⟨g', c', cur, hv, hg, hh, hn, hm, hs, ht⟩
  · cases h3
  · simp only [Value.slice.injEq, Option.some.injEq, Addr.mk.injEq, and_true, true_and] at hv
    obtain ⟨rfl, rfl⟩ := hv
    refine ⟨cur, hh, by omega, fun t htk => ?_⟩
    obtain ⟨m, c, e, F⟩ := h2 t htk
    refine ⟨gs t, m, c, ?_, F.mono (Nat.zero_le _)⟩
    rw [← ht, Nat.mul_one, List.getElem?_take, if_pos htk, Array.getElem?_toList] at e
    exact e
theorem Gr.cell {w : World} {g k : Nat} {R : List (List Int)} (h : Gr w g k R) {t : Nat} (ht : t < k) : ∃ b m c, w.cell? ⟨g, t, none⟩ = some (.slice (some ⟨b, 0, none⟩) m c) ∧ Fresh w 0 b m c (rowOf R t) := by
  obtain ⟨cur, hh, hs, hc⟩ := h.row
  obtain ⟨b, m, c, e, F⟩ := hc t ht
  exact ⟨b, m, c, by simp [World.cell?, hh, e], F⟩
theorem Gr.frozen {w : World} {g k : Nat} {R : List (List Int)} (h : Gr w g k R) (t : Nat) : w.frozen? ⟨g, t, none⟩ = false := by
  obtain ⟨cur, hh, _, _⟩ := h.row
  simp [World.frozen?, hh]
theorem Gr.lt {w : World} {g k : Nat} {R : List (List Int)} (h : Gr w g k R) : g < w.heap.size := by
  obtain ⟨c, hb, _, _⟩ := h.row
  exact (Array.getElem?_eq_some_iff.1 hb).1
theorem Gr.below {w w' : World} {g k : Nat} {R : List (List Int)} (h : Gr w g k R) (hb : Below w.heap.size w w') : Gr w' g k R := by
  have hl := h.lt
  obtain ⟨cur, hh, hs, hc⟩ := h.row
  exact ⟨h.len, cur, (hb.block g hl).trans hh, hs, fun t ht => let ⟨b, m, c, e, F⟩ := hc t ht; ⟨b, m, c, e, F.below hb⟩⟩
theorem Gr.ne {w : World} {g k b m c B : Nat} {R : List (List Int)} {Y : List Int} (h : Gr w g k R) (F : Fresh w B b m c Y) : b ≠ g := by
  intro e
  subst e
  obtain ⟨cur, hh, _, _⟩ := h.row
  obtain ⟨c2, hb2, _⟩ := F.row
  rw [hh] at hb2
  simp at hb2
theorem Gr.set {w : World} {g k : Nat} {R : List (List Int)} (h : Gr w g k R) {i : Nat} (hi : i < k) {b m c : Nat} {Y : List Int} (F : Fresh w 0 b m c Y) : Gr (w.setCell ⟨g, i, none⟩ (.slice (some ⟨b, 0, none⟩) m c)) g k (R.set i Y) := by
  obtain ⟨cur, hh, hs, hc⟩ := h.row
  refine ⟨by rw [List.length_set]; exact h.len, cur.setIfInBounds i (.slice (some ⟨b, 0, none⟩) m c), ?_, by simpa using hs, fun t ht => ?_⟩
  · simp [World.setCell, Array.getElem?_modify, hh]
  · rw [Array.getElem?_setIfInBounds, rowOf_set (by rw [h.len]; exact hi)]
    by_cases e : i = t
    · subst e; rw [if_pos rfl, if_pos (by omega), if_pos rfl]; exact ⟨b, m, c, rfl, F.setOther (h.ne F) _⟩
    · rw [if_neg e, if_neg (fun h => e h.symm)]
      obtain ⟨b', m', c', e', F'⟩ := hc t ht
      exact ⟨b', m', c', e', F'.setOther (h.ne F') _⟩
theorem Gr.grid {w : World} {g k : Nat} {R : List (List Int)} (h : Gr w g k R) (hk : k ≤ 9223372036854775807) : GridAt w (some ⟨g, 0, none⟩) k R := by
  refine ⟨h.len, hk, fun _ => ⟨g, 0, rfl, fun t ht => ?_⟩⟩
  obtain ⟨b, m, c, e, F⟩ := h.cell ht
  exact ⟨_, _, _, by rw [Nat.zero_add]; exact e, F.arg⟩
/-- What stays where a cell of a row of rows is written. -/
theorem Gr.other {w : World} {g g' k k' i : Nat} {R R' : List (List Int)} (h : Gr w g k R) (h' : Gr w g' k' R') (hne : g ≠ g') (v : Value) : Gr (w.setCell ⟨g', i, none⟩ v) g k R := by
  obtain ⟨cur, hh, hs, hc⟩ := h.row
  refine ⟨h.len, cur, (Below.heap_setCell _ _ _ _ hne).trans hh, hs, fun t ht => ?_⟩
  obtain ⟨b, m, c, e, F⟩ := hc t ht
  exact ⟨b, m, c, e, F.setOther (h'.ne F) _⟩
/-- The swap of two rows. -/
theorem Gr.swap {w : World} {g k : Nat} {R : List (List Int)} (h : Gr w g k R) {I J : Nat} (hI : I < k) (hJ : J < k) {b m c b' m' c' : Nat}  (FI : Fresh w 0 b m c (rowOf R I)) (FJ : Fresh w 0 b' m' c' (rowOf R J)) :
    Gr ((w.setCell ⟨g, I, none⟩ (.slice (some ⟨b', 0, none⟩) m' c')).setCell ⟨g, J, none⟩ (.slice (some ⟨b, 0, none⟩) m c)) g k (swapR R I J) := by
  have h1 := h.set hI FJ
  exact h1.set hJ (FI.setOther (h.ne FI) _)
end Go.Proofs.YtjcacejkiaepnaaDoor
