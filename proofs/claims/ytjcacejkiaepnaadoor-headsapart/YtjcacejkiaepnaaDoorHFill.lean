/- Rows of rows whose rows are written: each in a block of its own. -/
import Derived.Test.YtjcacejkiaepnaaDoorHSwap
namespace Go.Proofs.YtjcacejkiaepnaaDoor
open Go.ChangeShapes Go.WideShapes Go.ChangeAt Go.RowKit
/-- Block g is a row of k rows, each in a block of its own from B on and below T, no two in one. -/
structure Gw (w : World) (B T g k : Nat) (f : Nat → List Int) : Prop where
  row : ∃ (cur : Array Value) (gs : Nat → Nat), w.heap[g]? = some (.cells cur 22 (0, 0)) ∧ k ≤ cur.size ∧ (∀ t, t < k → ∃ m c, cur[t]? = some (.slice (some ⟨gs t, 0, none⟩) m c) ∧ Fresh w B (gs t) m c (f t) ∧ gs t < T) ∧ ∀ t u, t < u → u < k → gs t < gs u
theorem OwnGrid.gw {w : World} {B g k cap : Nat} {R : List (List Int)} (h : OwnGrid w B g k cap R) : Gw w B w.heap.size g k (rowOf R) := by
  obtain ⟨vs, h1, gs, h2, h3⟩ := h.own
  rcases h1.2 with ⟨h4, _⟩ | ⟨g', c', cur, hv, hg, hh, hn, hm, hs, ht⟩
  · cases h4
  · simp only [Value.slice.injEq, Option.some.injEq, Addr.mk.injEq, and_true, true_and] at hv
    obtain ⟨rfl, rfl⟩ := hv
    refine ⟨cur, gs, hh, by omega, fun t htk => ?_, h3⟩
    obtain ⟨m, c, e, F⟩ := h2 t htk
    refine ⟨m, c, ?_, F, F.lt⟩
    rw [← ht, Nat.mul_one, List.getElem?_take, if_pos htk, Array.getElem?_toList] at e
    exact e
theorem Gw.congr {w : World} {B T g k : Nat} {f f' : Nat → List Int} (h : Gw w B T g k f) (e : ∀ t, t < k → f t = f' t) : Gw w B T g k f' := by
  obtain ⟨cur, gs, hh, hs, hc, h3⟩ := h.row
  exact ⟨cur, gs, hh, hs, fun t ht => let ⟨m, c, e1, F, l⟩ := hc t ht; ⟨m, c, e1, e t ht ▸ F, l⟩, h3⟩
theorem Gw.below {w w' : World} {B T g k : Nat} {f : Nat → List Int} (h : Gw w B T g k f) (hb : Below w.heap.size w w') : Gw w' B T g k f := by
  obtain ⟨cur, gs, hh, hs, hc, h3⟩ := h.row
  exact ⟨cur, gs, (hb.block g (Array.getElem?_eq_some_iff.1 hh).1).trans hh, hs, fun t ht => let ⟨m, c, e1, F, l⟩ := hc t ht; ⟨m, c, e1, F.below hb, l⟩, h3⟩
theorem Gw.ne {w : World} {B T g k b m c C : Nat} {f : Nat → List Int} {Y : List Int} (h : Gw w B T g k f) (F : Fresh w C b m c Y) : g ≠ b := by
  intro e
  subst e
  obtain ⟨cur, gs, hh, _⟩ := h.row
  obtain ⟨c2, hb2, _⟩ := F.row
  rw [hh] at hb2
  simp at hb2
/-- A write into another row. -/
theorem Gw.other {w : World} {B T g k b m c C j : Nat} {f : Nat → List Int} {Y : List Int} (h : Gw w B T g k f) (F : Fresh w C b m c Y) (hb : b < B ∨ T ≤ b) (v : Value) : Gw (w.setCell ⟨b, j, none⟩ v) B T g k f := by
  have hne := h.ne F
  obtain ⟨cur, gs, hh, hs, hc, h3⟩ := h.row
  refine ⟨cur, gs, (Below.heap_setCell _ _ _ _ hne).trans hh, hs, fun t ht => ?_, h3⟩
  obtain ⟨m', c', e1, F', l⟩ := hc t ht
  have := F'.base
  exact ⟨m', c', e1, F'.setOther (show gs t ≠ b by omega) _, l⟩
/-- A write into one of its rows. -/
theorem Gw.open {w : World} {B T g k : Nat} {f : Nat → List Int} (h : Gw w B T g k f) {i : Nat} (hi : i < k) : ∃ b m c, w.cell? ⟨g, i, none⟩ = some (.slice (some ⟨b, 0, none⟩) m c) ∧ Fresh w B b m c (f i) ∧ b < T ∧
    ∀ (j : Nat) (x : Int), j < m → (-2147483648 ≤ x ∧ x ≤ 2147483647) → Gw (w.setCell ⟨b, j, none⟩ (.int .i32 x)) B T g k (fun t => if t = i then (f i).set j x else f t) := by
  have h0 := h
  obtain ⟨cur, gs, hh, hs, hc, h3⟩ := h.row
  obtain ⟨m, c, e, F, l⟩ := hc i hi
  refine ⟨gs i, m, c, by simp [World.cell?, hh, e], F, l, fun j x hj hx => ?_⟩
  refine ⟨cur, gs, (Below.heap_setCell _ _ _ _ (h0.ne F)).trans hh, hs, fun t ht => ?_, h3⟩
  obtain ⟨m', c', e', F', l'⟩ := hc t ht
  by_cases q : t = i
  · subst q
    rw [e] at e'
    simp only [Option.some.injEq, Value.slice.injEq, true_and] at e'
    obtain ⟨rfl, rfl⟩ := e'
    simp only [if_true]
    exact ⟨m, c, e, F.set j x hj hx, l⟩
  · simp only [if_neg q]
    refine ⟨m', c', e', F'.setOther ?_ _, l'⟩
    show gs t ≠ gs i
    rcases Nat.lt_or_ge t i with q1 | q1
    · have := h3 t i q1 hi; omega
    · have := h3 i t (by omega) ht; omega
theorem Gw.grid {w : World} {B T g k : Nat} {f : Nat → List Int} (h : Gw w B T g k f) (hk : k ≤ 9223372036854775807) : GridAt w (some ⟨g, 0, none⟩) k ((List.range k).map f) := by
  obtain ⟨cur, gs, hh, hs, hc, h3⟩ := h.row
  refine ⟨by simp, hk, fun _ => ⟨g, 0, rfl, fun t ht => ?_⟩⟩
  obtain ⟨m, c, e, F, _⟩ := hc t ht
  refine ⟨some ⟨gs t, 0, none⟩, m, c, by rw [Nat.zero_add]; simp [World.cell?, hh, e], ?_⟩
  have er : rowOf ((List.range k).map f) t = f t := by unfold rowOf; simp [List.getD_eq_getElem?_getD, ht]
  rw [er]
  exact F.arg
theorem rowOf_fn {f : Nat → List Int} {k t : Nat} (ht : t < k) : rowOf ((List.range k).map f) t = f t := by unfold rowOf; simp [List.getD_eq_getElem?_getD, ht]
/-- A row whose numbers from a on and below j are x. -/
def fill (A : List Int) (n a : Nat) (x : Int) (j : Nat) : List Int := tab n fun c => if a ≤ c ∧ c < j then x else el A c
theorem fill_len (A : List Int) (n a : Nat) (x : Int) (j : Nat) : (fill A n a x j).length = n := tab_len _ _
theorem fill_none {A : List Int} {n a : Nat} {x : Int} (h : A.length = n) : fill A n a x a = A := by
  unfold fill
  rw [tab_congr (g := el A) fun c _ => by rw [if_neg (by omega)]]
  exact tab_el h
theorem fill_step {A : List Int} {n a : Nat} {x : Int} {j : Nat} (hj : j < n) (ha : a ≤ j) : (fill A n a x j).set j x = fill A n a x (j + 1) := by
  unfold fill
  rw [tab_set hj]
  refine tab_congr fun c _ => ?_
  by_cases e : c = j
  · subst e; rw [if_pos rfl, if_pos (by omega)]
  · rw [if_neg e]
    by_cases h : a ≤ c ∧ c < j
    · rw [if_pos h, if_pos (by omega)]
    · rw [if_neg h, if_neg (by omega)]
theorem fill_el {A : List Int} {n a : Nat} {x : Int} {j c : Nat} (hc : c < a) (han : a ≤ n) : el (fill A n a x j) c = el A c := by unfold fill; rw [el_tab (by omega), if_neg (by omega)]
theorem fill_part {A : List Int} {n a : Nat} {x : Int} {j : Nat} (hl : A.length = n) (han : a ≤ n) : partOf (fill A n a x j) 0 a = partOf A 0 a := by
  refine ext_el (by rw [len_part (by rw [fill_len]; omega), len_part (by omega)]) fun c hc => ?_
  rw [len_part (by rw [fill_len]; omega)] at hc
  rw [el_part hc, el_part hc, fill_el (by omega) han]
theorem att_fill (Q : List Int) (K V : List (List Int)) (n m a j : Nat) (x : Int) (hj : j < a) (han : a ≤ n) (hQ : Q.length = n) (hK : K.length = m) (lk : ∀ t, t < m → (rowOf K t).length = n) :
    attEl (fill Q n a x n) ((List.range m).map fun t => fill (rowOf K t) n a x n) ((List.range m).map fun t => fill (rowOf V t) n a x n) m a j = attEl Q K V m a j := by
  unfold attEl
  rw [Nat.div_eq_of_lt hj, Nat.zero_mul, fill_part hQ han]
  unfold headEl scrs colOf
  have e1 : (tab m fun i => scoreN (partOf Q 0 a) (rowOf (partsOf ((List.range m).map fun t => fill (rowOf K t) n a x n) 0 a) i) a) = tab m fun i => scoreN (partOf Q 0 a) (rowOf (partsOf K 0 a) i) a := tab_congr fun i hi => by
    rw [rowOf_parts (by simpa using hi), rowOf_parts (by omega), rowOf_fn hi, fill_part (lk i hi) han]
  have e2 : (tab m fun i => el (rowOf ((List.range m).map fun t => fill (rowOf V t) n a x n) i) j) = tab m fun i => el (rowOf V i) j := tab_congr fun i hi => by
    rw [rowOf_fn hi, fill_el hj han]
  rw [e1, e2]
end Go.Proofs.YtjcacejkiaepnaaDoor
