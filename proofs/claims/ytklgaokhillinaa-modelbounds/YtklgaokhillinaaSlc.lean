/- Rows of fixed numbers in memory: what a slice value reads as; rows that a call has made itself, read and written; sums that end at 63 bits. -/
import Derived.Test.YtklgaokhillinaaNum2
import Derived.Test.YtklgaokhillinaaKin
import Derived.Deep.OwnRows
import Derived.Deep.LoopGhost
import Derived.Deep.RegionWith
import Derived.Deep.QuietTactic
namespace Go.Proofs.Ytklgaokhillinaa
open Go.ChangeShapes Go.WideShapes Go.ChangeAt Go.RowKit
/-- The number at a place of a row; beyond its end: nought. -/
def el (A : List Int) (k : Nat) : Int := A.getD k 0
theorem el_cons_zero (x : Int) (A : List Int) : el (x :: A) 0 = x := rfl
theorem el_cons_succ (x : Int) (A : List Int) (k : Nat) : el (x :: A) (k + 1) = el A k := rfl
theorem el_mem {A : List Int} {k : Nat} (h : k < A.length) : el A k ∈ A := by
  unfold el; rw [List.getD_eq_getElem?_getD, List.getElem?_eq_getElem h]; exact List.getElem_mem h
theorem el_over {A : List Int} {k : Nat} (h : A.length ≤ k) : el A k = 0 := by
  unfold el; rw [List.getD_eq_getElem?_getD, List.getElem?_eq_none h]; rfl
theorem el_map {f : Int → Int} {A : List Int} {k : Nat} (h : k < A.length) : el (A.map f) k = f (el A k) := by
  unfold el; simp [List.getD_eq_getElem?_getD, List.getElem?_eq_getElem h]
theorem el_take {A : List Int} {n k : Nat} (h : k < n) : el (A.take n) k = el A k := by
  unfold el; simp [List.getD_eq_getElem?_getD, h]
theorem el_drop {A : List Int} {n k : Nat} : el (A.drop n) k = el A (n + k) := by
  unfold el; simp [List.getD_eq_getElem?_getD]
theorem el_range {f : Nat → Int} {n k : Nat} (h : k < n) : el ((List.range n).map f) k = f k := by
  unfold el; simp [List.getD_eq_getElem?_getD, h]
theorem el_append_left {A B : List Int} {k : Nat} (h : k < A.length) : el (A ++ B) k = el A k := by
  unfold el; rw [List.getD_eq_getElem?_getD, List.getD_eq_getElem?_getD, List.getElem?_append_left h]
theorem el_append_right {A B : List Int} {k : Nat} : el (A ++ B) (A.length + k) = el B k := by
  unfold el; rw [List.getD_eq_getElem?_getD, List.getD_eq_getElem?_getD, List.getElem?_append_right (by omega), Nat.add_sub_cancel_left]
theorem el_set {A : List Int} {i k : Nat} {x : Int} (h : i < A.length) : el (A.set i x) k = if k = i then x else el A k := by
  unfold el; simp only [List.getD_eq_getElem?_getD, List.getElem?_set]
  by_cases e : i = k
  · subst e; simp [h]
  · rw [if_neg e, if_neg (fun h => e h.symm)]
theorem ext_el {A B : List Int} (hl : A.length = B.length) (h : ∀ k, k < A.length → el A k = el B k) : A = B := by
  apply List.ext_getElem hl
  intro i h1 h2
  have := h i h1
  unfold el at this
  simpa [List.getD_eq_getElem?_getD, List.getElem?_eq_getElem h1, List.getElem?_eq_getElem h2] using this
/-- All numbers of a row are of 32 bits. -/
def Small (A : List Int) : Prop := ∀ x ∈ A, -2147483648 ≤ x ∧ x ≤ 2147483647
theorem Small.el {A : List Int} (h : Small A) (k : Nat) : -2147483648 ≤ el A k ∧ el A k ≤ 2147483647 := by
  by_cases hk : k < A.length
  · exact h _ (el_mem hk)
  · rw [el_over (by omega)]; omega
theorem Small.take {A : List Int} (h : Small A) (n : Nat) : Small (A.take n) := fun x hx => h x (List.mem_of_mem_take hx)
theorem Small.drop {A : List Int} (h : Small A) (n : Nat) : Small (A.drop n) := fun x hx => h x (List.mem_of_mem_drop hx)
theorem Small.append {A B : List Int} (h : Small A) (k : Small B) : Small (A ++ B) := fun x hx => (List.mem_append.1 hx).elim (h x) (k x)
theorem Small.set {A : List Int} (h : Small A) (i : Nat) {x : Int} (hx : -2147483648 ≤ x ∧ x ≤ 2147483647) : Small (A.set i x) := fun y hy => (List.mem_or_eq_of_mem_set hy).elim (h y) (fun e => e ▸ hx)
theorem small_range {f : Nat → Int} {n : Nat} (h : ∀ k, k < n → -2147483648 ≤ f k ∧ f k ≤ 2147483647) : Small ((List.range n).map f) := by
  intro x hx
  obtain ⟨k, hk, rfl⟩ := List.mem_map.1 hx
  exact h k (List.mem_range.1 hk)
theorem small_nil : Small [] := fun x hx => by cases hx
/-- The row of n numbers that f tells. -/
def tab (n : Nat) (f : Nat → Int) : List Int := (List.range n).map f
theorem tab_len (n : Nat) (f : Nat → Int) : (tab n f).length = n := by simp [tab]
theorem el_tab {n : Nat} {f : Nat → Int} {k : Nat} (h : k < n) : el (tab n f) k = f k := el_range h
theorem tab_congr {n : Nat} {f g : Nat → Int} (h : ∀ k, k < n → f k = g k) : tab n f = tab n g :=
  ext_el (by rw [tab_len, tab_len]) fun k hk => by rw [tab_len] at hk; rw [el_tab hk, el_tab hk, h k hk]
theorem tab_el {A : List Int} {n : Nat} (h : A.length = n) : tab n (el A) = A := ext_el (by rw [tab_len, h]) fun k hk => by rw [tab_len] at hk; exact el_tab hk
theorem tab_set {n : Nat} {f : Nat → Int} {k : Nat} {x : Int} (hk : k < n) : (tab n f).set k x = tab n (fun j => if j = k then x else f j) :=
  ext_el (by rw [List.length_set, tab_len, tab_len]) fun j hj => by
    rw [List.length_set, tab_len] at hj
    rw [el_set (by rw [tab_len]; exact hk), el_tab hj, el_tab hj]
theorem tab_step {n : Nat} {f : Nat → Int} {k : Nat} {x : Int} (hk : k < n) (hx : x = f k) : (tab n (fun j => if j < k then f j else 0)).set k x = tab n (fun j => if j < k + 1 then f j else 0) := by
  rw [tab_set hk]
  refine tab_congr fun j hj => ?_
  by_cases e : j = k
  · subst e; rw [if_pos rfl, if_pos (by omega), hx]
  · rw [if_neg e]
    by_cases h2 : j < k
    · rw [if_pos h2, if_pos (by omega)]
    · rw [if_neg h2, if_neg (by omega)]
theorem tab_done {n : Nat} {f : Nat → Int} : tab n (fun j => if j < n then f j else 0) = tab n f := tab_congr fun j hj => by rw [if_pos hj]
theorem tab_start {n : Nat} {f : Nat → Int} : tab n (fun j => if j < 0 then f j else 0) = tab n (fun _ => 0) := tab_congr fun j _ => by rw [if_neg (by omega)]
theorem small_tab {f : Nat → Int} {n : Nat} (h : ∀ k, k < n → -2147483648 ≤ f k ∧ f k ≤ 2147483647) : Small (tab n f) := small_range h
/-- In w the slice that begins at ao, of n numbers, reads as A. -/
structure RowAt (w : World) (ao : Option Addr) (n : Nat) (A : List Int) : Prop where
  len : A.length = n
  max : n ≤ 9223372036854775807
  small : Small A
  cells : 0 < n → ∃ b o, ao = some ⟨b, o, none⟩ ∧ ∀ t, t < n → w.cell? ⟨b, o + t, none⟩ = some (.int .i32 (el A t))
theorem RowAt.nil (w : World) (ao : Option Addr) : RowAt w ao 0 [] := ⟨rfl, by omega, small_nil, fun h => by omega⟩
theorem RowAt.below {w w' : World} {ao : Option Addr} {n : Nat} {A : List Int} (h : RowAt w ao n A) (hb : Below w.heap.size w w') : RowAt w' ao n A := by
  refine ⟨h.len, h.max, h.small, fun hn => ?_⟩
  obtain ⟨b, o, e, hc⟩ := h.cells hn
  refine ⟨b, o, e, fun t ht => ?_⟩
  have hlt : b < w.heap.size := by simpa using World.block_lt_of_cell? w _ (hc t ht)
  rw [hb.cell (by exact hlt)]; exact hc t ht
theorem RowAt.drewN {w : World} {ao : Option Addr} {n : Nat} {A : List Int} (h : RowAt w ao n A) (m : Nat) : RowAt (w.drewN m) ao n A :=
  h.below (below_drewN (Below.refl _ _) m)
/-- A part of a row. -/
theorem RowAt.part {w : World} {b o n : Nat} {A : List Int} (h : RowAt w (some ⟨b, o, none⟩) n A) (i m : Nat) (him : i + m ≤ n) : RowAt w (some ⟨b, o + i, none⟩) m ((A.drop i).take m) := by
  have hl := h.len
  refine ⟨by simp; omega, by have := h.max; omega, (h.small.drop i).take m, fun hm => ?_⟩
  obtain ⟨b', o', e, hc⟩ := h.cells (by omega)
  simp only [Option.some.injEq, Addr.mk.injEq, and_true] at e
  obtain ⟨rfl, rfl⟩ := e
  refine ⟨b, o + i, rfl, fun t ht => ?_⟩
  rw [el_take ht, el_drop, Nat.add_assoc]
  exact hc (i + t) (by omega)
/-- Block g is a row of cap numbers that may be written, the first n are A; it is none of the blocks below B. -/
structure Fresh (w : World) (B g n cap : Nat) (A : List Int) : Prop where
  base : B ≤ g
  len : A.length = n
  fit : n ≤ cap
  max : cap ≤ 9223372036854775807
  small : Small A
  row : ∃ cur : Array Value, w.heap[g]? = some (.cells cur 55 (0, 0)) ∧ cur.size = cap ∧ ∀ t, t < n → cur[t]? = some (.int .i32 (el A t))
theorem Fresh.lt {w : World} {B g n cap : Nat} {A : List Int} (h : Fresh w B g n cap A) : g < w.heap.size := by
  obtain ⟨c, hb, _, _⟩ := h.row
  exact (Array.getElem?_eq_some_iff.1 hb).1
theorem Fresh.cell {w : World} {B g n cap : Nat} {A : List Int} (h : Fresh w B g n cap A) {t : Nat} (ht : t < n) : w.cell? ⟨g, t, none⟩ = some (.int .i32 (el A t)) := by
  obtain ⟨c, hb, _, hc⟩ := h.row
  simp [World.cell?, hb, hc t ht]
theorem Fresh.frozen {w : World} {B g n cap : Nat} {A : List Int} (h : Fresh w B g n cap A) (t : Nat) : w.frozen? ⟨g, t, none⟩ = false := by
  obtain ⟨c, hb, _, _⟩ := h.row
  simp [World.frozen?, hb]
theorem Fresh.rowAt {w : World} {B g n cap : Nat} {A : List Int} (h : Fresh w B g n cap A) : RowAt w (some ⟨g, 0, none⟩) n A :=
  ⟨h.len, by have := h.fit; have := h.max; omega, h.small, fun _ => ⟨g, 0, rfl, fun t ht => by rw [Nat.zero_add]; exact h.cell ht⟩⟩
theorem Fresh.of_block {w w' : World} {B g n cap : Nat} {A : List Int} (h : Fresh w B g n cap A) (e : w'.heap[g]? = w.heap[g]?) : Fresh w' B g n cap A := by
  obtain ⟨c, hb, hs, hc⟩ := h.row
  exact ⟨h.base, h.len, h.fit, h.max, h.small, c, e.trans hb, hs, hc⟩
theorem Fresh.below {w w' : World} {B g n cap : Nat} {A : List Int} (h : Fresh w B g n cap A) (hb : Below w.heap.size w w') : Fresh w' B g n cap A := h.of_block (hb.block g h.lt)
theorem Fresh.mono {w : World} {B B' g n cap : Nat} {A : List Int} (h : Fresh w B g n cap A) (hB : B' ≤ B) : Fresh w B' g n cap A := ⟨Nat.le_trans hB h.base, h.len, h.fit, h.max, h.small, h.row⟩
theorem Fresh.set {w : World} {B g n cap : Nat} {A : List Int} (h : Fresh w B g n cap A) (i : Nat) (x : Int) (hi : i < n) (hx : -2147483648 ≤ x ∧ x ≤ 2147483647) :
    Fresh (w.setCell ⟨g, i, none⟩ (.int .i32 x)) B g n cap (A.set i x) := by
  obtain ⟨c, hb, hs, hc⟩ := h.row
  refine ⟨h.base, by rw [List.length_set]; exact h.len, h.fit, h.max, h.small.set i hx, c.setIfInBounds i (.int .i32 x), ?_, by simpa using hs, fun t ht => ?_⟩
  · simp [World.setCell, Array.getElem?_modify, hb]
  · rw [Array.getElem?_setIfInBounds, el_set (by rw [h.len]; exact hi)]
    have hf := h.fit
    by_cases e : i = t
    · subst e; rw [if_pos rfl, if_pos (by omega), if_pos rfl]
    · rw [if_neg e, if_neg (fun h => e h.symm)]; exact hc t ht
/-- A place more of a row that is filled from its beginning. -/
theorem Fresh.step {w : World} {B g n cap : Nat} {f : Nat → Int} {k : Nat} (h : Fresh w B g n cap (tab n (fun j => if j < k then f j else 0))) (x : Int) (hk : k < n) (hx : x = f k) (hb : -2147483648 ≤ x ∧ x ≤ 2147483647) :
    Fresh (w.setCell ⟨g, k, none⟩ (.int .i32 x)) B g n cap (tab n (fun j => if j < k + 1 then f j else 0)) := by
  have := h.set k x hk hb
  rwa [tab_step hk hx] at this
theorem Fresh.drewN {w : World} {B g n cap : Nat} {A : List Int} (h : Fresh w B g n cap A) (m : Nat) : Fresh (w.drewN m) B g n cap A := h.below (below_drewN (Below.refl _ _) m)
theorem Fresh.drew {w : World} {B g n cap : Nat} {A : List Int} (h : Fresh w B g n cap A) : Fresh w.drew B g n cap A := h.of_block rfl
theorem Fresh.setOther {w : World} {B g n cap : Nat} {A : List Int} (h : Fresh w B g n cap A) {a : Addr} (ha : g ≠ a.block) (v : Value) : Fresh (w.setCell a v) B g n cap A := h.of_block (Below.heap_setCell _ _ _ _ ha)
/-- What make lays. -/
theorem fresh_made (w : World) (n : Nat) (hn : n ≤ 9223372036854775807) : Fresh (w.alloc (.cells (madeCells #[.int .i32 0] n) 55)) w.heap.size w.heap.size n n (tab n fun _ => 0) := by
  obtain ⟨c, hb, hs, hc⟩ := World.rowIs_made w (.int .i32 0) n 55
  exact ⟨Nat.le_refl _, tab_len _ _, Nat.le_refl _, hn, small_tab fun k _ => by omega, c, hb, hs, fun t ht => by rw [hc t ht, el_tab ht]⟩
/-- A row that an append has grown. -/
theorem fresh_of_owns {w : World} {B n cap : Nat} {ao : Option Addr} {A : List Int} (h : w.ownsRow B 55 1 (.slice ao n cap) n (A.map (Value.int .i32))) (hA : Small A) (hao : ao ≠ none) :
    ∃ g, ao = some ⟨g, 0, none⟩ ∧ Fresh w B g n cap A := by
  obtain ⟨h1, h2⟩ := h
  have hl : A.length = n := by simpa using h1
  rcases h2 with ⟨h3, _⟩ | ⟨g, c, cur, hv, hg, hh, hn, hm, hs, ht⟩
  · simp only [Value.slice.injEq] at h3; exact absurd h3.1 hao
  · simp only [Value.slice.injEq, true_and] at hv
    obtain ⟨rfl, rfl⟩ := hv
    refine ⟨g, rfl, hg, hl, hn, by unfold maxLen at hm; omega, hA, cur, hh, by simpa using hs, fun t htn => ?_⟩
    have e1 : cur[t]? = (cur.toList.take (n * 1))[t]? := by rw [Nat.mul_one, List.getElem?_take, if_pos htn, Array.getElem?_toList]
    rw [e1, ht]
    unfold el
    simp [List.getD_eq_getElem?_getD, List.getElem?_eq_getElem (show t < A.length by omega)]
theorem Fresh.owns {w : World} {B g n cap : Nat} {A : List Int} (h : Fresh w B g n cap A) : w.ownsRow B 55 1 (.slice (some ⟨g, 0, none⟩) n cap) n (A.map (Value.int .i32)) := by
  obtain ⟨c, hb, hs, hc⟩ := h.row
  have hl := h.len
  have hf := h.fit
  refine ⟨by simp [hl], Or.inr ⟨g, cap, c, rfl, h.base, hb, h.fit, by unfold maxLen; exact h.max, by simpa using hs, ?_⟩⟩
  rw [Nat.mul_one]
  apply List.ext_getElem?
  intro t
  by_cases ht : t < n
  · rw [List.getElem?_take, if_pos ht, Array.getElem?_toList, hc t ht]
    unfold el
    simp [List.getD_eq_getElem?_getD, List.getElem?_eq_getElem (show t < A.length by omega)]
  · rw [List.getElem?_take, if_neg ht, List.getElem?_eq_none (by simp; omega)]
theorem wrap_in {x : Int} (h : -9223372036854775808 ≤ x ∧ x ≤ 9223372036854775807) : IntKind.i64.wrap x = x := by
  rw [IntKind.wrap_i64]; omega
/-- A sum that ends at 63 bits. -/
def grow (s x : Int) : Int := if 9223372036854775807 < s + x then 9223372036854775807 else if s + x < -9223372036854775807 then -9223372036854775807 else s + x
theorem grow_bd (s x : Int) : -9223372036854775807 ≤ grow s x ∧ grow s x ≤ 9223372036854775807 := by unfold grow; omega
/-- The sum of the first k products. -/
def dsum (A B : List Int) : Nat → Int
  | 0 => 0
  | k + 1 => grow (dsum A B k) (el A k * el B k)
theorem dsum_zero (A B : List Int) : dsum A B 0 = 0 := rfl
theorem dsum_succ (A B : List Int) (k : Nat) : dsum A B (k + 1) = grow (dsum A B k) (el A k * el B k) := rfl
theorem dsum_bd (A B : List Int) (k : Nat) : -9223372036854775807 ≤ dsum A B k ∧ dsum A B k ≤ 9223372036854775807 := by
  cases k with
  | zero => rw [dsum_zero]; omega
  | succ k => exact grow_bd _ _
def dotN (A B : List Int) (n : Nat) : Int := sat (rnd (dsum A B n) 65536)
theorem dotN_bd (A B : List Int) (n : Nat) : -2147483647 ≤ dotN A B n ∧ dotN A B n ≤ 2147483647 := sat_bd _
theorem dsum_comm (A B : List Int) (k : Nat) : dsum A B k = dsum B A k := by
  induction k with
  | zero => rfl
  | succ k ih => rw [dsum_succ, dsum_succ, ih, Int.mul_comm]
theorem dotN_comm (A B : List Int) (n : Nat) : dotN A B n = dotN B A n := by unfold dotN; rw [dsum_comm]
/-- The place of the first greatest of the first k numbers. -/
def amax (A : List Int) : Nat → Int
  | 0 => -1
  | k + 1 => if amax A k < 0 ∨ el A (amax A k).toNat < el A k then k else amax A k
theorem amax_bd (A : List Int) (k : Nat) : -1 ≤ amax A k ∧ amax A k < k := by
  induction k with
  | zero => show -1 ≤ (-1 : Int) ∧ (-1 : Int) < (0 : Nat); omega
  | succ k ih => unfold amax; split <;> omega
/-- The error's number of two rows that are taken side by side. -/
def fitN (n m : Nat) : Int := if 4096 < n ∨ 4096 < m then 2 else if n ≠ m then 6 else 0
end Go.Proofs.Ytklgaokhillinaa
