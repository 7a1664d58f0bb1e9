/- A pool's pages and its row of idle ones, as they lie in memory. -/
import Derived.Test.YtfkmmjfahdpfcaaRows
import Derived.Test.YtfkmmjfahdpfcaaKin
import Derived.Deep.OwnRows
import Derived.Deep.LoopGhost
import Derived.Deep.RegionWith
import Derived.Deep.QuietTactic
import Derived.Laws.Tables
import Derived.Laws.AppendOwnNone
import Derived.Lib.SliceRun
import Derived.Lib.Hide
namespace Go.Proofs.Ytfkmmjfahdpfcaa
open Go.ChangeShapes Go.WideShapes Go.ChangeAt Go.RowKit
/-- Block g has the cells cs. -/
def Blk (w : World) (g : Nat) (T : TypeId) (cs : Array Value) : Prop := w.heap[g]? = some (.cells cs T (0, 0))
theorem blk_new (w : World) (T : TypeId) (cs : Array Value) : Blk (w.alloc (.cells cs T)) w.heap.size T cs := heap_alloc_new _ _
theorem Blk.lt {w : World} {g : Nat} {T : TypeId} {cs : Array Value} (h : Blk w g T cs) : g < w.heap.size := (Array.getElem?_eq_some_iff.1 h).1
theorem Blk.of_block {w w' : World} {g : Nat} {T : TypeId} {cs : Array Value} (h : Blk w g T cs) (e : w'.heap[g]? = w.heap[g]?) : Blk w' g T cs := Eq.trans e h
theorem Blk.below {w w' : World} {g : Nat} {T : TypeId} {cs : Array Value} (h : Blk w g T cs) {B : Nat} (hb : Below B w w') (hg : g < B) : Blk w' g T cs := h.of_block (hb.block g hg)
theorem Blk.cell {w : World} {g : Nat} {T : TypeId} {cs : Array Value} (h : Blk w g T cs) (i : Nat) {v : Value} (hv : cs[i]? = some v) : w.cell? ⟨g, i, none⟩ = some v := by
  unfold Blk at h; unfold World.cell?; simp only [h]; exact hv
theorem Blk.frozen {w : World} {g : Nat} {T : TypeId} {cs : Array Value} (h : Blk w g T cs) (k : Nat) : w.frozen? ⟨g, k, none⟩ = false := by unfold Blk at h; unfold World.frozen?; simp only [h]; rfl
theorem Blk.set {w : World} {g : Nat} {T : TypeId} {cs : Array Value} (h : Blk w g T cs) (i : Nat) (v : Value) : Blk (w.setCell ⟨g, i, none⟩ v) g T (cs.setIfInBounds i v) := by
  unfold Blk at *
  simp [World.setCell, Array.getElem?_modify, h]
theorem Blk.other {w : World} {g : Nat} {T : TypeId} {cs : Array Value} (h : Blk w g T cs) {a : Addr} (ha : g ≠ a.block) (v : Value) : Blk (w.setCell a v) g T cs := h.of_block (Below.heap_setCell _ _ _ _ ha)
/-- A page: how many need it, is it sealed, its key. -/
structure Pg where
  r : Nat
  s : Bool
  k : Int
instance : Inhabited Pg := ⟨⟨0, false, 0⟩⟩
@[ext] theorem Pg.ext' {p q : Pg} (h1 : p.r = q.r) (h2 : p.s = q.s) (h3 : p.k = q.k) : p = q := by cases p; cases q; simp_all
/-- Page i; beyond the last one: a free one. -/
def pg (L : List Pg) (i : Nat) : Pg := L.getD i default
theorem pg_set {L : List Pg} {i : Nat} (hi : i < L.length) (p : Pg) (j : Nat) : pg (L.set i p) j = if j = i then p else pg L j := by
  unfold pg
  simp only [List.getD_eq_getElem?_getD, List.getElem?_set]
  by_cases h : i = j
  · subst h; simp [hi]
  · rw [if_neg h, if_neg (fun e => h e.symm)]
theorem pg_get {L : List Pg} {i : Nat} (hi : i < L.length) : L[i] = pg L i := by
  unfold pg; simp [List.getD_eq_getElem?_getD, List.getElem?_eq_getElem hi]
/-- Block b holds the pages L. -/
structure Pgs (w : World) (b : Nat) (L : List Pg) : Prop where
  ex : ∃ cs, Blk w b 64 cs ∧ cs.size = L.length * 3 ∧ ∀ i, i < L.length → cs[i * 3]? = some (.int .i64 ((pg L i).r : Int)) ∧ cs[i * 3 + 1]? = some (.bool (pg L i).s) ∧ cs[i * 3 + 2]? = some (.int .i64 (pg L i).k)
theorem Pgs.of_block {w w' : World} {b : Nat} {L : List Pg} (h : Pgs w b L) (e : w'.heap[b]? = w.heap[b]?) : Pgs w' b L := by
  obtain ⟨cs, h1, h2⟩ := h.ex
  exact ⟨cs, h1.of_block e, h2⟩
theorem Pgs.lt {w : World} {b : Nat} {L : List Pg} (h : Pgs w b L) : b < w.heap.size := by
  obtain ⟨cs, h1, _⟩ := h.ex
  exact h1.lt
theorem Pgs.below {w w' : World} {b : Nat} {L : List Pg} (h : Pgs w b L) {B : Nat} (hb : Below B w w') (hg : b < B) : Pgs w' b L := h.of_block (hb.block b hg)
theorem Pgs.other {w : World} {b : Nat} {L : List Pg} (h : Pgs w b L) {a : Addr} (ha : b ≠ a.block) (v : Value) : Pgs (w.setCell a v) b L := h.of_block (Below.heap_setCell _ _ _ _ ha)
theorem Pgs.frozen {w : World} {b : Nat} {L : List Pg} (h : Pgs w b L) (k : Nat) : w.frozen? ⟨b, k, none⟩ = false := by
  obtain ⟨cs, h1, _⟩ := h.ex
  exact h1.frozen k
theorem Pgs.c0 {w : World} {b : Nat} {L : List Pg} (h : Pgs w b L) {i : Nat} (hi : i < L.length) : w.cell? ⟨b, i * 3, none⟩ = some (.int .i64 ((pg L i).r : Int)) := by
  obtain ⟨cs, h1, _, h3⟩ := h.ex
  exact h1.cell _ (h3 i hi).1
theorem Pgs.c1 {w : World} {b : Nat} {L : List Pg} (h : Pgs w b L) {i : Nat} (hi : i < L.length) : w.cell? ⟨b, i * 3 + 1, none⟩ = some (.bool (pg L i).s) := by
  obtain ⟨cs, h1, _, h3⟩ := h.ex
  exact h1.cell _ (h3 i hi).2.1
theorem Pgs.c2 {w : World} {b : Nat} {L : List Pg} (h : Pgs w b L) {i : Nat} (hi : i < L.length) : w.cell? ⟨b, i * 3 + 2, none⟩ = some (.int .i64 (pg L i).k) := by
  obtain ⟨cs, h1, _, h3⟩ := h.ex
  exact h1.cell _ (h3 i hi).2.2
theorem Pgs.set0 {w : World} {b : Nat} {L : List Pg} (h : Pgs w b L) {i : Nat} (hi : i < L.length) (r : Nat) : Pgs (w.setCell ⟨b, i * 3, none⟩ (.int .i64 (r : Int))) b (L.set i { pg L i with r := r }) := by
  obtain ⟨cs, h1, h2, h3⟩ := h.ex
  refine ⟨_, h1.set _ _, by simp [h2], fun j hj => ?_⟩
  rw [List.length_set] at hj
  obtain ⟨u0, u1, u2⟩ := h3 j hj
  rw [pg_set hi]
  by_cases e : j = i
  · subst e
    simp only [if_true, Array.getElem?_setIfInBounds]
    exact ⟨by rw [if_pos (by omega)], by rw [if_neg (by omega)]; exact u1, by rw [if_neg (by omega)]; exact u2⟩
  · simp only [if_neg e, Array.getElem?_setIfInBounds]
    exact ⟨by rw [if_neg (by omega)]; exact u0, by rw [if_neg (by omega)]; exact u1, by rw [if_neg (by omega)]; exact u2⟩
theorem Pgs.set1 {w : World} {b : Nat} {L : List Pg} (h : Pgs w b L) {i : Nat} (hi : i < L.length) (s : Bool) : Pgs (w.setCell ⟨b, i * 3 + 1, none⟩ (.bool s)) b (L.set i { pg L i with s := s }) := by
  obtain ⟨cs, h1, h2, h3⟩ := h.ex
  refine ⟨_, h1.set _ _, by simp [h2], fun j hj => ?_⟩
  rw [List.length_set] at hj
  obtain ⟨u0, u1, u2⟩ := h3 j hj
  rw [pg_set hi]
  by_cases e : j = i
  · subst e
    simp only [if_true, Array.getElem?_setIfInBounds]
    exact ⟨by rw [if_neg (by omega)]; exact u0, by rw [if_pos (by omega)], by rw [if_neg (by omega)]; exact u2⟩
  · simp only [if_neg e, Array.getElem?_setIfInBounds]
    exact ⟨by rw [if_neg (by omega)]; exact u0, by rw [if_neg (by omega)]; exact u1, by rw [if_neg (by omega)]; exact u2⟩
theorem Pgs.set2 {w : World} {b : Nat} {L : List Pg} (h : Pgs w b L) {i : Nat} (hi : i < L.length) (k : Int) : Pgs (w.setCell ⟨b, i * 3 + 2, none⟩ (.int .i64 k)) b (L.set i { pg L i with k := k }) := by
  obtain ⟨cs, h1, h2, h3⟩ := h.ex
  refine ⟨_, h1.set _ _, by simp [h2], fun j hj => ?_⟩
  rw [List.length_set] at hj
  obtain ⟨u0, u1, u2⟩ := h3 j hj
  rw [pg_set hi]
  by_cases e : j = i
  · subst e
    simp only [if_true, Array.getElem?_setIfInBounds]
    exact ⟨by rw [if_neg (by omega)]; exact u0, by rw [if_neg (by omega)]; exact u1, by rw [if_pos (by omega)]⟩
  · simp only [if_neg e, Array.getElem?_setIfInBounds]
    exact ⟨by rw [if_neg (by omega)]; exact u0, by rw [if_neg (by omega)]; exact u1, by rw [if_neg (by omega)]; exact u2⟩
theorem Pgs.put {w : World} {b : Nat} {L : List Pg} (h : Pgs w b L) {i : Nat} (hi : i < L.length) (p : Pg) :
    Pgs (((w.setCell ⟨b, i * 3, none⟩ (.int .i64 (p.r : Int))).setCell ⟨b, i * 3 + 1, none⟩ (.bool p.s)).setCell ⟨b, i * 3 + 2, none⟩ (.int .i64 p.k)) b (L.set i p) := by
  have h1 := h.set0 hi p.r
  have h2 := h1.set1 (i := i) (by simpa using hi) p.s
  have h3 := h2.set2 (i := i) (by simpa using hi) p.k
  have e : (((L.set i { pg L i with r := p.r }).set i { pg (L.set i { pg L i with r := p.r }) i with s := p.s }).set i { pg ((L.set i { pg L i with r := p.r }).set i { pg (L.set i { pg L i with r := p.r }) i with s := p.s }) i with k := p.k }) = L.set i p := by
    rw [List.set_set, List.set_set]
    congr 1
    rw [pg_set (by simpa using hi), if_pos rfl, pg_set hi, if_pos rfl]
  rw [e] at h3
  exact h3
/-- A row of pages' numbers of the program's own, in a block from B on. -/
def Idl (w : World) (B : Nat) (v : Value) (A : List Nat) : Prop := w.ownsRow B 3 1 v A.length (A.map fun i : Nat => Value.int .i64 (i : Int))
theorem Idl.nil (w : World) (B : Nat) : Idl w B (.slice none 0 0) [] := World.ownsRow_nil _ _ _ _
theorem Idl.below {w w' : World} {B : Nat} {v : Value} {A : List Nat} (h : Idl w B v A) (hb : Below w.heap.size w w') : Idl w' B v A := by
  refine ⟨h.1, ?_⟩
  rcases h.2 with h2 | ⟨g, cap, cur, h3, h4, h5, h6⟩
  · exact Or.inl h2
  · exact Or.inr ⟨g, cap, cur, h3, h4, (hb.block g (Array.getElem?_eq_some_iff.1 h5).1).trans h5, h6⟩
theorem Idl.other {w : World} {B : Nat} {v : Value} {A : List Nat} (h : Idl w B v A) {a : Addr} (ha : a.block < B) (u : Value) : Idl (w.setCell a u) B v A := by
  refine ⟨h.1, ?_⟩
  rcases h.2 with h2 | ⟨g, cap, cur, h3, h4, h5, h6⟩
  · exact Or.inl h2
  · exact Or.inr ⟨g, cap, cur, h3, h4, (Below.heap_setCell _ _ _ _ (by omega)).trans h5, h6⟩
theorem Idl.cases {w : World} {B : Nat} {v : Value} {A : List Nat} (h : Idl w B v A) : (v = .slice none 0 0 ∧ A = []) ∨ ∃ g cap cs, v = .slice (some ⟨g, 0, none⟩) A.length cap ∧ B ≤ g ∧ Blk w g 3 cs ∧ A.length ≤ cap ∧ cap ≤ maxLen ∧ cs.size = cap ∧ ∀ t, t < A.length → cs[t]? = some (.int .i64 ((A.getD t 0 : Nat) : Int)) := by
  rcases h.2 with ⟨h2, h3⟩ | ⟨g, cap, cur, h3, h4, h5, h6, h7, h8, h9⟩
  · exact Or.inl ⟨h2, List.length_eq_zero_iff.1 h3⟩
  · refine Or.inr ⟨g, cap, cur, h3, h4, h5, h6, h7, by omega, fun t ht => ?_⟩
    have e : cur[t]? = (cur.toList.take (A.length * 1))[t]? := by rw [List.getElem?_take, if_pos (by omega)]; simp
    rw [e, h9]
    simp [List.getD_eq_getElem?_getD, List.getElem?_eq_getElem ht]
theorem Idl.mk' {w : World} {B : Nat} {g cap : Nat} {A : List Nat} {cs : Array Value} (hB : B ≤ g) (h : Blk w g 3 cs) (hl : A.length ≤ cap) (hm : cap ≤ maxLen) (hs : cs.size = cap) (hc : ∀ t, t < A.length → cs[t]? = some (.int .i64 ((A.getD t 0 : Nat) : Int))) : Idl w B (.slice (some ⟨g, 0, none⟩) A.length cap) A := by
  refine ⟨by simp, Or.inr ⟨g, cap, cs, rfl, hB, h, hl, hm, by omega, ?_⟩⟩
  apply List.ext_getElem?
  intro t
  rw [List.getElem?_take]
  by_cases ht : t < A.length
  · rw [if_pos (by omega)]
    have := hc t ht
    simp [List.getD_eq_getElem?_getD, List.getElem?_eq_getElem ht] at *
    exact this
  · rw [if_neg (by omega), List.getElem?_eq_none (by simp; omega)]
/-- In w lies a pool from block b on: its pages L, the row I of idle ones. -/
structure PoolAt (w : World) (b : Nat) (L : List Pg) (I : List Nat) : Prop where
  pages : Pgs w b L
  box : ∃ vi, Blk w (b + 1) 52 #[.slice (some ⟨b, 0, none⟩) L.length L.length, vi] ∧ Idl w (b + 2) vi I
theorem PoolAt.size {w : World} {b : Nat} {L : List Pg} {I : List Nat} (h : PoolAt w b L I) : b + 2 ≤ w.heap.size := by
  obtain ⟨vi, h1, _⟩ := h.box
  have := h1.lt
  omega
theorem PoolAt.below {w w' : World} {b : Nat} {L : List Pg} {I : List Nat} (h : PoolAt w b L I) (hb : Below w.heap.size w w') : PoolAt w' b L I := by
  obtain ⟨vi, h1, h2⟩ := h.box
  exact ⟨h.pages.below hb h.pages.lt, vi, h1.below hb h1.lt, h2.below hb⟩
end Go.Proofs.Ytfkmmjfahdpfcaa
