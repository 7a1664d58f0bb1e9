/- The document's pool: its pages and its row of idle ones, as they lie in memory; pages that are free or there. -/
import Derived.Test.YtfkmmjfahdpfcaaPWhole
import Derived.Test.YtfkmmjfahdpfcaaPRowM
namespace Go.Proofs.Ytfkmmjfahdpfcaa
open Go.ChangeShapes Go.WideShapes Go.ChangeAt Go.RowKit
/-- Block b holds the pages L. -/
structure Qgs (w : World) (b : Nat) (L : List Pg) : Prop where
  ex : ∃ cs, Blk w b 61 cs ∧ L.length * 3 ≤ cs.size ∧ ∀ i, i < L.length → cs[i * 3]? = some (.int .i64 ((pg L i).r : Int)) ∧ cs[i * 3 + 1]? = some (.bool (pg L i).s) ∧ cs[i * 3 + 2]? = some (.int .i64 (pg L i).k)
theorem Qgs.of_block {w w' : World} {b : Nat} {L : List Pg} (h : Qgs w b L) (e : w'.heap[b]? = w.heap[b]?) : Qgs w' b L := by
  obtain ⟨cs, h1, h2⟩ := h.ex
  exact ⟨cs, h1.of_block e, h2⟩
theorem Qgs.lt {w : World} {b : Nat} {L : List Pg} (h : Qgs w b L) : b < w.heap.size := by
  obtain ⟨cs, h1, _⟩ := h.ex
  exact h1.lt
theorem Qgs.below {w w' : World} {b : Nat} {L : List Pg} (h : Qgs w b L) {B : Nat} (hb : Below B w w') (hg : b < B) : Qgs w' b L := h.of_block (hb.block b hg)
theorem Qgs.other {w : World} {b : Nat} {L : List Pg} (h : Qgs w b L) {a : Addr} (ha : b ≠ a.block) (v : Value) : Qgs (w.setCell a v) b L := h.of_block (Below.heap_setCell _ _ _ _ ha)
theorem Qgs.frozen {w : World} {b : Nat} {L : List Pg} (h : Qgs w b L) (k : Nat) : w.frozen? ⟨b, k, none⟩ = false := by
  obtain ⟨cs, h1, _⟩ := h.ex
  exact h1.frozen k
theorem Qgs.c0 {w : World} {b : Nat} {L : List Pg} (h : Qgs w b L) {i : Nat} (hi : i < L.length) : w.cell? ⟨b, i * 3, none⟩ = some (.int .i64 ((pg L i).r : Int)) := by
  obtain ⟨cs, h1, _, h3⟩ := h.ex
  exact h1.cell _ (h3 i hi).1
theorem Qgs.c1 {w : World} {b : Nat} {L : List Pg} (h : Qgs w b L) {i : Nat} (hi : i < L.length) : w.cell? ⟨b, i * 3 + 1, none⟩ = some (.bool (pg L i).s) := by
  obtain ⟨cs, h1, _, h3⟩ := h.ex
  exact h1.cell _ (h3 i hi).2.1
theorem Qgs.c2 {w : World} {b : Nat} {L : List Pg} (h : Qgs w b L) {i : Nat} (hi : i < L.length) : w.cell? ⟨b, i * 3 + 2, none⟩ = some (.int .i64 (pg L i).k) := by
  obtain ⟨cs, h1, _, h3⟩ := h.ex
  exact h1.cell _ (h3 i hi).2.2
theorem Qgs.set0 {w : World} {b : Nat} {L : List Pg} (h : Qgs w b L) {i : Nat} (hi : i < L.length) (r : Nat) : Qgs (w.setCell ⟨b, i * 3, none⟩ (.int .i64 (r : Int))) b (L.set i { pg L i with r := r }) := by
  obtain ⟨cs, h1, h2, h3⟩ := h.ex
  refine ⟨_, h1.set _ _, by simpa using h2, fun j hj => ?_⟩
  rw [List.length_set] at hj
  obtain ⟨u0, u1, u2⟩ := h3 j hj
  rw [pg_set hi]
  by_cases e : j = i
  · subst e
    simp only [if_true, Array.getElem?_setIfInBounds]
    exact ⟨by rw [if_pos (by omega)], by rw [if_neg (by omega)]; exact u1, by rw [if_neg (by omega)]; exact u2⟩
  · simp only [if_neg e, Array.getElem?_setIfInBounds]
    exact ⟨by rw [if_neg (by omega)]; exact u0, by rw [if_neg (by omega)]; exact u1, by rw [if_neg (by omega)]; exact u2⟩
theorem Qgs.set1 {w : World} {b : Nat} {L : List Pg} (h : Qgs w b L) {i : Nat} (hi : i < L.length) (s : Bool) : Qgs (w.setCell ⟨b, i * 3 + 1, none⟩ (.bool s)) b (L.set i { pg L i with s := s }) := by
  obtain ⟨cs, h1, h2, h3⟩ := h.ex
  refine ⟨_, h1.set _ _, by simpa using h2, fun j hj => ?_⟩
  rw [List.length_set] at hj
  obtain ⟨u0, u1, u2⟩ := h3 j hj
  rw [pg_set hi]
  by_cases e : j = i
  · subst e
    simp only [if_true, Array.getElem?_setIfInBounds]
    exact ⟨by rw [if_neg (by omega)]; exact u0, by rw [if_pos (by omega)], by rw [if_neg (by omega)]; exact u2⟩
  · simp only [if_neg e, Array.getElem?_setIfInBounds]
    exact ⟨by rw [if_neg (by omega)]; exact u0, by rw [if_neg (by omega)]; exact u1, by rw [if_neg (by omega)]; exact u2⟩
theorem Qgs.set2 {w : World} {b : Nat} {L : List Pg} (h : Qgs w b L) {i : Nat} (hi : i < L.length) (k : Int) : Qgs (w.setCell ⟨b, i * 3 + 2, none⟩ (.int .i64 k)) b (L.set i { pg L i with k := k }) := by
  obtain ⟨cs, h1, h2, h3⟩ := h.ex
  refine ⟨_, h1.set _ _, by simpa using h2, fun j hj => ?_⟩
  rw [List.length_set] at hj
  obtain ⟨u0, u1, u2⟩ := h3 j hj
  rw [pg_set hi]
  by_cases e : j = i
  · subst e
    simp only [if_true, Array.getElem?_setIfInBounds]
    exact ⟨by rw [if_neg (by omega)]; exact u0, by rw [if_neg (by omega)]; exact u1, by rw [if_pos (by omega)]⟩
  · simp only [if_neg e, Array.getElem?_setIfInBounds]
    exact ⟨by rw [if_neg (by omega)]; exact u0, by rw [if_neg (by omega)]; exact u1, by rw [if_neg (by omega)]; exact u2⟩
theorem Qgs.put {w : World} {b : Nat} {L : List Pg} (h : Qgs w b L) {i : Nat} (hi : i < L.length) (p : Pg) :
    Qgs (((w.setCell ⟨b, i * 3, none⟩ (.int .i64 (p.r : Int))).setCell ⟨b, i * 3 + 1, none⟩ (.bool p.s)).setCell ⟨b, i * 3 + 2, none⟩ (.int .i64 p.k)) b (L.set i p) := by
  have h1 := h.set0 hi p.r
  have h2 := h1.set1 (i := i) (by simpa using hi) p.s
  have h3 := h2.set2 (i := i) (by simpa using hi) p.k
  have e : (((L.set i { pg L i with r := p.r }).set i { pg (L.set i { pg L i with r := p.r }) i with s := p.s }).set i { pg ((L.set i { pg L i with r := p.r }).set i { pg (L.set i { pg L i with r := p.r }) i with s := p.s }) i with k := p.k }) = L.set i p := by
    rw [List.set_set, List.set_set]
    congr 1
    rw [pg_set (by simpa using hi), if_pos rfl, pg_set hi, if_pos rfl]
  rw [e] at h3
  exact h3
/-- The pages' cells, one behind the other. -/
def pcells (L : List Pg) : List Value := L.flatMap fun p => [.int .i64 (p.r : Int), .bool p.s, .int .i64 p.k]
theorem pcells_len (L : List Pg) : (pcells L).length = L.length * 3 := by
  unfold pcells
  induction L with
  | nil => rfl
  | cons x L ih => rw [List.flatMap_cons, List.length_append, ih, List.length_cons]; simp; omega
theorem pcells_get : ∀ (L : List Pg) (i : Nat), i < L.length → (pcells L)[i * 3]? = some (.int .i64 ((pg L i).r : Int)) ∧ (pcells L)[i * 3 + 1]? = some (.bool (pg L i).s) ∧ (pcells L)[i * 3 + 2]? = some (.int .i64 (pg L i).k)
  | [], _, h => by simp at h
  | x :: L, 0, _ => ⟨rfl, rfl, rfl⟩
  | x :: L, i + 1, h => by
    have ih := pcells_get L i (by simpa using h)
    have e : pg (x :: L) (i + 1) = pg L i := rfl
    have e1 : pcells (x :: L) = .int .i64 (x.r : Int) :: .bool x.s :: .int .i64 x.k :: pcells L := rfl
    rw [e, e1]
    have e2 : (i + 1) * 3 = i * 3 + 1 + 1 + 1 := by omega
    rw [e2]
    exact ih
theorem pcells_one (L : List Pg) : ∀ u ∈ pcells L, u.oneCell' = true := by
  intro u hu
  unfold pcells at hu
  rw [List.mem_flatMap] at hu
  obtain ⟨p, _, hp⟩ := hu
  simp only [List.mem_cons, List.not_mem_nil, or_false] at hp
  rcases hp with rfl | rfl | rfl <;> rfl
theorem pcells_cells {w : World} {g : Nat} {L : List Pg} (h : Qgs w g L) : ∀ j u, (pcells L)[j]? = some u → w.cell? ((⟨g, 0, none⟩ : Addr).add j) = some u := by
  intro j u hj
  have hl : j < L.length * 3 := by have := (List.getElem?_eq_some_iff.1 hj).1; rwa [pcells_len] at this
  obtain ⟨a0, a1, a2⟩ := pcells_get L (j / 3) (by omega)
  have b0 := h.c0 (i := j / 3) (by omega)
  have b1 := h.c1 (i := j / 3) (by omega)
  have b2 := h.c2 (i := j / 3) (by omega)
  rw [add_plain', Nat.zero_add]
  have hm : j % 3 = 0 ∨ j % 3 = 1 ∨ j % 3 = 2 := by omega
  rcases hm with hm | hm | hm
  · have e : j / 3 * 3 = j := by omega
    rw [e] at a0 b0
    rw [← hj, a0]; exact b0
  · have e : j / 3 * 3 + 1 = j := by omega
    rw [e] at a1 b1
    rw [← hj, a1]; exact b1
  · have e : j / 3 * 3 + 2 = j := by omega
    rw [e] at a2 b2
    rw [← hj, a2]; exact b2
theorem qgs_own {w : World} {B : Nat} {v : Value} {n : Nat} {L : List Pg} (h : w.ownsRow B 61 3 v n (pcells L)) (hn : 1 ≤ n) : ∃ g cap, v = .slice (some ⟨g, 0, none⟩) n cap ∧ B ≤ g ∧ n ≤ cap ∧ Qgs w g L := by
  have hl := h.1
  rw [pcells_len] at hl
  rcases h.2 with ⟨_, h0⟩ | ⟨g, cap, cur, hv, hB, hg, h4, h5, h6, h7⟩
  · omega
  · refine ⟨g, cap, hv, hB, h4, cur, hg, by rw [h6]; omega, fun i hi => ?_⟩
    have e : ∀ t, t < n * 3 → cur[t]? = (pcells L)[t]? := fun t ht => by
      rw [← h7, List.getElem?_take, if_pos ht]; simp
    obtain ⟨a0, a1, a2⟩ := pcells_get L i hi
    exact ⟨by rw [e _ (by omega)]; exact a0, by rw [e _ (by omega)]; exact a1, by rw [e _ (by omega)]; exact a2⟩
/-- The document's pool as a value. -/
structure RfV where
  g : Nat
  cP : Nat
  aI : Option Addr
  cI : Nat
def RfV.val (p : RfV) (x : St) : Value := .agg #[.slice (some ⟨p.g, 0, none⟩) x.L.length p.cP, .slice p.aI x.I.length p.cI]
/-- In w the value p reads as the state x; its blocks are such. -/
structure RfAt (O : Nat → Prop) (w : World) (p : RfV) (x : St) : Prop where
  pages : Qgs w p.g x.L
  og : O p.g
  idle : 0 < x.I.length → ∃ g, p.aI = some ⟨g, 0, none⟩ ∧ O g ∧ ∀ t, t < x.I.length → w.cell? ⟨g, t, none⟩ = some (.int .i64 ((x.I.getD t 0 : Nat) : Int))
  nil : p.aI = none → p.cI = 0
  few : x.L.length ≤ 64
  few2 : x.I.length ≤ 64
  some' : 1 ≤ x.L.length
theorem RfAt.of_block {O : Nat → Prop} {w w' : World} {p : RfV} {x : St} (h : RfAt O w p x) (hb : ∀ g, O g → g < w.heap.size → w'.heap[g]? = w.heap[g]?) : RfAt O w' p x := by
  refine ⟨h.pages.of_block (hb _ h.og h.pages.lt), h.og, fun hn => ?_, h.nil, h.few, h.few2, h.some'⟩
  obtain ⟨g, e, ho, hc⟩ := h.idle hn
  refine ⟨g, e, ho, fun t ht => ?_⟩
  have h1 := hc t ht
  have hlt : g < w.heap.size := by simpa using World.block_lt_of_cell? w _ h1
  rw [World.cell?_of_block (w := w) (w' := w') (a := ⟨g, t, none⟩) (hb g ho hlt)]
  exact h1
theorem RfAt.below {O : Nat → Prop} {w w' : World} {p : RfV} {x : St} (h : RfAt O w p x) (hb : Below w.heap.size w w') : RfAt O w' p x := h.of_block fun g _ hg => hb.block g hg
theorem RfAt.mono {O O' : Nat → Prop} {w : World} {p : RfV} {x : St} (h : RfAt O w p x) (ho : ∀ g, g < w.heap.size → O g → O' g) : RfAt O' w p x := by
  refine ⟨h.pages, ho _ h.pages.lt h.og, fun hn => ?_, h.nil, h.few, h.few2, h.some'⟩
  obtain ⟨g, e, h1, hc⟩ := h.idle hn
  have hlt : g < w.heap.size := by simpa using World.block_lt_of_cell? w _ (hc 0 hn)
  exact ⟨g, e, ho g hlt h1, hc⟩
/-- Is there a page of that number? -/
def inN (L : List Pg) (i : Int) : Bool := decide (0 ≤ i ∧ i < L.length)
theorem free_ref (O : Nat → Prop) (p : RfV) (x : St) (i : Int) (w : World) (h : RfAt O w p x) : Calls Try.prog 34 #[p.val x, .int .i64 i] w fun e w' => e = .returned (.bool (inN x.L i && (atN x.L i).free)) ∧ Below w.heap.size w w' := by
  have B0 : Below w.heap.size w (w.alloc (.cells #[.slice (some ⟨p.g, 0, none⟩) x.L.length p.cP, .slice p.aI x.I.length p.cI] 31)) := (Below.refl _ _).alloc (Nat.le_refl _) _
  have hq := h.pages.of_block (B0.block _ h.pages.lt)
  have hf := h.few
  have hlt := h.pages.lt
  unfold RfV.val
  clear h
  by_cases h0 : i < 0
  · have e : inN x.L i = false := by unfold inN; rw [decide_eq_false (by omega)]
    rw [e]
    clear hq e
    go_enter Try.func34, Try.ntmps34
    go_wp2
    go_ret
    exact ⟨rfl, B0⟩
  obtain ⟨j, rfl⟩ : ∃ j : Nat, i = j := ⟨i.toNat, by omega⟩
  by_cases h1 : j < x.L.length
  · have e : inN x.L j = true := by unfold inN; rw [decide_eq_true (by omega)]
    rw [e, atN_nat]
    have c0 := hq.c0 h1
    have c1 := hq.c1 h1
    have hne : p.g ≠ w.heap.size := by omega
    clear hq e
    generalize pg x.L j = z at *
    obtain ⟨r, s, k⟩ := z
    simp only at c0 c1
    unfold Pg.free
    by_cases hr : r = 0 <;> cases s <;>
    · go_enter Try.func34, Try.ntmps34
      go_wp2
      go_ret
      exact ⟨by simp, B0⟩
  · have e : inN x.L j = false := by unfold inN; rw [decide_eq_false (by omega)]
    rw [e]
    have h1' : ¬ (j : Int) < (x.L.length : Int) := by omega
    clear hq e
    go_enter Try.func34, Try.ntmps34
    go_wp2
    go_ret
    exact ⟨rfl, B0⟩
end Go.Proofs.Ytfkmmjfahdpfcaa
