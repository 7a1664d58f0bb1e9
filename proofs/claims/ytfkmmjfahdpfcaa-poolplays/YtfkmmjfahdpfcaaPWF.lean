/- What a pool's pages and its row of idle ones keep to, behind any calls. -/
import Derived.Test.YtfkmmjfahdpfcaaPAwake
namespace Go.Proofs.Ytfkmmjfahdpfcaa
open Go.ChangeShapes Go.WideShapes Go.ChangeAt Go.RowKit
/-- The row of idle pages has each of them once; no page is needed too often. -/
structure WF (L : List Pg) (I : List Nat) : Prop where
  nodup : I.Nodup
  mem : ∀ i, i ∈ I ↔ i < L.length ∧ (pg L i).idle = true
  refs : ∀ i, (pg L i).r ≤ 1000
theorem less_mem {I : List Nat} {i j : Nat} : i ∈ less I j ↔ i ∈ I ∧ i ≠ j := by unfold less; simp
theorem less_nodup {I : List Nat} (h : I.Nodup) (j : Nat) : (less I j).Nodup := h.filter _
theorem WF.keep {L : List Pg} {I : List Nat} (h : WF L I) {j : Nat} (hj : j < L.length) {p : Pg} (hp : p.idle = (pg L j).idle) (hr : p.r ≤ 1000) : WF (L.set j p) I := by
  refine ⟨h.nodup, fun i => ?_, fun i => ?_⟩
  · rw [List.length_set, pg_set hj, h.mem]
    by_cases e : i = j
    · subst e; rw [if_pos rfl, hp]
    · rw [if_neg e]
  · rw [pg_set hj]
    by_cases e : i = j
    · rw [if_pos e]; exact hr
    · rw [if_neg e]; exact h.refs i
theorem WF.less {L : List Pg} {I : List Nat} (h : WF L I) {j : Nat} (hj : j < L.length) {p : Pg} (hp : p.idle = false) (hr : p.r ≤ 1000) : WF (L.set j p) (less I j) := by
  refine ⟨less_nodup h.nodup j, fun i => ?_, fun i => ?_⟩
  · rw [List.length_set, pg_set hj, less_mem, h.mem]
    by_cases e : i = j
    · subst e; rw [if_pos rfl, hp]; simp
    · rw [if_neg e]; simp [e]
  · rw [pg_set hj]
    by_cases e : i = j
    · rw [if_pos e]; exact hr
    · rw [if_neg e]; exact h.refs i
theorem WF.add {L : List Pg} {I : List Nat} (h : WF L I) {j : Nat} (hj : j < L.length) {p : Pg} (h0 : (pg L j).idle = false) (hp : p.idle = true) (hr : p.r ≤ 1000) : WF (L.set j p) (I ++ [j]) := by
  have hn : j ∉ I := fun hm => by have := ((h.mem j).1 hm).2; rw [h0] at this; cases this
  refine ⟨?_, fun i => ?_, fun i => ?_⟩
  · rw [List.nodup_append]
    refine ⟨h.nodup, by simp, fun a ha b hb => ?_⟩
    simp at hb
    subst hb
    intro e
    subst e
    exact hn ha
  · rw [List.length_set, pg_set hj, List.mem_append, h.mem]
    by_cases e : i = j
    · subst e; rw [if_pos rfl, hp]; simp [hj]
    · rw [if_neg e]; simp [e]
  · rw [pg_set hj]
    by_cases e : i = j
    · rw [if_pos e]; exact hr
    · rw [if_neg e]; exact h.refs i
/-- How many pages are such. -/
def cnt (f : Pg → Bool) (L : List Pg) : Nat := (L.filter f).length
theorem need_cnt (L : List Pg) : need L = cnt (fun p => decide (0 < p.r)) L := rfl
theorem cnt_set (f : Pg → Bool) : ∀ (L : List Pg) (j : Nat) (p : Pg), j < L.length → cnt f (L.set j p) + (if f (pg L j) = true then 1 else 0) = cnt f L + (if f p = true then 1 else 0)
  | [], _, _, h => by simp at h
  | x :: L, 0, p, _ => by
    have e : pg (x :: L) 0 = x := rfl
    unfold cnt
    rw [e, List.set_cons_zero, List.filter_cons, List.filter_cons]
    by_cases h1 : f x = true <;> by_cases h2 : f p = true <;> simp [h1, h2]
  | x :: L, j + 1, p, h => by
    have ih := cnt_set f L j p (by simpa using h)
    have e : pg (x :: L) (j + 1) = pg L j := rfl
    unfold cnt at *
    rw [e, List.set_cons_succ, List.filter_cons, List.filter_cons]
    by_cases h1 : f x = true <;> simp only [h1, if_true, if_false, List.length_cons, Bool.false_eq_true] <;> omega
theorem cnt_all : ∀ L : List Pg, cnt Pg.free L + need L + cnt Pg.idle L = L.length
  | [] => rfl
  | x :: L => by
    have ih := cnt_all L
    rw [need_cnt] at *
    unfold cnt at *
    rw [List.filter_cons, List.filter_cons, List.filter_cons, List.length_cons]
    obtain ⟨r, s, k⟩ := x
    unfold Pg.free Pg.idle at *
    by_cases h : r = 0
    · subst h
      cases s <;> simp at * <;> omega
    · have h2 : 0 < r := by omega
      simp [h, h2] at *
      omega
theorem cnt_range (f : Pg → Bool) (L : List Pg) : ((List.range L.length).filter fun i => f (pg L i)).length = cnt f L := by
  have e : (List.range L.length).map (pg L) = L := by
    apply List.ext_getElem
    · simp
    · intro i h1 h2
      simp [pg_get h2]
  unfold cnt
  conv => rhs; rw [← e, List.filter_map, List.length_map]
  rfl
theorem WF.len {L : List Pg} {I : List Nat} (h : WF L I) : I.length = cnt Pg.idle L := by
  rw [← cnt_range]
  refine List.Perm.length_eq ((List.perm_ext_iff_of_nodup h.nodup (List.nodup_range.filter _)).2 fun a => ?_)
  rw [h.mem, List.mem_filter, List.mem_range]
theorem WF.few {L : List Pg} {I : List Nat} (h : WF L I) : I.length ≤ L.length := by
  rw [h.len]; exact List.length_filter_le _ _
theorem cnt_zero {f : Pg → Bool} {L : List Pg} (h : cnt f L = 0) : idxN f L = -1 := by
  refine idxN_miss _ _ fun j hj => ?_
  cases hf : f (pg L j) with
  | false => rfl
  | true =>
    have : pg L j ∈ L.filter f := by rw [List.mem_filter, ← pg_get hj]; exact ⟨List.getElem_mem _, by rw [pg_get hj]; exact hf⟩
    have := List.length_pos_of_mem this
    unfold cnt at h
    omega
theorem cnt_pos {f : Pg → Bool} {L : List Pg} (h : 0 < cnt f L) : ∃ k, k < L.length ∧ idxN f L = (k : Nat) ∧ f (pg L k) = true := by
  rcases idxN_cases f L with ⟨_, e⟩ | ⟨k, h1, h2, h3, _⟩
  · exfalso
    have : L.filter f = [] := by
      rw [List.filter_eq_nil_iff]
      intro x hx
      obtain ⟨j, hj, e2⟩ := List.getElem_of_mem hx
      rw [← e2, pg_get hj, e j hj]
      simp
    unfold cnt at h
    rw [this] at h
    simp at h
  · exact ⟨k, h1, h2, h3⟩
theorem wf_new (n : Nat) : WF (List.replicate n default) [] := by
  have e : ∀ i, pg (List.replicate n default) i = default := fun i => by
    unfold pg
    rw [List.getD_eq_getElem?_getD, List.getElem?_replicate]
    split <;> rfl
  refine ⟨List.nodup_nil, fun i => ?_, fun i => ?_⟩
  · rw [e]; simp [Pg.idle, show (default : Pg).s = false from rfl]
  · rw [e]; exact Nat.zero_le _
theorem atN_or (L : List Pg) (i : Int) : atN L i = default ∨ ∃ j : Nat, i = j ∧ j < L.length ∧ atN L i = pg L j := by
  by_cases h : i < 0 ∨ (L.length : Int) ≤ i
  · exact Or.inl (atN_out L i h)
  · obtain ⟨j, rfl⟩ : ∃ j : Nat, i = j := ⟨i.toNat, by omega⟩
    exact Or.inr ⟨j, rfl, by omega, atN_nat L j⟩
end Go.Proofs.Ytfkmmjfahdpfcaa
