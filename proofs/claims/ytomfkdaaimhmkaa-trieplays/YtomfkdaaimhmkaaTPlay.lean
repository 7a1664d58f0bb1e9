/- The document's rows beside a trie's: what each call leaves of them. -/
import Derived.Test.YtomfkdaaimhmkaaTRef3
import Derived.Test.YtomfkdaaimhmkaaTRef4
import Derived.Test.YtomfkdaaimhmkaaTRef5
import Derived.Test.YtomfkdaaimhmkaaTRef7
import Derived.Test.YtomfkdaaimhmkaaTRef8
import Derived.Test.YtomfkdaaimhmkaaTDv2
import Derived.Test.YtomfkdaaimhmkaaTBack
namespace Go.Proofs.Ytomfkdaaimhmkaa
open Go.ChangeShapes Go.WideShapes Go.ChangeAt Go.RowKit Go.Maps
theorem lessL_tri : ∀ a b : List Int, lessL a b = false → a ≠ b → lessL b a = true
  | [], [], _, h => absurd rfl h
  | [], _ :: _, h, _ => by simp [lessL] at h
  | _ :: _, [], _, _ => rfl
  | a :: xs, b :: ys, h, hne => by
    unfold lessL at h ⊢
    by_cases h1 : a < b
    · rw [if_pos h1] at h; cases h
    · rw [if_neg h1] at h
      by_cases h2 : b < a
      · rw [if_pos h2]
      · rw [if_neg h2] at h
        rw [if_neg h2, if_neg h1]
        obtain rfl : a = b := by omega
        exact lessL_tri xs ys h (fun e => hne (by rw [e]))
theorem lessL_trans : ∀ a b c : List Int, lessL a b = true → lessL b c = true → lessL a c = true
  | [], [], _, h, _ => by simp [lessL] at h
  | [], _ :: _, [], _, h => by simp [lessL] at h
  | [], _ :: _, _ :: _, _, _ => rfl
  | _ :: _, [], _, h, _ => by simp [lessL] at h
  | _ :: _, _ :: _, [], _, h => by simp [lessL] at h
  | a :: xs, b :: ys, c :: zs, h, k => by
    unfold lessL at h k ⊢
    by_cases h1 : a < b
    · by_cases k1 : b < c
      · rw [if_pos (by omega)]
      · rw [if_neg k1] at k
        by_cases k2 : c < b
        · rw [if_pos k2] at k; cases k
        · rw [if_pos (by omega)]
    · rw [if_neg h1] at h
      by_cases h2 : b < a
      · rw [if_pos h2] at h; cases h
      · rw [if_neg h2] at h
        obtain rfl : a = b := by omega
        by_cases k1 : a < c
        · rw [if_pos k1]
        · rw [if_neg k1] at k ⊢
          by_cases k2 : c < a
          · rw [if_pos k2] at k; cases k
          · rw [if_neg k2] at k ⊢
            exact lessL_trans xs ys zs h k
/-- A row more among rows in order. -/
theorem asc_ins {l : List Ent} {A : List Int} {v : Int} {p : Nat} (h : Asc l) (hno : ∀ e ∈ l, e.1 ≠ A) (h1 : ∀ e ∈ l.take p, lessL A e.1 = false) (h2 : ∀ hp : p < l.length, lessL A l[p].1 = true) : Asc (l.take p ++ [(A, v)] ++ l.drop p) := by
  have hd : ∀ e ∈ l.drop p, lessL A e.1 = true := fun e he => by
    obtain ⟨j, hj, rfl⟩ := List.getElem_of_mem he
    rw [List.length_drop] at hj
    rw [List.getElem_drop]
    rcases Nat.eq_zero_or_pos j with rfl | hjp
    · exact h2 (by omega)
    · exact lessL_trans _ _ _ (h2 (by omega)) (List.pairwise_iff_getElem.1 h p (p + j) (by omega) (by omega) (by omega))
  have ht : ∀ e ∈ l.take p, lessL e.1 A = true := fun e he => lessL_tri _ _ (h1 e he) (fun e2 => hno e (List.mem_of_mem_take he) e2.symm)
  have hs : Asc (l.take p ++ l.drop p) := by rw [List.take_append_drop]; exact h
  obtain ⟨s1, s2, s3⟩ := List.pairwise_append.1 hs
  refine List.pairwise_append.2 ⟨List.pairwise_append.2 ⟨s1, List.pairwise_singleton _ _, fun a ha b hb => ?_⟩, s2, fun a ha b hb => ?_⟩
  · rw [List.mem_singleton] at hb; subst hb; exact ht a ha
  · rcases List.mem_append.1 ha with k | k
    · exact s3 a k b hb
    · rw [List.mem_singleton] at k; subst k; exact hd b hb
theorem rows_ins {vl : List Int → Option Int} {l : List Ent} {A : List Int} {v : Int} {p : Nat} (h : RowsOf vl [] l) (hA : vl A = none) (h1 : ∀ e ∈ l.take p, lessL A e.1 = false) (h2 : ∀ hp : p < l.length, lessL A l[p].1 = true) : RowsOf (upd vl A (some v)) [] (l.take p ++ [(A, v)] ++ l.drop p) := by
  refine ⟨asc_ins h.1 (fun e he e2 => by have := ((h.2 e.1 e.2).1 he).2; rw [e2, hA] at this; cases this) h1 h2, fun q x => ?_⟩
  have hm : (q, x) ∈ l.take p ++ [(A, v)] ++ l.drop p ↔ ((q, x) ∈ l ∨ (q, x) = (A, v)) := by
    rw [List.mem_append, List.mem_append, List.mem_singleton]
    constructor
    · rintro ((a | a) | a)
      · exact Or.inl (List.mem_of_mem_take a)
      · exact Or.inr a
      · exact Or.inl (List.mem_of_mem_drop a)
    · rintro (a | a)
      · rw [← List.take_append_drop p l, List.mem_append] at a
        rcases a with b | b
        · exact Or.inl (Or.inl b)
        · exact Or.inr b
      · exact Or.inl (Or.inr a)
  rw [hm, h.2 q x, Prod.mk.injEq]
  by_cases e : q = A
  · subst e; rw [upd_same, hA]
    constructor
    · rintro (⟨_, h⟩ | ⟨_, rfl⟩)
      · cases h
      · exact ⟨List.nil_prefix, rfl⟩
    · rintro ⟨_, h⟩; injection h with h; exact Or.inr ⟨rfl, h.symm⟩
  · rw [upd_other _ _ e]
    constructor
    · rintro (h | ⟨h, _⟩)
      · exact h
      · exact absurd h e
    · exact Or.inl
theorem rows_set {vl : List Int → Option Int} {l : List Ent} {A : List Int} {v : Int} {k : Nat} (h : RowsOf vl [] l) (hk : k < l.length) (he : l[k].1 = A) : RowsOf (upd vl A (some v)) [] (l.set k (A, v)) := by
  have hdist : ∀ j (hj : j < l.length), l[j].1 = A → j = k := fun j hj e => by
    rcases Nat.lt_trichotomy j k with a | a | a
    · have := List.pairwise_iff_getElem.1 h.1 j k hj hk a; rw [e, he, lessL_self] at this; cases this
    · exact a
    · have := List.pairwise_iff_getElem.1 h.1 k j hk hj a; rw [e, he, lessL_self] at this; cases this
  refine ⟨List.pairwise_iff_getElem.2 fun i j hi hj hij => ?_, fun q x => ?_⟩
  · rw [List.length_set] at hi hj
    have hh := List.pairwise_iff_getElem.1 h.1 i j hi hj hij
    rw [List.getElem_set, List.getElem_set]
    by_cases e1 : k = i
    · by_cases e2 : k = j
      · omega
      · rw [if_pos e1, if_neg e2]; subst e1; rw [he] at hh; exact hh
    · by_cases e2 : k = j
      · rw [if_neg e1, if_pos e2]; subst e2; rw [he] at hh; exact hh
      · rw [if_neg e1, if_neg e2]; exact hh
  · by_cases e : q = A
    · subst e
      rw [upd_same]
      constructor
      · intro hm
        obtain ⟨j, hj, ej⟩ := List.getElem_of_mem hm
        rw [List.length_set] at hj
        rw [List.getElem_set] at ej
        by_cases e2 : k = j
        · rw [if_pos e2] at ej; injection ej with _ e3; exact ⟨List.nil_prefix, by rw [e3]⟩
        · rw [if_neg e2] at ej; exact absurd (hdist j hj (by rw [ej])).symm e2
      · rintro ⟨_, hx⟩
        injection hx with hx
        subst hx
        exact List.mem_iff_getElem.2 ⟨k, by rw [List.length_set]; exact hk, by rw [List.getElem_set_self]⟩
    · rw [upd_other _ _ e]
      constructor
      · intro hm
        rcases List.mem_or_eq_of_mem_set hm with a | a
        · exact (h.2 q x).1 a
        · injection a with a _; exact absurd a e
      · intro hx
        obtain ⟨j, hj, ej⟩ := List.getElem_of_mem ((h.2 q x).2 hx)
        have hjk : j ≠ k := fun e2 => e (by subst e2; rw [← he, ej])
        exact List.mem_iff_getElem.2 ⟨j, by rw [List.length_set]; exact hj, by rw [List.getElem_set_ne (fun e2 => hjk e2.symm)]; exact ej⟩
theorem rows_row {vl : List Int → Option Int} {l : List Ent} {A : List Int} (h : RowsOf vl [] l) : RowsOf (upd vl A none) [] (l.filter (fun e => decide (e.1 ≠ A))) := by
  refine ⟨h.1.filter _, fun q x => ?_⟩
  rw [List.mem_filter, h.2 q x]
  by_cases e : q = A
  · subst e; rw [upd_same]; simp
  · rw [upd_other _ _ e]; simp [e]
theorem rows_val {vl : List Int → Option Int} {l : List Ent} {u : Int} (h : RowsOf vl [] l) : RowsOf (noV vl u) [] (l.filter (fun e => decide (e.2 ≠ u))) := by
  refine ⟨h.1.filter _, fun q x => ?_⟩
  rw [List.mem_filter, h.2 q x]
  unfold noV
  by_cases e : vl q = some u
  · rw [if_pos e, e]
    constructor
    · rintro ⟨⟨_, h1⟩, h2⟩; injection h1 with h1; simp [h1] at h2
    · rintro ⟨_, h1⟩; cases h1
  · rw [if_neg e]
    constructor
    · rintro ⟨h1, _⟩; exact h1
    · intro h1; exact ⟨h1, decide_eq_true (fun e2 => e (by have h3 : vl q = some x := h1.2; rw [h3]; exact congrArg some e2))⟩
theorem map_filter_row (E : List RE) (A : List Int) : (E.filter (fun e => decide (e.2.1 ≠ A))).map (·.2) = (E.map (·.2)).filter (fun e => decide (e.1 ≠ A)) := by
  rw [List.filter_map]; rfl
theorem map_filter_val (E : List RE) (u : Int) : (E.filter (fun e => decide (e.2.2 ≠ u))).map (·.2) = (E.map (·.2)).filter (fun e => decide (e.2 ≠ u)) := by
  rw [List.filter_map]; rfl
theorem rows_len {w : World} {B tb NB cnt : Nat} {S : TS} {vl : List Int → Option Int} (h : TA w B tb S vl NB cnt) {E : List RE} (hr : RowsOf vl [] (E.map (·.2))) : E.length = cnt := by
  obtain ⟨L, l1, l2, l3⟩ := h.ls
  have hn : ((E.map (·.2)).map (·.1)).Nodup := List.pairwise_map.2 (hr.1.imp fun {a b} hab e => by rw [e, lessL_self] at hab; cases hab)
  have h1 := nodup_le _ L hn (fun x hx => by
    obtain ⟨a, ha, rfl⟩ := List.mem_map.1 hx
    exact (l3 _).2 (by rw [((hr.2 a.1 a.2).1 ha).2]; simp))
  have h2 := nodup_le L ((E.map (·.2)).map (·.1)) l1 (fun x hx => by
    obtain ⟨v, hv⟩ := Option.ne_none_iff_exists'.1 ((l3 x).1 hx)
    exact List.mem_map.2 ⟨(x, v), (hr.2 x v).2 ⟨List.nil_prefix, hv⟩, rfl⟩)
  rw [List.length_map, List.length_map] at h1 h2
  omega
theorem rows_dist {vl : List Int → Option Int} {E : List RE} (hr : RowsOf vl [] (E.map (·.2))) : ∀ j k (hj : j < E.length) (hk : k < E.length), E[j].2.1 = E[k].2.1 → j = k := fun j k hj hk e => by
  have key : ∀ j k (hj : j < E.length) (hk : k < E.length), j < k → E[j].2.1 ≠ E[k].2.1 := fun j k hj hk hjk e => by
    have := List.pairwise_iff_getElem.1 hr.1 j k (by rw [List.length_map]; exact hj) (by rw [List.length_map]; exact hk) hjk
    rw [List.getElem_map, List.getElem_map, e, lessL_self] at this; cases this
  rcases Nat.lt_trichotomy j k with a | a | a
  · exact absurd e (key j k hj hk a)
  · exact a
  · exact absurd e.symm (key k j hk hj a)
theorem rows_mem {vl : List Int → Option Int} {E : List RE} (hr : RowsOf vl [] (E.map (·.2))) {k : Nat} (hk : k < E.length) : vl E[k].2.1 = some E[k].2.2 := ((hr.2 E[k].2.1 E[k].2.2).1 (List.mem_map.2 ⟨_, List.getElem_mem hk, rfl⟩)).2
theorem rows_at {vl : List Int → Option Int} {E : List RE} (hr : RowsOf vl [] (E.map (·.2))) {A : List Int} {v : Int} (h : vl A = some v) : ∃ k, ∃ hk : k < E.length, E[k].2.1 = A := by
  obtain ⟨e, he, e2⟩ := List.mem_map.1 ((hr.2 A v).2 ⟨List.nil_prefix, h⟩)
  obtain ⟨k, hk, ek⟩ := List.getElem_of_mem he
  exact ⟨k, hk, by rw [ek, e2]⟩
theorem rows_no {vl : List Int → Option Int} {E : List RE} (hr : RowsOf vl [] (E.map (·.2))) {A : List Int} (h : vl A = none) : ∀ e ∈ E, e.2.1 ≠ A := fun e he e2 => by
  have := ((hr.2 e.2.1 e.2.2).1 (List.mem_map.2 ⟨e, he, rfl⟩)).2
  rw [e2, h] at this; cases this
/-- What Find tells. -/
theorem find_tells {vl : List Int → Option Int} {E : List RE} (hr : RowsOf vl [] (E.map (·.2))) {A : List Int} {r : Int} (h : FindN E A r) : (vl A = none ∧ r = -1) ∨ ∃ v k, vl A = some v ∧ r = ((k : Nat) : Int) ∧ ∃ hk : k < E.length, E[k].2.2 = v := by
  rcases h with ⟨rfl, hno⟩ | ⟨k, rfl, hk, e⟩
  · refine Or.inl ⟨?_, rfl⟩
    rcases hv : vl A with _ | v
    · rfl
    · obtain ⟨k, hk, e⟩ := rows_at hr hv
      exact absurd e (hno _ (List.getElem_mem hk))
  · exact Or.inr ⟨E[k].2.2, k, by rw [← e]; exact rows_mem hr hk, rfl, hk, rfl⟩
theorem lgN_top (vl : List Int → Option Int) (A : List Int) : ∀ i, i ≤ A.length → ((lgN vl A i).1 = 0 ∧ (lgN vl A i).2 = 0 ∨ 0 < (lgN vl A i).1 ∧ vl (A.take (lgN vl A i).1) = some (lgN vl A i).2) ∧ ∀ j, 1 ≤ j → j ≤ i → vl (A.take j) ≠ none → j ≤ (lgN vl A i).1
  | 0, _ => ⟨Or.inl ⟨rfl, rfl⟩, fun j h1 h2 => by omega⟩
  | i + 1, hi => by
    obtain ⟨h1, h2⟩ := lgN_top vl A i (by omega)
    rcases h : vl (A.take (i + 1)) with _ | v
    · rw [lgN_off h]
      refine ⟨h1, fun j a b c => ?_⟩
      rcases Nat.lt_or_ge i j with k | k
      · obtain rfl : j = i + 1 := by omega
        exact absurd h c
      · exact h2 j a k c
    · rw [lgN_on h]
      exact ⟨Or.inr ⟨Nat.succ_pos _, h⟩, fun j a b c => b⟩
/-- What both Longest tell. -/
theorem long_tells {vl : List Int → Option Int} {E : List RE} (hr : RowsOf vl [] (E.map (·.2))) {A : List Int} {m : Nat} {v : Int} (h : LongN E A m v) : (lgN vl A A.length).1 = m ∧ (lgN vl A A.length).2 = v := by
  obtain ⟨t1, t2⟩ := lgN_top vl A A.length (Nat.le_refl _)
  have pre : ∀ q : List Int, q <+: A → q = A.take q.length := fun q hq => List.prefix_iff_eq_take.1 hq
  have low : (lgN vl A A.length).1 ≤ m := by
    rcases t1 with ⟨a, _⟩ | ⟨a, b⟩
    · omega
    · obtain ⟨k, hk, ek⟩ := rows_at hr b
      have hbd := lgN_bd vl A A.length
      have := h.2 _ (List.getElem_mem hk) (by rw [ek]; exact List.take_prefix _ _)
      rw [ek, List.length_take] at this
      omega
  rcases h.1 with ⟨rfl, rfl⟩ | ⟨e, he, hp, hm, el, ev⟩
  · have hz : (lgN vl A A.length).1 = 0 := by omega
    rcases t1 with ⟨_, b⟩ | ⟨a, _⟩
    · exact ⟨hz, b⟩
    · omega
  · have hv : vl e.2.1 = some e.2.2 := ((hr.2 e.2.1 e.2.2).1 (List.mem_map.2 ⟨e, he, rfl⟩)).2
    have hq := pre _ hp
    rw [el] at hq
    have hge := t2 m (by omega) (by have := hp.length_le; omega) (by rw [← hq, hv]; simp)
    have hme : (lgN vl A A.length).1 = m := by omega
    refine ⟨hme, ?_⟩
    rcases t1 with ⟨a, _⟩ | ⟨_, b⟩
    · omega
    · rw [hme, ← hq, hv, ev] at b
      injection b with b; exact b.symm
end Go.Proofs.Ytomfkdaaimhmkaa
