/- Rows in order: what a walk through a trie meets, and that it is one list alone. -/
import Derived.Test.YtomfkdaaimhmkaaTSort
namespace Go.Proofs.Ytomfkdaaimhmkaa
open Go.ChangeShapes Go.WideShapes Go.ChangeAt Go.RowKit Go.Maps
/-- Does a row come ahead of another one? -/
def lessL : List Int → List Int → Bool
  | [], [] => false
  | [], _ :: _ => true
  | _ :: _, [] => false
  | a :: xs, b :: ys => if a < b then true else if b < a then false else lessL xs ys
theorem lessL_asymm : ∀ a b : List Int, lessL a b = true → lessL b a = false
  | [], [], _ => rfl
  | [], _ :: _, _ => rfl
  | _ :: _, [], h => by simp [lessL] at h
  | a :: xs, b :: ys, h => by
    unfold lessL at h ⊢
    by_cases h1 : a < b
    · rw [if_neg (by omega), if_pos h1]
    · rw [if_neg h1] at h
      by_cases h2 : b < a
      · rw [if_pos h2] at h; cases h
      · rw [if_neg h2] at h
        rw [if_neg h2, if_neg h1]
        exact lessL_asymm xs ys h
theorem lessL_front (p : List Int) (a b : List Int) : lessL (p ++ a) (p ++ b) = lessL a b := by
  induction p with
  | nil => rfl
  | cons x p ih =>
    show (if x < x then true else if x < x then false else lessL (p ++ a) (p ++ b)) = _
    rw [if_neg (by omega), if_neg (by omega)]
    exact ih
theorem lessL_cons {k k' : Int} (h : k < k') (a b : List Int) : lessL (k :: a) (k' :: b) = true := by
  show (if k < k' then true else _) = _
  rw [if_pos h]
theorem lessL_self (a : List Int) : lessL a a = false := by
  rcases h : lessL a a with _ | _
  · rfl
  · have := lessL_asymm a a h
    rw [h] at this; cases this
abbrev Ent := List Int × Int
def Asc (l : List Ent) : Prop := l.Pairwise (fun a b => lessL a.1 b.1 = true)
theorem asc_nodup {l : List Ent} (h : Asc l) : l.Nodup := h.imp fun {a b} hab e => by
  rw [e, lessL_self] at hab; cases hab
/-- Rows in order with the same members are the same. -/
theorem asc_eq {l m : List Ent} (hl : Asc l) (hm : Asc m) (h : ∀ x, x ∈ l ↔ x ∈ m) : l = m := by
  have hp : l.Perm m := (List.perm_ext_iff_of_nodup (asc_nodup hl) (asc_nodup hm)).2 h
  refine List.Perm.eq_of_pairwise (le := fun a b : Ent => lessL a.1 b.1 = true) (fun a b _ _ h1 h2 => ?_) hl hm hp
  rw [lessL_asymm _ _ h1] at h2; cases h2
/-- Just the rows that begin with p, in order. -/
def RowsOf (vl : List Int → Option Int) (p : List Int) (out : List Ent) : Prop := Asc out ∧ ∀ q v, (q, v) ∈ out ↔ (p <+: q ∧ vl q = some v)
/-- Just the rows that begin with p and one of the first i keys. -/
def RowsTo (vl : List Int → Option Int) (p ks : List Int) (i : Nat) (out : List Ent) : Prop := Asc out ∧ ∀ q v, (q, v) ∈ out ↔ ((∃ j, j < i ∧ (p ++ [ks.getD j 0]) <+: q) ∧ vl q = some v)
theorem rowsTo_zero (vl : List Int → Option Int) (p ks : List Int) : RowsTo vl p ks 0 [] :=
  ⟨List.Pairwise.nil, fun q v => by
    constructor
    · intro h; cases h
    · rintro ⟨⟨j, hj, _⟩, _⟩; omega⟩
theorem getD_lt {ks : List Int} (h : ks.Pairwise (· < ·)) {i j : Nat} (hij : i < j) (hj : j < ks.length) : ks.getD i 0 < ks.getD j 0 := by
  rw [List.getD_eq_getElem?_getD, List.getD_eq_getElem?_getD, List.getElem?_eq_getElem (by omega), List.getElem?_eq_getElem hj]
  exact List.pairwise_iff_getElem.1 h i j (by omega) hj hij
theorem rowsTo_step {vl : List Int → Option Int} {p ks : List Int} {i : Nat} {out o2 : List Ent} (hk : ks.Pairwise (· < ·)) (hi : i < ks.length) (h : RowsTo vl p ks i out) (h2 : RowsOf vl (p ++ [ks.getD i 0]) o2) : RowsTo vl p ks (i + 1) (out ++ o2) := by
  refine ⟨List.pairwise_append.2 ⟨h.1, h2.1, fun a ha b hb => ?_⟩, fun q v => ?_⟩
  · obtain ⟨⟨j, hj, s, hs⟩, _⟩ := (h.2 a.1 a.2).1 ha
    obtain ⟨⟨s', hs'⟩, _⟩ := (h2.2 b.1 b.2).1 hb
    rw [← hs, ← hs', List.append_assoc, List.append_assoc, lessL_front]
    exact lessL_cons (getD_lt hk hj hi) _ _
  · rw [List.mem_append, h.2 q v, h2.2 q v]
    constructor
    · rintro (⟨⟨j, hj, hp⟩, hv⟩ | ⟨hp, hv⟩)
      · exact ⟨⟨j, by omega, hp⟩, hv⟩
      · exact ⟨⟨i, by omega, hp⟩, hv⟩
    · rintro ⟨⟨j, hj, hp⟩, hv⟩
      rcases Nat.lt_or_ge j i with hji | hji
      · exact Or.inl ⟨⟨j, hji, hp⟩, hv⟩
      · obtain rfl : j = i := by omega
        exact Or.inr ⟨hp, hv⟩
/-- What is at a node itself. -/
def here (vl : List Int → Option Int) (p : List Int) : List Ent := match vl p with | some v => [(p, v)] | none => []
theorem mem_here {vl : List Int → Option Int} {p q : List Int} {v : Int} : (q, v) ∈ here vl p ↔ (q = p ∧ vl p = some v) := by
  unfold here
  rcases h : vl p with _ | x
  · simp
  · simp only [List.mem_singleton, Prod.mk.injEq, Option.some.injEq]
    constructor
    · rintro ⟨rfl, rfl⟩; exact ⟨rfl, rfl⟩
    · rintro ⟨rfl, rfl⟩; exact ⟨rfl, rfl⟩
theorem rows_node {vl : List Int → Option Int} {p ks : List Int} {out : List Ent} (h : RowsTo vl p ks ks.length out) (hall : ∀ k s v, vl (p ++ [k] ++ s) = some v → k ∈ ks) : RowsOf vl p (here vl p ++ out) := by
  refine ⟨List.pairwise_append.2 ⟨?_, h.1, fun a ha b hb => ?_⟩, fun q v => ?_⟩
  · unfold here; rcases vl p with _ | x
    · exact List.Pairwise.nil
    · exact List.pairwise_singleton _ _
  · obtain ⟨e, _⟩ := mem_here.1 (show (a.1, a.2) ∈ here vl p from ha)
    obtain ⟨⟨j, hj, s, hs⟩, _⟩ := (h.2 b.1 b.2).1 hb
    rw [e, ← hs, List.append_assoc]
    have := lessL_front p [] ([ks.getD j 0] ++ s)
    rw [List.append_nil] at this
    rw [this]
    rfl
  · rw [List.mem_append, mem_here, h.2 q v]
    constructor
    · rintro (⟨rfl, hv⟩ | ⟨⟨j, hj, s, hs⟩, hv⟩)
      · exact ⟨List.prefix_refl _, hv⟩
      · exact ⟨⟨[ks.getD j 0] ++ s, by rw [← List.append_assoc]; exact hs⟩, hv⟩
    · rintro ⟨⟨s, hs⟩, hv⟩
      rcases s with _ | ⟨k, s⟩
      · rw [List.append_nil] at hs
        subst hs
        exact Or.inl ⟨rfl, hv⟩
      · have e : p ++ [k] ++ s = q := by rw [List.append_assoc]; exact hs
        have hk := hall k s v (by rw [e]; exact hv)
        obtain ⟨j, hj, ej⟩ := List.getElem_of_mem hk
        refine Or.inr ⟨⟨j, hj, s, ?_⟩, hv⟩
        rw [List.getD_eq_getElem?_getD, List.getElem?_eq_getElem hj]
        show p ++ [ks[j]] ++ s = q
        rw [ej]; exact e
theorem rows_new {vl : List Int → Option Int} {p ks : List Int} {i : Nat} {acc out : List Ent} (hacc : ∀ a ∈ acc, ¬ p <+: a.1) (hk : ks.Pairwise (· < ·)) (hi : i < ks.length) (h : RowsTo vl p ks i out) : ∀ a ∈ acc ++ here vl p ++ out, ¬ (p ++ [ks.getD i 0]) <+: a.1 := fun a ha hp => by
  rcases List.mem_append.1 ha with ha | ha
  · rcases List.mem_append.1 ha with ha | ha
    · exact hacc a ha ((List.prefix_append p _).trans hp)
    · obtain ⟨e, _⟩ := mem_here.1 (show (a.1, a.2) ∈ here vl p from ha)
      rw [e] at hp
      have := hp.length_le
      rw [List.length_append] at this
      simp only [List.length_cons, List.length_nil] at this
      omega
  · obtain ⟨⟨j, hj, s, hs⟩, _⟩ := (h.2 a.1 a.2).1 ha
    obtain ⟨s', hs'⟩ := hp
    rw [← hs, List.append_assoc, List.append_assoc] at hs'
    have e := List.append_cancel_left hs'
    injection e with e1 _
    have := getD_lt hk hj hi
    omega
theorem TI.front {w : World} {B tb NB cnt : Nat} {S : TS} (h : TI w B tb S NB cnt) (p s : List Int) (hn : S.nd (p ++ s) ≠ none) : S.nd p ≠ none := fun e => hn (by
  have := h.none_all (p ++ s) p.length (by simp) (by rw [List.take_left]; exact e)
  exact this)
theorem TI.key {w : World} {B tb NB cnt : Nat} {S : TS} (h : TI w B tb S NB cnt) (p : List Int) (k : Int) (s : List Int) (v : Int) (hv : S.vl (p ++ [k] ++ s) = some v) : S.nd (p ++ [k]) ≠ none :=
  h.front (p ++ [k]) s (h.vnd _ (by rw [hv]; simp))
theorem rowsOf_eq {vl : List Int → Option Int} {p : List Int} {l m : List Ent} (h : RowsOf vl p l) (k : RowsOf vl p m) : l = m := asc_eq h.1 k.1 (fun x => by
  rw [show x = (x.1, x.2) from rfl, h.2, k.2])
end Go.Proofs.Ytomfkdaaimhmkaa
