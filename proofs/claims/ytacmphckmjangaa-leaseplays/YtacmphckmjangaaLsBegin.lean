/- The statements' begin: a state, and the document's, of the same holdings. -/
import Derived.Test.YtacmphckmjangaaLsAwake
import Derived.Test.YtacmphckmjangaaLsView
import Derived.Test.YtacmphckmjangaaRowK
namespace Go.Proofs.Ytacmphckmjangaa
open Go.ChangeShapes Go.WideShapes Go.ChangeAt Go.RowKit Go.Maps
/-- A holding of a place as it stands in the document's row. -/
def cvR (p : Int × Hg) : List Int := [p.1, p.2.hol, p.2.epo, p.2.unt]
def HRow (w : World) (B : Nat) (v : Value) (R : List (Int × Hg)) : Prop := KRow w B 33 4 v (R.map cvR)
theorem Try.infoRh : (Try.prog.info? 33).map (fun i => (i.zero, i.size, i.bytes)) = some (some (.agg #[.int .i64 0, .int .i64 0, .int .i64 0, .int .i64 0]), 4, 8 * 4) := by kernel_rfl
theorem Try.infoRhS : (Try.prog.info? 33).map (·.size) = some 4 := by kernel_rfl
theorem Try.infoRs : (Try.prog.info? 28).map (·.size) = some 3 := by kernel_rfl
theorem ralls (ep q : Int) (v : Value) (hv : ∃ ao n c, v = .slice ao n c) : Array.all (#[.int .i64 ep, .int .i64 q, v] : Array Value) (fun v => v.oneCell') = true := by obtain ⟨_, _, _, rfl⟩ := hv; simp [Value.oneCell']
theorem hall4 (a b c d : Int) : Array.all (#[.int .i64 a, .int .i64 b, .int .i64 c, .int .i64 d] : Array Value) (fun v => v.oneCell') = true := by simp [Value.oneCell']
/-- In the range of numbers. -/
def i64 (x : Int) : Prop := -9223372036854775808 ≤ x ∧ x ≤ 9223372036854775807
def inR (R : List (Int × Hg)) : Prop := ∀ p ∈ R, i64 p.1 ∧ i64 p.2.hol ∧ i64 p.2.epo ∧ i64 p.2.unt
/-- One round of the statements' insertion. -/
def stepG (p : Int × Hg) (s : List (Int × Hg) × Bool) (y : Int × Hg) : List (Int × Hg) × Bool :=
  if y.1 = p.1 then s else if s.2 = false ∧ p.1 < y.1 then (s.1 ++ [p] ++ [y], true) else (s.1 ++ [y], s.2)
def foldG (p : Int × Hg) (R : List (Int × Hg)) : List (Int × Hg) × Bool := R.foldl (stepG p) ([], false)
def insG (p : Int × Hg) (R : List (Int × Hg)) : List (Int × Hg) := if (foldG p R).2 then (foldG p R).1 else (foldG p R).1 ++ [p]
theorem foldG_snoc (p : Int × Hg) (R : List (Int × Hg)) (y : Int × Hg) : foldG p (R ++ [y]) = stepG p (foldG p R) y := by unfold foldG; rw [List.foldl_append]; rfl
theorem delM_snoc (R : List (Int × Hg)) (y : Int × Hg) (x : Int) : delM (R ++ [y]) x = if y.1 = x then delM R x else delM R x ++ [y] := by
  unfold delM
  rw [List.filter_append]
  by_cases h : y.1 = x
  · rw [if_pos h]; simp [h]
  · rw [if_neg h]; simp [h]
theorem foldG_perm (p : Int × Hg) (R : List (Int × Hg)) : (foldG p R).1.Perm (if (foldG p R).2 then delM R p.1 ++ [p] else delM R p.1) := by
  have : ∀ n (R : List (Int × Hg)), R.length = n → (foldG p R).1.Perm (if (foldG p R).2 then delM R p.1 ++ [p] else delM R p.1) := by
    intro n
    induction n with
    | zero => intro R h; obtain rfl := List.length_eq_zero_iff.1 h; simp [foldG, delM]
    | succ n ih =>
      intro R h
      obtain ⟨R', y, rfl⟩ : ∃ R' y, R = R' ++ [y] := by
        refine ⟨R.dropLast, R.getLast (by intro e; simp [e] at h), (List.dropLast_concat_getLast _).symm⟩
      have h1 := ih R' (by simp at h; exact h)
      rw [foldG_snoc, delM_snoc]
      unfold stepG
      by_cases e1 : y.1 = p.1
      · rw [if_pos e1, if_pos e1]; exact h1
      · rw [if_neg e1, if_neg e1]
        by_cases e2 : (foldG p R').2 = false ∧ p.1 < y.1
        · rw [if_pos e2]
          simp only [e2.1, Bool.false_eq_true, if_false] at h1
          simp only [if_true]
          have h2 : (delM R' p.1 ++ [p] ++ [y]).Perm (delM R' p.1 ++ [y] ++ [p]) := by
            rw [List.append_assoc, List.append_assoc]
            exact List.Perm.append_left _ (List.perm_append_comm)
          exact ((h1.append_right [p]).append_right [y]).trans h2
        · rw [if_neg e2]
          simp only
          cases hd : (foldG p R').2 with
          | false =>
            rw [hd] at h1
            simp only [Bool.false_eq_true, if_false] at h1 ⊢
            exact h1.append_right [y]
          | true =>
            rw [hd] at h1
            simp only [if_true] at h1 ⊢
            refine (h1.append_right [y]).trans ?_
            rw [List.append_assoc, List.append_assoc]
            exact List.Perm.append_left _ (List.perm_append_comm)
  exact this _ R rfl
theorem insG_perm (p : Int × Hg) (R : List (Int × Hg)) : (putM R p.1 p.2).Perm (insG p R) := by
  have h := foldG_perm p R
  unfold insG putM
  cases hd : (foldG p R).2 with
  | false =>
    rw [hd] at h
    simp only [Bool.false_eq_true, if_false] at h ⊢
    exact (h.append_right [p]).symm
  | true =>
    rw [hd] at h
    simp only [if_true] at h ⊢
    exact h.symm
theorem foldG_len (p : Int × Hg) (R : List (Int × Hg)) : (foldG p R).1.length ≤ R.length + 1 := by
  have h := (foldG_perm p R).length_eq
  have h2 : (delM R p.1).length ≤ R.length := List.length_filter_le _ _
  rw [h]
  split
  · rw [List.length_append]; simp; omega
  · omega
theorem insG_len (p : Int × Hg) (R : List (Int × Hg)) : (insG p R).length ≤ R.length + 1 := by
  rw [← (insG_perm p R).length_eq]
  have h2 : (delM R p.1).length ≤ R.length := List.length_filter_le _ _
  unfold putM
  rw [List.length_append]; simp; omega
theorem inR_put {R : List (Int × Hg)} (h : inR R) (p : Int × Hg) (hp : i64 p.1 ∧ i64 p.2.hol ∧ i64 p.2.epo ∧ i64 p.2.unt) : inR (insG p R) := by
  intro q hq
  have := (insG_perm p R).mem_iff.2 hq
  unfold putM delM at this
  rcases List.mem_append.1 this with h1 | h1
  · exact h q (List.mem_filter.1 h1).1
  · simp at h1; subst h1; exact hp
theorem hrow_get {R : List (Int × Hg)} {t : Nat} (h : t < R.length) : (R.map cvR).getD t [] = cvR R[t] := by
  rw [List.getD_eq_getElem?_getD, List.getElem?_map, List.getElem?_eq_getElem h]; rfl
end Go.Proofs.Ytacmphckmjangaa
