/- send's Next: rows of parts. -/
import Derived.Test.YtcnkjkmmngckgaaSdRef2
import Derived.Deep.RegionLaw
namespace Go.Proofs.Ytcnkjkmmngckgaa
open Go.ChangeShapes Go.WideShapes Go.ChangeAt Go.RowKit
/-- v is a row of parts of the call's own, from block B on. -/
structure PRow (w : World) (B : Nat) (v : Value) (R : List (List Value)) : Prop where
  own : w.ownsRow B 35 4 v R.length R.flatten
  each : ∀ x ∈ R, x.length = 4
theorem PRow.of_block {w w' : World} {B : Nat} {v : Value} {R : List (List Value)} (h : PRow w B v R) (hb : ∀ g, v.ownBlock = some g → B ≤ g → g < w.heap.size → w'.heap[g]? = w.heap[g]?) : PRow w' B v R := by
  refine ⟨⟨h.own.1, ?_⟩, h.each⟩
  rcases h.own.2 with h2 | ⟨g, cap, cur, h3, h4, h5, h6⟩
  · exact Or.inl h2
  · exact Or.inr ⟨g, cap, cur, h3, h4, (hb g (by rw [h3]; rfl) h4 (Array.getElem?_eq_some_iff.1 h5).1).trans h5, h6⟩
theorem PRow.below {w w' : World} {B : Nat} {v : Value} {R : List (List Value)} (h : PRow w B v R) (hb : Below w.heap.size w w') : PRow w' B v R := h.of_block (fun g _ _ hg => hb.block g hg)
theorem PRow.base {w : World} {B B' : Nat} {v : Value} {R : List (List Value)} (h : PRow w B v R) (hB : B' ≤ B) : PRow w B' v R := by
  refine ⟨⟨h.own.1, ?_⟩, h.each⟩
  rcases h.own.2 with h2 | ⟨g, cap, cur, h3, h4, h5⟩
  · exact Or.inl h2
  · exact Or.inr ⟨g, cap, cur, h3, by omega, h5⟩
theorem PRow.nil (w : World) (B : Nat) : PRow w B (.slice none 0 0) [] := ⟨World.ownsRow_nil _ _ _ _, by simp⟩
theorem PRow.form {w : World} {B : Nat} {v : Value} {R : List (List Value)} (h : PRow w B v R) : ∃ a c, v = .slice a R.length c ∧ R.length ≤ c ∧ c ≤ 9223372036854775807 := by
  rcases h.own.2 with ⟨h2, h3⟩ | ⟨g, cap, cur, h3, h4, h5, h6, h7, _⟩
  · rw [h3]; exact ⟨none, 0, h2, Nat.le_refl _, by omega⟩
  · exact ⟨_, _, h3, h6, by unfold maxLen at h7; exact h7⟩
theorem PRow.max {w : World} {B : Nat} {a : Option Addr} {n c : Nat} {R : List (List Value)} (h : PRow w B (.slice a n c) R) : R.length = n ∧ n ≤ c ∧ c ≤ 9223372036854775807 := by
  obtain ⟨a', c', e, h1, h2⟩ := h.form
  injection e with e1 e2 e3
  subst e2; subst e3
  exact ⟨rfl, h1, h2⟩
theorem flat4 : ∀ (R : List (List Value)), (∀ x ∈ R, x.length = 4) → ∀ t j, t < R.length → j < 4 → R.flatten[t * 4 + j]? = (R.getD t [])[j]?
  | [], _, t, j, ht, _ => by simp at ht
  | x :: R, h, t, j, ht, hj => by
    have hx := h x List.mem_cons_self
    rw [List.flatten_cons]
    cases t with
    | zero => rw [Nat.zero_mul, Nat.zero_add, List.getElem?_append_left (by omega)]; rfl
    | succ t =>
      rw [List.getElem?_append_right (by omega), hx, show (t + 1) * 4 + j - 4 = t * 4 + j by omega, flat4 R (fun y hy => h y (List.mem_cons_of_mem _ hy)) t j (by simp at ht; omega) hj]
      simp
/-- Where a row that has a part lies, and its cells. -/
theorem PRow.cells {w : World} {B : Nat} {a : Option Addr} {n c : Nat} {R : List (List Value)} (h : PRow w B (.slice a n c) R) (hn : 0 < n) : ∃ g, a = some ⟨g, 0, none⟩ ∧ B ≤ g ∧ g < w.heap.size ∧ ∀ t j, t < n → j < 4 → w.cell? ⟨g, t * 4 + j, none⟩ = (R.getD t [])[j]? := by
  have hm := h.max
  rcases h.own.2 with ⟨h2, h3⟩ | ⟨g, cap, cur, h3, h4, h5, _⟩
  · omega
  · injection h3 with e1 e2 e3
    subst e1
    refine ⟨g, rfl, h4, (Array.getElem?_eq_some_iff.1 h5).1, fun t j ht hj => ?_⟩
    have ho := h.own
    rw [hm.1] at ho
    rw [World.ownsRow.cellAt ho (t * 4 + j) (by omega), flat4 R h.each t j (by omega) hj]
theorem Try.infoPart : (Try.prog.info? 35).map (fun i => (i.zero, i.size, i.bytes)) = some (some (.agg #[.int .i64 0, .int .i64 0, .int .i64 0, .string ⟨#[]⟩]), 4, 40) := by kernel_rfl
def partR (y0 y1 y2 : Int) (y3 : ByteArray) : List Value := [.int .i64 y0, .int .i64 y1, .int .i64 y2, .string y3]
/-- append of one part that lies in a block of its own, as one step of a region that draws. -/
theorem step_append_part {ops : Array Oper} {o : Oper} {a : Act} {w : World} {K : Act → World → Prop} {Q : Exit → Act → World → Prop} {E : Prop} (hg : o.guard = none) (s x : Operand)
    (ho : o.op = .call { callee := .builtin .append, args := #[s, x], argTypes := #[22, 22] }) (B : Nat) (v : Value) (R : List (List Value)) (hs : a.eval s = v) (hO : PRow w B v R)
    (c : Nat) (y0 y1 y2 : Int) (y3 : ByteArray) (hx : a.eval x = .slice (some ⟨c, 0, none⟩) 1 1) (hc : Blk w c 35 #[.int .i64 y0, .int .i64 y1, .int .i64 y2, .string y3]) (hn : R.length ≤ 100000) (hB : B ≤ w.heap.size)
    (hK : ∀ a' c' w', PRow w' B (.slice a' (R.length + 1) c') (R ++ [partR y0 y1 y2 y3]) → Below B w w' → w.grownBy w' v.ownBlock → K (a.put o.dst (.slice a' (R.length + 1) c')) w') :
    if Region.wanted o (yielded ops a.tmps) = true then Oper.wp Try.prog o a w K Q else E := by
  have hw : Region.wanted o (yielded ops a.tmps) = true := by simp [Region.wanted, hg]
  rw [if_pos hw]
  obtain ⟨i0, hi0, hzz⟩ := Option.map_eq_some_iff.1 Try.infoPart
  simp only [Prod.mk.injEq] at hzz
  obtain ⟨hz0, hz1, hz2⟩ := hzz
  refine wp_append_own w s x 22 ho B 35 i0 _ 4 40 Try.underlying22 hi0 hz0 hz1 hz2 rfl (by decide) v R.length R.flatten hs hO.own ⟨c, 0, none⟩ 1 1 [.int .i64 y0, .int .i64 y1, .int .i64 y2, .string y3] hx rfl (fun j u hj => ?_) (fun u hu => ?_) (by unfold maxLen; omega) (by omega) hB ?_
  · have e2 : (Addr.mk c 0 none).add j = ⟨c, j, none⟩ := by simp [Addr.add]; intro h; exact h.symm
    rw [e2]
    exact hc.cell j (by rw [← hj]; simp)
  · simp at hu
    rcases hu with rfl | rfl | rfl | rfl <;> rfl
  · intro v' w' O1 G1 _
    have O2 : PRow w' B v' (R ++ [partR y0 y1 y2 y3]) := by
      refine ⟨?_, fun x hx => ?_⟩
      · have e1 : (R ++ [partR y0 y1 y2 y3]).length = R.length + 1 := by simp
        have e2 : (R ++ [partR y0 y1 y2 y3]).flatten = R.flatten ++ partR y0 y1 y2 y3 := by simp
        rw [e1, e2]
        exact O1
      · rcases List.mem_append.1 hx with h | h
        · exact hO.each x h
        · simp at h; subst h; rfl
    obtain ⟨a', c', rfl, _⟩ := O2.form
    rw [List.length_append, List.length_singleton] at *
    exact hK a' c' w' O2 ((Below.refl _ _).grown G1 hB (fun j hj => (hO.own.lt j hj).1)) G1
theorem leftL_el (C : List Bool) : ∀ (n t : Nat), t < (leftL C n).length → 0 ≤ el (leftL C n) t ∧ el (leftL C n) t < (n : Int)
  | 0, t, h => by simp [leftL] at h
  | n + 1, t, h => by
    have ih := leftL_el C n t
    cases hb : be C n with
    | true => rw [leftL_come hb] at *; have := ih h; omega
    | false =>
      rw [leftL_not hb] at *
      rw [List.length_append, List.length_singleton] at h
      by_cases h1 : t < (leftL C n).length
      · have e : el (leftL C n ++ [(n : Int)]) t = el (leftL C n) t := by unfold el; rw [List.getD_eq_getElem?_getD, List.getElem?_append_left h1, ← List.getD_eq_getElem?_getD]
        rw [e]
        have := ih h1
        omega
      · have e : el (leftL C n ++ [(n : Int)]) t = (n : Int) := by unfold el; rw [List.getD_eq_getElem?_getD, List.getElem?_append_right (by omega), show t - (leftL C n).length = 0 by omega]; rfl
        rw [e]
        omega
/-- The parts of these places. -/
def partsL (num : Int) (n : Nat) (S : List ByteArray) (A : List Int) : List (List Value) := A.map (fun i => partR num i n (se S i.toNat))
theorem partsL_snoc (num : Int) (n : Nat) (S : List ByteArray) (A : List Int) (t : Nat) (h : t < A.length) : partsL num n S (A.take (t + 1)) = partsL num n S (A.take t) ++ [partR num (el A t) n (se S (el A t).toNat)] := by
  unfold partsL el
  rw [List.take_succ_eq_append_getElem h, List.map_append]
  simp [List.getD_eq_getElem?_getD, List.getElem?_eq_getElem h]
theorem partsL_len (num : Int) (n : Nat) (S : List ByteArray) (A : List Int) : (partsL num n S A).length = A.length := by simp [partsL]
end Go.Proofs.Ytcnkjkmmngckgaa
