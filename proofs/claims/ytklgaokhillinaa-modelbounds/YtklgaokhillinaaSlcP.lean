/- Rows that a call makes by append and make, in this program. -/
import Derived.Test.YtklgaokhillinaaRows
import Derived.Test.YtklgaokhillinaaSlc
import Derived.Laws.AppendOwnNone
import Derived.OwnWalk
namespace Go.Proofs.Ytklgaokhillinaa
open Go.ChangeShapes Go.WideShapes Go.ChangeAt Go.RowKit
theorem Try.infoNum : (Try.prog.info? 55).map (fun i => (i.zero, i.size, i.bytes)) = some (some (.int .i32 0), 1, 4) := by kernel_rfl
/-- A slice that may be cut and copied: its row, and that its capacity fits. -/
structure Arg (w : World) (ao : Option Addr) (n ca : Nat) (A : List Int) : Prop where
  row : RowAt w ao n A
  fit : n ≤ ca
  max : ca ≤ 9223372036854775807
  nil : ao = none → ca = 0
theorem Fresh.arg {w : World} {B g n cap : Nat} {A : List Int} (h : Fresh w B g n cap A) : Arg w (some ⟨g, 0, none⟩) n cap A := ⟨h.rowAt, h.fit, h.max, fun h => by cases h⟩
theorem Arg.below {w w' : World} {ao : Option Addr} {n ca : Nat} {A : List Int} (h : Arg w ao n ca A) (hb : Below w.heap.size w w') : Arg w' ao n ca A := ⟨h.row.below hb, h.fit, h.max, h.nil⟩
theorem fresh_empty (w : World) : Fresh (w.alloc (.cells #[] 55)) w.heap.size w.heap.size 0 0 [] :=
  ⟨Nat.le_refl _, rfl, Nat.le_refl _, by omega, small_nil, #[], heap_alloc_new _ _, rfl, fun t ht => by omega⟩
/-- append(out, xs...), out a row of the call's own, xs any row. -/
theorem wpList_append_row {w : World} {ops : Array Oper} {rest : List Oper} {o : Oper} {a : Act} {Q : Exit → Act → World → Prop} (hgd : o.guard = none) (s x : Operand)
    (ho : o.op = .call { callee := .builtin .append, args := #[s, x], argTypes := #[24, 24] })
    (B g n cap : Nat) (A : List Int) (hs : a.eval s = .slice (some ⟨g, 0, none⟩) n cap) (hF : Fresh w B g n cap A)
    (ao : Option Addr) (m c : Nat) (X : List Int) (hx : a.eval x = .slice ao m c) (hX : RowAt w ao m X) (hc : ao = none → c = 0)
    (hlen : n + m ≤ 1048576) (hB : B ≤ w.heap.size)
    (h : ∀ g' cap' w', Fresh w' B g' (n + m) cap' (A ++ X) → Below B w w' → wpList Try.prog ops Q rest (a.put o.dst (.slice (some ⟨g', 0, none⟩) (n + m) cap')) w') : wpList Try.prog ops Q (o :: rest) a w := by
  obtain ⟨i0, hi, hz0, hz1, hz2⟩ := info_parts Try.infoNum
  cases ao with
  | none =>
    have hm : m = 0 := by
      rcases Nat.eq_zero_or_pos m with h0 | h0
      · exact h0
      · obtain ⟨b, o, e, _⟩ := hX.cells h0; cases e
    subst hm
    have hc0 := hc rfl
    subst hc0
    obtain rfl : X = [] := List.length_eq_zero_iff.1 hX.len
    refine wpList_append_own_none hgd s x 24 ho B 55 i0 1 Try.underlying24 hi _ n _ hs hF.owns hx ?_
    have := h g cap w (by simpa using hF) (Below.refl _ _)
    simpa using this
  | some ad =>
    refine wpList_append_own w hgd s x 24 ho B 55 i0 (.int .i32 0) 1 4 Try.underlying24 hi hz0 hz1 hz2 rfl (by decide) _ n _ hs hF.owns ad m c (X.map (Value.int .i32)) hx (by simp [hX.len]) ?_ (ints_oneCell _ _) (by unfold maxLen; omega) (by omega) hB ?_
    · intro j u hj
      have hjm : j < m := by
        have := (List.getElem?_eq_some_iff.1 hj).1
        simpa [hX.len] using this
      obtain ⟨b, o', e, hcell⟩ := hX.cells (by omega)
      simp only [Option.some.injEq] at e
      subst e
      have e2 : (Addr.mk b o' none).add j = ⟨b, o' + j, none⟩ := by simp [Addr.add]
      rw [e2, hcell j hjm]
      have hl := hX.len
      rw [List.getElem?_map, List.getElem?_eq_getElem (show j < X.length by omega)] at hj
      simp only [Option.map_some, Option.some.injEq] at hj
      rw [← hj]
      unfold el
      simp [List.getD_eq_getElem?_getD, List.getElem?_eq_getElem (show j < X.length by omega)]
    · intro v' w' hown hg hnil
      have hb : Below B w w' := (Below.refl _ _).grown hg hB (fun k hk => by simp [Value.ownBlock] at hk; subst hk; exact hF.base)
      obtain ⟨h1, h2⟩ := hown
      rcases h2 with ⟨h3, _⟩ | ⟨g', c', cur, hv, hr⟩
      · have := (hnil.1 h3).1; cases this
      · subst hv
        rw [← List.map_append] at h1 hr
        obtain ⟨g2, e2, F⟩ := fresh_of_owns (w := w') (B := B) (n := n + m) (cap := c') (ao := some ⟨g', 0, none⟩) (A := A ++ X) ⟨h1, Or.inr ⟨g', c', cur, rfl, hr⟩⟩ (hF.small.append hX.small) (by simp)
        simp only [Option.some.injEq, Addr.mk.injEq, and_true] at e2
        subst e2
        exact h g' c' w' F hb
/-- A row of one number, laid to be appended. -/
theorem rowAt_one (w : World) (x : Int) (hx : -2147483648 ≤ x ∧ x ≤ 2147483647) : RowAt (w.alloc (.cells #[.int .i32 x] 55)) (some ⟨w.heap.size, 0, none⟩) 1 [x] := by
  refine ⟨rfl, by omega, fun y hy => by simp at hy; subst hy; exact hx, fun _ => ⟨_, _, rfl, fun t ht => ?_⟩⟩
  obtain rfl : t = 0 := by omega
  have e := heap_alloc_new w (.cells #[.int .i32 x] 55)
  unfold World.cell?
  simp only [Nat.add_zero, e]
  rfl
/-- A row that is written out. -/
theorem fresh_lit (w : World) (A : List Int) (hA : Small A) (hl : A.length ≤ 1048576) : Fresh (w.alloc (.cells (A.map (Value.int .i32)).toArray 55)) w.heap.size w.heap.size A.length A.length A :=
  ⟨Nat.le_refl _, rfl, Nat.le_refl _, by omega, hA, _, heap_alloc_new _ _, by simp, fun t ht => by
    unfold el
    simp [List.getD_eq_getElem?_getD, List.getElem?_eq_getElem ht]⟩
end Go.Proofs.Ytklgaokhillinaa
