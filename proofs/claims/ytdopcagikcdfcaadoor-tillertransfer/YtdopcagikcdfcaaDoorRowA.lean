/- append of one number onto a row of the call's own. -/
import Derived.Test.YtdopcagikcdfcaaDoorRowI
namespace Go.Proofs.YtdopcagikcdfcaaDoor
open Go.ChangeShapes Go.WideShapes Go.ChangeAt Go.RowKit
theorem IOwn.of_block {w w' : World} {B : Nat} {v : Value} {n : Nat} {A : List Int} (h : IOwn w B v n A) (hb : ∀ g, B ≤ g → g < w.heap.size → w'.heap[g]? = w.heap[g]?) : IOwn w' B v n A := by
  refine ⟨h.1, ?_⟩
  rcases h.2 with h2 | ⟨g, cap, cur, h3, h4, h5, h6⟩
  · exact Or.inl h2
  · exact Or.inr ⟨g, cap, cur, h3, h4, (hb g h4 (Array.getElem?_eq_some_iff.1 h5).1).trans h5, h6⟩
theorem IOwn.below {w w' : World} {B : Nat} {v : Value} {n : Nat} {A : List Int} (h : IOwn w B v n A) (hb : Below w.heap.size w w') : IOwn w' B v n A := h.of_block (fun g _ hg => hb.block g hg)
theorem IOwn.but {w w' : World} {B x : Nat} {v : Value} {n : Nat} {A : List Int} (h : IOwn w B v n A) (hb : But x w w') (hx : x < B) : IOwn w' B v n A := h.of_block (fun g h1 hg => hb.block g hg (by omega))
theorem IOwn.len {w : World} {B : Nat} {v : Value} {n : Nat} {A : List Int} (h : IOwn w B v n A) : A.length = n := by have := h.1; simpa using this
theorem iown_new (w : World) : IOwn (w.alloc (.cells #[] 3)) w.heap.size (.slice (some ⟨w.heap.size, 0, none⟩) 0 0) 0 [] := World.ownsRow_made w #[] 0 (Nat.le_refl _) (by decide) rfl
theorem wpList_append_int {ops : Array Oper} {rest : List Oper} {o : Oper} {a : Act} {Q : Exit → Act → World → Prop} {w : World} (hg : o.guard = none) (s x : Operand)
    (ho : o.op = .call { callee := .builtin .append, args := #[s, x], argTypes := #[48, 48] }) (B : Nat) (v : Value) (n : Nat) (A : List Int) (hs : a.eval s = v) (hO : IOwn w B v n A)
    (c : Nat) (y : Int) (hx : a.eval x = .slice (some ⟨c, 0, none⟩) 1 1) (hc : w.cell? ⟨c, 0, none⟩ = some (.int .i64 y)) (hn : n ≤ 4096) (hB : B ≤ w.heap.size)
    (hK : ∀ v' w', IOwn w' B v' (n + 1) (A ++ [y]) → Below B w w' → wpList Tryd.prog ops Q rest (a.put o.dst v') w') : wpList Tryd.prog ops Q (o :: rest) a w := by
  obtain ⟨i0, hi, hz0, hz1, hz2⟩ := info_parts Tryd.infoInt
  refine wpList_append_own _ hg s x 48 ho B 3 i0 (.int .i64 0) 1 8 Tryd.underlying48 hi hz0 hz1 hz2 rfl (by decide) v n (A.map (Value.int .i64)) hs hO ⟨c, 0, none⟩ 1 1 [.int .i64 y] hx (by simp) (fun j u hj => ?_) (fun u hu => by simp at hu; subst hu; rfl) (by unfold maxLen; omega) (by omega) hB ?_
  · cases j with
    | zero => simp at hj; subst hj; simpa [Addr.add] using hc
    | succ j => simp at hj
  · intro v' w' O1 G1 _
    have O2 : IOwn w' B v' (n + 1) (A ++ [y]) := by
      unfold IOwn
      rw [List.map_append]
      exact O1
    exact hK v' w' O2 ((Below.refl _ _).grown G1 hB (fun k hk => (hO.lt k hk).1))
end Go.Proofs.YtdopcagikcdfcaaDoor
