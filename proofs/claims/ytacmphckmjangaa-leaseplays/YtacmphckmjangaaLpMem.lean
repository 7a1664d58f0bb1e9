/- LeasePlays: both sides' states in memory, and what calls make of them. Written by tools/genlplays.py. -/
import Derived.Test.YtacmphckmjangaaLrLike
import Derived.Maps.AppendAt
namespace Go.Proofs.Ytacmphckmjangaa
open Go.ChangeShapes Go.WideShapes Go.ChangeAt Go.RowKit Go.Maps
theorem iown_row {w : World} {B : Nat} {ao : Option Addr} {n c : Nat} {A : List Int} (h : IOwn w B (.slice ao n c) n A) (hs : ∀ k, -9223372036854775808 ≤ el A k ∧ el A k ≤ 9223372036854775807) : IRowAt w ao n A := by
  obtain ⟨a, c', e, R⟩ := h.arg hs
  injection e with e1 e2 e3
  subst e1
  exact R.row
theorem el_snoc (A : List Int) (y : Int) (k : Nat) : el (A ++ [y]) k = if k < A.length then el A k else if k = A.length then y else 0 := by
  unfold el
  rw [List.getD_eq_getElem?_getD, List.getD_eq_getElem?_getD]
  by_cases h : k < A.length
  · rw [if_pos h, List.getElem?_append_left h]
  · rw [if_neg h, List.getElem?_append_right (by omega)]
    by_cases e : k = A.length
    · rw [if_pos e, e]; simp
    · rw [if_neg e, List.getElem?_eq_none (by simp; omega)]; rfl
def Fit (A : List Int) : Prop := ∀ k, -9223372036854775808 ≤ el A k ∧ el A k ≤ 9223372036854775807
theorem Fit.nil : Fit [] := fun k => by unfold el; simp
theorem Fit.snoc {A : List Int} (h : Fit A) {y : Int} (hy : -9223372036854775808 ≤ y ∧ y ≤ 9223372036854775807) : Fit (A ++ [y]) := fun k => by
  rw [el_snoc]
  split
  · exact h k
  · split
    · exact hy
    · omega
theorem MapAt.obj {α : Type} {enc : α → Value} {w : World} {b : Nat} {L : List (Int × α)} (h : MapAt enc w b L) : ∃ a k, w.heap[b]? = some (.map a k) := by
  obtain ⟨es, ⟨a, clock, h1, _⟩, _⟩ := h
  exact ⟨a, clock, h1⟩
theorem KRow.obj {w : World} {B : Nat} {T : TypeId} {k : Nat} {v : Value} {R : List (List Int)} (h : KRow w B T k v R) : ∀ g, v.ownBlock = some g → ∃ cs, w.heap[g]? = some (.cells cs T) := by
  intro g hg
  rcases h.own.2 with ⟨h2, _⟩ | ⟨g', cap, cur, h3, h4, h5, h6⟩
  · rw [h2] at hg; cases hg
  · rw [h3] at hg
    injection hg with hg
    have hg' : g' = g := hg
    subst hg'
    exact ⟨cur, h5⟩
theorem IOwn.obj {w : World} {B : Nat} {v : Value} {n : Nat} {A : List Int} (h : IOwn w B v n A) : ∀ g, v.ownBlock = some g → ∃ cs, w.heap[g]? = some (.cells cs 3) := by
  intro g hg
  rcases h.2 with ⟨h2, _⟩ | ⟨g', cap, cur, h3, h4, h5, h6⟩
  · rw [h2] at hg; cases hg
  · rw [h3] at hg
    injection hg with hg
    have hg' : g' = g := hg
    subst hg'
    exact ⟨cur, h5⟩
theorem IOwn.stay {w w' : World} {B : Nat} {v : Value} {n : Nat} {A : List Int} (h : IOwn w B v n A) (hb : ∀ g, v.ownBlock = some g → w'.heap[g]? = w.heap[g]?) : IOwn w' B v n A := by
  refine ⟨h.1, ?_⟩
  rcases h.2 with h2 | ⟨g', cap, cur, h3, h4, h5, h6⟩
  · exact Or.inl h2
  · exact Or.inr ⟨g', cap, cur, h3, h4, (hb g' (by rw [h3]; rfl)).trans h5, h6⟩
theorem wpList_append_int3 {ops : Array Oper} {rest : List Oper} {o : Oper} {a : Act} {Q : Exit → Act → World → Prop} {w : World} (hg : o.guard = none) (s x : Operand)
    (ho : o.op = .call { callee := .builtin .append, args := #[s, x], argTypes := #[31, 31] }) (B : Nat) (v : Value) (n : Nat) (A : List Int) (hs : a.eval s = v) (hO : IOwn w B v n A)
    (c : Nat) (y : Int) (hx : a.eval x = .slice (some ⟨c, 0, none⟩) 1 1) (hc : w.cell? ⟨c, 0, none⟩ = some (.int .i64 y)) (hn : n ≤ 4096) (hB : B ≤ w.heap.size)
    (hK : ∀ a' c' w', IOwn w' B (.slice a' (n + 1) c') (n + 1) (A ++ [y]) → Below B w w' → w.grownBy w' v.ownBlock → ((Value.slice a' (n + 1) c').ownBlock = v.ownBlock ∨ (Value.slice a' (n + 1) c').ownBlock = some w.heap.size) → wpList Try.prog ops Q rest (a.put o.dst (.slice a' (n + 1) c')) w') : wpList Try.prog ops Q (o :: rest) a w := by
  obtain ⟨i0, hi, hz0, hz1, hz2⟩ := info_parts Try.infoInt
  refine wpList_append_own_at (w := w) hg s x 31 ho B 3 i0 (.int .i64 0) 1 8 Try.underlying31 hi hz0 hz1 hz2 rfl (by decide) v n (A.map (Value.int .i64)) hs hO ⟨c, 0, none⟩ 1 1 [.int .i64 y] hx (by simp) (fun j u hj => ?_) (fun u hu => by simp at hu; subst hu; rfl) (by unfold maxLen; omega) (by omega) hB ?_
  · cases j with
    | zero => simp at hj; subst hj; simpa [Addr.add] using hc
    | succ j => simp at hj
  · intro v' w' O1 G1 _ h4
    have O2 : IOwn w' B v' (n + 1) (A ++ [y]) := by
      unfold IOwn
      rw [List.map_append]
      exact O1
    rcases O1.2 with ⟨_, h6⟩ | ⟨g', cap, cur, h6, _⟩
    · omega
    · subst h6
      exact hK _ _ w' O2 ((Below.refl _ _).grown G1 hB (fun k hk => (hO.lt k hk).1)) G1 h4
theorem IOwn.base {w : World} {B B' : Nat} {v : Value} {n : Nat} {A : List Int} (h : IOwn w B v n A) (hB : B' ≤ B) : IOwn w B' v n A := by
  refine ⟨h.1, ?_⟩
  rcases h.2 with h2 | ⟨g', cap, cur, h3, h4, h5⟩
  · exact Or.inl h2
  · exact Or.inr ⟨g', cap, cur, h3, by omega, h5⟩
/-- One state as both sides have it. -/
structure Sl (w : World) (bs bx : Nat) (ep q : Int) (mo : Option Nat) (ao : Option Addr) (c : Nat) (R : List (Int × Hg)) : Prop where
  xs : Blk w bs 26 #[.int .i64 ep, .int .i64 q, .map mo]
  xx : Blk w bx 28 #[.int .i64 ep, .int .i64 q, .slice ao R.length c]
  m : HgM w mo R
  rw : HRow w 0 (.slice ao R.length c) R
def Part (o : Obj) : Prop := (∃ a k, o = .map a k) ∨ (∃ cs, o = .cells cs 33)
section
variable {w w' : World} {bs bx : Nat} {ep q : Int} {mo : Option Nat} {ao : Option Addr} {c : Nat} {R : List (Int × Hg)}
theorem hgm_part (h : HgM w mo R) (hk : ∀ (k : Nat) (o : Obj), w.heap[k]? = some o → Part o → w'.heap[k]? = w.heap[k]?) : HgM w' mo R := by
  rcases h with h | ⟨b, e, h⟩
  · exact Or.inl h
  · obtain ⟨a, k, ho⟩ := h.obj
    exact Or.inr ⟨b, e, h.keep (hk b _ ho (Or.inl ⟨a, k, rfl⟩))⟩
theorem hrow_part {v : Value} (h : HRow w 0 v R) (hk : ∀ (k : Nat) (o : Obj), w.heap[k]? = some o → Part o → w'.heap[k]? = w.heap[k]?) : HRow w' 0 v R :=
  KRow.stay h (fun g hg => by obtain ⟨cs, ho⟩ := KRow.obj h g hg; exact hk g _ ho (Or.inr ⟨cs, rfl⟩))
theorem set_part {g : Nat} {T : TypeId} {cs : Array Value} (X : Blk w g T cs) (h1 : T ≠ 33) (Z : Array Value) : ∀ (k : Nat) (o : Obj), w.heap[k]? = some o → Part o → (w.setRow g Z).heap[k]? = w.heap[k]? := by
  intro k o ho hp
  refine setRow_other _ _ _ _ (fun e => ?_)
  unfold Blk at X
  rw [e, X] at ho
  injection ho with ho
  rcases hp with ⟨a, k, rfl⟩ | ⟨cs, rfl⟩
  · cases ho
  · injection ho with _ h; exact h1 h
theorem grown_part {B n : Nat} {v : Value} {A : List Int} (O : IOwn w B v n A) (G : w.grownBy w' v.ownBlock) : ∀ (k : Nat) (o : Obj), w.heap[k]? = some o → Part o → w'.heap[k]? = w.heap[k]? := by
  intro k o ho hp
  refine G.block k (Array.getElem?_eq_some_iff.1 ho).1 (fun e => ?_)
  obtain ⟨cs, h⟩ := O.obj k e.symm
  rw [h] at ho
  injection ho with ho
  rcases hp with ⟨a, k, rfl⟩ | ⟨cs, rfl⟩
  · cases ho
  · injection ho with _ h; exact absurd h (by decide)
theorem blk_grown {B n g : Nat} {v : Value} {A : List Int} {T : TypeId} {cs : Array Value} (X : Blk w g T cs) (hT : T ≠ 3) (O : IOwn w B v n A) (G : w.grownBy w' v.ownBlock) : Blk w' g T cs := by
  refine X.of_block (G.block g X.lt (fun e => ?_))
  obtain ⟨cs', h⟩ := O.obj g e.symm
  unfold Blk at X
  rw [X] at h
  injection h with h
  injection h with _ h
  exact hT h
theorem Sl.below (h : Sl w bs bx ep q mo ao c R) (hb : Below w.heap.size w w') : Sl w' bs bx ep q mo ao c R := ⟨h.xs.below hb, h.xx.below hb, h.m.below hb, KRow.below h.rw hb⟩
theorem Sl.grown (h : Sl w bs bx ep q mo ao c R) {B n : Nat} {v : Value} {A : List Int} (O : IOwn w B v n A) (G : w.grownBy w' v.ownBlock) : Sl w' bs bx ep q mo ao c R :=
  ⟨blk_grown h.xs (by decide) O G, blk_grown h.xx (by decide) O G, hgm_part h.m (grown_part O G), hrow_part h.rw (grown_part O G)⟩
theorem IOwn.set {B n g : Nat} {v : Value} {A : List Int} {T : TypeId} {cs : Array Value} (O : IOwn w B v n A) (X : Blk w g T cs) (hT : T ≠ 3) (Z : Array Value) : IOwn (w.setRow g Z) B v n A := O.stay (fun k hk => setRow_other _ _ _ _ (fun e => by
    obtain ⟨cs', ho⟩ := O.obj k hk
    unfold Blk at X
    rw [e, X] at ho
    injection ho with ho
    injection ho with _ ho
    exact hT ho))
end
def Apt (R : List (Int × Hg)) : Prop := R.Pairwise (fun p q => p.1 ≠ q.1)
theorem Apt.last {R : List (Int × Hg)} (h : Apt R) (now : Int) : Apt (lastM now R) := List.Pairwise.filter _ h
theorem Apt.del {R : List (Int × Hg)} (h : Apt R) (x : Int) : Apt (delM R x) := List.Pairwise.filter _ h
theorem Apt.put {R : List (Int × Hg)} (h : Apt R) (x : Int) (v : Hg) : Apt (putM R x v) := by
  unfold Apt putM
  rw [List.pairwise_append]
  refine ⟨h.del x, List.pairwise_singleton _ _, fun a ha b hb => ?_⟩
  simp only [List.mem_singleton] at hb
  subst hb
  have := (List.mem_filter.1 ha).2
  simpa using this
theorem Apt.ins {R : List (Int × Hg)} (h : Apt R) (p : Int × Hg) : Apt (insG p R) := ((insG_perm p R).pairwise_iff (fun {_ _} hne => Ne.symm hne)).1 (h.put p.1 p.2)
theorem HgM.apt {w : World} {mo : Option Nat} {R : List (Int × Hg)} (h : HgM w mo R) : Apt R := by
  rcases h with ⟨_, e⟩ | ⟨b, _, h⟩
  · rw [e]; exact List.Pairwise.nil
  · exact h.apart
end Go.Proofs.Ytacmphckmjangaa
