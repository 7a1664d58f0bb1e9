/- HolderPlays: both sides' states in memory, the rows beside them, and what calls make of them. -/
import Derived.Test.YtifbnnffejamaaaHrLike
import Derived.Test.YtifbnnffejamaaaRowA
import Derived.Maps.AppendAt
namespace Go.Proofs.Ytifbnnffejamaaa
open Go.ChangeShapes Go.WideShapes Go.ChangeAt Go.RowKit Go.Maps
theorem iown_row {w : World} {B : Nat} {ao : Option Addr} {n c : Nat} {A : List Int} (h : IOwn w B (.slice ao n c) n A) (hs : ∀ k, -9223372036854775808 ≤ el A k ∧ el A k ≤ 9223372036854775807) : IRowAt w ao n A := by
  obtain ⟨a, c', e, R⟩ := h.arg hs
  injection e with e1 e2 e3
  subst e1
  exact R.row
theorem el_snoc (A : List Int) (y : Int) (k : Nat) : el (A ++ [y]) k = if k < A.length then el A k else if k = A.length then y else 0 := by
  unfold el
  rw [List.getD_eq_getElem?_getD, List.getD_eq_getElem?_getD]
  by_cases h : k < A.length
  · rw [if_pos h, List.getElem?_append_left h]
  · rw [if_neg h, List.getElem?_append_right (by omega)]
    by_cases e : k = A.length
    · rw [if_pos e, e]; simp
    · rw [if_neg e, List.getElem?_eq_none (by simp; omega)]; rfl
def Fit (A : List Int) : Prop := ∀ k, -9223372036854775808 ≤ el A k ∧ el A k ≤ 9223372036854775807
theorem Fit.nil : Fit [] := fun k => by unfold el; simp
theorem Fit.snoc {A : List Int} (h : Fit A) {y : Int} (hy : -9223372036854775808 ≤ y ∧ y ≤ 9223372036854775807) : Fit (A ++ [y]) := fun k => by
  rw [el_snoc]
  split
  · exact h k
  · split
    · exact hy
    · omega
theorem put_len {α : Type} (W : List (Int × α)) (x : Int) (v : α) : (putM W x v).length ≤ W.length + 1 := by
  unfold putM delM
  rw [List.length_append]
  have := List.length_filter_le (fun p : Int × α => decide (p.1 ≠ x)) W
  simp only [List.length_cons, List.length_nil]
  omega
theorem del_len {α : Type} (W : List (Int × α)) (x : Int) : (delM W x).length ≤ W.length := List.length_filter_le _ _
theorem MapAt.obj {α : Type} {enc : α → Value} {w : World} {b : Nat} {L : List (Int × α)} (h : MapAt enc w b L) : ∃ a k, w.heap[b]? = some (.map a k) := by
  obtain ⟨es, ⟨a, clock, h1, _⟩, _⟩ := h
  exact ⟨a, clock, h1⟩
theorem KRow.obj {w : World} {B : Nat} {T : TypeId} {k : Nat} {v : Value} {R : List (List Int)} (h : KRow w B T k v R) : ∀ g, v.ownBlock = some g → ∃ cs, w.heap[g]? = some (.cells cs T) := by
  intro g hg
  rcases h.own.2 with ⟨h2, _⟩ | ⟨g', cap, cur, h3, h4, h5, h6⟩
  · rw [h2] at hg; cases hg
  · rw [h3] at hg
    injection hg with hg
    have hg' : g' = g := hg
    subst hg'
    exact ⟨cur, h5⟩
theorem IOwn.obj {w : World} {B : Nat} {v : Value} {n : Nat} {A : List Int} (h : IOwn w B v n A) : ∀ g, v.ownBlock = some g → ∃ cs, w.heap[g]? = some (.cells cs 3) := by
  intro g hg
  rcases h.2 with ⟨h2, _⟩ | ⟨g', cap, cur, h3, h4, h5, h6⟩
  · rw [h2] at hg; cases hg
  · rw [h3] at hg
    injection hg with hg
    have hg' : g' = g := hg
    subst hg'
    exact ⟨cur, h5⟩
theorem IOwn.stay {w w' : World} {B : Nat} {v : Value} {n : Nat} {A : List Int} (h : IOwn w B v n A) (hb : ∀ g, v.ownBlock = some g → w'.heap[g]? = w.heap[g]?) : IOwn w' B v n A := by
  refine ⟨h.1, ?_⟩
  rcases h.2 with h2 | ⟨g', cap, cur, h3, h4, h5, h6⟩
  · exact Or.inl h2
  · exact Or.inr ⟨g', cap, cur, h3, h4, (hb g' (by rw [h3]; rfl)).trans h5, h6⟩
/-- One state as both sides have it: the program's in its variable bs, the document's in bx. -/
structure Sd (w : World) (bs bx : Nat) (li cn : Int) (mw mh : Option Nat) (ao bo : Option Addr) (c d : Nat) (W : List (Int × Wn)) (H : List (Int × Hv)) : Prop where
  xs : Blk w bs 26 #[.int .i64 li, .int .i64 cn, .map mw, .map mh]
  xx : Blk w bx 30 #[.int .i64 li, .int .i64 cn, .slice ao W.length c, .slice bo H.length d]
  mW : WnM w mw W
  mH : HvM w mh H
  rf : Ref w (.slice ao W.length c) (.slice bo H.length d) W H
/-- What a state's parts lie in. -/
def Part (o : Obj) : Prop := (∃ a k, o = .map a k) ∨ (∃ cs, o = .cells cs 77) ∨ (∃ cs, o = .cells cs 85)
section
variable {w w' : World} {bs bx : Nat} {li cn : Int} {mw mh : Option Nat} {ao bo : Option Addr} {c d : Nat} {W : List (Int × Wn)} {H : List (Int × Hv)}
theorem wnm_part (h : WnM w mw W) (hk : ∀ (k : Nat) (o : Obj), w.heap[k]? = some o → Part o → w'.heap[k]? = w.heap[k]?) : WnM w' mw W := by
  rcases h with h | ⟨b, e, h⟩
  · exact Or.inl h
  · obtain ⟨a, k, ho⟩ := h.obj
    exact Or.inr ⟨b, e, h.keep (hk b _ ho (Or.inl ⟨a, k, rfl⟩))⟩
theorem hvm_part (h : HvM w mh H) (hk : ∀ (k : Nat) (o : Obj), w.heap[k]? = some o → Part o → w'.heap[k]? = w.heap[k]?) : HvM w' mh H := by
  rcases h with h | ⟨b, e, h⟩
  · exact Or.inl h
  · obtain ⟨a, k, ho⟩ := h.obj
    exact Or.inr ⟨b, e, h.keep (hk b _ ho (Or.inl ⟨a, k, rfl⟩))⟩
theorem ref_part {vw vh : Value} (h : Ref w vw vh W H) (hk : ∀ (k : Nat) (o : Obj), w.heap[k]? = some o → Part o → w'.heap[k]? = w.heap[k]?) : Ref w' vw vh W H :=
  ⟨KRow.stay h.1 (fun g hg => by obtain ⟨cs, ho⟩ := KRow.obj h.1 g hg; exact hk g _ ho (Or.inr (Or.inl ⟨cs, rfl⟩))), KRow.stay h.2 (fun g hg => by obtain ⟨cs, ho⟩ := KRow.obj h.2 g hg; exact hk g _ ho (Or.inr (Or.inr ⟨cs, rfl⟩)))⟩
theorem set_part {g : Nat} {T : TypeId} {cs : Array Value} (X : Blk w g T cs) (h1 : T ≠ 77) (h2 : T ≠ 85) (R : Array Value) : ∀ (k : Nat) (o : Obj), w.heap[k]? = some o → Part o → (w.setRow g R).heap[k]? = w.heap[k]? := by
  intro k o ho hp
  refine setRow_other _ _ _ _ (fun e => ?_)
  unfold Blk at X
  rw [e, X] at ho
  injection ho with ho
  rcases hp with ⟨a, k, rfl⟩ | ⟨cs, rfl⟩ | ⟨cs, rfl⟩
  · cases ho
  · injection ho with _ h; exact h1 h
  · injection ho with _ h; exact h2 h
theorem grown_part {B n : Nat} {v : Value} {A : List Int} (O : IOwn w B v n A) (G : w.grownBy w' v.ownBlock) : ∀ (k : Nat) (o : Obj), w.heap[k]? = some o → Part o → w'.heap[k]? = w.heap[k]? := by
  intro k o ho hp
  refine G.block k (Array.getElem?_eq_some_iff.1 ho).1 (fun e => ?_)
  obtain ⟨cs, h⟩ := O.obj k e.symm
  rw [h] at ho
  injection ho with ho
  rcases hp with ⟨a, k, rfl⟩ | ⟨cs, rfl⟩ | ⟨cs, rfl⟩
  · cases ho
  · injection ho with _ h; exact absurd h (by decide)
  · injection ho with _ h; exact absurd h (by decide)
theorem blk_grown {B n g : Nat} {v : Value} {A : List Int} {T : TypeId} {cs : Array Value} (X : Blk w g T cs) (hT : T ≠ 3) (O : IOwn w B v n A) (G : w.grownBy w' v.ownBlock) : Blk w' g T cs := by
  refine X.of_block (G.block g X.lt (fun e => ?_))
  obtain ⟨cs', h⟩ := O.obj g e.symm
  unfold Blk at X
  rw [X] at h
  injection h with h
  injection h with _ h
  exact hT h
theorem Sd.below (h : Sd w bs bx li cn mw mh ao bo c d W H) (hb : Below w.heap.size w w') : Sd w' bs bx li cn mw mh ao bo c d W H :=
  ⟨h.xs.below hb, h.xx.below hb, h.mW.below hb, h.mH.below hb, h.rf.below hb⟩
theorem Sd.set (h : Sd w bs bx li cn mw mh ao bo c d W H) {g : Nat} {T : TypeId} {cs : Array Value} (X : Blk w g T cs) (h1 : T ≠ 77) (h2 : T ≠ 85) (n1 : bs ≠ g) (n2 : bx ≠ g) (R : Array Value) : Sd (w.setRow g R) bs bx li cn mw mh ao bo c d W H :=
  ⟨h.xs.of_block (setRow_other _ _ _ _ n1), h.xx.of_block (setRow_other _ _ _ _ n2), wnm_part h.mW (set_part X h1 h2 R), hvm_part h.mH (set_part X h1 h2 R), ref_part h.rf (set_part X h1 h2 R)⟩
theorem Sd.grown (h : Sd w bs bx li cn mw mh ao bo c d W H) {B n : Nat} {v : Value} {A : List Int} (O : IOwn w B v n A) (G : w.grownBy w' v.ownBlock) : Sd w' bs bx li cn mw mh ao bo c d W H :=
  ⟨blk_grown h.xs (by decide) O G, blk_grown h.xx (by decide) O G, wnm_part h.mW (grown_part O G), hvm_part h.mH (grown_part O G), ref_part h.rf (grown_part O G)⟩
/-- Copies of both variables. -/
theorem Sd.copy (h : Sd w bs bx li cn mw mh ao bo c d W H) {bt bw : Nat} (x1 : Blk w bt 26 #[.int .i64 li, .int .i64 cn, .map mw, .map mh]) (x2 : Blk w bw 30 #[.int .i64 li, .int .i64 cn, .slice ao W.length c, .slice bo H.length d]) : Sd w bt bw li cn mw mh ao bo c d W H := ⟨x1, x2, h.mW, h.mH, h.rf⟩
end
/-- The rows of places and of numbers. -/
structure Rws (w : World) (B : Nat) (vp : Value) (np : Nat) (P : List Int) (vn : Value) (nn : Nat) (N : List Int) : Prop where
  op : IOwn w B vp np P
  on : IOwn w B vn nn N
  ap : ∀ g, vp.ownBlock = some g → vn.ownBlock = some g → False
section
variable {w w' : World} {B : Nat} {vp vn : Value} {np nn : Nat} {P N : List Int}
theorem Rws.below (h : Rws w B vp np P vn nn N) (hb : Below w.heap.size w w') : Rws w' B vp np P vn nn N := ⟨h.op.below hb, h.on.below hb, h.ap⟩
theorem Rws.set (h : Rws w B vp np P vn nn N) {g : Nat} {T : TypeId} {cs : Array Value} (X : Blk w g T cs) (hT : T ≠ 3) (R : Array Value) : Rws (w.setRow g R) B vp np P vn nn N := by
  have k : ∀ {v : Value} {n : Nat} {A : List Int}, IOwn w B v n A → IOwn (w.setRow g R) B v n A := fun {v n A} O => O.stay (fun k hk => setRow_other _ _ _ _ (fun e => by
    obtain ⟨cs', ho⟩ := O.obj k hk
    unfold Blk at X
    rw [e, X] at ho
    injection ho with ho
    injection ho with _ ho
    exact hT ho))
  exact ⟨k h.op, k h.on, h.ap⟩
theorem Rws.putP (h : Rws w B vp np P vn nn N) {v' : Value} {n' : Nat} {P' : List Int} (O : IOwn w' B v' n' P') (G : w.grownBy w' vp.ownBlock) (ho : v'.ownBlock = vp.ownBlock ∨ v'.ownBlock = some w.heap.size) : Rws w' B v' n' P' vn nn N := by
  refine ⟨O, h.on.stay (fun g hg => G.block g (h.on.lt g hg).2 (fun e => h.ap g e.symm hg)), fun g h1 h2 => ?_⟩
  rcases ho with e | e
  · rw [e] at h1; exact h.ap g h1 h2
  · rw [e] at h1
    injection h1 with h1
    have := (h.on.lt g h2).2
    omega
theorem Rws.putN (h : Rws w B vp np P vn nn N) {v' : Value} {n' : Nat} {N' : List Int} (O : IOwn w' B v' n' N') (G : w.grownBy w' vn.ownBlock) (ho : v'.ownBlock = vn.ownBlock ∨ v'.ownBlock = some w.heap.size) : Rws w' B vp np P v' n' N' := by
  refine ⟨h.op.stay (fun g hg => G.block g (h.op.lt g hg).2 (fun e => h.ap g hg e.symm)), O, fun g h1 h2 => ?_⟩
  rcases ho with e | e
  · rw [e] at h2; exact h.ap g h1 h2
  · rw [e] at h2
    injection h2 with h2
    have := (h.op.lt g h1).2
    omega
end
theorem wpList_append_int3 {ops : Array Oper} {rest : List Oper} {o : Oper} {a : Act} {Q : Exit → Act → World → Prop} {w : World} (hg : o.guard = none) (s x : Operand)
    (ho : o.op = .call { callee := .builtin .append, args := #[s, x], argTypes := #[31, 31] }) (B : Nat) (v : Value) (n : Nat) (A : List Int) (hs : a.eval s = v) (hO : IOwn w B v n A)
    (c : Nat) (y : Int) (hx : a.eval x = .slice (some ⟨c, 0, none⟩) 1 1) (hc : w.cell? ⟨c, 0, none⟩ = some (.int .i64 y)) (hn : n ≤ 4096) (hB : B ≤ w.heap.size)
    (hK : ∀ a' c' w', IOwn w' B (.slice a' (n + 1) c') (n + 1) (A ++ [y]) → Below B w w' → w.grownBy w' v.ownBlock → ((Value.slice a' (n + 1) c').ownBlock = v.ownBlock ∨ (Value.slice a' (n + 1) c').ownBlock = some w.heap.size) → wpList Try.prog ops Q rest (a.put o.dst (.slice a' (n + 1) c')) w') : wpList Try.prog ops Q (o :: rest) a w := by
  obtain ⟨i0, hi, hz0, hz1, hz2⟩ := info_parts Try.infoInt
  refine wpList_append_own_at (w := w) hg s x 31 ho B 3 i0 (.int .i64 0) 1 8 Try.underlying31 hi hz0 hz1 hz2 rfl (by decide) v n (A.map (Value.int .i64)) hs hO ⟨c, 0, none⟩ 1 1 [.int .i64 y] hx (by simp) (fun j u hj => ?_) (fun u hu => by simp at hu; subst hu; rfl) (by unfold maxLen; omega) (by omega) hB ?_
  · cases j with
    | zero => simp at hj; subst hj; simpa [Addr.add] using hc
    | succ j => simp at hj
  · intro v' w' O1 G1 _ h4
    have O2 : IOwn w' B v' (n + 1) (A ++ [y]) := by
      unfold IOwn
      rw [List.map_append]
      exact O1
    rcases O1.2 with ⟨_, h6⟩ | ⟨g', cap, cur, h6, _⟩
    · omega
    · subst h6
      exact hK _ _ w' O2 ((Below.refl _ _).grown G1 hB (fun k hk => (hO.lt k hk).1)) G1 h4
end Go.Proofs.Ytifbnnffejamaaa
