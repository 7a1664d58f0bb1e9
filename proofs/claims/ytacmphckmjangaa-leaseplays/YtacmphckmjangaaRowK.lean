/- Rows of structs of k whole numbers, of the call's own: what they hold, and what append makes of them. -/
import Derived.Test.YtacmphckmjangaaCkBase
namespace Go.Proofs.Ytacmphckmjangaa
open Go.ChangeShapes Go.WideShapes Go.ChangeAt Go.RowKit
/-- The cells of a row. -/
def flatK (R : List (List Int)) : List Value := R.flatMap (fun x => x.map (Value.int .i64))
theorem flatK_len (k : Nat) : ∀ R : List (List Int), (∀ x ∈ R, x.length = k) → (flatK R).length = R.length * k
  | [], _ => by simp [flatK]
  | x :: R, h => by
    have h1 := flatK_len k R (fun y hy => h y (List.mem_cons_of_mem _ hy))
    have h2 := h x List.mem_cons_self
    unfold flatK at *
    rw [List.flatMap_cons, List.length_append, h1, List.length_map, h2, List.length_cons, Nat.succ_mul, Nat.add_comm]
theorem flatK_get (k : Nat) : ∀ (R : List (List Int)), (∀ x ∈ R, x.length = k) → ∀ t j, t < R.length → j < k → (flatK R)[t * k + j]? = some (.int .i64 ((R.getD t []).getD j 0))
  | [], _, t, j, ht, _ => by simp at ht
  | x :: R, h, t, j, ht, hj => by
    have hx := h x List.mem_cons_self
    unfold flatK
    rw [List.flatMap_cons]
    cases t with
    | zero =>
      rw [Nat.zero_mul, Nat.zero_add, List.getElem?_append_left (by rw [List.length_map, hx]; exact hj), List.getElem?_map, List.getElem?_eq_getElem (by rw [hx]; exact hj)]
      simp [List.getD_eq_getElem?_getD, List.getElem?_eq_getElem (show j < x.length by rw [hx]; exact hj)]
    | succ t =>
      have ih := flatK_get k R (fun y hy => h y (List.mem_cons_of_mem _ hy)) t j (by simp at ht; omega) hj
      rw [List.getElem?_append_right (by rw [List.length_map, hx, Nat.succ_mul]; omega), List.length_map, hx]
      have e : (t + 1) * k + j - k = t * k + j := by rw [Nat.succ_mul]; omega
      rw [e]
      simpa [flatK] using ih
theorem flatK_one (R : List (List Int)) : ∀ u ∈ flatK R, u.oneCell' = true := by
  intro u hu
  unfold flatK at hu
  rw [List.mem_flatMap] at hu
  obtain ⟨x, _, h⟩ := hu
  rw [List.mem_map] at h
  obtain ⟨a, _, rfl⟩ := h
  rfl
/-- v is a row of structs of type T, of k numbers each, in a block from B on. -/
structure KRow (w : World) (B : Nat) (T : TypeId) (k : Nat) (v : Value) (R : List (List Int)) : Prop where
  own : w.ownsRow B T k v R.length (flatK R)
  each : ∀ x ∈ R, x.length = k
theorem KRow.of_block {w w' : World} {B : Nat} {T : TypeId} {k : Nat} {v : Value} {R : List (List Int)} (h : KRow w B T k v R) (hb : ∀ g, B ≤ g → g < w.heap.size → w'.heap[g]? = w.heap[g]?) : KRow w' B T k v R := by
  refine ⟨⟨h.own.1, ?_⟩, h.each⟩
  rcases h.own.2 with h2 | ⟨g, cap, cur, h3, h4, h5, h6⟩
  · exact Or.inl h2
  · exact Or.inr ⟨g, cap, cur, h3, h4, (hb g h4 (Array.getElem?_eq_some_iff.1 h5).1).trans h5, h6⟩
theorem KRow.below {w w' : World} {B : Nat} {T : TypeId} {k : Nat} {v : Value} {R : List (List Int)} (h : KRow w B T k v R) (hb : Below w.heap.size w w') : KRow w' B T k v R := h.of_block (fun g _ hg => hb.block g hg)
theorem KRow.but {w w' : World} {B x : Nat} {T : TypeId} {k : Nat} {v : Value} {R : List (List Int)} (h : KRow w B T k v R) (hb : But x w w') (hx : x < B) : KRow w' B T k v R := h.of_block (fun g h1 hg => hb.block g hg (by omega))
theorem KRow.upto {w w' : World} {B C : Nat} {T : TypeId} {k : Nat} {v : Value} {R : List (List Int)} (h : KRow w B T k v R) (hb : Below C w w') (hC : w.heap.size ≤ C) : KRow w' B T k v R := h.of_block (fun g _ hg => hb.block g (by omega))
theorem KRow.base {w : World} {B B' : Nat} {T : TypeId} {k : Nat} {v : Value} {R : List (List Int)} (h : KRow w B T k v R) (hB : B' ≤ B) : KRow w B' T k v R := by
  refine ⟨⟨h.own.1, ?_⟩, h.each⟩
  rcases h.own.2 with h2 | ⟨g, cap, cur, h3, h4, h5⟩
  · exact Or.inl h2
  · exact Or.inr ⟨g, cap, cur, h3, by omega, h5⟩
theorem KRow.nil (w : World) (B : Nat) (T : TypeId) (k : Nat) : KRow w B T k (.slice none 0 0) [] := ⟨World.ownsRow_nil _ _ _ _, by simp⟩
theorem KRow.new (w : World) (T : TypeId) (k : Nat) : KRow (w.alloc (.cells #[] T)) w.heap.size T k (.slice (some ⟨w.heap.size, 0, none⟩) 0 0) [] :=
  ⟨World.ownsRow_made w #[] 0 (Nat.le_refl _) (by decide) (by simp), by simp⟩
theorem add0 (g j : Nat) : (Addr.mk g 0 none).add j = ⟨g, j, none⟩ := by simp [Addr.add]; intro h; exact h.symm
/-- Where a row lies, and its cells. -/
theorem KRow.cases {w : World} {B : Nat} {T : TypeId} {k : Nat} {v : Value} {R : List (List Int)} (h : KRow w B T k v R) : (v = .slice none 0 0 ∧ R = []) ∨ ∃ g cap, v = .slice (some ⟨g, 0, none⟩) R.length cap ∧ B ≤ g ∧ g < w.heap.size ∧ R.length ≤ cap ∧ cap ≤ maxLen ∧ ∀ t j, t < R.length → j < k → w.cell? ⟨g, t * k + j, none⟩ = some (.int .i64 ((R.getD t []).getD j 0)) := by
  rcases h.own.2 with ⟨h2, h3⟩ | ⟨g, cap, cur, h3, h4, h5, h6, h7, h8, h9⟩
  · exact Or.inl ⟨h2, List.length_eq_zero_iff.1 h3⟩
  · refine Or.inr ⟨g, cap, h3, h4, (Array.getElem?_eq_some_iff.1 h5).1, h6, h7, fun t j ht hj => ?_⟩
    subst h3
    have hc := World.ownsRow.cells h.own (g := g) rfl (t * k + j) _ (flatK_get k R h.each t j ht hj)
    rw [add0] at hc
    exact hc
theorem KRow.len {w : World} {B : Nat} {T : TypeId} {k : Nat} {v : Value} {R : List (List Int)} (h : KRow w B T k v R) : ∃ ao c, v = .slice ao R.length c ∧ R.length ≤ 9223372036854775807 := by
  rcases h.cases with ⟨rfl, rfl⟩ | ⟨g, cap, rfl, _, _, h1, h2, _⟩
  · exact ⟨none, 0, rfl, by simp⟩
  · exact ⟨_, _, rfl, by unfold maxLen at h2; omega⟩
/-- append of one struct that lies in a block of its own. -/
theorem wpList_append_k {ops : Array Oper} {rest : List Oper} {o : Oper} {a : Act} {Q : Exit → Act → World → Prop} {w : World} (hg : o.guard = none) (s x : Operand) (T TS : TypeId) (k : Nat) (z : Value) (hT : Try.prog.underlying TS = some (.slice T)) (hi : (Try.prog.info? T).map (fun i => (i.zero, i.size, i.bytes)) = some (some z, k, 8 * k)) (hzk : z.cells.size = k) (hk : 0 < k) (hk2 : k ≤ 100)
    (ho : o.op = .call { callee := .builtin .append, args := #[s, x], argTypes := #[TS, TS] }) (B : Nat) (v : Value) (R : List (List Int)) (hs : a.eval s = v) (hO : KRow w B T k v R)
    (c : Nat) (y : List Int) (hy : y.length = k) (hx : a.eval x = .slice (some ⟨c, 0, none⟩) 1 1) (hc : ∀ j, j < k → w.cell? ⟨c, j, none⟩ = some (.int .i64 (y.getD j 0))) (hn : R.length ≤ 100000) (hB : B ≤ w.heap.size)
    (hK : ∀ v' w', KRow w' B T k v' (R ++ [y]) → Below B w w' → w.grownBy w' v.ownBlock → wpList Try.prog ops Q rest (a.put o.dst v') w') : wpList Try.prog ops Q (o :: rest) a w := by
  obtain ⟨i0, hi0, hzz⟩ := Option.map_eq_some_iff.1 hi
  simp only [Prod.mk.injEq] at hzz
  obtain ⟨hz0, hz1, hz2⟩ := hzz
  have hb : (R.length + 1) * (8 * k) ≤ 100001 * 800 := Nat.mul_le_mul (by omega) (by omega)
  refine wpList_append_own _ hg s x TS ho B T i0 z k (8 * k) hT hi0 hz0 hz1 hz2 hzk hk v R.length (flatK R) hs hO.own ⟨c, 0, none⟩ 1 1 (y.map (Value.int .i64)) hx (by simp [hy]) (fun j u hj => ?_) (fun u hu => ?_) (by unfold maxLen; omega) (by omega) hB ?_
  · have hjk : j < k := by
      have := (List.getElem?_eq_some_iff.1 hj).1
      simpa [hy] using this
    rw [add0, hc j hjk]
    rw [List.getElem?_map, List.getElem?_eq_getElem (by rw [hy]; exact hjk)] at hj
    simp only [Option.map_some] at hj
    rw [← hj]
    simp [List.getD_eq_getElem?_getD, List.getElem?_eq_getElem (show j < y.length by rw [hy]; exact hjk)]
  · rw [List.mem_map] at hu
    obtain ⟨b, _, rfl⟩ := hu
    rfl
  · intro v' w' O1 G1 _
    have O2 : KRow w' B T k v' (R ++ [y]) := by
      refine ⟨?_, fun x hx => ?_⟩
      · have e1 : (R ++ [y]).length = R.length + 1 := by simp
        have e2 : flatK (R ++ [y]) = flatK R ++ y.map (Value.int .i64) := by unfold flatK; simp
        rw [e1, e2]
        exact O1
      · rcases List.mem_append.1 hx with h | h
        · exact hO.each x h
        · simp at h; subst h; exact hy
    exact hK v' w' O2 ((Below.refl _ _).grown G1 hB (fun j hj => (hO.own.lt j hj).1)) G1
end Go.Proofs.Ytacmphckmjangaa
