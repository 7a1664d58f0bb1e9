/- A number more behind a row of the call's own: in the row's own room, or in new memory; the row itself stays. -/
import Derived.Test.YtomfkdaaimhmkaaTOrd
namespace Go.Proofs.Ytomfkdaaimhmkaa
open Go.ChangeShapes Go.WideShapes Go.ChangeAt Go.RowKit Go.Maps
/-- A world in which the longer row is there has the shorter one. -/
def Back (w' : World) (rv v' : Value) (n : Nat) (A : List Int) (k : Int) : Prop :=
  ∀ u, IOwn u 0 v' (n + 1) (A ++ [k]) → (∀ x, rv.ownBlock = some x → v'.ownBlock ≠ some x → u.heap[x]? = w'.heap[x]?) → IOwn u 0 rv n A
theorem run_app (w : World) (rv : Value) (n : Nat) (A : List Int) (k : Int) (ty : TypeId) (hO : IOwn w 0 rv n A) (bo : Nat) (hX : w.cell? ⟨bo, 0, none⟩ = some (.int .i64 k)) (hn : n + 1 ≤ 1048576) :
    ∃ v' w', (Builtin.append_ #[23, 23] ty #[rv, .slice (some ⟨bo, 0, none⟩) 1 1]).run Try.prog w = .ok v' w' ∧ IOwn w' 0 v' (n + 1) (A ++ [k]) ∧ Below 0 w w' ∧
      (∀ x, x < w.heap.size → rv.ownBlock ≠ some x → w'.heap[x]? = w.heap[x]?) ∧ (∀ x, v'.ownBlock = some x → rv.ownBlock = some x ∨ w.heap.size ≤ x) ∧ Back w' rv v' n A k := by
  obtain ⟨i0, hi, hz0, hz1, hz2⟩ := info_parts Try.infoInt
  have hl1 : ([Value.int .i64 k] : List Value).length = 1 * 1 := rfl
  have hnews : ∀ j u, ([Value.int .i64 k] : List Value)[j]? = some u → w.cell? ((⟨bo, 0, none⟩ : Addr).add j) = some u := fun j u hj => by
    match j, hj with
    | 0, hj =>
      simp at hj
      subst hj
      have e2 : (Addr.mk bo 0 none).add 0 = ⟨bo, 0, none⟩ := by simp [Addr.add]
      rw [e2]; exact hX
  obtain ⟨v', w', hr, h2, h3, h4, h5⟩ := run_append_own_at (P := Try.prog) w 0 23 ty 3 i0 (.int .i64 0) 1 8 Try.underlying23 hi hz0 hz1 hz2 rfl (by decide) rv n _ hO ⟨bo, 0, none⟩ 1 1 [.int .i64 k] hl1 hnews (ints_oneCell .i64 [k]) (by unfold maxLen; omega) (by omega) (Nat.zero_le _)
  have eA : A.map (Value.int .i64) ++ [.int .i64 k] = (A ++ [k]).map (Value.int .i64) := by simp
  rw [eA] at h2
  refine ⟨v', w', hr, h2, ⟨h3.os, h3.tape, h3.output, h3.size, fun k hk => absurd hk (by omega)⟩, fun x hx hne => h3.block x hx (fun e => hne e.symm), fun x hx => ?_, ?_⟩
  · rcases h5 with e | e
    · rw [e] at hx; exact Or.inl hx
    · rw [e] at hx; injection hx with hx; exact Or.inr (by omega)
  intro u hu hk
  rcases hO.2 with ⟨rfl, rfl⟩ | ⟨g, cap, cur, rfl, hbg, hg, hnc, hcm, hcs, htake⟩
  · have hx : A = [] := by have := hO.1; simpa using this
    subst hx
    exact World.ownsRow_nil u 0 _ _
  · have hxl : (A.map (Value.int .i64)).length = n * 1 := hO.1
    by_cases hroom : n + 1 ≤ cap
    · have hfit : n * i0.size + ([Value.int .i64 k] : List Value).length ≤ cur.size := by rw [hz1, hcs]; simp; omega
      have hr2 := run_append_room (P := Try.prog) w 23 ty 3 i0 Try.underlying23 hi g n cap cur hg ⟨bo, 0, none⟩ 1 1 [.int .i64 k] (by rw [hz1]; rfl) hnews (ints_oneCell .i64 [k]) hroom hfit
      rw [hr] at hr2
      injection hr2 with e1 e2
      subst e1
      rcases hu.2 with ⟨h, _⟩ | ⟨g', cap', cur', hv', hb', hh', hn', hm', hs', ht'⟩
      · cases h
      · injection hv' with e1 e2 e3
        injection e1 with e1
        injection e1 with e1 _ _
        subst e1 e3
        refine ⟨hxl, .inr ⟨g, cap, cur', rfl, Nat.zero_le _, hh', hnc, hcm, hs', ?_⟩⟩
        have : (cur'.toList.take ((n + 1) * 1)).take (n * 1) = cur'.toList.take (n * 1) := by rw [List.take_take, Nat.min_eq_left (by omega)]
        rw [← this, ht', ← eA, ← hxl, List.take_left]
    · have holds : ∀ j u, (A.map (Value.int .i64))[j]? = some u → w.cell? ((⟨g, 0, none⟩ : Addr).add j) = some u := World.ownsRow.cells hO (g := g) rfl
      have hglt : g < w.heap.size := (World.ownsRow.lt hO g rfl).2
      obtain ⟨hne, hold⟩ : v'.ownBlock = some w.heap.size ∧ w'.heap[g]? = w.heap[g]? := by
        have hr2 := run_append_grow (P := Try.prog) w 23 ty 3 i0 (.int .i64 0) Try.underlying23 hi hz0 ⟨g, 0, none⟩ n cap _ (by rw [hz1]; exact hxl) holds ⟨bo, 0, none⟩ 1 1 [.int .i64 k] (by rw [hz1]; rfl) hnews (by omega) (by omega) (growslice_fits (by omega) (by rw [hz2]; omega))
        rw [hr] at hr2
        injection hr2 with e1 e2
        exact ⟨by rw [e1]; rfl, by rw [e2]; exact Below.heap_alloc w.drew _ g hglt⟩
      have e : u.heap[g]? = w.heap[g]? := by
        have hh3 := hk g rfl (by rw [hne]; intro h; injection h with h; omega)
        rw [hh3]
        exact hold
      exact ⟨hxl, .inr ⟨g, cap, cur, rfl, Nat.zero_le _, e.trans hg, hnc, hcm, hcs, htake⟩⟩
theorem wp_app {o : Oper} {a : Act} {K : Act → World → Prop} {Q : Exit → Act → World → Prop} {w : World} (s x : Operand)
    (ho : o.op = .call { callee := .builtin .append, args := #[s, x], argTypes := #[23, 23] })
    (rv : Value) (n : Nat) (A : List Int) (k : Int) (hs : a.eval s = rv) (hO : IOwn w 0 rv n A) (bo : Nat) (hx : a.eval x = .slice (some ⟨bo, 0, none⟩) 1 1) (hX : w.cell? ⟨bo, 0, none⟩ = some (.int .i64 k)) (hn : n + 1 ≤ 1048576)
    (h : ∀ v' w', IOwn w' 0 v' (n + 1) (A ++ [k]) → Below 0 w w' → (∀ x, x < w.heap.size → rv.ownBlock ≠ some x → w'.heap[x]? = w.heap[x]?) → (∀ x, v'.ownBlock = some x → rv.ownBlock = some x ∨ w.heap.size ≤ x) → Back w' rv v' n A k → K (a.put o.dst v') w') : o.wp Try.prog a w K Q := by
  obtain ⟨v', w', hr, h2, h3, h4, h5, h6⟩ := run_app w rv n A k o.type hO bo hX hn
  unfold Oper.wp execOp
  simp only [ho, resolve, invoke, builtin, Sem.run_bind, Sem.run_pure, Result.andThen_ok, List.map_toArray, List.map_cons, List.map_nil, hs, hx, hr]
  exact h v' w' h2 h3 h4 h5 h6
end Go.Proofs.Ytomfkdaaimhmkaa
