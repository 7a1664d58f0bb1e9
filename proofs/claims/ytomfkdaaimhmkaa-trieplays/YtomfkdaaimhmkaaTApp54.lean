/- An entry more behind a list of the document's entries. -/
import Derived.Test.YtomfkdaaimhmkaaTTold
namespace Go.Proofs.Ytomfkdaaimhmkaa
open Go.ChangeShapes Go.WideShapes Go.ChangeAt Go.RowKit Go.Maps
theorem wp_app54 {ops : Array Oper} {rest : List Oper} {o : Oper} {a : Act} {Q : Exit → Act → World → Prop} {w : World} (hgd : o.guard = none) (s x : Operand)
    (ho : o.op = .call { callee := .builtin .append, args := #[s, x], argTypes := #[29, 29] })
    (v : Value) (F : List RE) (e : RE) (B0 : Nat) (hs : a.eval s = v) (hO : w.ownsRow B0 54 2 v F.length (flatE F)) (bo : Nat) (hx : a.eval x = .slice (some ⟨bo, 0, none⟩) 1 1) (h0 : w.cell? ⟨bo, 0, none⟩ = some e.1) (h1 : w.cell? ⟨bo, 1, none⟩ = some (.int .i64 e.2.2)) (hc1 : e.1.oneCell' = true) (hl : F.length ≤ 100000) (hB : B0 ≤ w.heap.size)
    (h : ∀ g' c' w', w'.ownsRow B0 54 2 (.slice (some ⟨g', 0, none⟩) (F.length + 1) c') (F.length + 1) (flatE (F ++ [e])) → Below B0 w w' → (∀ x, x < w.heap.size → v.ownBlock ≠ some x → w'.heap[x]? = w.heap[x]?) → wpList Try.prog ops Q rest (a.put o.dst (.slice (some ⟨g', 0, none⟩) (F.length + 1) c')) w') : wpList Try.prog ops Q (o :: rest) a w := by
  obtain ⟨i0, hi, hz0, hz1, hz2⟩ := info_parts Try.infoEnt2
  refine wpList_append_own _ hgd s x 29 ho B0 54 i0 (.agg #[.slice none 0 0, .int .i64 0]) 2 32 Try.underlying29 hi hz0 hz1 hz2 rfl (by decide) v F.length _ hs hO ⟨bo, 0, none⟩ 1 1 [e.1, .int .i64 e.2.2] hx rfl (fun j u hj => by
      match j, hj with
      | 0, hj =>
        simp at hj; subst hj
        have e2 : (Addr.mk bo 0 none).add 0 = ⟨bo, 0, none⟩ := by simp [Addr.add]
        rw [e2]; exact h0
      | 1, hj =>
        simp at hj; subst hj
        have e2 : (Addr.mk bo 0 none).add 1 = ⟨bo, 1, none⟩ := by simp [Addr.add]
        rw [e2]; exact h1) (fun u hu => by
      simp only [List.mem_cons, List.not_mem_nil, or_false] at hu
      rcases hu with rfl | rfl
      · exact hc1
      · rfl) (by unfold maxLen; omega) (by omega) hB ?_
  intro v' w' h2 h3 h4
  obtain ⟨g', c', rfl⟩ : ∃ g' c', v' = .slice (some ⟨g', 0, none⟩) (F.length + 1) c' := by
    rcases h2.2 with ⟨_, h5⟩ | ⟨g, cap, cur, hv, _⟩
    · omega
    · exact ⟨_, _, hv⟩
  refine h g' c' w' ?_ ((Below.refl _ _).grown h3 hB (fun k hk => (World.ownsRow.lt hO k hk).1)) (fun x hx hne => h3.block x hx (fun e => hne e.symm))
  rw [flatE_snoc]; exact h2
end Go.Proofs.Ytomfkdaaimhmkaa
