/- LeasePlays: each kind of call, on both sides. Written by tools/genlplays.py. -/
import Derived.Test.YtacmphckmjangaaLpMem
namespace Go.Proofs.Ytacmphckmjangaa
open Go.ChangeShapes Go.WideShapes Go.ChangeAt Go.RowKit Go.Maps
theorem last_le (now : Int) (R : List (Int × Hg)) : (lastM now R).length ≤ R.length := List.length_filter_le _ _
theorem del_le (R : List (Int × Hg)) (x : Int) : (delM R x).length ≤ R.length := List.length_filter_le _ _
theorem lk_grant (ep q now te x ho : Int) (R : List (Int × Hg)) (ha : Apt R) (hl : R.length ≤ 10000) (hx : -9223372036854775808 ≤ x ∧ x ≤ 9223372036854775807) (hep : -9223372036854775808 ≤ ep) :
    ∃ (ep' num code : Int) (R' : List (Int × Hg)), Apt R' ∧ -9223372036854775808 ≤ ep' ∧ R'.length ≤ R.length + 1 ∧
    (∀ (wv : World) (mo : Option Nat), HgM wv mo R → Calls Try.prog 6 #[.agg #[.int .i64 ep, .int .i64 q, .map mo], .int .i64 now, .int .i64 te, .int .i64 x, .int .i64 ho] wv fun e w' => ∃ mo', e = .returned (.tuple #[.agg #[.int .i64 ep', .int .i64 q, .map mo'], .int .i64 num, .int .i64 code]) ∧ HgM w' mo' R' ∧ Below wv.heap.size wv w') ∧
    (∀ (wv : World) (ao : Option Addr) (c : Nat), HRow wv 0 (.slice ao R.length c) R → Calls Try.prog 7 #[.agg #[.int .i64 ep, .int .i64 q, .slice ao R.length c], .int .i64 now, .int .i64 te, .int .i64 x, .int .i64 ho] wv fun e w' => ∃ a' c', e = .returned (.tuple #[.agg #[.int .i64 ep', .int .i64 q, .slice a' R'.length c'], .int .i64 num, .int .i64 code]) ∧ HRow w' 0 (.slice a' R'.length c') R' ∧ Below wv.heap.size wv w') := by
  by_cases hb : mayN ep q now te x ho R = 0
  · have h1 := insG_len (x, (⟨ho, ep + 1, now + te⟩ : Hg)) (lastM now R)
    have h2 := last_le now R
    refine ⟨ep + 1, ep + 1, 0, insG (x, ⟨ho, ep + 1, now + te⟩) (lastM now R), (ha.last now).ins _, by omega, by omega, fun wv mo hM => (lgrant_ok ep q mo now te x ho R wv hM (by omega) hx hep hb).mono fun e w' ⟨b, e1, n1, _, B⟩ => ⟨some b, e1, Or.inr ⟨b, rfl, n1.perm (insG_perm (x, ⟨ho, ep + 1, now + te⟩) (lastM now R))⟩, B⟩, ?_⟩
    exact fun wv ao c hR => (rgrant_ok ep q now te x ho ao c R wv hR ha hl hep hb).mono fun e w' ⟨v, e1, n1, B⟩ => by
      obtain ⟨a, c, rfl⟩ := HRow.shape n1
      exact ⟨a, c, e1, n1, B⟩
  · exact ⟨ep, 0, mayN ep q now te x ho R, R, ha, hep, by omega, fun wv mo hM => (lgrant_bad ep q mo now te x ho R wv hM (by omega) hx hb).mono fun e w' ⟨b, e1, n1, _, B⟩ => ⟨some b, e1, Or.inr ⟨b, rfl, n1⟩, B⟩, fun wv ao c hR => (rgrant_bad ep q now te x ho ao c R wv hR ha hl hb).mono fun e w' ⟨e1, n1, B⟩ => ⟨ao, c, e1, n1, B⟩⟩
theorem lk_let (ep q now x ho e2 : Int) (R : List (Int × Hg)) (ha : Apt R) (hl : R.length ≤ 10000) (hx : -9223372036854775808 ≤ x ∧ x ≤ 9223372036854775807) :
    ∃ (code : Int) (R' : List (Int × Hg)), Apt R' ∧ R'.length ≤ R.length + 1 ∧
    (∀ (wv : World) (mo : Option Nat), HgM wv mo R → Calls Try.prog 9 #[.agg #[.int .i64 ep, .int .i64 q, .map mo], .int .i64 now, .int .i64 x, .int .i64 ho, .int .i64 e2] wv fun e w' => ∃ mo', e = .returned (.tuple #[.agg #[.int .i64 ep, .int .i64 q, .map mo'], .int .i64 code]) ∧ HgM w' mo' R' ∧ Below wv.heap.size wv w') ∧
    (∀ (wv : World) (ao : Option Addr) (c : Nat), HRow wv 0 (.slice ao R.length c) R → Calls Try.prog 10 #[.agg #[.int .i64 ep, .int .i64 q, .slice ao R.length c], .int .i64 now, .int .i64 x, .int .i64 ho, .int .i64 e2] wv fun e w' => ∃ a' c', e = .returned (.tuple #[.agg #[.int .i64 ep, .int .i64 q, .slice a' R'.length c'], .int .i64 code]) ∧ HRow w' 0 (.slice a' R'.length c') R' ∧ Below wv.heap.size wv w') := by
  by_cases hb : letN (whoL now R x) ho e2 = 0
  · have h1 := del_le (lastM now R) x
    have h2 := last_le now R
    refine ⟨0, delM (lastM now R) x, (ha.last now).del x, by omega, fun wv mo hM => (llet_ok ep q mo now x ho e2 R wv hM (by omega) hx hb).mono fun e w' ⟨b, e1, n1, _, B⟩ => ⟨some b, e1, Or.inr ⟨b, rfl, n1⟩, B⟩, ?_⟩
    exact fun wv ao c hR => (rlet_ok ep q now x ho e2 ao c R wv hR ha hl hb).mono fun e w' ⟨v, e1, n1, B⟩ => by
      obtain ⟨a, c, rfl⟩ := HRow.shape n1
      exact ⟨a, c, e1, n1, B⟩
  · exact ⟨letN (whoL now R x) ho e2, R, ha, by omega, fun wv mo hM => (llet_bad ep q mo now x ho e2 R wv hM (by omega) hx hb).mono fun e w' ⟨b, e1, n1, _, B⟩ => ⟨some b, e1, Or.inr ⟨b, rfl, n1⟩, B⟩, fun wv ao c hR => (rlet_bad ep q now x ho e2 ao c R wv hR ha hl hb).mono fun e w' ⟨e1, n1, B⟩ => ⟨ao, c, e1, n1, B⟩⟩
theorem lk_restart (ep q now te : Int) (R : List (Int × Hg)) :
    ∃ (q' : Int) (R' : List (Int × Hg)), Apt R' ∧ R'.length ≤ R.length + 1 ∧
    (∀ (wv : World) (mo : Option Nat), HgM wv mo R → Calls Try.prog 11 #[.agg #[.int .i64 ep, .int .i64 q, .map mo], .int .i64 now, .int .i64 te] wv fun e w' => ∃ mo', e = .returned (.agg #[.int .i64 ep, .int .i64 q', .map mo']) ∧ HgM w' mo' R' ∧ Below wv.heap.size wv w') ∧
    (∀ (wv : World) (ao : Option Addr) (c : Nat), HRow wv 0 (.slice ao R.length c) R → Calls Try.prog 12 #[.agg #[.int .i64 ep, .int .i64 q, .slice ao R.length c], .int .i64 now, .int .i64 te] wv fun e w' => ∃ a' c', e = .returned (.agg #[.int .i64 ep, .int .i64 q', .slice a' R'.length c']) ∧ HRow w' 0 (.slice a' R'.length c') R' ∧ Below wv.heap.size wv w') :=
  ⟨witN now 1099511627776 + witN te 1048576, [], List.Pairwise.nil, by simp, fun wv mo _ => (lrestart_any ep q mo now te wv).mono fun e w' ⟨e1, B⟩ => ⟨none, e1, Or.inl ⟨rfl, rfl⟩, B⟩, fun wv ao c _ => (rrestart_any ep q now te ao c R.length wv).mono fun e w' ⟨e1, B⟩ => ⟨none, 0, e1, KRow.nil _ _ _ _, B⟩⟩
end Go.Proofs.Ytacmphckmjangaa
