/- Rows of rows of one's own, two tries that keep rows by their lengths. -/
import Derived.Test.YtomfkdaaimhmkaaTLess
namespace Go.Proofs.Ytomfkdaaimhmkaa
open Go.ChangeShapes Go.WideShapes Go.ChangeAt Go.RowKit Go.Maps
theorem Try.infoSl : (Try.prog.info? 23).map (fun i => (i.zero, i.size, i.bytes)) = some (some (.slice none 0 0), 1, 24) := by kernel_rfl
abbrev RR := Value × List Int
/-- v is a row of rows of one's own. -/
structure RW (w : World) (B : Nat) (v : Value) (R : List RR) : Prop where
  row : w.ownsRow B 23 1 v R.length (R.map (·.1))
  own : ∀ r ∈ R, IOwn w B r.1 r.2.length r.2
  sm : ∀ r ∈ R, Sm r.2
  le : ∀ r ∈ R, r.2.length ≤ 140
  fm : ∀ r ∈ R, ∃ b c, r.1 = .slice (some ⟨b, 0, none⟩) r.2.length c
def rin (v : Value) (R : List RR) (x : Nat) : Prop := v.ownBlock = some x ∨ ∃ r ∈ R, r.1.ownBlock = some x
theorem RW.lt {w : World} {B : Nat} {v : Value} {R : List RR} (h : RW w B v R) {x : Nat} (hx : rin v R x) : B ≤ x ∧ x < w.heap.size := by
  rcases hx with a | ⟨e, he, a⟩
  · exact World.ownsRow.lt h.row x a
  · exact World.ownsRow.lt (h.own e he) x a
theorem RW.keep {w w' : World} {B : Nat} {v : Value} {R : List RR} (h : RW w B v R) (hb : ∀ x, rin v R x → w'.heap[x]? = w.heap[x]?) : RW w' B v R :=
  ⟨ownsRow_keep h.row (fun x hx => hb x (Or.inl hx)), fun e he => (h.own e he).keep (fun x hx => hb x (Or.inr ⟨e, he, hx⟩)), h.sm, h.le, h.fm⟩
theorem RW.below {w w' : World} {B : Nat} {v : Value} {R : List RR} (h : RW w B v R) (hb : Below w.heap.size w w') : RW w' B v R := h.keep (fun x hx => hb.block x (h.lt hx).2)
theorem RW.cells {w : World} {B g c : Nat} {R : List RR} (h : RW w B (.slice (some ⟨g, 0, none⟩) R.length c) R) {t : Nat} (ht : t < R.length) : w.cell? ⟨g, t, none⟩ = some R[t].1 := by
  have hf : (R.map (·.1))[t]? = some R[t].1 := by rw [List.getElem?_map, List.getElem?_eq_getElem ht]; rfl
  have c0 := World.ownsRow.cells h.row (g := g) rfl t _ hf
  have e2 : (Addr.mk g 0 none).add t = ⟨g, t, none⟩ := by simp [Addr.add]; intro h; exact h.symm
  rw [e2] at c0
  exact c0
theorem wp_appR {ops : Array Oper} {rest : List Oper} {o : Oper} {a : Act} {Q : Exit → Act → World → Prop} {w : World} (hgd : o.guard = none) (s x : Operand)
    (ho : o.op = .call { callee := .builtin .append, args := #[s, x], argTypes := #[56, 56] })
    (v : Value) (R : List RR) (A : List Int) (b c B : Nat) (hs : a.eval s = v) (hR : RW w B v R) (bo : Nat) (hx : a.eval x = .slice (some ⟨bo, 0, none⟩) 1 1) (h0 : w.cell? ⟨bo, 0, none⟩ = some (.slice (some ⟨b, 0, none⟩) A.length c)) (hO : IOwn w B (.slice (some ⟨b, 0, none⟩) A.length c) A.length A) (hq : Sm A) (hle : A.length ≤ 140) (hl : R.length ≤ 100) (hB : B ≤ w.heap.size)
    (h : ∀ g' c' w', RW w' B (.slice (some ⟨g', 0, none⟩) (R.length + 1) c') (R ++ [(.slice (some ⟨b, 0, none⟩) A.length c, A)]) → Below B w w' → (∀ x, x < w.heap.size → v.ownBlock ≠ some x → w'.heap[x]? = w.heap[x]?) → wpList Try.prog ops Q rest (a.put o.dst (.slice (some ⟨g', 0, none⟩) (R.length + 1) c')) w') : wpList Try.prog ops Q (o :: rest) a w := by
  obtain ⟨i0, hi, hz0, hz1, hz2⟩ := info_parts Try.infoSl
  refine wpList_append_own _ hgd s x 56 ho B 23 i0 (.slice none 0 0) 1 24 Try.underlying56 hi hz0 hz1 hz2 rfl (by decide) v R.length _ hs hR.row ⟨bo, 0, none⟩ 1 1 [.slice (some ⟨b, 0, none⟩) A.length c] hx rfl (fun j u hj => by
      match j, hj with
      | 0, hj =>
        simp at hj; subst hj
        have e2 : (Addr.mk bo 0 none).add 0 = ⟨bo, 0, none⟩ := by simp [Addr.add]
        rw [e2]; exact h0) (fun u hu => by
      simp only [List.mem_cons, List.not_mem_nil, or_false] at hu
      rw [hu]; rfl) (by unfold maxLen; omega) (by omega) hB ?_
  intro v' w' h2 h3 h4
  obtain ⟨g', c', rfl⟩ : ∃ g' c', v' = .slice (some ⟨g', 0, none⟩) (R.length + 1) c' := by
    rcases h2.2 with ⟨_, h5⟩ | ⟨g, cap, cur, hv, _⟩
    · omega
    · exact ⟨_, _, hv⟩
  have kp : ∀ x, x < w.heap.size → v.ownBlock ≠ some x → w'.heap[x]? = w.heap[x]? := fun x hx hne => h3.block x hx (fun e => hne e.symm)
  have hn : ∀ {P : RR → Prop}, (∀ r ∈ R, P r) → P (.slice (some ⟨b, 0, none⟩) A.length c, A) → ∀ r ∈ R ++ [(.slice (some ⟨b, 0, none⟩) A.length c, A)], P r := fun h1 h2 r hr => by
    rcases List.mem_append.1 hr with a | a
    · exact h1 r a
    · rw [List.mem_singleton] at a; rw [a]; exact h2
  refine h g' c' w' ⟨?_, hn (fun r hr => (hR.own r hr).keep (fun x hx => kp x (World.ownsRow.lt (hR.own r hr) x hx).2 (own_apart (hR.own r hr) hR.row (by decide) x hx))) (hO.keep (fun x hx => kp x (World.ownsRow.lt hO x hx).2 (own_apart hO hR.row (by decide) x hx))), hn hR.sm hq, hn hR.le hle, hn hR.fm ⟨b, c, rfl⟩⟩ ((Below.refl _ _).grown h3 hB (fun k hk => (World.ownsRow.lt hR.row k hk).1)) kp
  have e1 : (R ++ [((.slice (some ⟨b, 0, none⟩) A.length c : Value), A)]).length = R.length + 1 := by simp
  rw [e1, List.map_append]
  exact h2
/-- Rows under their lengths. -/
def wantV (L : List (List Int)) (q : List Int) : Option Int := if q ∈ L ∧ 1 ≤ q.length ∧ q.length ≤ 128 then some (q.length : Int) else none
theorem wantV_nil : wantV [] = fun _ => none := funext fun q => by unfold wantV; rw [if_neg]; rintro ⟨h, _⟩; cases h
theorem wantV_congr {L M : List (List Int)} (h : ∀ q, q ∈ L ↔ q ∈ M) : wantV L = wantV M := funext fun q => by
  unfold wantV
  by_cases e : q ∈ L ∧ 1 ≤ q.length ∧ q.length ≤ 128
  · rw [if_pos e, if_pos ⟨(h q).1 e.1, e.2⟩]
  · rw [if_neg e, if_neg (fun k => e ⟨(h q).2 k.1, k.2⟩)]
theorem wantV_put {L M : List (List Int)} {A : List Int} (h : ∀ q, q ∈ M ↔ (q ∈ L ∨ q = A)) : putV (wantV L) A (A.length : Int) = wantV M := funext fun q => by
  unfold putV
  have key : ¬ (1 ≤ A.length ∧ A.length ≤ 128) → wantV L q = wantV M q := fun hn => by
    unfold wantV
    by_cases e : q ∈ M ∧ 1 ≤ q.length ∧ q.length ≤ 128
    · rw [if_pos e]
      rcases (h q).1 e.1 with a | a
      · rw [if_pos ⟨a, e.2⟩]
      · subst a; exact absurd e.2 hn
    · rw [if_neg e, if_neg (fun k => e ⟨(h q).2 (Or.inl k.1), k.2⟩)]
  by_cases h0 : A.length = 0
  · rw [if_pos h0]; exact key (by omega)
  rw [if_neg h0]
  by_cases h1 : 128 < A.length
  · rw [if_pos h1]; exact key (by omega)
  rw [if_neg h1]
  by_cases e : q = A
  · subst e
    rw [upd_same]
    unfold wantV
    rw [if_pos ⟨(h q).2 (Or.inr rfl), by omega, by omega⟩]
  · rw [upd_other _ _ e]
    unfold wantV
    by_cases k : q ∈ L ∧ 1 ≤ q.length ∧ q.length ≤ 128
    · rw [if_pos k, if_pos ⟨(h q).2 (Or.inl k.1), k.2⟩]
    · rw [if_neg k, if_neg (fun z => k ⟨((h q).1 z.1).resolve_right e, z.2⟩)]
theorem wantV_val {L : List (List Int)} {q : List Int} {v : Int} (h : wantV L q = some v) : v = (q.length : Int) := by
  unfold wantV at h
  split at h
  · injection h with h; exact h.symm
  · cases h
theorem lg_want (L : List (List Int)) (A : List Int) : ∀ i, i ≤ A.length → (lgN (wantV L) A i).2 = ((lgN (wantV L) A i).1 : Int) ∧ ∀ j, 1 ≤ j → j ≤ i → wantV L (A.take j) ≠ none → j ≤ (lgN (wantV L) A i).1
  | 0, _ => ⟨rfl, fun j h1 h2 => by omega⟩
  | i + 1, hi => by
    obtain ⟨h1, h2⟩ := lg_want L A i (by omega)
    rcases h : wantV L (A.take (i + 1)) with _ | v
    · rw [lgN_off h]
      refine ⟨h1, fun j a b c => ?_⟩
      rcases Nat.lt_or_ge i j with k | k
      · obtain rfl : j = i + 1 := by omega
        exact absurd h c
      · exact h2 j a k c
    · rw [lgN_on h]
      refine ⟨?_, fun j a b c => b⟩
      rw [wantV_val h, List.length_take]
      show ((min (i + 1) A.length : Nat) : Int) = ((i + 1 : Nat) : Int)
      rw [Nat.min_eq_left hi]
/-- Two tries side by side. -/
structure Duo (w0 wr : World) (Sa Sb : TS) (va vb : List Int → Option Int) (N c d : Nat) : Prop where
  a : TA wr w0.heap.size w0.heap.size Sa va N c
  b : TA wr w0.heap.size (w0.heap.size + 1) Sb vb N d
  ap : ∀ x, Sa.has x → ¬ Sb.has x
  bel : Below w0.heap.size w0 wr
theorem Duo.below {w0 wr w' : World} {Sa Sb : TS} {va vb : List Int → Option Int} {N c d : Nat} (h : Duo w0 wr Sa Sb va vb N c d) (hb : Below wr.heap.size wr w') : Duo w0 w' Sa Sb va vb N c d := ⟨h.a.below hb, h.b.below hb, h.ap, h.bel.trans (hb.mono h.bel.size)⟩
theorem Duo.putA {w0 wr w' : World} {Sa Sb Sa' : TS} {va vb va' : List Int → Option Int} {N M c d c' : Nat} (h : Duo w0 wr Sa Sb va vb N c d) (T : TA w' w0.heap.size w0.heap.size Sa' va' M c') (O : Own Sa wr Sa' w' 128) (hB : Below w0.heap.size wr w') (hNM : N ≤ M) : Duo w0 w' Sa' Sb va' vb M c' d := by
  obtain ⟨k1, k2⟩ := h.b.beside h.ap O
  exact ⟨T, k1.wider hNM, k2, h.bel.trans hB⟩
theorem Duo.putB {w0 wr w' : World} {Sa Sb Sb' : TS} {va vb vb' : List Int → Option Int} {N M c d d' : Nat} (h : Duo w0 wr Sa Sb va vb N c d) (T : TA w' w0.heap.size (w0.heap.size + 1) Sb' vb' M d') (O : Own Sb wr Sb' w' 128) (hB : Below w0.heap.size wr w') (hNM : N ≤ M) : Duo w0 w' Sa Sb' va vb' M c d' := by
  obtain ⟨k1, k2⟩ := h.a.beside (fun x h1 h2 => h.ap x h2 h1) O
  exact ⟨k1.wider hNM, T, fun x h1 h2 => k2 x h2 h1, h.bel.trans hB⟩
abbrev Z28 : Obj := .cells #[.map none, .bool false, .int .i64 0, .int .i64 0] 28
theorem duo_new (w : World) : ∃ Sa Sb, Duo w ((w.alloc Z28).alloc Z28) Sa Sb (fun _ => none) (fun _ => none) 0 0 0 := by
  obtain ⟨Sa, T1, h1⟩ := ta_newB w w.heap.size (Nat.le_refl _)
  obtain ⟨Sb, T2, h2⟩ := ta_newB (w.alloc Z28) w.heap.size (by simp)
  have e : (w.alloc Z28).heap.size = w.heap.size + 1 := by simp
  rw [e] at T2 h2
  refine ⟨Sa, Sb, ⟨T1.below (below_alloc _ _), T2, fun x hx hy => ?_, (below_alloc w _).alloc (by simp) _⟩⟩
  have := h1 x hx
  have := h2 x hy
  omega
theorem RW.beside {w w' : World} {B n : Nat} {v : Value} {R : List RR} {S S' : TS} (h : RW w B v R) (hd : ∀ x, rin v R x → ¬ S.has x) (o : Own S w S' w' n) : RW w' B v R ∧ ∀ x, rin v R x → ¬ S'.has x :=
  ⟨h.keep (fun x hx => o.kept x (h.lt hx).2 (hd x hx)), fun x h1 h2 => by
    rcases o.mine x h2 with a | a
    · exact hd x h1 a
    · have := (h.lt h1).2; omega⟩
end Go.Proofs.Ytomfkdaaimhmkaa
