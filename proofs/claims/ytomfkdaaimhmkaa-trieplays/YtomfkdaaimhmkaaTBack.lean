/- A map from numbers to yes or no; what is left of rows that are put and dropped. -/
import Derived.Test.YtomfkdaaimhmkaaTDrop
import Derived.Test.YtomfkdaaimhmkaaTOrder
namespace Go.Proofs.Ytomfkdaaimhmkaa
open Go.ChangeShapes Go.WideShapes Go.ChangeAt Go.RowKit Go.Maps
theorem zeroB (w : World) : (zeroValue 4).run Try.prog w = .ok (.bool false) w := by kernel_rfl
/-- Block b is a map of numbers to yes or no. -/
def KOf (w : World) (b n : Nat) (f : Int → Bool) : Prop :=
  ∃ D : DataW Value, w.ownsMap Try.prog 3 rdV b n D ∧ ∀ x, D.atKey (.int .i64 x) (.held (.bool false)) = .held (.bool (f x))
theorem KOf.look {w : World} {b n : Nat} {f : Int → Bool} (h : KOf w b n f) (x : Int) (hx : (Lit.int .i64 x).wf = true) :
    (Instr.lookup 60 (.map (some b)) (.int .i64 x) false).run Try.prog w = .ok (.bool (f x)) w := by
  obtain ⟨D, hown, hat⟩ := h
  obtain ⟨v, ps, hrun, hv⟩ := hown.lookup lawI Try.underlying60 (zeroB w) (zd := .held (.bool false)) (zp := []) rfl (keyOf_int_mk Try.underlying3 hx)
  rw [hat x] at hv
  simp only [rdV, Option.some.injEq, Prod.mk.injEq, DataW.held.injEq] at hv
  rw [hrun, hv.1]
theorem KOf.made (w : World) : KOf (w.alloc (.map #[] 0)) w.heap.size 0 (fun _ => false) :=
  ⟨.map [], World.ownsMap_made w _ _ _, fun x => by simp [DataW.atKey]⟩
theorem KOf.store {w : World} {b n : Nat} {f : Int → Bool} (h : KOf w b n f) (hn : n < maxLen) (x : Int) (hx : (Lit.int .i64 x).wf = true) (v : Bool) :
    ∃ w', (Instr.mapUpdate 60 (.map (some b)) (.int .i64 x) (.bool v)).run Try.prog w = .ok () w' ∧ KOf w' b (n + 1) (fun y => if y = x then v else f y) ∧ w.mapTurned w' b := by
  obtain ⟨D, hown, hat⟩ := h
  have hm := hown.isMap
  obtain ⟨w', hrun, hown', hg⟩ := hown.store lawI Try.underlying60 hn (keyOf_int_mk Try.underlying3 hx) (val := .bool v) (d := .held (.bool v)) (ps := []) rfl
  refine ⟨w', hrun, ⟨_, hown', fun y => ?_⟩, hg⟩
  show _ = DataW.held (Value.bool (if y = x then v else f y))
  by_cases e : y = x
  · subst e
    rw [if_pos rfl, atKey_put_same hm (show WideAt.IsKeyLit (.int .i64 y) from trivial)]
  · rw [if_neg e, atKey_put_other (by simpa using e), hat y]
theorem KOf.keep {w w' : World} {b n : Nat} {f : Int → Bool} (h : KOf w b n f) (hb : w'.heap[b]? = w.heap[b]?) : KOf w' b n f := by
  obtain ⟨D, ⟨es, clock, h1, F, hs, hD⟩, hat⟩ := h
  exact ⟨D, ⟨es, clock, hb.trans h1, F, hs, hD⟩, hat⟩
theorem KOf.lt {w : World} {b n : Nat} {f : Int → Bool} (h : KOf w b n f) : b < w.heap.size := by
  obtain ⟨D, hown, _⟩ := h
  exact hown.lt
theorem TA.cnt_eq {w w' : World} {B B' tb tb' NB NB' c d : Nat} {S S' : TS} {vl : List Int → Option Int} (h : TA w B tb S vl NB c) (k : TA w' B' tb' S' vl NB' d) : c = d := by
  obtain ⟨L, l1, l2, l3⟩ := h.ls
  obtain ⟨M, m1, m2, m3⟩ := k.ls
  have h1 := nodup_le L M l1 (fun x hx => (m3 x).2 ((l3 x).1 hx))
  have h2 := nodup_le M L m1 (fun x hx => (l3 x).2 ((m3 x).1 hx))
  omega
/-- Two tries, and which of the rows are in both. -/
structure Bk (w0 wr : World) (Sa Sb : TS) (va vs : List Int → Option Int) (N c d m : Nat) (f : Int → Bool) : Prop where
  duo : Duo w0 wr Sa Sb va vs N c d
  k : KOf wr (w0.heap.size + 1 + 1) m f
  na : ¬ Sa.has (w0.heap.size + 1 + 1)
  nb : ¬ Sb.has (w0.heap.size + 1 + 1)
theorem Bk.below {w0 wr w' : World} {Sa Sb : TS} {va vs : List Int → Option Int} {N c d m : Nat} {f : Int → Bool} (h : Bk w0 wr Sa Sb va vs N c d m f) (hb : Below wr.heap.size wr w') : Bk w0 w' Sa Sb va vs N c d m f :=
  ⟨h.duo.below hb, h.k.keep (hb.block _ h.k.lt), h.na, h.nb⟩
theorem Bk.putA {w0 wr w' : World} {Sa Sb Sa' : TS} {va vb va' : List Int → Option Int} {N M c d c' m : Nat} {f : Int → Bool} (h : Bk w0 wr Sa Sb va vb N c d m f) (T : TA w' w0.heap.size w0.heap.size Sa' va' M c') (O : Own Sa wr Sa' w' 128) (hB : Below w0.heap.size wr w') (hNM : N ≤ M) : Bk w0 w' Sa' Sb va' vb M c' d m f :=
  ⟨h.duo.putA T O hB hNM, h.k.keep (O.kept _ h.k.lt h.na), fun e => by rcases O.mine _ e with a | a; exact h.na a; have := h.k.lt; omega, h.nb⟩
theorem Bk.putB {w0 wr w' : World} {Sa Sb Sb' : TS} {va vb vb' : List Int → Option Int} {N M c d d' m : Nat} {f : Int → Bool} (h : Bk w0 wr Sa Sb va vb N c d m f) (T : TA w' w0.heap.size (w0.heap.size + 1) Sb' vb' M d') (O : Own Sb wr Sb' w' 128) (hB : Below w0.heap.size wr w') (hNM : N ≤ M) : Bk w0 w' Sa Sb' va vb' M c d' m f :=
  ⟨h.duo.putB T O hB hNM, h.k.keep (O.kept _ h.k.lt h.nb), h.na, fun e => by rcases O.mine _ e with a | a; exact h.nb a; have := h.k.lt; omega⟩
theorem Bk.store {w0 wr w' : World} {Sa Sb : TS} {va vs : List Int → Option Int} {N c d m : Nat} {f f' : Int → Bool} (h : Bk w0 wr Sa Sb va vs N c d m f) (k : KOf w' (w0.heap.size + 1 + 1) (m + 1) f') (ht : wr.mapTurned w' (w0.heap.size + 1 + 1)) : Bk w0 w' Sa Sb va vs N c d (m + 1) f' := by
  have hG := ht.grown
  have hk : ∀ x, x < wr.heap.size → x ≠ w0.heap.size + 1 + 1 → w'.heap[x]? = wr.heap[x]? := fun x hx hb => hG.block x hx (by simpa using hb)
  refine ⟨⟨h.duo.a.keep (fun x hx => hk x (h.duo.a.has_lt hx) (fun e => h.na (e ▸ hx))), h.duo.b.keep (fun x hx => hk x (h.duo.b.has_lt hx) (fun e => h.nb (e ▸ hx))), h.duo.ap, h.duo.bel.grown hG h.duo.bel.size (fun j hj => by injection hj with hj; omega)⟩, k, h.na, h.nb⟩
theorem bk_new (w : World) : ∃ Sa Sb, Bk w (((w.alloc Z28).alloc Z28).alloc (.map #[] 0)) Sa Sb (fun _ => none) (fun _ => none) 0 0 0 0 (fun _ => false) := by
  obtain ⟨Sa, Sb, D⟩ := duo_new w
  have e : ((w.alloc Z28).alloc Z28).heap.size = w.heap.size + 1 + 1 := by simp
  have K := KOf.made ((w.alloc Z28).alloc Z28)
  rw [e] at K
  exact ⟨Sa, Sb, D.below (below_alloc _ _), K, fun h => by have := D.a.has_lt h; omega, fun h => by have := D.b.has_lt h; omega⟩
/-- What was put beside vs: rows of W. -/
def Mix (va vs : List Int → Option Int) (W : Nat → List Int) (P : Nat → Prop) : Prop := ∀ q, va q = vs q ∨ (vs q = none ∧ ∃ j, P j ∧ q = W j)
theorem Mix.refl (vs : List Int → Option Int) (W : Nat → List Int) (P : Nat → Prop) : Mix vs vs W P := fun _ => Or.inl rfl
theorem Mix.mono {va vs : List Int → Option Int} {W : Nat → List Int} {P Q : Nat → Prop} (h : Mix va vs W P) (k : ∀ j, P j → vs (W j) = none → Q j) : Mix va vs W Q := fun q => by
  rcases h q with a | ⟨a, j, hj, e⟩
  · exact Or.inl a
  · exact Or.inr ⟨a, j, k j hj (e ▸ a), e⟩
theorem Mix.put {va vs : List Int → Option Int} {W : Nat → List Int} {P : Nat → Prop} (h : Mix va vs W P) {i : Nat} (hi : P i) (hn : vs (W i) = none) (v : Int) : Mix (putV va (W i) v) vs W P := fun q => by
  unfold putV
  split
  · exact h q
  · split
    · exact h q
    · by_cases e : q = W i
      · exact Or.inr ⟨e ▸ hn, i, hi, e⟩
      · rw [upd_other _ _ e]; exact h q
theorem Mix.drop {va vs : List Int → Option Int} {W : Nat → List Int} {P Q : Nat → Prop} (h : Mix va vs W P) {A : List Int} (hn : vs A = none) (k : ∀ j, P j → W j ≠ A → Q j) : Mix (upd va A none) vs W Q := fun q => by
  by_cases e : q = A
  · rw [e, upd_same]; exact Or.inl hn.symm
  · rw [upd_other _ _ e]
    rcases h q with a | ⟨a, j, hj, e2⟩
    · exact Or.inl a
    · exact Or.inr ⟨a, j, k j hj (fun h => e (e2.trans h)), e2⟩
theorem Mix.stay {va vs : List Int → Option Int} {W : Nat → List Int} {P Q : Nat → Prop} (h : Mix va vs W P) {A : List Int} (hn : va A = none) (hs : vs A = none) (k : ∀ j, P j → W j ≠ A → Q j) : Mix va vs W Q := fun q => by
  by_cases e : q = A
  · rw [e]; exact Or.inl (hn.trans hs.symm)
  · rcases h q with a | ⟨a, j, hj, e2⟩
    · exact Or.inl a
    · exact Or.inr ⟨a, j, k j hj (fun h => e (e2.trans h)), e2⟩
theorem Mix.eq {va vs : List Int → Option Int} {W : Nat → List Int} {P : Nat → Prop} (h : Mix va vs W P) (k : ∀ j, ¬ P j) : va = vs := funext fun q => by
  rcases h q with a | ⟨_, j, hj, _⟩
  · exact a
  · exact absurd hj (k j)
theorem IOwn.fit {w : World} {B g n c : Nat} {A : List Int} (h : IOwn w B (.slice (some ⟨g, 0, none⟩) n c) n A) (hs : Sm A) : n ≤ c ∧ c ≤ 9223372036854775807 := by
  obtain ⟨ao, c', e, R⟩ := h.arg hs
  injection e with e1 e2 e3
  subst e3
  exact ⟨R.fit, R.max⟩
end Go.Proofs.Ytomfkdaaimhmkaa
