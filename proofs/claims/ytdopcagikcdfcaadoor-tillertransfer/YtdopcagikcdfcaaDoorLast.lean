/- A region that draws its order, all of whose operations are quiet in a class of worlds but the last one, which waits for all others (a store): one walk in the order of the text serves every order. -/
import Derived.Test.YtdopcagikcdfcaaDoorKin
import Derived.Deep.Quiet
import Derived.Deep.LoopGhost
namespace Go.Proofs.YtdopcagikcdfcaaDoor
open Go.ChangeShapes Go.WideShapes Go.ChangeAt Go.RowKit
/-- The last operation, made to do nothing. -/
def mute (z : Oper) : Oper := { z with op := .move (.const (.bool false)), dst := none }
section
variable {P : Program} {l : List Oper} {z : Oper} {C : World → Prop}
theorem last_at (y : Oper) : (l ++ [y]).toArray[l.length]? = some y := by simp
theorem front_at (y : Oper) {i : Nat} (h : i < l.length) : (l ++ [y]).toArray[i]? = l[i]? := by simp [List.getElem?_append_left h]
theorem ready_mute (md : Region.Mode) (listed : Array Bool) : Region.ready md (l ++ [mute z]).toArray listed = Region.ready md (l ++ [z]).toArray listed := by
  unfold Region.ready
  have hs : (l ++ [mute z]).toArray.size = (l ++ [z]).toArray.size := by simp
  rw [hs]
  refine List.filter_congr fun i hi => ?_
  have hi' : i < l.length + 1 := by simpa using hi
  by_cases h : i < l.length
  · rw [front_at _ h, front_at _ h]
  · obtain rfl : i = l.length := by omega
    rw [last_at, last_at]
    rfl
theorem yielded_mute (hd : z.dst = none) (t : Array Value) : yielded (l ++ [mute z]).toArray t = yielded (l ++ [z]).toArray t := by
  funext j
  unfold yielded
  by_cases h : j < l.length
  · rw [front_at _ h, front_at _ h]
  · by_cases h2 : j = l.length
    · subst h2
      rw [last_at, last_at]
      simp [mute, hd]
    · have e1 : (l ++ [mute z]).toArray[j]? = none := Array.getElem?_eq_none (by simp; omega)
      have e2 : (l ++ [z]).toArray[j]? = none := Array.getElem?_eq_none (by simp; omega)
      rw [e1, e2]
/-- Every edge leads back. -/
def backB (L : List Oper) : Bool := (List.range L.length).all fun k => ((L[k]?).map (·.after.all fun e => !Region.binds .any e || decide (e.on < k))).getD true
/-- The last waits for all. -/
def waitsB (z : Oper) (n : Nat) : Bool := (List.range n).all fun j => z.after.any fun e => Region.binds .any e && (e.on == j)
theorem some_ready {L : List Oper} (hb : backB L = true) {listed : Array Bool} (hs : listed.size = L.length) {n : Nat} (hn : n < L.length) (hu : listed.getD n true = false) : Region.ready .any L.toArray listed ≠ [] := by
  obtain ⟨i, hi, hmin⟩ := exists_least (p := fun i => i < L.length ∧ listed.getD i true = false) ⟨n, hn, hu⟩
  have hm : i ∈ Region.ready .any L.toArray listed := by
    refine mem_ready.2 ⟨hi.2, L[i]'hi.1, by simp [hi.1], fun e he hbind => ?_⟩
    have h1 := List.all_eq_true.1 hb i (List.mem_range.2 hi.1)
    rw [List.getElem?_eq_getElem hi.1] at h1
    simp only [Option.map_some, Option.getD_some] at h1
    have h2 := (Array.all_eq_true'.1 h1) e he
    simp only [hbind, Bool.not_true, Bool.false_or, decide_eq_true_eq] at h2
    by_cases h3 : listed.getD e.on false = true
    · exact h3
    · have h4 : listed.getD e.on true = false := by
        have hlt : e.on < listed.size := by omega
        simp only [Array.getD, hlt, dif_pos] at h3 ⊢
        simpa using h3
      have := hmin e.on ⟨by omega, h4⟩
      omega
  intro h0
  rw [h0] at hm
  cases hm
theorem all_listed (hw : waitsB z l.length = true) {listed : Array Bool} (hs : listed.size = l.length + 1) (hr : l.length ∈ Region.ready .any (l ++ [z]).toArray listed) : Region.ready .any (l ++ [z]).toArray (listed.setIfInBounds l.length true) = [] := by
  obtain ⟨_, o, ho, hall⟩ := mem_ready.1 hr
  rw [last_at] at ho
  obtain rfl := Option.some.inj ho
  apply List.eq_nil_iff_forall_not_mem.2
  intro j hj
  obtain ⟨h1, o', ho', _⟩ := mem_ready.1 hj
  by_cases hjl : j < l.length
  · have h2 := List.all_eq_true.1 hw j (List.mem_range.2 hjl)
    obtain ⟨e, he, h3⟩ := Array.any_eq_true'.1 h2
    simp only [Bool.and_eq_true, beq_iff_eq] at h3
    have h4 := hall e he h3.1
    rw [h3.2] at h4
    have hlt : j < listed.size := by omega
    rw [getD_set_ne true (show l.length ≠ j by omega)] at h1
    simp only [Array.getD, hlt, dif_pos] at h1 h4
    rw [h4] at h1
    cases h1
  · have hsz : j < (l ++ [z]).toArray.size := (Array.getElem?_eq_some_iff.1 ho').1
    obtain rfl : j = l.length := by simp at hsz; omega
    have hlt : l.length < listed.size := by omega
    simp [Array.getD, hlt] at h1
theorem wpAny_last {O : Array Oper} {Q : Exit → Act → World → Prop} (hg : z.guard = none) (hd : z.dst = none) (hb : backB (l ++ [z]) = true) (hw : waitsB z l.length = true) :
    ∀ (fuel : Nat) (listed : Array Bool) (a : Act) (w : World), C w → listed.size = l.length + 1 → listed.getD l.length true = false →
      wpAnyQ P .any (l ++ [mute z]).toArray C (fun a' => ∀ w', C w' → wpList P O Q [z] a' w') fuel listed a → wpAny P .any (l ++ [z]).toArray Q fuel listed a w := by
  intro fuel
  induction fuel with
  | zero =>
    intro listed a w hC hs hu h
    have h1 := h.1
    rw [ready_mute] at h1
    exact absurd h1 (some_ready hb (by simpa using hs) (n := l.length) (by simp) hu)
  | succ fuel ih =>
    intro listed a w hC hs hu h
    refine ⟨fun h1 => absurd h1 (some_ready hb (by simpa using hs) (n := l.length) (by simp) hu), fun i hi => ?_⟩
    have h1 := h.2 i (by rw [ready_mute]; exact hi)
    by_cases hil : i = l.length
    · subst hil
      have hr := all_listed hw hs hi
      unfold qOp at h1
      rw [last_at] at h1
      have hwant : Region.wanted (mute z) (yielded (l ++ [mute z]).toArray a.tmps) = true := by simp [Region.wanted, mute, hg]
      simp only [hwant, if_true] at h1
      obtain ⟨v, _, h2⟩ := h1
      have e : a.put (mute z).dst v = a := rfl
      rw [e] at h2
      have hQ : ∀ w', C w' → wpList P O Q [z] a w' := by
        cases fuel with
        | zero => exact h2.2
        | succ f => exact h2.1 (by rw [ready_mute]; exact hr)
      unfold wpOp
      rw [last_at]
      have hwant2 : Region.wanted z (yielded (l ++ [z]).toArray a.tmps) = true := by simp [Region.wanted, hg]
      simp only [hwant2, if_true]
      have hq0 := hQ w hC
      have hwant3 : Region.wanted z (yielded O a.tmps) = true := by simp [Region.wanted, hg]
      simp only [wpList, hwant3, if_true] at hq0
      rcases hq0 with hq0 | hq0
      case inr => exact Or.inr hq0
      refine Or.inl (Oper.wp_mono (fun a' w' hq => ?_) hq0)
      cases fuel with
      | zero => exact ⟨hr, hq⟩
      | succ f => exact ⟨fun _ => hq, fun j hj => by rw [hr] at hj; cases hj⟩
    · have hlt : i < l.length := by
        obtain ⟨_, o, ho, _⟩ := mem_ready.1 hi
        have hsz := (Array.getElem?_eq_some_iff.1 ho).1
        simp at hsz
        omega
      have hu' : (listed.setIfInBounds i true).getD l.length true = false := by
        rw [getD_set_ne true hil]
        exact hu
      have hstep := wpOp_of_qOp (Q' := Q) hC (K' := wpAny P .any (l ++ [z]).toArray Q fuel (listed.setIfInBounds i true)) (fun a' w' hw' hh => ih (listed.setIfInBounds i true) a' w' hw' (by simpa using hs) hu' hh) h1
      unfold wpOp at hstep ⊢
      rw [front_at _ hlt] at hstep ⊢
      rw [yielded_mute hd] at hstep
      exact hstep
/-- ONE WALK: the operations but the last one quiet in the class; then the last one, in every world of the class. -/
theorem wp_region_last {L : List Oper} {O : Array Oper} {id : Nat} {Q : Exit → Act → World → Prop} {a : Act} {w : World} (hL : L = l ++ [z]) (hm : P.follows .mixedOrders = true) (hg : z.guard = none) (hd : z.dst = none) (hb : backB L = true) (hw : waitsB z l.length = true)
    (hB : Region.lexB .any (l ++ [mute z]).toArray = true) (hC : C { w with drawn := w.drawn + 1 })
    (h : wpQuiet P (l ++ [mute z]).toArray C (fun a' => ∀ w', C w' → wpList P O Q [z] a' w') l a) : (Code.region id L.toArray true).wp P Q a w := by
  subst hL
  simp only [Region.lexB, Bool.and_eq_true] at hB
  have hsz : (l ++ [z]).toArray.size = l.length + 1 := by simp
  refine wp_region_any hm ?_
  rw [hsz]
  refine wpAny_last (O := O) hg hd hb hw _ _ _ _ hC (by simp) (by simp) ?_
  have hq : wpQuiet P (l ++ [mute z]).toArray C (fun a' => ∀ w', C w' → wpList P O Q [z] a' w') (l ++ [mute z]) a := by
    have app : ∀ (l' : List Oper) (a : Act), wpQuiet P (l ++ [mute z]).toArray C (fun a' => ∀ w', C w' → wpList P O Q [z] a' w') l' a →
        wpQuiet P (l ++ [mute z]).toArray C (fun a' => ∀ w', C w' → wpList P O Q [z] a' w') (l' ++ [mute z]) a := by
      intro l'
      induction l' with
      | nil =>
        intro a h
        have hwant : Region.wanted (mute z) (yielded (l ++ [mute z]).toArray a.tmps) = true := by simp [Region.wanted, mute, hg]
        show (if Region.wanted (mute z) (yielded (l ++ [mute z]).toArray a.tmps) then _ else _)
        rw [if_pos hwant]
        refine ⟨.bool false, fun w _ => ?_, h⟩
        unfold Oper.quietAt
        simp [execOp, mute, Act.eval, Oper.quietUpon]
      | cons o l' ih =>
        intro a h
        have h' : (if Region.wanted o (yielded (l ++ [mute z]).toArray a.tmps) then o.quiet P a C (wpQuiet P (l ++ [mute z]).toArray C _ l') else wpQuiet P (l ++ [mute z]).toArray C _ l' (a.put o.dst undef)) := h
        show (if Region.wanted o (yielded (l ++ [mute z]).toArray a.tmps) then o.quiet P a C (wpQuiet P (l ++ [mute z]).toArray C _ (l' ++ [mute z])) else wpQuiet P (l ++ [mute z]).toArray C _ (l' ++ [mute z]) (a.put o.dst undef))
        split
        · rename_i hw1
          rw [if_pos hw1] at h'
          exact Oper.quiet_mono (fun a' hh => ih a' hh) h'
        · rename_i hw1
          rw [if_neg hw1] at h'
          exact ih _ h'
    exact app l a h
  have := wpAnyQ_lex (C := C) (md := .any) hB.1 (l ++ [mute z]) 0 (Array.replicate (l.length + 1) false) a (by simp) (by simpa using hB.2) hq
  simpa using this
theorem wpQuiet_ops {O1 O2 : Array Oper} (hy : ∀ t, yielded O1 t = yielded O2 t) {Q : Act → Prop} : ∀ (l : List Oper) (a : Act), wpQuiet P O1 C Q l a → wpQuiet P O2 C Q l a
  | [], _, h => h
  | o :: l, a, h => by
    have h' : (if Region.wanted o (yielded O1 a.tmps) then o.quiet P a C (wpQuiet P O1 C Q l) else wpQuiet P O1 C Q l (a.put o.dst undef)) := h
    show (if Region.wanted o (yielded O2 a.tmps) then o.quiet P a C (wpQuiet P O2 C Q l) else wpQuiet P O2 C Q l (a.put o.dst undef))
    rw [hy] at h'
    split
    · rename_i hw1
      rw [if_pos hw1] at h'
      exact Oper.quiet_mono (fun a' hh => wpQuiet_ops hy l a' hh) h'
    · rename_i hw1
      rw [if_neg hw1] at h'
      exact wpQuiet_ops hy l _ h'
/-- The same, of a region that is written out. -/
theorem wp_region_last_lit {L : List Oper} {id : Nat} {Q : Exit → Act → World → Prop} {a : Act} {w : World} (hm : P.follows .mixedOrders = true) (hne : L ≠ []) (hg : (L.getLast hne).guard = none) (hd : (L.getLast hne).dst = none)
    (hb : backB L = true) (hw : waitsB (L.getLast hne) L.dropLast.length = true) (hB : Region.lexB .any (L.dropLast ++ [mute (L.getLast hne)]).toArray = true)
    (h : ∀ (l' : List Oper) (z' : Oper), l' = L.dropLast → z' = L.getLast hne → wpQuiet P L.toArray (fun w' => ∃ p : Nxt w, w' = p.to) (fun a' => ∀ w', (∃ p : Nxt w, w' = p.to) → wpList P L.toArray Q [z'] a' w') l' a) : (Code.region id L.toArray true).wp P Q a w := by
  have e := List.dropLast_concat_getLast hne
  refine wp_region_last (C := fun w' => ∃ p : Nxt w, w' = p.to) (O := L.toArray) e.symm hm hg hd hb hw hB ⟨⟨{ w with drawn := w.drawn + 1 }, (Below.refl _ w).drew⟩, rfl⟩ ?_
  refine wpQuiet_ops (O1 := L.toArray) (fun t => ?_) _ _ (h _ _ rfl rfl)
  rw [yielded_mute hd, e]
end
end Go.Proofs.YtdopcagikcdfcaaDoor
