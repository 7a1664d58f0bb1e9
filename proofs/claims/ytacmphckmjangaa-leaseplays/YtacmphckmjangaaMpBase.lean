/- Maps from numbers to things of one kind: what they hold, as a row of entries in whatever order. -/
import Derived.Test.YtacmphckmjangaaCkBase
import Derived.Maps.OwnSet
import Derived.Maps.Views
import Derived.Maps.Ext
import Derived.Maps.RangeWalk
import Derived.Lib.SlMapFilter
import Derived.Laws.IdiomRangeMap
namespace Go.Proofs.Ytacmphckmjangaa
open Go.ChangeShapes Go.WideShapes Go.ChangeAt Go.RowKit Go.Maps
theorem lawI : Keyed Try.prog 3 := int_keyed Try.underlying3
theorem wfI (x : Int) (h : -9223372036854775808 ≤ x ∧ x ≤ 9223372036854775807) : (Lit.int .i64 x).wf = true := WalkArith.wf_i64 ⟨h.1, h.2⟩
theorem But.grown {g : Nat} {w a b : World} {row : Option Nat} (h : But g w a) (k : a.grownBy b row) (hr : ∀ j, row = some j → w.heap.size ≤ j ∨ j = g) : But g w b :=
  ⟨k.os.trans h.os, k.tape.trans h.tape, k.output.trans h.output, Nat.le_trans h.size k.size, fun i hi hg => (k.block i (Nat.lt_of_lt_of_le hi h.size) (fun e => by rcases hr i e.symm with h1 | h1 <;> omega)).trans (h.block i hi hg)⟩
theorem grown_row (w : World) (g : Nat) (cs : Array Value) : w.grownBy (w.setRow g cs) (some g) :=
  ⟨rfl, rfl, rfl, by simp, fun i _ hi => setRow_other _ _ _ _ (fun e => hi (by rw [e]))⟩
theorem Blk.row {w : World} {g : Nat} {T : TypeId} {cs : Array Value} (h : Blk w g T cs) (ds : Array Value) : Blk (w.setRow g ds) g T ds := setRow_heap _ _ _ _ _ _ h
section
variable {α : Type} (enc : α → Value)
open Classical in
/-- How an element reads. -/
noncomputable def rdE (v : Value) : Option (DataW Value × List MemPlace) := if ∃ c, v = enc c then some (.held v, []) else none
theorem rdE_mk (c : α) : rdE enc (enc c) = some (.held (enc c), []) := by unfold rdE; rw [if_pos ⟨c, rfl⟩]
theorem rdE_inv {v : Value} {y : DataW Value × List MemPlace} (h : rdE enc v = some y) : ∃ c, v = enc c ∧ y = (.held (enc c), []) := by
  unfold rdE at h
  by_cases e : ∃ c, v = enc c
  · rw [if_pos e] at h
    obtain ⟨c, rfl⟩ := e
    exact ⟨c, rfl, (Option.some.inj h).symm⟩
  · rw [if_neg e] at h; cases h
/-- An entry as it reads. -/
def entM (p : Int × α) : Lit × DataW Value := (.int .i64 p.1, .held (enc p.2))
/-- Block b is a map that holds just these entries. -/
def MapAt (w : World) (b : Nat) (L : List (Int × α)) : Prop := ∃ es, w.ownsMap Try.prog 3 (rdE enc) b L.length (.map es) ∧ es.Perm (L.map (entM enc))
/-- The element at a key. -/
def getM (L : List (Int × α)) (x : Int) : Option α := (L.find? (fun p => decide (p.1 = x))).map (·.2)
/-- Without a key; with an entry in its place. -/
def delM (L : List (Int × α)) (x : Int) : List (Int × α) := L.filter (fun p => decide (p.1 ≠ x))
def putM (L : List (Int × α)) (x : Int) (v : α) : List (Int × α) := delM L x ++ [(x, v)]
end
theorem own_tight {α : Type} {enc : α → Value} {w : World} {b n : Nat} {es : List (Lit × DataW Value)} (h : w.ownsMap Try.prog 3 (rdE enc) b n (.map es)) : w.ownsMap Try.prog 3 (rdE enc) b es.length (.map es) := by
  obtain ⟨a, clock, h1, F, hs, hD⟩ := h
  refine ⟨a, clock, h1, F, ?_, hD⟩
  injection hD with hD
  rw [hD, length_sorted]
  simp
theorem mapAt_of {α : Type} {enc : α → Value} {w : World} {b n : Nat} {es : List (Lit × DataW Value)} {L : List (Int × α)} (h : w.ownsMap Try.prog 3 (rdE enc) b n (.map es)) (hp : es.Perm (L.map (entM enc))) : MapAt enc w b L := by
  have e : es.length = L.length := by rw [hp.length_eq]; simp
  exact ⟨es, by rw [← e]; exact own_tight h, hp⟩
theorem MapAt.keep {α : Type} {enc : α → Value} {w w' : World} {b : Nat} {L : List (Int × α)} (h : MapAt enc w b L) (hb : w'.heap[b]? = w.heap[b]?) : MapAt enc w' b L := by
  obtain ⟨es, ⟨a, clock, h1, F, hs, hD⟩, hp⟩ := h
  exact ⟨es, ⟨a, clock, hb.trans h1, F, hs, hD⟩, hp⟩
theorem MapAt.lt {α : Type} {enc : α → Value} {w : World} {b : Nat} {L : List (Int × α)} (h : MapAt enc w b L) : b < w.heap.size := by
  obtain ⟨es, ho, _⟩ := h
  exact ho.lt
theorem MapAt.below {α : Type} {enc : α → Value} {w w' : World} {b : Nat} {L : List (Int × α)} (h : MapAt enc w b L) (hb : Below w.heap.size w w') : MapAt enc w' b L := h.keep (hb.block b h.lt)
theorem MapAt.perm {α : Type} {enc : α → Value} {w : World} {b : Nat} {L L' : List (Int × α)} (h : MapAt enc w b L) (hp : L.Perm L') : MapAt enc w b L' := by
  obtain ⟨es, ho, h2⟩ := h
  exact ⟨es, by rw [← hp.length_eq]; exact ho, h2.trans (hp.map _)⟩
theorem MapAt.made {α : Type} (enc : α → Value) (w : World) : MapAt enc (w.alloc (.map #[] 0)) w.heap.size [] := ⟨[], World.ownsMap_made w _ _ _, List.Perm.refl _⟩
theorem MapAt.apart {α : Type} {enc : α → Value} {w : World} {b : Nat} {L : List (Int × α)} (h : MapAt enc w b L) : L.Pairwise (fun p q => p.1 ≠ q.1) := by
  obtain ⟨es, ho, hp⟩ := h
  obtain ⟨es', e, h1, _⟩ := ho.entries lawI
  injection e with e
  subst e
  have h2 := (hp.pairwise_iff (fun {_ _} hne => Ne.symm hne)).1 h1
  rw [List.pairwise_map] at h2
  exact h2.imp (fun {a c} hac e => hac (by unfold entM; rw [e]))
theorem getM_mem {α : Type} {L : List (Int × α)} {x : Int} {v : α} (h : getM L x = some v) : (x, v) ∈ L := by
  unfold getM at h
  rw [Option.map_eq_some_iff] at h
  obtain ⟨⟨y, u⟩, h1, rfl⟩ := h
  have h2 := List.find?_some h1
  simp only [decide_eq_true_eq] at h2
  subst h2
  exact List.mem_of_find?_eq_some h1
theorem getM_none {α : Type} {L : List (Int × α)} {x : Int} (h : getM L x = none) : ∀ p ∈ L, p.1 ≠ x := by
  unfold getM at h
  rw [Option.map_eq_none_iff, List.find?_eq_none] at h
  intro p hp e
  exact h p hp (by simpa using e)
theorem getM_of_mem {α : Type} {L : List (Int × α)} (ha : L.Pairwise (fun p q => p.1 ≠ q.1)) {x : Int} {v : α} (h : (x, v) ∈ L) : getM L x = some v := by
  induction L with
  | nil => cases h
  | cons p r ih =>
    rw [List.pairwise_cons] at ha
    unfold getM
    rcases List.mem_cons.1 h with rfl | h
    · simp
    · have : p.1 ≠ x := fun e => ha.1 _ h (by exact e)
      rw [List.find?_cons_of_neg (by simpa using this)]
      exact ih ha.2 h
theorem getM_perm {α : Type} {L L' : List (Int × α)} (ha : L.Pairwise (fun p q => p.1 ≠ q.1)) (hp : L.Perm L') (x : Int) : getM L x = getM L' x := by
  have ha' := (hp.pairwise_iff (fun {_ _} hne => Ne.symm hne)).1 ha
  rcases h : getM L x with _ | v
  · rcases h' : getM L' x with _ | v
    · rfl
    · exact absurd rfl (getM_none h _ (hp.mem_iff.2 (getM_mem h')))
  · rw [getM_of_mem ha' (hp.mem_iff.1 (getM_mem h))]
theorem getM_put_same {α : Type} (L : List (Int × α)) (x : Int) (v : α) : getM (putM L x v) x = some v := by
  unfold getM putM delM
  rw [List.find?_append]
  have : (L.filter (fun p => decide (p.1 ≠ x))).find? (fun p => decide (p.1 = x)) = none := by
    rw [List.find?_eq_none]
    intro p hp
    have := (List.mem_filter.1 hp).2
    simpa using this
  rw [this]
  simp
theorem getM_del_same {α : Type} (L : List (Int × α)) (x : Int) : getM (delM L x) x = none := by
  unfold getM delM
  rw [Option.map_eq_none_iff, List.find?_eq_none]
  intro p hp
  have := (List.mem_filter.1 hp).2
  simpa using this
theorem find_filter {α : Type} (p q : Int × α → Bool) (h : ∀ a, p a = true → q a = true) : ∀ L : List (Int × α), (L.filter q).find? p = L.find? p
  | [] => rfl
  | a :: r => by
    by_cases hq : q a = true
    · rw [List.filter_cons_of_pos hq]
      by_cases hp : p a = true
      · rw [List.find?_cons_of_pos hp, List.find?_cons_of_pos hp]
      · rw [List.find?_cons_of_neg hp, List.find?_cons_of_neg hp, find_filter p q h r]
    · rw [List.filter_cons_of_neg hq, List.find?_cons_of_neg (fun hp => hq (h a hp)), find_filter p q h r]
theorem getM_del_other {α : Type} (L : List (Int × α)) {x y : Int} (h : y ≠ x) : getM (delM L x) y = getM L y := by
  unfold getM delM
  rw [find_filter _ _ (fun a ha => by simp only [decide_eq_true_eq] at *; rw [ha]; exact h)]
theorem getM_put_other {α : Type} (L : List (Int × α)) {x y : Int} (v : α) (h : y ≠ x) : getM (putM L x v) y = getM L y := by
  rw [← getM_del_other L h]
  unfold getM putM
  rw [List.find?_append]
  have : ([(x, v)] : List (Int × α)).find? (fun p => decide (p.1 = y)) = none := by simp; exact fun e => h e.symm
  rw [this]
  simp
theorem lit_ne {a b : Int} (h : a ≠ b) : Lit.int .i64 a ≠ Lit.int .i64 b := fun e => h (by injection e)
theorem del_perm {α : Type} {enc : α → Value} {es : List (Lit × DataW Value)} {L : List (Int × α)} (hp : es.Perm (L.map (entM enc))) (x : Int) : (es.filter fun p => !p.1.sameKey (.int .i64 x)).Perm ((delM L x).map (entM enc)) := by
  have h1 := hp.filter (fun p => !p.1.sameKey (.int .i64 x))
  refine h1.trans ?_
  unfold delM
  rw [List.filter_map]
  have e : ((fun p : Lit × DataW Value => !p.1.sameKey (.int .i64 x)) ∘ entM enc) = fun p : Int × α => decide (p.1 ≠ x) := by
    funext p
    show (!(Lit.int .i64 p.1).sameKey (.int .i64 x)) = _
    by_cases e : p.1 = x
    · rw [e, WideAt.sameKey_self (show WideAt.IsKeyLit (.int .i64 x) from trivial)]; simp
    · rw [Maps.sameKey_ne (lit_ne e)]; simp [e]
  rw [e]
set_option maxRecDepth 100000 in
theorem MapAt.look {α : Type} {enc : α → Value} {w : World} {b : Nat} {L : List (Int × α)} (h : MapAt enc w b L) {T E : TypeId} (hT : Try.prog.underlying T = some (.map 3 E)) {z : α} (hz : (zeroValue E).run Try.prog w = .ok (enc z) w) (x : Int) (hx : -9223372036854775808 ≤ x ∧ x ≤ 9223372036854775807) :
    (Instr.lookup T (.map (some b)) (.int .i64 x) true).run Try.prog w = .ok (.tuple #[enc ((getM L x).getD z), .bool (getM L x).isSome]) w := by
  have ha := h.apart
  obtain ⟨es, ho, hp⟩ := h
  obtain ⟨v, ps, hrun, hv⟩ := ho.look_ok lawI hT hz (zd := .held (enc z)) (zp := []) (rdE_mk enc z) (keyOf_int_mk Try.underlying3 (wfI x hx))
  obtain ⟨c, rfl, hc⟩ := rdE_inv enc hv
  rw [Prod.mk.injEq] at hc
  obtain ⟨es', e, h1, _⟩ := ho.entries lawI
  injection e with e
  subst e
  rcases hg : getM L x with _ | u
  · have h2 : ∀ zd : DataW Value, (DataW.map es).atKey (.int .i64 x) zd = zd := fun zd => WideAt.atKey_none zd (fun p hpm => by
      have := hp.mem_iff.1 hpm
      rw [List.mem_map] at this
      obtain ⟨q, hq, rfl⟩ := this
      exact lit_ne (getM_none hg q hq))
    rw [Maps.has_false_of_atKey h2] at hrun
    have h3 := hc.1
    rw [h2] at h3
    injection h3 with h3
    rw [← h3] at hrun
    exact hrun
  · have h2 : ∀ zd : DataW Value, (DataW.map es).atKey (.int .i64 x) zd = .held (enc u) := fun zd => WideAt.atKey_mem zd (show WideAt.IsKeyLit (.int .i64 x) from trivial) h1 (hp.mem_iff.2 (List.mem_map.2 ⟨(x, u), getM_mem hg, rfl⟩))
    rw [Maps.has_true_of_atKey h2] at hrun
    have h3 := hc.1
    rw [h2] at h3
    injection h3 with h3
    rw [← h3] at hrun
    exact hrun
theorem look_nilM {α : Type} (enc : α → Value) (w : World) {T E : TypeId} (hT : Try.prog.underlying T = some (.map 3 E)) {z : α} (hz : (zeroValue E).run Try.prog w = .ok (enc z) w) (x : Int) (hx : -9223372036854775808 ≤ x ∧ x ≤ 9223372036854775807) :
    (Instr.lookup T (.map none) (.int .i64 x) true).run Try.prog w = .ok (.tuple #[enc z, .bool false]) w :=
  Maps.look_nil (w := w) true lawI hT hz (keyOf_int_mk Try.underlying3 (wfI x hx))
set_option maxRecDepth 100000 in
theorem MapAt.look1 {α : Type} {enc : α → Value} {w : World} {b : Nat} {L : List (Int × α)} (h : MapAt enc w b L) {T E : TypeId} (hT : Try.prog.underlying T = some (.map 3 E)) {z : α} (hz : (zeroValue E).run Try.prog w = .ok (enc z) w) (x : Int) (hx : -9223372036854775808 ≤ x ∧ x ≤ 9223372036854775807) :
    (Instr.lookup T (.map (some b)) (.int .i64 x) false).run Try.prog w = .ok (enc ((getM L x).getD z)) w := by
  obtain ⟨es, ho, hp⟩ := h
  obtain ⟨v, ps, hrun, hv⟩ := ho.lookup lawI hT hz (zd := .held (enc z)) (zp := []) (rdE_mk enc z) (keyOf_int_mk Try.underlying3 (wfI x hx))
  obtain ⟨c, rfl, hc⟩ := rdE_inv enc hv
  rw [Prod.mk.injEq] at hc
  obtain ⟨es', e, h1, _⟩ := ho.entries lawI
  injection e with e
  subst e
  rcases hg : getM L x with _ | u
  · have h2 : ∀ zd : DataW Value, (DataW.map es).atKey (.int .i64 x) zd = zd := fun zd => WideAt.atKey_none zd (fun p hpm => by
      have := hp.mem_iff.1 hpm
      rw [List.mem_map] at this
      obtain ⟨q, hq, rfl⟩ := this
      exact lit_ne (getM_none hg q hq))
    have h3 := hc.1
    rw [h2] at h3
    injection h3 with h3
    rw [← h3] at hrun
    exact hrun
  · have h2 : ∀ zd : DataW Value, (DataW.map es).atKey (.int .i64 x) zd = .held (enc u) := fun zd => WideAt.atKey_mem zd (show WideAt.IsKeyLit (.int .i64 x) from trivial) h1 (hp.mem_iff.2 (List.mem_map.2 ⟨(x, u), getM_mem hg, rfl⟩))
    have h3 := hc.1
    rw [h2] at h3
    injection h3 with h3
    rw [← h3] at hrun
    exact hrun
theorem look1_nilM {α : Type} (enc : α → Value) (w : World) {T E : TypeId} (hT : Try.prog.underlying T = some (.map 3 E)) {z : α} (hz : (zeroValue E).run Try.prog w = .ok (enc z) w) (x : Int) (hx : -9223372036854775808 ≤ x ∧ x ≤ 9223372036854775807) :
    (Instr.lookup T (.map none) (.int .i64 x) false).run Try.prog w = .ok (enc z) w :=
  Maps.look_nil (w := w) false lawI hT hz (keyOf_int_mk Try.underlying3 (wfI x hx))
set_option maxRecDepth 100000 in
theorem MapAt.len {α : Type} {enc : α → Value} {w : World} {b : Nat} {L : List (Int × α)} (h : MapAt enc w b L) {T E : TypeId} (hT : Try.prog.underlying T = some (.map 3 E)) (ty : TypeId) :
    (Builtin.len_ #[T] ty #[.map (some b)]).run Try.prog w = .ok (.int .i64 (L.length : Int)) w := by
  obtain ⟨es, ho, hp⟩ := h
  rw [ho.len hT ty]
  have : Maps.size (DataW.map es) = L.length := by simp [Maps.size, hp.length_eq]
  rw [this]
set_option maxRecDepth 100000 in
theorem MapAt.store {α : Type} {enc : α → Value} {w : World} {b : Nat} {L : List (Int × α)} (h : MapAt enc w b L) {T E : TypeId} (hT : Try.prog.underlying T = some (.map 3 E)) (hn : L.length < 1000000) (x : Int) (hx : -9223372036854775808 ≤ x ∧ x ≤ 9223372036854775807) (v : α) :
    ∃ w', (Instr.mapUpdate T (.map (some b)) (.int .i64 x) (enc v)).run Try.prog w = .ok () w' ∧ MapAt enc w' b (putM L x v) ∧ But b w w' ∧ w'.heap.size = w.heap.size := by
  obtain ⟨es, ho, hp⟩ := h
  obtain ⟨w', hrun, ho', hg⟩ := ho.store lawI hT (show L.length < maxLen by unfold maxLen; omega) (keyOf_int_mk Try.underlying3 (wfI x hx)) (rdE_mk enc v)
  refine ⟨w', hrun, mapAt_of ho' ((insert_perm _ _).trans ?_), (But.refl b w).grown hg.grown (fun j hj => Or.inr (Option.some.inj hj).symm), ?_⟩
  · unfold putM
    rw [List.map_append]
    exact ((del_perm hp x).cons _).trans (List.perm_append_singleton _ _).symm
  · obtain ⟨_, _, _, _, _, rfl⟩ := hg
    simp [ChangeMaps.setBlock]
set_option maxRecDepth 100000 in
theorem MapAt.drop {α : Type} {enc : α → Value} {w : World} {b : Nat} {L : List (Int × α)} (h : MapAt enc w b L) {T E : TypeId} (hT : Try.prog.underlying T = some (.map 3 E)) (x : Int) (hx : -9223372036854775808 ≤ x ∧ x ≤ 9223372036854775807) (ty : TypeId) :
    ∃ w', (Builtin.delete_ #[T, 3] ty #[.map (some b), .int .i64 x]).run Try.prog w = .ok (.tuple #[]) w' ∧ MapAt enc w' b (delM L x) ∧ But b w w' ∧ w'.heap.size = w.heap.size := by
  obtain ⟨es, ho, hp⟩ := h
  obtain ⟨w', hrun, ho', hg⟩ := ho.drop lawI hT (keyOf_int_mk Try.underlying3 (wfI x hx)) ty
  refine ⟨w', hrun, mapAt_of ho' (del_perm hp x), (But.refl b w).grown hg.grown (fun j hj => Or.inr (Option.some.inj hj).symm), ?_⟩
  obtain ⟨_, _, _, _, _, rfl⟩ := hg
  simp [ChangeMaps.setBlock]
end Go.Proofs.Ytacmphckmjangaa
