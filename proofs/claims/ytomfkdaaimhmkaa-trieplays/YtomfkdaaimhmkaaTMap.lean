/- The program's maps from numbers to nodes: what they hold; no condition but the numbers' range. -/
import Derived.Test.YtomfkdaaimhmkaaRows
import Derived.Test.YtomfkdaaimhmkaaKin
import Derived.Maps.OwnSet
import Derived.Maps.Views
import Derived.Deep.OwnRows
import Derived.Deep.LoopGhost
import Derived.Deep.RegionWith
import Derived.Deep.QuietTactic
namespace Go.Proofs.Ytomfkdaaimhmkaa
open Go.ChangeShapes Go.WideShapes Go.ChangeAt Go.RowKit Go.Maps
/-- A pointer to the block of a node, or nil. -/
def ptr : Option Nat → Value
  | none => .pointer none
  | some g => .pointer (some ⟨g, 0, none⟩)
def rdV (v : Value) : Option (DataW Value × List MemPlace) := some (.held v, [])
theorem lawI : Keyed Try.prog 3 := int_keyed Try.underlying3
theorem zeroP (w : World) : (zeroValue 63).run Try.prog w = .ok (.pointer none) w := by kernel_rfl
theorem wfI (x : Int) (h1 : -9223372036854775808 ≤ x) (h2 : x ≤ 9223372036854775807) : (Lit.int .i64 x).wf = true := WalkArith.wf_i64 ⟨h1, h2⟩
/-- Block b is a map of at most n numbers, and holds just these nodes. -/
def MapOf (w : World) (b n : Nat) (f : Int → Option Nat) : Prop :=
  ∃ D : DataW Value, w.ownsMap Try.prog 3 rdV b n D ∧ (∀ x, D.atKey (.int .i64 x) (.held (.pointer none)) = .held (ptr (f x))) ∧ ∀ x, has D (.int .i64 x) = (f x).isSome
theorem MapOf.look {w : World} {b n : Nat} {f : Int → Option Nat} (h : MapOf w b n f) (x : Int) (hx : (Lit.int .i64 x).wf = true) :
    (Instr.lookup 24 (.map (some b)) (.int .i64 x) false).run Try.prog w = .ok (ptr (f x)) w := by
  obtain ⟨D, hown, hat, _⟩ := h
  obtain ⟨v, ps, hrun, hv⟩ := hown.lookup lawI Try.underlying24 (zeroP w) (zd := .held (.pointer none)) (zp := []) rfl (keyOf_int_mk Try.underlying3 hx)
  rw [hat x] at hv
  simp only [rdV, Option.some.injEq, Prod.mk.injEq, DataW.held.injEq] at hv
  rw [hrun, hv.1]
theorem look_none (w : World) (x : Int) (hx : (Lit.int .i64 x).wf = true) :
    (Instr.lookup 24 (.map none) (.int .i64 x) false).run Try.prog w = .ok (.pointer none) w :=
  look_nil (w := w) false lawI Try.underlying24 (zeroP w) (keyOf_int_mk Try.underlying3 hx)
theorem MapOf.made (w : World) : MapOf (w.alloc (.map #[] 0)) w.heap.size 0 (fun _ => none) :=
  ⟨.map [], World.ownsMap_made w _ _ _, fun x => by simp [DataW.atKey, ptr], fun x => by simp [has_eq]⟩
theorem MapOf.store {w : World} {b n : Nat} {f : Int → Option Nat} (h : MapOf w b n f) (hn : n < maxLen) (x : Int) (hx : (Lit.int .i64 x).wf = true) (g : Nat) :
    ∃ w', (Instr.mapUpdate 24 (.map (some b)) (.int .i64 x) (.pointer (some ⟨g, 0, none⟩))).run Try.prog w = .ok () w' ∧ MapOf w' b (n + 1) (fun y => if y = x then some g else f y) ∧ w.mapTurned w' b := by
  obtain ⟨D, hown, hat, hh⟩ := h
  have hm := hown.isMap
  obtain ⟨w', hrun, hown', hg⟩ := hown.store lawI Try.underlying24 hn (keyOf_int_mk Try.underlying3 hx) (val := .pointer (some ⟨g, 0, none⟩)) (d := .held (.pointer (some ⟨g, 0, none⟩))) (ps := []) rfl
  refine ⟨w', hrun, ⟨_, hown', fun y => ?_, fun y => ?_⟩, hg⟩
  · show _ = DataW.held (ptr (if y = x then some g else f y))
    by_cases e : y = x
    · subst e
      rw [if_pos rfl, atKey_put_same hm (show WideAt.IsKeyLit (.int .i64 y) from trivial)]
      rfl
    · rw [if_neg e, atKey_put_other (by simpa using e), hat y]
  · show _ = (if y = x then some g else f y).isSome
    by_cases e : y = x
    · subst e
      rw [if_pos rfl, has_put_same hm (show WideAt.IsKeyLit (.int .i64 y) from trivial)]
      rfl
    · rw [if_neg e, has_put_other (by simpa using e), hh y]
theorem MapOf.keep {w w' : World} {b n : Nat} {f : Int → Option Nat} (h : MapOf w b n f) (hb : w'.heap[b]? = w.heap[b]?) : MapOf w' b n f := by
  obtain ⟨D, ⟨es, clock, h1, F, hs, hD⟩, hat⟩ := h
  exact ⟨D, ⟨es, clock, hb.trans h1, F, hs, hD⟩, hat⟩
theorem MapOf.lt {w : World} {b n : Nat} {f : Int → Option Nat} (h : MapOf w b n f) : b < w.heap.size := by
  obtain ⟨D, hown, _⟩ := h
  exact hown.lt
theorem MapOf.mono {w : World} {b n : Nat} {f : Int → Option Nat} (h : MapOf w b n f) {f' : Int → Option Nat} (hf : ∀ x, f x = f' x) : MapOf w b n f' := by
  obtain rfl : f = f' := funext hf
  exact h
/-- A block that is a map is no row of cells. -/
theorem MapOf.not_cell {w : World} {b n : Nat} {f : Int → Option Nat} (h : MapOf w b n f) (o : Nat) : w.cell? ⟨b, o, none⟩ = none := by
  obtain ⟨D, ⟨es, clock, h1, _⟩, _⟩ := h
  simp [World.cell?, h1]
/-- A row of numbers. -/
structure Tk (w : World) (ao : Option Addr) (n : Nat) (A : List Int) : Prop where
  len : A.length = n
  max : n ≤ 1000000
  small : ∀ k, -9223372036854775808 ≤ A.getD k 0 ∧ A.getD k 0 ≤ 9223372036854775807
  cells : 0 < n → ∃ b o, ao = some ⟨b, o, none⟩ ∧ ∀ t, t < n → w.cell? ⟨b, o + t, none⟩ = some (.int .i64 (A.getD t 0))
theorem Tk.below {w w' : World} {ao : Option Addr} {n : Nat} {A : List Int} (h : Tk w ao n A) (hb : Below w.heap.size w w') : Tk w' ao n A := by
  refine ⟨h.len, h.max, h.small, fun hn => ?_⟩
  obtain ⟨b, o, e, hc⟩ := h.cells hn
  refine ⟨b, o, e, fun t ht => ?_⟩
  have h1 := hc t ht
  have hlt : b < w.heap.size := by simpa using World.block_lt_of_cell? w _ h1
  rw [hb.cell (by exact hlt)]
  exact h1
theorem take_snoc (A : List Int) (i : Nat) (h : i < A.length) : A.take (i + 1) = A.take i ++ [A.getD i 0] := by
  rw [List.take_succ_eq_append_getElem h, List.getD_eq_getElem?_getD, List.getElem?_eq_getElem h]
  rfl
/-- The nodes, their maps, and what is kept at them, by the paths that lead there. -/
structure TS where
  nd : List Int → Option Nat
  mp : List Int → Option Nat
  vl : List Int → Option Int
structure TI (w : World) (B tb : Nat) (S : TS) (NB : Nat) (cnt : Nat) : Prop where
  root : S.nd [] = some tb
  base : ∀ p g, S.nd p = some g → B ≤ g
  mbase : ∀ p b, S.mp p = some b → B ≤ b
  c0 : ∀ p g, S.nd p = some g → w.cell? ⟨g, 0, none⟩ = some (.map (S.mp p))
  c1 : ∀ p g, S.nd p = some g → w.cell? ⟨g, 1, none⟩ = some (.bool (S.vl p).isSome)
  c2 : ∀ p g, S.nd p = some g → w.cell? ⟨g, 2, none⟩ = some (.int .i64 ((S.vl p).getD 0))
  fr : ∀ p g, S.nd p = some g → ∀ j, j < 3 → w.frozen? ⟨g, j, none⟩ = false
  m1 : ∀ p b, S.mp p = some b → ∃ n, n ≤ NB ∧ MapOf w b n (fun k => S.nd (p ++ [k]))
  m0 : ∀ p, S.mp p = none → ∀ k, S.nd (p ++ [k]) = none
  inj : ∀ p q g, S.nd p = some g → S.nd q = some g → p = q
  minj : ∀ p q b, S.mp p = some b → S.mp q = some b → p = q
  mnd : ∀ p, S.mp p ≠ none → S.nd p ≠ none
  vnd : ∀ p, S.vl p ≠ none → S.nd p ≠ none
  cc : w.cell? ⟨tb, 3, none⟩ = some (.int .i64 (cnt : Int))
  cf : w.frozen? ⟨tb, 3, none⟩ = false
theorem TI.up {w : World} {B tb NB cnt : Nat} {S : TS} (h : TI w B tb S NB cnt) (p : List Int) (k : Int) (hn : S.nd p = none) : S.nd (p ++ [k]) = none := by
  have : S.mp p = none := by
    rcases hm : S.mp p with _ | b
    · rfl
    · exact absurd hn (h.mnd p (by rw [hm]; simp))
  exact h.m0 p this k
theorem TI.none_take {w : World} {B tb NB cnt : Nat} {S : TS} (h : TI w B tb S NB cnt) (A : List Int) (i : Nat) (hn : S.nd (A.take i) = none) : ∀ d, i + d ≤ A.length → S.nd (A.take (i + d)) = none
  | 0, _ => hn
  | d + 1, hd => by
    rw [← Nat.add_assoc, take_snoc A (i + d) (by omega)]
    exact h.up _ _ (h.none_take A i hn d (by omega))
theorem TI.none_all {w : World} {B tb NB cnt : Nat} {S : TS} (h : TI w B tb S NB cnt) (A : List Int) (i : Nat) (hi : i ≤ A.length) (hn : S.nd (A.take i) = none) : S.nd A = none := by
  have := h.none_take A i hn (A.length - i) (by omega)
  rwa [show i + (A.length - i) = A.length by omega, List.take_length] at this
theorem TI.drewN {w : World} {B tb NB cnt : Nat} {S : TS} (h : TI w B tb S NB cnt) (m : Nat) : TI (w.drewN m) B tb S NB cnt := by
  have e : (w.drewN m).heap = w.heap := rfl
  exact ⟨h.root, h.base, h.mbase, h.c0, h.c1, h.c2, h.fr, fun p b hb => by obtain ⟨n, hn, hm⟩ := h.m1 p b hb; exact ⟨n, hn, hm.keep (by rw [e])⟩, h.m0, h.inj, h.minj, h.mnd, h.vnd, h.cc, h.cf⟩
def upd {β : Type} (f : List Int → β) (p : List Int) (v : β) : List Int → β := fun q => if q = p then v else f q
theorem upd_same {β : Type} (f : List Int → β) (p : List Int) (v : β) : upd f p v p = v := if_pos rfl
theorem upd_other {β : Type} (f : List Int → β) {p q : List Int} (v : β) (h : q ≠ p) : upd f p v q = f q := if_neg h
theorem cell_lt {w : World} {a : Addr} {v : Value} (h : w.cell? a = some v) : a.block < w.heap.size := by
  rcases Nat.lt_or_ge a.block w.heap.size with k | k
  · exact k
  · simp [World.cell?, Array.getElem?_eq_none k] at h
theorem TI.lt {w : World} {B tb NB cnt : Nat} {S : TS} (h : TI w B tb S NB cnt) {p : List Int} {g : Nat} (hp : S.nd p = some g) : g < w.heap.size := cell_lt (h.c0 p g hp)
theorem TI.mne {w : World} {B tb NB cnt : Nat} {S : TS} (h : TI w B tb S NB cnt) {p q : List Int} {g b : Nat} (hp : S.nd p = some g) (hq : S.mp q = some b) : b ≠ g := by
  rintro rfl
  obtain ⟨n, _, hm⟩ := h.m1 q b hq
  have := hm.not_cell 0
  rw [h.c0 p b hp] at this
  cases this
theorem TI.mlt {w : World} {B tb NB cnt : Nat} {S : TS} (h : TI w B tb S NB cnt) {q : List Int} {b : Nat} (hq : S.mp q = some b) : b < w.heap.size := by
  obtain ⟨n, _, hm⟩ := h.m1 q b hq
  exact hm.lt
/-- A world that has the same blocks of the trie. -/
theorem TI.same {w w' : World} {B tb NB cnt : Nat} {S : TS} (h : TI w B tb S NB cnt) (hn : ∀ p g, S.nd p = some g → w'.heap[g]? = w.heap[g]?) (hm : ∀ p b, S.mp p = some b → w'.heap[b]? = w.heap[b]?) : TI w' B tb S NB cnt :=
  ⟨h.root, h.base, h.mbase,
   fun p g hp => by rw [World.cell?_of_block (w := w) (a := ⟨g, 0, none⟩) (hn p g hp)]; exact h.c0 p g hp,
   fun p g hp => by rw [World.cell?_of_block (w := w) (a := ⟨g, 1, none⟩) (hn p g hp)]; exact h.c1 p g hp,
   fun p g hp => by rw [World.cell?_of_block (w := w) (a := ⟨g, 2, none⟩) (hn p g hp)]; exact h.c2 p g hp,
   fun p g hp j hj => by rw [World.frozen?_of_block (w := w) (a := ⟨g, j, none⟩) (hn p g hp)]; exact h.fr p g hp j hj,
   fun p b hb => by obtain ⟨n, hl, hx⟩ := h.m1 p b hb; exact ⟨n, hl, hx.keep (hm p b hb)⟩,
   h.m0, h.inj, h.minj, h.mnd, h.vnd,
   by rw [World.cell?_of_block (w := w) (a := ⟨tb, 3, none⟩) (hn [] tb h.root)]; exact h.cc,
   by rw [World.frozen?_of_block (w := w) (a := ⟨tb, 3, none⟩) (hn [] tb h.root)]; exact h.cf⟩
theorem TI.below {w w' : World} {B tb NB cnt : Nat} {S : TS} (h : TI w B tb S NB cnt) (hb : Below w.heap.size w w') : TI w' B tb S NB cnt :=
  h.same (fun _ g hp => hb.block g (h.lt hp)) (fun _ b hp => hb.block b (h.mlt hp))
/-- A node gets its map. -/
theorem TI.addMap {w : World} {B tb NB cnt : Nat} {S : TS} (h : TI w B tb S NB cnt) {p : List Int} {g : Nat} (hp : S.nd p = some g) (hm : S.mp p = none) :
    TI ((w.alloc (.map #[] 0)).setCell ⟨g, 0, none⟩ (.map (some w.heap.size))) B tb { S with mp := upd S.mp p (some w.heap.size) } NB cnt := by
  have hg := h.lt hp
  have h1 : TI (w.alloc (.map #[] 0)) B tb S NB cnt := h.below ((Below.refl _ w).alloc (Nat.le_refl _) _)
  have hother : ∀ b, b ≠ g → ((w.alloc (.map #[] 0)).setCell ⟨g, 0, none⟩ (.map (some w.heap.size))).heap[b]? = (w.alloc (.map #[] 0)).heap[b]? := fun b hb => Below.heap_setCell _ _ _ b hb
  have oc : ∀ (g' o : Nat), (g' = g → o ≠ 0) → ((w.alloc (.map #[] 0)).setCell ⟨g, 0, none⟩ (.map (some w.heap.size))).cell? ⟨g', o, none⟩ = (w.alloc (.map #[] 0)).cell? ⟨g', o, none⟩ := fun g' o ho =>
    World.cell?_setCell_other _ _ _ _ (by intro e; injection e with e1 e2; exact ho e1.symm e2.symm)
  have mc : ∀ q b, upd S.mp p (some w.heap.size) q = some b → (q = p ∧ b = w.heap.size) ∨ (q ≠ p ∧ S.mp q = some b) := fun q b hq => by
    by_cases e : q = p
    · subst e; rw [upd_same] at hq; injection hq with hq; exact Or.inl ⟨rfl, hq.symm⟩
    · rw [upd_other _ _ e] at hq; exact Or.inr ⟨e, hq⟩
  refine ⟨h.root, h.base, ?_, ?_, ?_, ?_, ?_, ?_, ?_, h.inj, ?_, ?_, h.vnd, ?_, ?_⟩
  · intro q b hb
    rcases mc q b hb with ⟨_, rfl⟩ | ⟨_, hb'⟩
    · have := h.base _ _ hp; omega
    · exact h.mbase q b hb'
  · intro q g' hq
    by_cases e : q = p
    · subst e
      obtain rfl : g' = g := by
        have hq' : S.nd q = some g' := hq
        rw [hp] at hq'; injection hq' with hq'; exact hq'.symm
      rw [World.cell?_setCell_same _ _ _ (h1.c0 q g' hq)]
      show _ = some (Value.map (upd S.mp q (some w.heap.size) q))
      rw [upd_same]
    · have hne : g' ≠ g := fun he => e (h.inj _ _ g (he ▸ hq) hp)
      rw [oc g' 0 (fun he => absurd he hne), h1.c0 q g' hq]
      show _ = some (Value.map (upd S.mp p (some w.heap.size) q))
      rw [upd_other _ _ e]
  · intro q g' hq; rw [oc g' 1 (fun _ => by decide)]; exact h1.c1 q g' hq
  · intro q g' hq; rw [oc g' 2 (fun _ => by decide)]; exact h1.c2 q g' hq
  · intro q g' hq j hj; rw [World.frozen?_setCell]; exact h1.fr q g' hq j hj
  · intro q b hb
    rcases mc q b hb with ⟨rfl, rfl⟩ | ⟨_, hb'⟩
    · exact ⟨0, Nat.zero_le _, ((MapOf.made w).keep (hother _ (by omega))).mono (fun k => (h.m0 q hm k).symm)⟩
    · obtain ⟨n, hn, hx⟩ := h1.m1 q b hb'
      exact ⟨n, hn, hx.keep (hother b (h.mne hp hb'))⟩
  · intro q hq k
    have hq2 : upd S.mp p (some w.heap.size) q = none := hq
    by_cases e : q = p
    · subst e; rw [upd_same] at hq2; cases hq2
    · rw [upd_other _ _ e] at hq2; exact h.m0 q hq2 k
  · intro q r b hq hr
    rcases mc q b hq with ⟨rfl, rfl⟩ | ⟨_, hq'⟩
    · rcases mc r _ hr with ⟨rfl, _⟩ | ⟨_, hr'⟩
      · rfl
      · have := h.mlt hr'; omega
    · rcases mc r b hr with ⟨rfl, rfl⟩ | ⟨_, hr'⟩
      · have := h.mlt hq'; omega
      · exact h.minj q r b hq' hr'
  · intro q hq
    have hq2 : upd S.mp p (some w.heap.size) q ≠ none := hq
    by_cases e : q = p
    · subst e; show S.nd q ≠ none; rw [hp]; simp
    · rw [upd_other _ _ e] at hq2; exact h.mnd q hq2
  · rw [oc tb 3 (fun _ => by decide)]; exact h1.cc
  · rw [World.frozen?_setCell]; exact h1.cf
theorem snoc_inj {p q : List Int} {k y : Int} (h : q ++ [y] = p ++ [k]) : q = p ∧ y = k := by
  have := List.append_inj' h rfl
  exact ⟨this.1, by simpa using this.2⟩
/-- A node more. -/
theorem TI.addNode {w w2 : World} {B tb NB cnt n b : Nat} {S : TS} (h : TI w B tb S NB cnt) {p : List Int} {k : Int} (hm : S.mp p = some b) (hk : S.nd (p ++ [k]) = none)
    (hM : MapOf w2 b (n + 1) (fun y => if y = k then some w.heap.size else S.nd (p ++ [y]))) (hn : n ≤ NB) (ht : (w.alloc (.cells #[.map none, .bool false, .int .i64 0] 26)).mapTurned w2 b) :
    TI w2 B tb { S with nd := upd S.nd (p ++ [k]) (some w.heap.size) } (NB + 1) cnt := by
  obtain ⟨g, hp⟩ : ∃ g, S.nd p = some g := Option.ne_none_iff_exists'.1 (h.mnd p (by rw [hm]; simp))
  have hG := ht.grown
  have hblt := h.mlt hm
  have hbk : ∀ x, x < w.heap.size → x ≠ b → w2.heap[x]? = w.heap[x]? := fun x hx hb => by
    rw [hG.block x (by simp; omega) (by simpa using hb)]
    exact Below.heap_alloc w _ x hx
  have hnew : w2.heap[w.heap.size]? = some (.cells #[.map none, .bool false, .int .i64 0] 26 (0, 0)) := by
    rw [hG.block _ (by simp) (by simp; omega)]
    exact heap_alloc_new w _
  have hkv : S.vl (p ++ [k]) = none := by
    rcases hv : S.vl (p ++ [k]) with _ | v
    · rfl
    · exact absurd hk (h.vnd _ (by rw [hv]; simp))
  have hkm : S.mp (p ++ [k]) = none := by
    rcases hv : S.mp (p ++ [k]) with _ | v
    · rfl
    · exact absurd hk (h.mnd _ (by rw [hv]; simp))
  have hne : ∀ q g', S.nd q = some g' → q ≠ p ++ [k] := fun q g' hq e => by rw [e, hk] at hq; cases hq
  have cl : ∀ q g', S.nd q = some g' → w2.heap[g']? = w.heap[g']? := fun q g' hq => hbk g' (h.lt hq) (fun e => h.mne hq hm e.symm)
  have cases_ : ∀ q g', upd S.nd (p ++ [k]) (some w.heap.size) q = some g' → (q = p ++ [k] ∧ g' = w.heap.size) ∨ S.nd q = some g' := fun q g' hq => by
    by_cases e : q = p ++ [k]
    · subst e; rw [upd_same] at hq; injection hq with hq; exact Or.inl ⟨rfl, hq.symm⟩
    · rw [upd_other _ _ e] at hq; exact Or.inr hq
  refine ⟨?_, ?_, h.mbase, ?_, ?_, ?_, ?_, ?_, ?_, ?_, h.minj, ?_, ?_, ?_, ?_⟩
  · show upd S.nd (p ++ [k]) (some w.heap.size) [] = some tb
    rw [upd_other _ _ (hne [] tb h.root)]; exact h.root
  · intro q g' hq
    rcases cases_ q g' hq with ⟨_, rfl⟩ | hq'
    · have := h.base _ _ hp; have := h.lt hp; omega
    · exact h.base q g' hq'
  · intro q g' hq
    rcases cases_ q g' hq with ⟨rfl, rfl⟩ | hq'
    · show w2.cell? _ = some (Value.map (S.mp (p ++ [k])))
      rw [hkm]; simp [World.cell?, hnew]
    · rw [World.cell?_of_block (w := w) (a := ⟨g', 0, none⟩) (cl q g' hq')]; exact h.c0 q g' hq'
  · intro q g' hq
    rcases cases_ q g' hq with ⟨rfl, rfl⟩ | hq'
    · show w2.cell? _ = some (Value.bool (S.vl (p ++ [k])).isSome)
      rw [hkv]; simp [World.cell?, hnew]
    · rw [World.cell?_of_block (w := w) (a := ⟨g', 1, none⟩) (cl q g' hq')]; exact h.c1 q g' hq'
  · intro q g' hq
    rcases cases_ q g' hq with ⟨rfl, rfl⟩ | hq'
    · show w2.cell? _ = some (Value.int .i64 ((S.vl (p ++ [k])).getD 0))
      rw [hkv]; simp [World.cell?, hnew]
    · rw [World.cell?_of_block (w := w) (a := ⟨g', 2, none⟩) (cl q g' hq')]; exact h.c2 q g' hq'
  · intro q g' hq j hj
    rcases cases_ q g' hq with ⟨rfl, rfl⟩ | hq'
    · simp [World.frozen?, hnew]
    · rw [World.frozen?_of_block (w := w) (a := ⟨g', j, none⟩) (cl q g' hq')]; exact h.fr q g' hq' j hj
  · intro q b' hq
    by_cases e : q = p
    · subst e
      obtain rfl : b' = b := by
        have hq' : S.mp q = some b' := hq
        rw [hm] at hq'; injection hq' with hq'; exact hq'.symm
      refine ⟨n + 1, by omega, hM.mono (fun y => ?_)⟩
      show _ = upd S.nd (q ++ [k]) (some w.heap.size) (q ++ [y])
      by_cases e2 : y = k
      · subst e2; rw [if_pos rfl, upd_same]
      · rw [if_neg e2, upd_other _ _ (fun he => e2 (snoc_inj he).2)]
    · have hq' : S.mp q = some b' := hq
      obtain ⟨n', hn', hx⟩ := h.m1 q b' hq'
      refine ⟨n', by omega, (hx.keep (hbk b' (h.mlt hq') (fun he => e (h.minj q p b (he ▸ hq') hm)))).mono (fun y => ?_)⟩
      show _ = upd S.nd (p ++ [k]) (some w.heap.size) (q ++ [y])
      rw [upd_other _ _ (fun he => e (snoc_inj he).1)]
  · intro q hq y
    show upd S.nd (p ++ [k]) (some w.heap.size) (q ++ [y]) = none
    have hq' : S.mp q = none := hq
    rw [upd_other _ _ (fun he => by rw [(snoc_inj he).1, hm] at hq'; cases hq')]
    exact h.m0 q hq' y
  · intro q r g' hq hr
    rcases cases_ q g' hq with ⟨rfl, rfl⟩ | hq'
    · rcases cases_ r _ hr with ⟨rfl, _⟩ | hr'
      · rfl
      · have := h.lt hr'; omega
    · rcases cases_ r g' hr with ⟨rfl, rfl⟩ | hr'
      · have := h.lt hq'; omega
      · exact h.inj q r g' hq' hr'
  · intro q hq
    show upd S.nd (p ++ [k]) (some w.heap.size) q ≠ none
    by_cases e : q = p ++ [k]
    · subst e; rw [upd_same]; simp
    · rw [upd_other _ _ e]; exact h.mnd q hq
  · intro q hq
    show upd S.nd (p ++ [k]) (some w.heap.size) q ≠ none
    by_cases e : q = p ++ [k]
    · subst e; rw [upd_same]; simp
    · rw [upd_other _ _ e]; exact h.vnd q hq
  · rw [World.cell?_of_block (w := w) (a := ⟨tb, 3, none⟩) (cl [] tb h.root)]; exact h.cc
  · rw [World.frozen?_of_block (w := w) (a := ⟨tb, 3, none⟩) (cl [] tb h.root)]; exact h.cf
/-- A block that is one of the trie's. -/
def TS.has (S : TS) (x : Nat) : Prop := (∃ p, S.nd p = some x) ∨ (∃ p, S.mp p = some x)
/-- S' came of S: only blocks of S turned, what is S' own was S' own or is new, and nodes came that are at most n deep. -/
structure Own (S : TS) (w : World) (S' : TS) (w' : World) (n : Nat) : Prop where
  size : w.heap.size ≤ w'.heap.size
  kept : ∀ x, x < w.heap.size → ¬ S.has x → w'.heap[x]? = w.heap[x]?
  mine : ∀ x, S'.has x → S.has x ∨ w.heap.size ≤ x
  deep : ∀ q, S'.nd q ≠ none → S.nd q ≠ none ∨ q.length ≤ n
theorem Own.refl (S : TS) (w : World) (n : Nat) : Own S w S w n := ⟨Nat.le_refl _, fun _ _ _ => rfl, fun _ h => Or.inl h, fun _ h => Or.inl h⟩
theorem Own.trans {S T U : TS} {w v u : World} {n m : Nat} (h : Own S w T v n) (k : Own T v U u m) (hnm : n ≤ m) : Own S w U u m := by
  refine ⟨Nat.le_trans h.size k.size, fun x hx hn => ?_, fun x hx => ?_, fun q hq => ?_⟩
  · rw [k.kept x (Nat.lt_of_lt_of_le hx h.size) (fun ht => by rcases h.mine x ht with a | a; exact hn a; omega)]
    exact h.kept x hx hn
  · rcases k.mine x hx with a | a
    · exact h.mine x a
    · exact Or.inr (Nat.le_trans h.size a)
  · rcases k.deep q hq with a | a
    · rcases h.deep q a with b | b
      · exact Or.inl b
      · exact Or.inr (by omega)
    · exact Or.inr a
theorem Own.wider {S T : TS} {w v : World} {n m : Nat} (h : Own S w T v n) (hnm : n ≤ m) : Own S w T v m := ⟨h.size, h.kept, h.mine, fun q hq => by rcases h.deep q hq with a | a; exact Or.inl a; exact Or.inr (by omega)⟩
theorem Own.of {T S2 : TS} {wr w2 : World} {n : Nat} (hnd : ∀ q x, S2.nd q = some x → T.nd q = some x ∨ (q.length ≤ n ∧ wr.heap.size ≤ x)) (hmp : ∀ q x, S2.mp q = some x → T.mp q = some x ∨ wr.heap.size ≤ x) (hs : wr.heap.size ≤ w2.heap.size) (hk : ∀ x, x < wr.heap.size → ¬ T.has x → w2.heap[x]? = wr.heap[x]?) : Own T wr S2 w2 n := by
  refine ⟨hs, hk, fun x hx => ?_, fun q hq => ?_⟩
  · rcases hx with ⟨p, hp⟩ | ⟨p, hp⟩
    · rcases hnd p x hp with a | a
      · exact Or.inl (Or.inl ⟨p, a⟩)
      · exact Or.inr a.2
    · rcases hmp p x hp with a | a
      · exact Or.inl (Or.inr ⟨p, a⟩)
      · exact Or.inr a
  · obtain ⟨x, hx⟩ := Option.ne_none_iff_exists'.1 hq
    rcases hnd q x hx with a | a
    · exact Or.inl (by rw [a]; simp)
    · exact Or.inr a.1
theorem TI.has_lt {w : World} {B tb NB cnt : Nat} {S : TS} (h : TI w B tb S NB cnt) {x : Nat} (hx : S.has x) : x < w.heap.size := by
  rcases hx with ⟨p, hp⟩ | ⟨p, hp⟩
  · exact h.lt hp
  · exact h.mlt hp
theorem TI.has_base {w : World} {B tb NB cnt : Nat} {S : TS} (h : TI w B tb S NB cnt) {x : Nat} (hx : S.has x) : B ≤ x := by
  rcases hx with ⟨p, hp⟩ | ⟨p, hp⟩
  · exact h.base _ _ hp
  · exact h.mbase _ _ hp
end Go.Proofs.Ytomfkdaaimhmkaa
