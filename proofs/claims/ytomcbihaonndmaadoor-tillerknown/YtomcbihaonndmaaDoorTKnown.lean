/- TillerKnown: what is beside the trie, and what its longest row is. -/
import Derived.Test.YtomcbihaonndmaaDoorTKeep
import Derived.Test.YtomcbihaonndmaaDoorKBurst
namespace Go.Proofs.YtomcbihaonndmaaDoor
open Go.ChangeShapes Go.WideShapes Go.ChangeAt Go.RowKit Go.Maps
theorem TA.beside {w w' : World} {B tb NB cnt g : Nat} {vl : List Int → Option Int} (h : TA w B tb vl NB cnt) (hx : XBlk w g) (hk : ∀ x, x < w.heap.size → x ≠ g → w'.heap[x]? = w.heap[x]?) : TA w' B tb vl NB cnt := by
  obtain ⟨S, hT, hv⟩ := h
  exact ⟨S, hT.same (fun p x hp => hk x (hT.lt hp) (fun e => hx.nd hT p (e ▸ hp))) (fun p x hp => hk x (hT.mlt hp) (fun e => hx.mp hT p (e ▸ hp))), hv⟩
theorem lgN_zero (vl : List Int → Option Int) (A : List Int) : ∀ i, (lgN vl A i).1 = 0 → (lgN vl A i).2 = 0
  | 0, _ => rfl
  | i + 1, h => by
    rcases hv : vl (A.take (i + 1)) with _ | v
    · rw [lgN_off hv] at h ⊢; exact lgN_zero vl A i h
    · rw [lgN_on hv] at h; exact absurd h (by simp)
theorem lgN_some (vl : List Int → Option Int) (A : List Int) : ∀ i, (lgN vl A i).1 ≠ 0 → vl (A.take (lgN vl A i).1) = some (lgN vl A i).2
  | 0, h => absurd rfl h
  | i + 1, h => by
    rcases hv : vl (A.take (i + 1)) with _ | v
    · rw [lgN_off hv] at h ⊢; exact lgN_some vl A i h
    · rw [lgN_on hv]; exact hv
/-- Each value that is kept is the number of a frame. -/
def KV (vl : List Int → Option Int) (i : Nat) : Prop := ∀ A v, vl A = some v → ∃ j : Nat, j < i ∧ v = (j : Int)
theorem kv_none : KV (fun _ => none) 0 := fun A v h => by cases h
theorem KV.put {vl : List Int → Option Int} {i : Nat} (h : KV vl i) (A : List Int) : KV (putV vl A (i : Int)) (i + 1) := fun C v hc => by
  have old : ∀ C v, vl C = some v → ∃ j : Nat, j < i + 1 ∧ v = (j : Int) := fun C v hc => let ⟨j, h1, h2⟩ := h C v hc; ⟨j, by omega, h2⟩
  unfold putV at hc
  split at hc
  · exact old C v hc
  · split at hc
    · exact old C v hc
    · by_cases e : C = A
      · subst e; rw [upd_same] at hc; injection hc with hc; exact ⟨i, by omega, hc.symm⟩
      · rw [upd_other _ _ e] at hc; exact old C v hc
/-- In w the slice from ao on is a row of texts. -/
structure StrsAt (w : World) (ao : Option Addr) (n : Nat) (S : Nat → ByteArray) : Prop where
  max : n ≤ 9223372036854775807
  cells : 0 < n → ∃ b o, ao = some ⟨b, o, none⟩ ∧ ∀ t, t < n → w.cell? ⟨b, o + t, none⟩ = some (.string (S t))
/-- Text t, cut. -/
def ct (S : Nat → ByteArray) (t : Nat) : List UInt8 := (S t).data.toList.take 60
theorem ct_len (S : Nat → ByteArray) (t : Nat) : (ct S t).length ≤ 60 := by unfold ct; rw [List.length_take]; omega
/-- The frames of the first i texts. -/
def FrV (S : Nat → ByteArray) (i : Nat) : List Value := (List.range i).map fun t => .string (txt (packL (ct S t)))
theorem FrV_succ (S : Nat → ByteArray) (i : Nat) : FrV S (i + 1) = FrV S i ++ [.string (txt (packL (ct S i)))] := by unfold FrV; rw [List.range_succ, List.map_append]; rfl
theorem FrV_get (S : Nat → ByteArray) (i j : Nat) (h : j < i) : (FrV S i)[j]? = some (.string (txt (packL (ct S j)))) := by unfold FrV; simp [h]
/-- The frames' row, in memory of the call's own. -/
def FrAt (w : World) (B g i cap : Nat) (S : Nat → ByteArray) : Prop := w.ownsRow B 9 1 (.slice (some ⟨g, 0, none⟩) i cap) i (FrV S i)
theorem FrAt.parts {w : World} {B g i cap : Nat} {S : Nat → ByteArray} (h : FrAt w B g i cap S) : B ≤ g ∧ (∃ cur, w.heap[g]? = some (.cells cur 9 (0, 0))) ∧ i ≤ cap ∧ cap ≤ 9223372036854775807 := by
  rcases h.2 with ⟨h3, _⟩ | ⟨g', c', cur, hv, hg, hh, h5, h6, _⟩
  · cases h3
  · simp only [Value.slice.injEq, Option.some.injEq, Addr.mk.injEq, and_true] at hv
    obtain ⟨rfl, -, rfl⟩ := hv
    exact ⟨hg, ⟨cur, hh⟩, h5, by simpa [maxLen] using h6⟩
theorem FrAt.get {w : World} {B g i cap : Nat} {S : Nat → ByteArray} (h : FrAt w B g i cap S) (j : Nat) (hj : j < i) : w.cell? ⟨g, j, none⟩ = some (.string (txt (packL (ct S j)))) := by
  have hc := World.ownsRow.cells h (g := g) rfl j _ (FrV_get S i j hj)
  have e2 : (Addr.mk g 0 none).add j = ⟨g, j, none⟩ := by simp [Addr.add]; intro h; exact h.symm
  rw [e2] at hc
  exact hc
theorem FrAt.of_block {w w' : World} {B g i cap : Nat} {S : Nat → ByteArray} (h : FrAt w B g i cap S) (hb : w'.heap[g]? = w.heap[g]?) : FrAt w' B g i cap S := by
  obtain ⟨h1, h2⟩ := h
  refine ⟨h1, ?_⟩
  rcases h2 with h2 | ⟨g', cap', cur, hv, hg, hh, r⟩
  · exact Or.inl h2
  · have e := hv
    simp only [Value.slice.injEq, Option.some.injEq, Addr.mk.injEq, and_true] at e
    obtain ⟨rfl, -, -⟩ := e
    exact Or.inr ⟨g, cap', cur, hv, hg, by rw [hb]; exact hh, r⟩
theorem FrAt.lt {w : World} {B g i cap : Nat} {S : Nat → ByteArray} (h : FrAt w B g i cap S) : g < w.heap.size := by
  obtain ⟨_, ⟨cur, e⟩, _⟩ := h.parts
  exact (Array.getElem?_eq_some_iff.1 e).1
theorem FrAt.below {w w' : World} {B g i cap : Nat} {S : Nat → ByteArray} (h : FrAt w B g i cap S) (hb : Below w.heap.size w w') : FrAt w' B g i cap S := h.of_block (hb.block g h.lt)
theorem FrAt.xblk {w : World} {B g i cap : Nat} {S : Nat → ByteArray} (h : FrAt w B g i cap S) (h0 : i = 0 → cap = 0) : XBlk w g := by
  obtain ⟨_, ⟨cur, e⟩, _, _⟩ := h.parts
  refine ⟨⟨cur, _, _, e⟩, fun m hm => ?_⟩
  rcases Nat.eq_zero_or_pos i with hi | hi
  · rcases h.2 with ⟨h3, _⟩ | ⟨g', c', cur', hv, hg, hh, h5, h6, h7, h8⟩
    · cases h3
    · simp only [Value.slice.injEq, Option.some.injEq, Addr.mk.injEq, and_true] at hv
      obtain ⟨rfl, -, rfl⟩ := hv
      rw [h0 hi] at h7
      obtain rfl : cur' = #[] := Array.size_eq_zero_iff.1 (by omega)
      simp [World.cell?, hh] at hm
  · have := h.get 0 hi
    rw [this] at hm
    cases hm
theorem fr_some {w : World} {B n e : Nat} {v : Value} {xs : List Value} (h : w.ownsRow B e 1 v n xs) (hn : 0 < n) : ∃ g c, v = .slice (some ⟨g, 0, none⟩) n c := by
  rcases h.2 with ⟨_, h4⟩ | ⟨g, c, _, hv, _⟩
  · omega
  · exact ⟨g, c, hv⟩
theorem str_cell (w : World) (X : ByteArray) : ∀ (j : Nat) (u : Value), ([Value.string X] : List Value)[j]? = some u → (w.alloc (.cells #[.string X] 9)).cell? ((⟨w.heap.size, 0, none⟩ : Addr).add j) = some u := fun j u hj => by
  rcases j with _ | j
  · simp at hj
    subst hj
    have e2 : (Addr.mk w.heap.size 0 none).add 0 = ⟨w.heap.size, 0, none⟩ := by simp [Addr.add]
    rw [e2, World.cell?_alloc_at _ _ _ _ (by simp)]; rfl
  · simp at hj
theorem str_one (X : ByteArray) : ∀ u ∈ ([Value.string X] : List Value), u.oneCell' = true := fun u hu => by simp at hu; subst hu; rfl
theorem putE_zero : putE 0 = 8 := rfl
theorem putE_big {n : Nat} (h : 128 < n) : putE n = 2 := by unfold putE; rw [if_neg (by omega), if_pos h]
theorem putE_ok {n : Nat} (h1 : 1 ≤ n) (h : n ≤ 128) : putE n = 0 := by unfold putE; rw [if_neg (by omega), if_neg (by omega)]
theorem set_self : ∀ (L : List UInt8) (i : Nat), L.set i (L.getD i 0) = L
  | [], _ => rfl
  | _ :: _, 0 => rfl
  | a :: L, i + 1 => by
    show a :: L.set i (L.getD i 0) = a :: L
    rw [set_self L i]
theorem Tryd.infoStr : (Tryd.prog.info? 9).map (fun i => (i.zero, i.size, i.bytes)) = some (some (.string ⟨#[]⟩), 1, 16) := by kernel_rfl
end Go.Proofs.YtomcbihaonndmaaDoor
