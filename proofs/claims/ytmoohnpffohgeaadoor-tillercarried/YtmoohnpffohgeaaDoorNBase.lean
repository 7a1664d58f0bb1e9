/- Rows of parcels as they lie in memory: of a net, and of the document's. -/
import Derived.Test.YtmoohnpffohgeaaDoorRows
import Derived.Test.YtmoohnpffohgeaaDoorKin
import Derived.Test.YtmoohnpffohgeaaDoorWrCong
import Derived.Test.YtmoohnpffohgeaaDoorWrBur
import Derived.Deep.OwnRows
import Derived.Deep.LoopGhost
import Derived.Deep.RegionWith
import Derived.Deep.RegionLaw
import Derived.Deep.QuietTactic
import Derived.Laws.Tables
import Derived.Laws.ResultCell
import Derived.Laws.AppendOwnNone
import Derived.Lib.SliceRun
import Derived.Lib.Hide
import Derived.Shelf.Abstract
namespace Go.Proofs.YtmoohnpffohgeaaDoor
open Go.ChangeShapes Go.WideShapes Go.ChangeAt Go.RowKit
theorem blk_setCells (g : Nat) (T : TypeId) : ∀ (l : List Value) (o : Nat) (w : World) (cs : Array Value), Blk w g T cs → o + l.length ≤ cs.size → Blk (w.setCells g o l) g T (cs.toList.take o ++ l ++ cs.toList.drop (o + l.length)).toArray
  | [], o, w, cs, h, _ => by show Blk w g T _; simpa using h
  | v :: r, o, w, cs, h, hl => by
    simp only [List.length_cons] at hl
    have h1 := blk_setCells g T r (o + 1) _ _ (h.set o v) (by simp; omega)
    have e : ((cs.setIfInBounds o v).toList.take (o + 1) ++ r ++ (cs.setIfInBounds o v).toList.drop (o + 1 + r.length)) = cs.toList.take o ++ v :: r ++ cs.toList.drop (o + (v :: r).length) := by
      have ho : o < cs.toList.length := by simp; omega
      rw [Array.toList_setIfInBounds, List.take_succ_eq_append_getElem (by simpa using ho), List.take_set_of_le (Nat.le_refl _), List.getElem_set_self, List.drop_set_of_lt (by omega)]
      simp [show o + 1 + r.length = o + (r.length + 1) by omega]
    rw [e] at h1
    exact h1
theorem grownBy_set {w w' : World} {g : Nat} (h : w.grownBy w' (some g)) (k : Nat) (v : Value) : w.grownBy (w'.setCell ⟨g, k, none⟩ v) (some g) :=
  ⟨h.os, h.tape, h.output, by simpa [World.setCell] using h.size, fun j hj hn => by
    rw [Below.heap_setCell _ _ _ _ (fun e => hn (by rw [e]))]; exact h.block j hj hn⟩
theorem grownBy_setCells {w : World} (g : Nat) : ∀ (l : List Value) (o : Nat) (w' : World), w.grownBy w' (some g) → w.grownBy (w'.setCells g o l) (some g)
  | [], _, _, h => h
  | _ :: r, o, _, h => grownBy_setCells g r (o + 1) _ (grownBy_set h o _)
theorem grownBy_refl (w : World) (r : Option Nat) : w.grownBy w r := ⟨rfl, rfl, rfl, Nat.le_refl _, fun _ _ _ => rfl⟩
/-- A parcel. -/
structure Pc where
  to : Int
  fr : ByteArray
  tn : Bool
instance : Inhabited Pc := ⟨⟨0, ⟨#[]⟩, false⟩⟩
def Pc.val (p : Pc) : Value := .agg #[.int .i64 p.to, .string p.fr, .bool p.tn]
/-- The parcel at a place; beyond the last one: the zero one. -/
def pc (L : List Pc) (i : Nat) : Pc := L.getD i default
theorem pc_get {L : List Pc} {i : Nat} (hi : i < L.length) : L[i] = pc L i := by
  unfold pc; simp [List.getD_eq_getElem?_getD, List.getElem?_eq_getElem hi]
theorem pc_set {L : List Pc} {i : Nat} (hi : i < L.length) (p : Pc) (j : Nat) : pc (L.set i p) j = if j = i then p else pc L j := by
  unfold pc
  simp only [List.getD_eq_getElem?_getD, List.getElem?_set]
  by_cases h : i = j
  · subst h; simp [hi]
  · rw [if_neg h, if_neg (fun e => h e.symm)]
/-- The cells of a row. -/
def flat : List Pc → List Value
  | [] => []
  | p :: L => .int .i64 p.to :: .string p.fr :: .bool p.tn :: flat L
theorem flat_len : ∀ L : List Pc, (flat L).length = L.length * 3
  | [] => rfl
  | _ :: L => by simp only [flat, List.length_cons, flat_len L]; omega
theorem flat_append : ∀ L M : List Pc, flat (L ++ M) = flat L ++ flat M
  | [], _ => rfl
  | _ :: L, M => by simp [flat, flat_append L M]
theorem flat_take : ∀ (L : List Pc) (i : Nat), flat (L.take i) = (flat L).take (i * 3)
  | [], i => by simp [flat]
  | _ :: _, 0 => by simp [flat]
  | p :: L, i + 1 => by simp [flat, flat_take L i, show (i + 1) * 3 = i * 3 + 1 + 1 + 1 by omega]
theorem flat_drop : ∀ (L : List Pc) (i : Nat), flat (L.drop i) = (flat L).drop (i * 3)
  | [], i => by simp [flat]
  | _ :: _, 0 => by simp
  | p :: L, i + 1 => by simp [flat, flat_drop L i, show (i + 1) * 3 = i * 3 + 1 + 1 + 1 by omega]
theorem flat_at : ∀ (L : List Pc) (i : Nat), i < L.length → (flat L)[i * 3]? = some (.int .i64 (pc L i).to) ∧ (flat L)[i * 3 + 1]? = some (.string (pc L i).fr) ∧ (flat L)[i * 3 + 2]? = some (.bool (pc L i).tn)
  | [], _, h => by simp at h
  | p :: L, 0, _ => ⟨rfl, rfl, rfl⟩
  | p :: L, i + 1, h => by
    obtain ⟨h1, h2, h3⟩ := flat_at L i (by simpa using h)
    have e : pc (p :: L) (i + 1) = pc L i := rfl
    rw [e, show (i + 1) * 3 = i * 3 + 3 by omega, show i * 3 + 3 + 1 = i * 3 + 1 + 3 by omega, show i * 3 + 3 + 2 = i * 3 + 2 + 3 by omega]
    exact ⟨h1, h2, h3⟩
theorem flat_one : ∀ (L : List Pc) (u : Value), u ∈ flat L → u.oneCell' = true
  | [], _, h => by simp [flat] at h
  | p :: L, u, h => by
    simp only [flat, List.mem_cons] at h
    rcases h with rfl | rfl | rfl | h
    · rfl
    · rfl
    · rfl
    · exact flat_one L u h
theorem flat_erase (L : List Pc) (i : Nat) : flat (L.eraseIdx i) = (flat L).take (i * 3) ++ (flat L).drop ((i + 1) * 3) := by
  rw [List.eraseIdx_eq_take_drop_succ, flat_append, flat_take, flat_drop]
/-- A row of parcels of the program's own, in a block from B on. -/
def PRow (T : TypeId) (w : World) (B : Nat) (v : Value) (L : List Pc) : Prop := w.ownsRow B T 3 v L.length (flat L)
theorem PRow.nil (T : TypeId) (w : World) (B : Nat) : PRow T w B (.slice none 0 0) [] := World.ownsRow_nil _ _ _ _
theorem PRow.of_block {T : TypeId} {w w' : World} {B : Nat} {v : Value} {L : List Pc} (h : PRow T w B v L) (hb : ∀ g, v.ownBlock = some g → w'.heap[g]? = w.heap[g]?) : PRow T w' B v L := by
  refine ⟨h.1, ?_⟩
  rcases h.2 with h2 | ⟨g, cap, cur, h3, h4, h5, h6⟩
  · exact Or.inl h2
  · exact Or.inr ⟨g, cap, cur, h3, h4, (hb g (by rw [h3]; rfl)).trans h5, h6⟩
theorem PRow.mono {T : TypeId} {w : World} {B B' : Nat} {v : Value} {L : List Pc} (h : PRow T w B v L) (hb : ∀ g, v.ownBlock = some g → B' ≤ g) : PRow T w B' v L := by
  refine ⟨h.1, ?_⟩
  rcases h.2 with h2 | ⟨g, cap, cur, h3, h4, h5⟩
  · exact Or.inl h2
  · exact Or.inr ⟨g, cap, cur, h3, hb g (by rw [h3]; rfl), h5⟩
theorem PRow.lt {T : TypeId} {w : World} {B : Nat} {v : Value} {L : List Pc} (h : PRow T w B v L) (g : Nat) (hg : v.ownBlock = some g) : B ≤ g ∧ g < w.heap.size := World.ownsRow.lt h g hg
theorem PRow.below {T : TypeId} {w w' : World} {B : Nat} {v : Value} {L : List Pc} (h : PRow T w B v L) (hb : Below w.heap.size w w') : PRow T w' B v L := h.of_block fun g hg => hb.block g (h.lt g hg).2
theorem PRow.other {T : TypeId} {w : World} {B : Nat} {v : Value} {L : List Pc} (h : PRow T w B v L) {a : Addr} (ha : v.ownBlock ≠ some a.block) (u : Value) : PRow T (w.setCell a u) B v L :=
  h.of_block fun g hg => Below.heap_setCell _ _ _ _ (fun e => ha (by rw [hg, e]))
theorem PRow.slice {T : TypeId} {w : World} {B : Nat} {v : Value} {L : List Pc} (h : PRow T w B v L) : ∃ ao c, v = .slice ao L.length c := by
  rcases h.2 with ⟨h2, h3⟩ | ⟨g, cap, cur, h3, _⟩
  · exact ⟨none, 0, by rw [h2, h3]⟩
  · exact ⟨_, _, h3⟩
theorem PRow.cases {T : TypeId} {w : World} {B : Nat} {v : Value} {L : List Pc} (h : PRow T w B v L) : (v = .slice none 0 0 ∧ L = []) ∨ ∃ g cap cs, v = .slice (some ⟨g, 0, none⟩) L.length cap ∧ B ≤ g ∧ Blk w g T cs ∧ L.length ≤ cap ∧ cap ≤ maxLen ∧ cs.size = cap * 3 ∧ cs.toList.take (L.length * 3) = flat L := by
  rcases h.2 with ⟨h2, h3⟩ | ⟨g, cap, cur, h3, h4, h5, h6, h7, h8, h9⟩
  · exact Or.inl ⟨h2, List.length_eq_zero_iff.1 h3⟩
  · exact Or.inr ⟨g, cap, cur, h3, h4, h5, h6, h7, h8, h9⟩
theorem PRow.mk' {T : TypeId} {w : World} {B g cap : Nat} {L : List Pc} {cs : Array Value} (hB : B ≤ g) (h : Blk w g T cs) (hl : L.length ≤ cap) (hm : cap ≤ maxLen) (hs : cs.size = cap * 3) (hc : cs.toList.take (L.length * 3) = flat L) : PRow T w B (.slice (some ⟨g, 0, none⟩) L.length cap) L :=
  ⟨flat_len L, Or.inr ⟨g, cap, cs, rfl, hB, h, hl, hm, hs, hc⟩⟩
/-- Of a row with parcels: where it lies, and its cells. -/
theorem PRow.cells {T : TypeId} {w : World} {B : Nat} {v : Value} {L : List Pc} (h : PRow T w B v L) (hl : 0 < L.length) : ∃ g cap, v = .slice (some ⟨g, 0, none⟩) L.length cap ∧ B ≤ g ∧ g < w.heap.size ∧ L.length ≤ cap ∧ cap ≤ 9223372036854775807 ∧ (∀ k, w.frozen? ⟨g, k, none⟩ = false) ∧ (∀ k, k < cap * 3 → (w.cell? ⟨g, k, none⟩).isSome = true) ∧
    ∀ i, i < L.length → w.cell? ⟨g, i * 3, none⟩ = some (.int .i64 (pc L i).to) ∧ w.cell? ⟨g, i * 3 + 1, none⟩ = some (.string (pc L i).fr) ∧ w.cell? ⟨g, i * 3 + 2, none⟩ = some (.bool (pc L i).tn) := by
  rcases h.cases with ⟨_, rfl⟩ | ⟨g, cap, cs, rfl, h2, h3, h4, h5, h6, h7⟩
  · simp at hl
  · refine ⟨g, cap, rfl, h2, h3.lt, h4, by simpa [maxLen] using h5, h3.frozen, fun k hk => ?_, fun i hi => ?_⟩
    · rw [h3.cell k (Array.getElem?_eq_getElem (by omega))]; rfl
    · obtain ⟨a1, a2, a3⟩ := flat_at L i hi
      rw [← h7, List.getElem?_take, if_pos (by omega)] at a1 a2 a3
      exact ⟨h3.cell _ (by simpa using a1), h3.cell _ (by simpa using a2), h3.cell _ (by simpa using a3)⟩
/-- In w lies a net in block b: its parcels L, how many were lost. -/
structure NetAt (w : World) (b : Nat) (L : List Pc) (lost : Int) : Prop where
  box : ∃ v, Blk w b 33 #[v, .int .i64 lost] ∧ PRow 48 w (b + 1) v L
/-- The block of a net's row. -/
def rowBlk (w : World) (b : Nat) : Option Nat := (w.cell? ⟨b, 0, none⟩).bind Value.ownBlock
theorem rowBlk_of {w : World} {b : Nat} {v : Value} (h : w.cell? ⟨b, 0, none⟩ = some v) : rowBlk w b = v.ownBlock := by unfold rowBlk; rw [h]; rfl
theorem rowBlk_same {w w' : World} {b : Nat} (h : w'.heap[b]? = w.heap[b]?) : rowBlk w' b = rowBlk w b := by
  unfold rowBlk
  rw [World.cell?_of_block (w := w) (w' := w') (a := ⟨b, 0, none⟩) h]
theorem NetAt.parts {w : World} {b : Nat} {L : List Pc} {lost : Int} (h : NetAt w b L lost) : ∃ ao c, Blk w b 33 #[.slice ao L.length c, .int .i64 lost] ∧ PRow 48 w (b + 1) (.slice ao L.length c) L ∧ rowBlk w b = (Value.slice ao L.length c).ownBlock := by
  obtain ⟨v, h1, h2⟩ := h.box
  obtain ⟨ao, c, rfl⟩ := h2.slice
  exact ⟨ao, c, h1, h2, rowBlk_of (h1.cell 0 rfl)⟩
theorem NetAt.lt {w : World} {b : Nat} {L : List Pc} {lost : Int} (h : NetAt w b L lost) : b < w.heap.size := by
  obtain ⟨v, h1, _⟩ := h.box
  exact h1.lt
theorem NetAt.row_lt {w : World} {b : Nat} {L : List Pc} {lost : Int} (h : NetAt w b L lost) (g : Nat) (hg : rowBlk w b = some g) : b < g ∧ g < w.heap.size := by
  obtain ⟨ao, c, h1, h2, h3⟩ := h.parts
  have := h2.lt g (by rw [← h3]; exact hg)
  omega
theorem NetAt.of_blocks {w w' : World} {b : Nat} {L : List Pc} {lost : Int} (h : NetAt w b L lost) (h0 : w'.heap[b]? = w.heap[b]?) (h1 : ∀ g, rowBlk w b = some g → w'.heap[g]? = w.heap[g]?) : NetAt w' b L lost := by
  obtain ⟨ao, c, h2, h3, h4⟩ := h.parts
  exact ⟨_, h2.of_block h0, h3.of_block fun g hg => h1 g (by rw [h4]; exact hg)⟩
theorem NetAt.below {w w' : World} {b : Nat} {L : List Pc} {lost : Int} (h : NetAt w b L lost) (hb : Below w.heap.size w w') : NetAt w' b L lost :=
  h.of_blocks (hb.block b h.lt) fun g hg => hb.block g (h.row_lt g hg).2
/-- Of what was there, only the net in b may have turned; its row stays in its block or goes into a new one. -/
structure Turns (b : Nat) (w w' : World) : Prop where
  below : Below b w w'
  block : ∀ k, k < w.heap.size → k ≠ b → rowBlk w b ≠ some k → w'.heap[k]? = w.heap[k]?
  row : rowBlk w' b = rowBlk w b ∨ rowBlk w' b = none ∨ ∃ k, rowBlk w' b = some k ∧ w.heap.size ≤ k
theorem Turns.of_below {b : Nat} {w w' : World} (h : Below w.heap.size w w') (hb : b < w.heap.size) : Turns b w w' :=
  ⟨h.mono (by omega), fun k hk _ _ => h.block k hk, Or.inl (rowBlk_same (h.block _ hb))⟩
theorem Turns.trans {b : Nat} {w w1 w2 : World} (h : Turns b w w1) (k : Turns b w1 w2) : Turns b w w2 := by
  refine ⟨h.below.trans k.below, fun j hj h1 h3 => ?_, ?_⟩
  · rw [k.block j (Nat.lt_of_lt_of_le hj h.below.size) h1 ?_]
    · exact h.block j hj h1 h3
    · rcases h.row with e | e | ⟨q, e, hq⟩
      · rw [e]; exact h3
      · rw [e]; simp
      · rw [e]; intro e2; simp at e2; omega
  · rcases k.row with e | e | ⟨q, e, hq⟩
    · rw [e]; exact h.row
    · exact Or.inr (Or.inl e)
    · exact Or.inr (Or.inr ⟨q, e, Nat.le_trans h.below.size hq⟩)
theorem turns_set {b : Nat} {w w0 w2 : World} {r : Option Nat} {v v0 v1 : Value} (B0 : Below w.heap.size w w0) (hs : b < w.heap.size) (hr : rowBlk w b = r) (hr2 : ∀ g, r = some g → b < g) (G1 : w0.grownBy w2 r) (hb : Blk w2 b 33 #[v0, v1]) (hv : ∀ g, v.ownBlock = some g → r = some g ∨ w.heap.size ≤ g) : Turns b w (w2.setCell ⟨b, 0, none⟩ v) := by
  refine ⟨((B0.mono (by omega)).grown G1 (by have := B0.size; omega) (fun k hk => by have := hr2 k hk; omega)).setCell (by show b ≤ b; omega) _, fun k hk h2 h3 => ?_, ?_⟩
  · rw [Below.heap_setCell _ _ _ _ h2, G1.block k (Nat.lt_of_lt_of_le hk B0.size) (by rw [← hr]; exact fun e => h3 e.symm)]
    exact B0.block k hk
  · have e : rowBlk (w2.setCell ⟨b, 0, none⟩ v) b = v.ownBlock := rowBlk_of ((hb.set 0 v).cell 0 rfl)
    rw [e, hr]
    cases hq : v.ownBlock with
    | none => exact Or.inr (Or.inl rfl)
    | some g =>
      rcases hv g hq with e2 | e2
      · exact Or.inl e2.symm
      · exact Or.inr (Or.inr ⟨g, rfl, e2⟩)
/-- A block that is none of a net's. -/
structure Beside (b : Nat) (w : World) (k : Nat) : Prop where
  lt : k < w.heap.size
  ne : k ≠ b
  row : rowBlk w b ≠ some k
theorem Beside.turns {b k : Nat} {w w' : World} (h : Beside b w k) (ht : Turns b w w') : Beside b w' k := by
  refine ⟨Nat.lt_of_lt_of_le h.lt ht.below.size, h.ne, ?_⟩
  rcases ht.row with e | e | ⟨q, e, hq⟩
  · rw [e]; exact h.row
  · rw [e]; simp
  · rw [e]; intro e2; simp at e2; have := h.lt; omega
theorem Beside.same {b k : Nat} {w w' : World} (h : Beside b w k) (ht : Turns b w w') : w'.heap[k]? = w.heap[k]? := ht.block k h.lt h.ne h.row
end Go.Proofs.YtmoohnpffohgeaaDoor
