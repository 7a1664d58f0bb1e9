/- A row of parcels beside a net: it stays whatever the net does, and grows without touching it. -/
import Derived.Test.YtgbljkbiigcofaaNAwake
import Derived.Test.YtgbljkbiigcofaaNText
import Derived.Test.YtgbljkbiigcofaaNView
namespace Go.Proofs.Ytgbljkbiigcofaa
open Go.ChangeShapes Go.WideShapes Go.ChangeAt Go.RowKit
/-- A row of parcels of the law's own, apart from the net in b. -/
structure Bes (b : Nat) (w : World) (v : Value) (L : List Pc) : Prop where
  row : PRow 38 w b v L
  off : ∀ k, v.ownBlock = some k → Beside b w k
theorem Bes.turns {b : Nat} {w w' : World} {v : Value} {L : List Pc} (h : Bes b w v L) (t : Turns b w w') : Bes b w' v L :=
  ⟨h.row.of_block fun g hg => (h.off g hg).same t, fun k hk => (h.off k hk).turns t⟩
theorem Bes.below {b : Nat} {w w' : World} {v : Value} {L : List Pc} (h : Bes b w v L) (hb : b < w.heap.size) (t : Below w.heap.size w w') : Bes b w' v L := h.turns (Turns.of_below t hb)
theorem NetAt.grown {b : Nat} {w w' : World} {v : Value} {L : List Pc} {lost : Int} (h : NetAt w b L lost) (hv : ∀ k, v.ownBlock = some k → Beside b w k) (G : w.grownBy w' v.ownBlock) : NetAt w' b L lost ∧ rowBlk w' b = rowBlk w b := by
  have e0 : w'.heap[b]? = w.heap[b]? := G.block b h.lt (fun e => (hv b e.symm).ne rfl)
  exact ⟨h.of_blocks e0 fun g hg => G.block g (h.row_lt g hg).2 (fun e => (hv g e.symm).row hg), rowBlk_same e0⟩
theorem beside_after {b g' : Nat} {w w' : World} {v : Value} {L : List Pc} {lost : Int} (h : NetAt w b L lost) (hv : ∀ k, v.ownBlock = some k → Beside b w k) (G : w.grownBy w' v.ownBlock) (hg : v.ownBlock = some g' ∨ g' = w.heap.size) (hlt : g' < w'.heap.size) : Beside b w' g' := by
  have e := (h.grown hv G).2
  rcases hg with e2 | e2
  · have q := hv g' e2
    exact ⟨hlt, q.ne, by rw [e]; exact q.row⟩
  · subst e2
    exact ⟨hlt, by have := h.lt; omega, by rw [e]; intro e3; have := h.row_lt _ e3; omega⟩
/-- append of a parcel onto such a row. -/
theorem wpList_append_bes {ops : Array Oper} {rest : List Oper} {o : Oper} {a : Act} {w : World} {Q : Exit → Act → World → Prop} (hgd : o.guard = none) (s x : Operand)
    (ho : o.op = .call { callee := .builtin .append, args := #[s, x], argTypes := #[23, 23] })
    (b : Nat) (v : Value) (L M : List Pc) (lost : Int) (p : Pc) (bo : Nat) (hs : a.eval s = v) (hx : a.eval x = .slice (some ⟨bo, 0, none⟩) 1 1)
    (hN : NetAt w b M lost) (hV : Bes b w v L) (hX : Blk w bo 38 #[.int .i64 p.to, .string p.fr, .bool p.tn]) (hlen : L.length + 1 ≤ 1048576)
    (h : ∀ ao c w', NetAt w' b M lost → Bes b w' (.slice ao (L.length + 1) c) (L ++ [p]) → Below b w w' → wpList Try.prog ops Q rest (a.put o.dst (.slice ao (L.length + 1) c)) w') : wpList Try.prog ops Q (o :: rest) a w := by
  obtain ⟨i0, hi, hz0, hz1, hz2⟩ := info_parts Try.infoParcel
  refine wpList_append_own2 w hgd s x 23 ho b 38 i0 _ 3 32 Try.underlying23 hi hz0 hz1 hz2 rfl (by decide) _ L.length _ hs hV.row ⟨bo, 0, none⟩ 1 1 [.int .i64 p.to, .string p.fr, .bool p.tn] hx rfl ?_ (flat_one [p]) (by unfold maxLen; omega) (by omega) (Nat.le_of_lt hN.lt) ?_
  · intro j u hj
    rw [Addr.add_lit, Nat.zero_add]
    exact hX.cell j (by simpa using hj)
  · intro v' w' hown' hgr hnil hob
    have O : PRow 38 w' b v' (L ++ [p]) := by
      unfold PRow
      rw [flat_append, List.length_append]
      exact hown'
    have hB : Below b w w' := (Below.refl _ _).grown hgr (Nat.le_of_lt hN.lt) (fun k hk => (hV.row.lt k hk).1)
    have N' := (hN.grown hV.off hgr).1
    have O' : Bes b w' v' (L ++ [p]) := ⟨O, fun k hk => beside_after hN hV.off hgr (hob k hk) (O.lt k hk).2⟩
    obtain ⟨ao, c, e⟩ := O.slice
    rw [List.length_append] at e
    subst e
    exact h ao c w' N' O' hB
theorem drop_get {L : List Pc} {k : Nat} : pc (L.drop k) 0 = pc L k := by
  unfold pc
  simp [List.getD_eq_getElem?_getD, List.getElem?_drop]
theorem drop_erase {L : List Pc} {k : Nat} : (L.drop k).eraseIdx 0 = L.drop (k + 1) := by
  rw [List.eraseIdx_zero, List.tail_drop]
theorem bes_new {b : Nat} {w : World} {L : List Pc} {lost : Int} (h : NetAt w b L lost) : Bes b (w.alloc (.cells #[] 38)) (.slice (some ⟨w.heap.size, 0, none⟩) 0 0) [] := by
  refine ⟨⟨rfl, Or.inr ⟨w.heap.size, 0, #[], rfl, Nat.le_of_lt h.lt, blk_new _ _ _, Nat.le_refl _, by unfold maxLen; omega, rfl, rfl⟩⟩, fun k hk => ?_⟩
  simp only [Value.ownBlock, Option.some.injEq] at hk
  subst hk
  have e : rowBlk (w.alloc (.cells #[] 38)) b = rowBlk w b := rowBlk_same (((Below.refl _ w).alloc (Nat.le_refl _) _).block b h.lt)
  exact ⟨by simp, by have := h.lt; omega, by rw [e]; intro e3; have := h.row_lt _ e3; omega⟩
theorem StrsAt.at {w : World} {ao : Option Addr} {n : Nat} {S : Nat → ByteArray} (h : StrsAt w ao n S) {i : Nat} (hi : i < n) : ∃ b o, ao = some ⟨b, o, none⟩ ∧ ∀ W, Below w.heap.size w W → W.cell? ⟨b, o + i, none⟩ = some (.string (S i)) := by
  obtain ⟨b, o, e, hc⟩ := h.cells (by omega)
  refine ⟨b, o, e, fun W hb => ?_⟩
  have := hc i hi
  rw [World.cell?_of_block (w := w) (hb.block _ (World.block_lt_of_cell? w _ this))]
  exact this
theorem IRow.at {w : World} {ao : Option Addr} {n : Nat} {Z : Nat → Int} (h : IRow w ao n Z) {i : Nat} (hi : i < n) : ∃ b o, ao = some ⟨b, o, none⟩ ∧ ∀ W, Below w.heap.size w W → W.cell? ⟨b, o + i, none⟩ = some (.int .i64 (Z i)) := by
  obtain ⟨b, o, e, hc⟩ := h.cells (by omega)
  refine ⟨b, o, e, fun W hb => ?_⟩
  have := hc i hi
  rw [World.cell?_of_block (w := w) (hb.block _ (World.block_lt_of_cell? w _ this))]
  exact this
/-- A new block is none of a net's. -/
theorem beside_new {b : Nat} {w : World} {L : List Pc} {lost : Int} (h : NetAt w b L lost) (o : Obj) : Beside b (w.alloc o) w.heap.size := by
  have e : rowBlk (w.alloc o) b = rowBlk w b := rowBlk_same (((Below.refl _ w).alloc (Nat.le_refl _) _).block b h.lt)
  exact ⟨by simp, by have := h.lt; omega, by rw [e]; intro e3; have := h.row_lt _ e3; omega⟩
/-- A frame that is cut. -/
def cutF (s : ByteArray) (n : Nat) : ByteArray := txt (s.data.toList.take n)
theorem cutF_size (s : ByteArray) (n : Nat) : (cutF s n).size ≤ n := by unfold cutF; rw [txt_size, List.length_take]; omega
theorem cutF_any (s : ByteArray) (n : Nat) (w : World) : Calls Try.prog 14 #[.string s, .int .i64 (n : Int)] w fun e w' => e = .returned (.string (cutF s n)) ∧ w' = w := cut_any s n w
end Go.Proofs.Ytgbljkbiigcofaa
