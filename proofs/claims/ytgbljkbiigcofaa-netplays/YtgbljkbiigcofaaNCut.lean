/- A net's Cut: slices.DeleteFunc of parcels to one node. -/
import Derived.Test.YtgbljkbiigcofaaNLook
namespace Go.Proofs.Ytgbljkbiigcofaa
open Go.ChangeShapes Go.WideShapes Go.ChangeAt Go.RowKit
/-- Is a parcel to this node? -/
def Pc.hit (k : Int) (p : Pc) : Bool := decide (p.to = k)
theorem cutHit_any (p : Pc) (k : Int) (c : Nat) (w : World) (hc : w.cell? ⟨c, 0, none⟩ = some (.int .i64 k)) : Calls Try.prog 30 #[p.val, .pointer (some ⟨c, 0, none⟩)] w fun e w' => e = .returned (.bool (p.hit k)) ∧ Below w.heap.size w w' := by
  obtain ⟨t, f, n⟩ := p
  have hl := World.block_lt_of_cell? w _ hc
  have hc2 := World.cell?_alloc_past (w := w) (.cells #[.int .i64 t, .string f, .bool n] 38) c 0 hl
  rw [hc] at hc2
  unfold Pc.val Pc.hit
  by_cases h : t = k <;>
  · have h' := h
    go_enter Try.func30, Try.ntmps30
    go_wp2
    go_ret
    exact ⟨by simp [h'], (Below.refl _ _).alloc (Nat.le_refl _) _⟩
/-- The first parcel that is hit; none: -1. -/
def idxP (k : Int) (L : List Pc) : Int := if L.findIdx (Pc.hit k) < L.length then (L.findIdx (Pc.hit k) : Int) else -1
theorem idxP_hit {k : Int} {L : List Pc} {j : Nat} (hj : j < L.length) (h : (pc L j).hit k = true) (hb : ∀ i, i < j → (pc L i).hit k = false) : idxP k L = j := by
  have e : L.findIdx (Pc.hit k) = j := by
    rw [List.findIdx_eq hj]
    exact ⟨by rw [pc_get hj]; exact h, fun i hi => by rw [pc_get (by omega)]; exact hb i hi⟩
  unfold idxP
  rw [e, if_pos hj]
theorem idxP_miss {k : Int} {L : List Pc} (hb : ∀ i, i < L.length → (pc L i).hit k = false) : idxP k L = -1 := by
  unfold idxP
  rw [if_neg]
  rw [List.findIdx_lt_length]
  rintro ⟨x, hx, h⟩
  obtain ⟨j, hj, rfl⟩ := List.getElem_of_mem hx
  rw [pc_get hj, hb j hj] at h
  cases h
theorem idxP_cases (k : Int) (L : List Pc) : (idxP k L = -1 ∧ ∀ i, i < L.length → (pc L i).hit k = false) ∨ ∃ j, j < L.length ∧ idxP k L = j ∧ (pc L j).hit k = true ∧ ∀ i, i < j → (pc L i).hit k = false := by
  unfold idxP
  by_cases h : L.findIdx (Pc.hit k) < L.length
  · refine Or.inr ⟨_, h, if_pos h, ?_, fun i hi => ?_⟩
    · rw [← pc_get h]; exact List.findIdx_getElem
    · rw [← pc_get (by omega)]
      have := List.not_of_lt_findIdx (p := Pc.hit k) (xs := L) (i := i) hi
      simpa using this
  · refine Or.inl ⟨if_neg h, fun i hi => ?_⟩
    cases hq : (pc L i).hit k with
    | false => rfl
    | true =>
      exfalso
      apply h
      rw [List.findIdx_lt_length]
      exact ⟨L[i], List.getElem_mem _, by rw [pc_get hi]; exact hq⟩
set_option maxHeartbeats 1000000 in
theorem pidx_any (c : Nat) (k : Int) (g cap : Nat) (cs : Array Value) (L : List Pc) (w : World) (hB : Blk w g 38 cs) (hT : cs.toList.take (L.length * 3) = flat L) (hl : L.length ≤ 256) (hcap : L.length ≤ cap) (hc : w.cell? ⟨c, 0, none⟩ = some (.int .i64 k)) :
   Calls Try.prog 34 #[.slice (some ⟨g, 0, none⟩) L.length cap, .func (.func 30) #[] #[.pointer (some ⟨c, 0, none⟩)]] w fun e w' => e = .returned (.int .i64 (idxP k L)) ∧ Below w.heap.size w w' := by
  have HC : Hid (∀ W, Below w.heap.size w W → W.cell? ⟨c, 0, none⟩ = some (.int .i64 k)) := fun W hW => by
    rw [World.cell?_of_block (w := w) (hW.block _ (World.block_lt_of_cell? w _ hc))]; exact hc
  have HP : Hid (∀ W, Below w.heap.size w W → ∀ i, i < L.length → W.cell? ⟨g, i * 3, none⟩ = some (.int .i64 (pc L i).to) ∧ W.cell? ⟨g, i * 3 + 1, none⟩ = some (.string (pc L i).fr) ∧ W.cell? ⟨g, i * 3 + 2, none⟩ = some (.bool (pc L i).tn)) := fun W hW i hi => by
    have hB' := hB.below hW hB.lt
    obtain ⟨a1, a2, a3⟩ := flat_at L i hi
    rw [← hT, List.getElem?_take, if_pos (by omega)] at a1 a2 a3
    exact ⟨hB'.cell _ (by simpa using a1), hB'.cell _ (by simpa using a2), hB'.cell _ (by simpa using a3)⟩
  clear hB hT hc
  generalize hn : L.length = n at *
  go_enter Try.func34, Try.ntmps34
  go_wp2
  go_loopg [5, 8] n (fun gg _ s8 wr => ∃ i : Nat, i ≤ n ∧ gg = n - i ∧ s8 = .int .i64 (i : Int) ∧ Below w.heap.size w wr ∧ Hid (∀ j, j < i → (pc L j).hit k = false))
  case atStart => exact ⟨0, by omega, by omega, rfl, Below.refl _ _, fun j hj => by omega⟩
  case round =>
    obtain ⟨i, hi, rfl, rfl, BW, H⟩ := hrel
    by_cases hlt : i < n
    · obtain ⟨c0, c1, c2⟩ := HP.out wr BW i hlt
      have hcall := cutHit_any (pc L i) k c wr (HC.out wr BW)
      cases hq : (pc L i).hit k with
      | true =>
        rw [hq] at hcall
        have HQ : Hid (idxP k L = (i : Int)) := idxP_hit (by omega) hq H.out
        clear hq H
        generalize pc L i = p at *
        obtain ⟨pt, pf, pn⟩ := p
        unfold Pc.val at hcall
        simp only at c0 c1 c2 hcall
        go_wp2_with (go_at_call 30; refine hcall.mono ?_; rintro e w' ⟨rfl, hb'⟩)
        go_ret
        exact ⟨by rw [HQ.out]; rfl, below_then BW hb'⟩
      | false =>
        rw [hq] at hcall
        have HQ : Hid (∀ j, j < i + 1 → (pc L j).hit k = false) := fun j hj => by
          by_cases e : j = i
          · rw [e]; exact hq
          · exact H.out j (by omega)
        clear hq H
        generalize pc L i = p at *
        obtain ⟨pt, pf, pn⟩ := p
        unfold Pc.val at hcall
        simp only at c0 c1 c2 hcall
        go_wp2_with (go_at_call 30; refine hcall.mono ?_; rintro e w' ⟨rfl, hb'⟩)
        go_roundg (n - (i + 1))
        case measure => omega
        case rel => exact ⟨i + 1, by omega, rfl, by go_num, below_then BW hb', HQ⟩
    · obtain rfl : i = n := by omega
      go_wp2
      go_ret
      exact ⟨by rw [idxP_miss (by rw [hn]; exact H.out)]; rfl, BW⟩
/-- The parcels to other nodes. -/
def rest (k : Int) (L : List Pc) : List Pc := L.filter fun p => !p.hit k
theorem rest_len (k : Int) (L : List Pc) : (rest k L).length ≤ L.length := List.length_filter_le _ _
theorem rest_none {k : Int} {L : List Pc} (h : ∀ i, i < L.length → (pc L i).hit k = false) : rest k L = L := by
  unfold rest
  rw [List.filter_eq_self]
  intro x hx
  obtain ⟨j, hj, e⟩ := List.getElem_of_mem hx
  have := h j hj
  rw [← pc_get hj, e] at this
  simp [this]
theorem rest_take {k : Int} {L : List Pc} {j : Nat} (hj : j < L.length) : rest k (L.take (j + 1)) = rest k (L.take j) ++ (if (pc L j).hit k = true then [] else [pc L j]) := by
  unfold rest
  rw [List.take_succ_eq_append_getElem hj, List.filter_append, pc_get hj]
  cases h : (pc L j).hit k <;> simp [h]
/-- The row while parcels leave it: the first j are looked at, p of them stay. -/
structure Mid (L : List Pc) (k : Int) (j p : Nat) (cs : Array Value) : Prop where
  len : (rest k (L.take j)).length = p
  lt : p < j
  low : cs.toList.take (p * 3) = flat (rest k (L.take j))
  high : ∀ t, j * 3 ≤ t → t < L.length * 3 → cs[t]? = (flat L)[t]?
theorem Mid.skip {L : List Pc} {k : Int} {j p : Nat} {cs : Array Value} (h : Mid L k j p cs) (hj : j < L.length) (e : (pc L j).hit k = true) : Mid L k (j + 1) p cs := by
  have e2 : rest k (L.take (j + 1)) = rest k (L.take j) := by rw [rest_take hj, if_pos e, List.append_nil]
  have := h.lt
  exact ⟨by rw [e2]; exact h.len, by omega, by rw [e2]; exact h.low, fun t h1 h2 => h.high t (by omega) h2⟩
theorem Mid.keep {L : List Pc} {k : Int} {j p : Nat} {cs : Array Value} (h : Mid L k j p cs) (hj : j < L.length) (e : (pc L j).hit k = false) (hs : L.length * 3 ≤ cs.size) :
    Mid L k (j + 1) (p + 1) (((cs.setIfInBounds (p * 3) (.int .i64 (pc L j).to)).setIfInBounds (p * 3 + 1) (.string (pc L j).fr)).setIfInBounds (p * 3 + 2) (.bool (pc L j).tn)) := by
  have e2 : rest k (L.take (j + 1)) = rest k (L.take j) ++ [pc L j] := by rw [rest_take hj, if_neg (by rw [e]; simp)]
  have hl := h.len
  have hp := h.lt
  have hf : (flat (rest k (L.take j))).length = p * 3 := by rw [flat_len, hl]
  refine ⟨by rw [e2, List.length_append, hl]; rfl, by omega, ?_, fun t h1 h2 => ?_⟩
  · rw [e2, flat_append]
    apply List.ext_getElem?
    intro t
    rw [List.getElem?_take]
    by_cases ht : t < (p + 1) * 3
    · rw [if_pos ht]
      simp only [Array.toList_setIfInBounds, List.getElem?_set, List.length_set, Array.length_toList]
      by_cases ht2 : t < p * 3
      · rw [if_neg (by omega), if_neg (by omega), if_neg (by omega), List.getElem?_append_left (by omega), ← h.low, List.getElem?_take, if_pos ht2]
      · rw [List.getElem?_append_right (by omega), hf]
        obtain ⟨r, rfl⟩ : ∃ r, t = p * 3 + r := ⟨t - p * 3, by omega⟩
        rw [Nat.add_sub_cancel_left]
        match r, (by omega : r < 3) with
        | 0, _ => rw [if_neg (by omega), if_neg (by omega), if_pos (by omega), if_pos (by omega)]; rfl
        | 1, _ => rw [if_neg (by omega), if_pos (by omega), if_pos (by omega)]; rfl
        | 2, _ => rw [if_pos (by omega), if_pos (by omega)]; rfl
    · rw [if_neg ht, List.getElem?_eq_none (by rw [List.length_append, hf, flat_len]; simp; omega)]
  · simp only [Array.getElem?_setIfInBounds]
    rw [if_neg (by omega), if_neg (by omega), if_neg (by omega)]
    exact h.high t (by omega) h2
theorem mid_start {L : List Pc} {k : Int} {j : Nat} {cs : Array Value} (hj : j < L.length) (h : (pc L j).hit k = true) (hb : ∀ i, i < j → (pc L i).hit k = false) (hc : cs.toList.take (L.length * 3) = flat L) : Mid L k (j + 1) j cs := by
  have e0 : rest k (L.take j) = L.take j := rest_none fun i hi => by
    have hi' : i < j := by simp at hi; omega
    have e : pc (L.take j) i = pc L i := by unfold pc; rw [List.getD_eq_getElem?_getD, List.getElem?_take, if_pos hi', ← List.getD_eq_getElem?_getD]
    rw [e]
    exact hb i hi'
  have e1 : rest k (L.take (j + 1)) = L.take j := by rw [rest_take hj, if_pos h, List.append_nil, e0]
  refine ⟨by rw [e1]; simp; omega, by omega, ?_, fun t _ h2 => ?_⟩
  · rw [e1, flat_take, ← hc, List.take_take, Nat.min_eq_left (by omega)]
  · rw [← hc, List.getElem?_take, if_pos h2]; simp
theorem cell_of_grown {w w' : World} {g : Nat} (h : w.grownBy w' (some g)) {a : Addr} {v : Value} (hc : w.cell? a = some v) (ha : a.block ≠ g) : w'.cell? a = some v := by
  rw [World.cell?_of_block (w := w) (h.block _ (World.block_lt_of_cell? w _ hc) (fun e => ha (by simpa using e)))]
  exact hc
theorem grown_below {w w1 w2 : World} {r : Option Nat} (h : w.grownBy w1 r) (k : Below w1.heap.size w1 w2) : w.grownBy w2 r :=
  ⟨k.os.trans h.os, k.tape.trans h.tape, k.output.trans h.output, Nat.le_trans h.size k.size, fun j hj hn => (k.block j (Nat.lt_of_lt_of_le hj h.size)).trans (h.block j hj hn)⟩
end Go.Proofs.Ytgbljkbiigcofaa
