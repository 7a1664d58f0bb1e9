/- Rows of truths of the call's own, read as one number; and the document's sum as numbers; no condition. -/
import Derived.Test.YtmcjcmddijikbaaDoorFBit
import Derived.Test.YtmcjcmddijikbaaDoorFByt
import Derived.Test.YtmcjcmddijikbaaDoorLast
namespace Go.Proofs.YtmcjcmddijikbaaDoor
open Go.ChangeShapes Go.WideShapes Go.ChangeAt Go.RowKit
/-- A row of truths: bit j of a number stands at place j. -/
structure Bol (w : World) (B g N V : Nat) : Prop where
  base : B ≤ g
  lt : g < w.heap.size
  cell : ∀ j, j < N → w.cell? ⟨g, j, none⟩ = some (.bool (V.testBit j))
  free : ∀ j, j < N → w.frozen? ⟨g, j, none⟩ = false
theorem Bol.of_block {w w' : World} {B g N V : Nat} (h : Bol w B g N V) (hb : w'.heap[g]? = w.heap[g]?) : Bol w' B g N V := by
  have hlt : g < w'.heap.size := by
    rcases Nat.lt_or_ge g w'.heap.size with k | k
    · exact k
    · rw [Array.getElem?_eq_none k] at hb
      have := Array.getElem?_eq_getElem h.lt
      rw [this] at hb
      cases hb
  exact ⟨h.base, hlt, fun j hj => by rw [World.cell?_of_block (w := w) (a := ⟨g, j, none⟩) hb]; exact h.cell j hj, fun j hj => by rw [World.frozen?_of_block (w := w) (a := ⟨g, j, none⟩) hb]; exact h.free j hj⟩
theorem Bol.below {w w' : World} {B g N V : Nat} (h : Bol w B g N V) (hb : Below w.heap.size w w') : Bol w' B g N V := h.of_block (hb.block g h.lt)
theorem Bol.set {w : World} {B g N V : Nat} (h : Bol w B g N V) (i : Nat) (hi : i < N) (b : Bool) (V' : Nat) (hV : ∀ j, j < N → V'.testBit j = if j = i then b else V.testBit j) : Bol (w.setCell ⟨g, i, none⟩ (.bool b)) B g N V' := by
  refine ⟨h.base, by simpa using h.lt, fun j hj => ?_, fun j hj => ?_⟩
  · rw [hV j hj]
    by_cases e : j = i
    · subst e
      rw [if_pos rfl, World.cell?_setCell_same _ _ _ (h.cell j hi)]
    · rw [if_neg e, World.cell?_setCell_other _ _ _ _ (by simp <;> omega), h.cell j hj]
  · rw [World.frozen?_setCell]
    exact h.free j hj
theorem Bol.same {w : World} {B g N V : Nat} (h : Bol w B g N V) {V' : Nat} (hV : V' = V) : Bol w B g N V' := hV ▸ h
theorem Tryd.infoB : (Tryd.prog.info? 4).map (fun i => (i.zero, i.size, i.bytes)) = some (some (.bool false), 1, 1) := by kernel_rfl
theorem makeL (n : Nat) (h : n ≤ 281474976710656) (w : World) : (Instr.makeSlice 105 (.int .i64 (n : Int)) (.int .i64 (n : Int))).run Tryd.prog w = .ok (.slice (some ⟨w.heap.size, 0, none⟩) n n) (w.alloc (.cells (madeCells #[.bool false] n) 4)) :=
  run_make_row' (P := Tryd.prog) 105 4 (.bool false) 1 Tryd.underlying105 Tryd.infoB rfl .i64 .i64 n (by omega) (by omega) w
theorem bol_made (w : World) (n B : Nat) (hB : B ≤ w.heap.size) : Bol (w.alloc (.cells (madeCells #[.bool false] n) 4)) B w.heap.size n 0 := by
  refine ⟨hB, by simp, fun j hj => ?_, fun j hj => ?_⟩
  · rw [World.cell?_alloc_at _ _ _ _ (by simp)]
    simp [madeCells, hj, Nat.mod_one]
  · rw [World.frozen?_alloc_at _ _ _ _ (by simp)]
/-- Bit i of all bytes. -/
theorem numL_bit : ∀ (l : List UInt8) (i : Nat), (numL l).testBit i = decide ((l.getD (i / 8) 0).toNat / 2 ^ (i % 8) % 2 = 1)
  | [], i => by simp [numL]
  | b :: l, i => by
    show (b.toNat ^^^ 2 ^ 8 * numL l).testBit i = _
    rw [Nat.testBit_xor, Nat.testBit_two_pow_mul]
    by_cases c : i < 8
    · have e0 : i / 8 = 0 := by omega
      have e1 : i % 8 = i := by omega
      rw [e0, e1]
      simp [show ¬ 8 ≤ i by omega, Nat.testBit_eq_decide_div_mod_eq]
    · obtain ⟨k, rfl⟩ : ∃ k, i = k + 8 := ⟨i - 8, by omega⟩
      have e0 : (k + 8) / 8 = k / 8 + 1 := by omega
      have e1 : (k + 8) % 8 = k % 8 := by omega
      have hb : b.toNat.testBit (k + 8) = false := Nat.testBit_lt_two_pow (Nat.lt_of_lt_of_le b.toNat_lt (Nat.pow_le_pow_right (by decide) (by omega)))
      rw [e0, e1, hb, numL_bit l (k + 8 - 8)]
      simp
theorem numL_lt : ∀ l : List UInt8, numL l < 2 ^ (8 * l.length)
  | [] => by simp [numL]
  | b :: l => by
    rw [numL_cons]
    have := numL_lt l
    have hb := b.toNat_lt
    rw [show 8 * (b :: l).length = 8 * l.length + 8 by simp; omega, Nat.pow_add]
    omega
theorem tb_mod (x i j : Nat) : (x % 2 ^ (i + 1)).testBit j = if j = i then x.testBit i else (x % 2 ^ i).testBit j := by
  rw [Nat.testBit_mod_two_pow, Nat.testBit_mod_two_pow]
  by_cases e : j = i
  · subst e; simp
  · rw [if_neg e]
    by_cases h : j < i
    · simp [h, show j < i + 1 by omega]
    · simp [h, show ¬ j < i + 1 by omega]
theorem tb_ones (x i j : Nat) : (x ^^^ (2 ^ (i + 1) - 1)).testBit j = if j = i then !(x ^^^ (2 ^ i - 1)).testBit i else (x ^^^ (2 ^ i - 1)).testBit j := by
  rw [Nat.testBit_xor, Nat.testBit_xor, Nat.testBit_xor, Nat.testBit_two_pow_sub_one, Nat.testBit_two_pow_sub_one, Nat.testBit_two_pow_sub_one]
  by_cases e : j = i
  · subst e; simp
  · rw [if_neg e]
    by_cases h : j < i
    · simp [h, show j < i + 1 by omega]
    · simp [h, show ¬ j < i + 1 by omega]
def polyQ : Nat := 7976584769
theorem tb_poly (V i k j : Nat) : (V ^^^ 2 ^ i * (polyQ % 2 ^ (k + 1))).testBit j = if j = i + k then ((V ^^^ 2 ^ i * (polyQ % 2 ^ k)).testBit (i + k) != polyQ.testBit k) else (V ^^^ 2 ^ i * (polyQ % 2 ^ k)).testBit j := by
  rw [Nat.testBit_xor, Nat.testBit_xor, Nat.testBit_xor, Nat.testBit_two_pow_mul, Nat.testBit_two_pow_mul, Nat.testBit_two_pow_mul, tb_mod, Nat.testBit_mod_two_pow, Nat.testBit_mod_two_pow]
  by_cases e : j = i + k
  · subst e
    rw [if_pos rfl, show i + k - i = k by omega, if_pos rfl]
    simp
  · rw [if_neg e]
    by_cases h : i ≤ j
    · rw [if_neg (by omega)]
    · simp [h]
theorem poly_step (V i c : Nat) (hV : V = 2 ^ i * c) : (if V.testBit i then V ^^^ 2 ^ i * polyQ else V) = 2 ^ (i + 1) * bit1 c := by
  have hb : V.testBit i = decide (c % 2 = 1) := by
    rw [hV, Nat.testBit_two_pow_mul, Nat.sub_self]
    simp
  have hp : 2 ^ (i + 1) * bit1 c = 2 ^ i * (2 * bit1 c) := by rw [Nat.pow_succ]; ac_rfl
  rw [hb, hp]
  unfold bit1
  by_cases h : c % 2 = 1
  · rw [if_pos h, hV, ← mul_xor]
    simp only [h, decide_true, if_true]
    congr 1
    have e1 : c = 1 ^^^ (2 ^ 1 * (c / 2)) := by rw [xor_add _ _ 1 (by decide)]; omega
    have e2 : polyQ = 1 ^^^ (2 ^ 1 * 3988292384) := by rw [xor_add _ _ 1 (by decide)]; rfl
    rw [show 2 * (c / 2 ^^^ 3988292384) = 2 ^ 1 * (c / 2 ^^^ 3988292384) from rfl, mul_xor]
    conv => lhs; rw [e1, e2]
    rw [show 1 ^^^ 2 ^ 1 * (c / 2) ^^^ (1 ^^^ 2 ^ 1 * 3988292384) = (1 ^^^ 1) ^^^ (2 ^ 1 * (c / 2) ^^^ 2 ^ 1 * 3988292384) by ac_rfl, Nat.xor_self, Nat.zero_xor]
  · rw [if_neg h, Nat.xor_zero]
    simp only [h, decide_false]
    rw [hV, show 2 * (c / 2) = c by omega]
    rfl
theorem poly_full : polyQ % 2 ^ 33 = polyQ := by decide
theorem top_bit (n c k : Nat) : (2 ^ n * c).testBit (n + k) = c.testBit k := by
  rw [Nat.testBit_two_pow_mul, Nat.add_sub_cancel_left]
  simp
theorem ones_bit (c k : Nat) (h : k < 32) : (4294967295 ^^^ c).testBit k = !c.testBit k := by
  rw [Nat.testBit_xor, show 4294967295 = 2 ^ 32 - 1 from rfl, Nat.testBit_two_pow_sub_one]
  simp [h]
theorem poly_bit (k : Nat) (hk : k < 33) : (4374732215 / 2 ^ (32 - k)) % 2 = if polyQ.testBit k then 1 else 0 := by
  have : ∀ i : Fin 33, (4374732215 / 2 ^ (32 - i.val)) % 2 = if polyQ.testBit i.val then 1 else 0 := by decide +kernel
  exact this ⟨k, hk⟩
theorem read_step (D m : Nat) : 2 * (D / 2 ^ (m + 1)) + (if D.testBit m then 1 else 0) = D / 2 ^ m := by
  have h : D.testBit m = decide (D / 2 ^ m % 2 = 1) := Nat.testBit_eq_decide_div_mod_eq
  rw [h, Nat.pow_succ, ← Nat.div_div_eq_div_mul]
  by_cases c : D / 2 ^ m % 2 = 1
  · simp only [c, decide_true, if_true]; omega
  · simp only [c, decide_false]
    show _ + 0 = _
    omega
end Go.Proofs.YtmcjcmddijikbaaDoor
