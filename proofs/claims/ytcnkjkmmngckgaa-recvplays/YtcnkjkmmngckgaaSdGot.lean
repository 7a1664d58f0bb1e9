/- send's Got. -/
import Derived.Test.YtcnkjkmmngckgaaSdCopy
namespace Go.Proofs.Ytcnkjkmmngckgaa
open Go.ChangeShapes Go.WideShapes Go.ChangeAt Go.RowKit
/-- Came with as many places as there are parts. -/
def fillB (C : List Bool) (n : Nat) : List Bool := C.take n ++ List.replicate (n - C.length) false
theorem fillB_len (C : List Bool) (n : Nat) : (fillB C n).length = n := by
  unfold fillB; rw [List.length_append, List.length_take, List.length_replicate]; omega
theorem fillB_be (C : List Bool) (n i : Nat) (h : i < n) : be (fillB C n) i = be C i := by
  unfold fillB be
  rw [List.getD_eq_getElem?_getD, List.getD_eq_getElem?_getD]
  by_cases h1 : i < C.length
  · rw [List.getElem?_append_left (by rw [List.length_take]; omega), List.getElem?_take, if_pos h]
  · rw [List.getElem?_append_right (by rw [List.length_take]; omega), List.getElem?_replicate]
    rw [List.getElem?_eq_none (l := C) (by omega)]
    split <;> rfl
def gotB (C : List Bool) (n at_ : Nat) : List Bool := (fillB C n).set at_ true
theorem gotB_len (C : List Bool) (n k : Nat) : (gotB C n k).length = n := by unfold gotB; rw [List.length_set, fillB_len]
theorem gotB_be (C : List Bool) (n k i : Nat) (h : i < n) : be (gotB C n k) i = (decide (i = k) || be C i) := by
  have h1 := fillB_be C n i h
  unfold gotB be at *
  rw [List.getD_eq_getElem?_getD, List.getElem?_set]
  by_cases e : k = i
  · subst e
    rw [if_pos rfl, if_pos (by rw [fillB_len]; exact h)]
    simp
  · rw [if_neg e, ← List.getD_eq_getElem?_getD, h1]
    have e2 : ¬ i = k := fun h => e h.symm
    simp [e2]
theorem bools_fill (C : List Bool) (n m : Nat) (hm : C.length = m) : (bools C).take (Nat.min m n) ++ (List.replicate n (Value.bool false)).drop (Nat.min m n) = bools (fillB C n) := by
  unfold bools fillB
  rw [List.map_append, List.map_take, List.drop_replicate, List.map_replicate]
  have : Nat.min m n = min m n := rfl
  rw [this]
  by_cases h : m ≤ n
  · rw [Nat.min_eq_left h, List.take_of_length_le (by rw [List.length_map]; omega), List.take_of_length_le (by rw [List.length_map]; omega), hm]
  · rw [Nat.min_eq_right (by omega), show n - n = 0 by omega, show n - C.length = 0 by omega]
theorem copy_came {w : World} {B g n m c2 : Nat} {a2 : Option Addr} {C : List Bool} (O : VOwn w B 4 (.slice (some ⟨g, 0, none⟩) n n) n (bools (List.replicate n false))) (A : VArg w a2 m c2 (bools C)) :
    ∃ q w5, (Builtin.copy_ #[24, 24] 3 #[.slice (some ⟨g, 0, none⟩) n n, .slice a2 m c2]).run Try.prog w = .ok (goInt q) w5 ∧ VOwn w5 B 4 (.slice (some ⟨g, 0, none⟩) n n) n (bools (fillB C n)) ∧ But g w w5 ∧ w5.heap.size = w.heap.size := by
  have hl : C.length = m := by rw [← bools_len]; exact A.len
  have hs : (Try.prog.info? 4).map (·.size) = some 1 := by kernel_rfl
  have eB : bools (List.replicate n false) = List.replicate n (Value.bool false) := by simp [bools]
  have hf := bools_fill C n m hl
  by_cases h0 : Nat.min m n = 0
  · refine ⟨0, w, run_copy_none w _ _ _ 4 _ _ n n m c2 Try.underlying24 hs h0, ?_, But.refl _ _, rfl⟩
    rw [h0, List.take_zero, List.drop_zero, List.nil_append, ← eB] at hf
    rw [← hf]
    exact O
  · have hm0 : Nat.min m n = min m n := rfl
    obtain ⟨b, o, rfl, hc⟩ := A.cells (by omega)
    rcases O.2 with ⟨h2, _⟩ | ⟨g', cap, cur, hv, hg, hh, h5, h6, h7, h8⟩
    · cases h2
    injection hv with hv1 hv2 hv3
    injection hv1 with hv1
    injection hv1 with hv1
    subst hv1
    subst hv3
    have hcur : cur.toList = List.replicate n (Value.bool false) := by rw [← eB, ← h8, List.take_of_length_le (by rw [Array.length_toList]; omega)]
    have hcl : ((bools C).take (Nat.min m n)).length = Nat.min m n := by rw [List.length_take, bools_len, hl, hm0]; omega
    have R := run_copy_row (P := Try.prog) w 24 24 3 4 g 0 n n ⟨b, o, none⟩ m c2 cur 4 ((bools C).take (Nat.min m n)) Try.underlying24 hs hh hcl (fun j v hj => A.vals j v (by
      rw [List.getElem?_take] at hj
      split at hj
      · exact hj
      · cases hj)) (by rw [hcl, hm0]; omega) (fun v hv => bools_one C v (List.mem_of_mem_take hv))
    rw [hcl, Nat.zero_add, List.take_zero, List.nil_append, hcur, hf] at R
    refine ⟨_, _, R, ⟨by rw [bools_len, fillB_len]; omega, Or.inr ⟨g, n, (bools (fillB C n)).toArray, rfl, hg, setRow_heap _ _ _ _ _ _ hh, Nat.le_refl _, h6, by simp [bools_len, fillB_len], by simp [List.take_of_length_le, bools_len, fillB_len]⟩⟩, ⟨rfl, rfl, rfl, by simp, fun k _ hk => setRow_other _ _ _ _ hk⟩, by simp⟩
theorem bools_set (C : List Bool) (k : Nat) (b : Bool) : (bools C).set k (.bool b) = bools (C.set k b) := by unfold bools; rw [List.map_set]
/-- Why a part isn't taken as come; 0: it is. -/
def gotN (num nu I : Int) (n : Nat) : Int := if nu ≠ num then 14 else if I < 0 ∨ (n : Int) ≤ I then 8 else 0
end Go.Proofs.Ytcnkjkmmngckgaa
