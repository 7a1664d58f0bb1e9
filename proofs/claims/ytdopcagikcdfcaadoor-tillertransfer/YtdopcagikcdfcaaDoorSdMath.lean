/- Plain lists: a text's parts. -/
import Derived.Test.YtdopcagikcdfcaaDoorSdNext
namespace Go.Proofs.YtdopcagikcdfcaaDoor
theorem cutL_flat (z : Nat) : ∀ (f : Nat) (l : List UInt8), (cutL z f l).flatten = l
  | 0, l => by simp [cutL]
  | f + 1, l => by
    unfold cutL
    split
    · rw [List.flatten_cons, cutL_flat z f, List.take_append_drop]
    · simp
theorem cutL_each (z : Nat) (hz : 1 ≤ z) : ∀ (f : Nat) (l : List UInt8), l.length ≤ f → ∀ p ∈ cutL z f l, p.length ≤ z
  | 0, l, h, p, hp => by simp [cutL] at hp; subst hp; omega
  | f + 1, l, h, p, hp => by
    unfold cutL at hp
    split at hp
    · rcases List.mem_cons.1 hp with rfl | h2
      · rw [List.length_take]; omega
      · exact cutL_each z hz f _ (by rw [List.length_drop]; omega) p h2
    · simp at hp; subst hp; omega
theorem cutL_some (z : Nat) (hz : 1 ≤ z) : ∀ (f : Nat) (l : List UInt8), l ≠ [] → ∀ p ∈ cutL z f l, p ≠ []
  | 0, l, h, p, hp => by simp [cutL] at hp; subst hp; exact h
  | f + 1, l, h, p, hp => by
    unfold cutL at hp
    split at hp
    case isTrue h1 =>
      rcases List.mem_cons.1 hp with rfl | h2
      · intro e
        have := congrArg List.length e
        rw [List.length_take, List.length_nil] at this
        omega
      · exact cutL_some z hz f _ (by intro e; have := congrArg List.length e; rw [List.length_drop, List.length_nil] at this; omega) p h2
    · simp at hp; subst hp; exact h
theorem cutL_pos (z f : Nat) (l : List UInt8) : 1 ≤ (cutL z f l).length := by
  cases f with
  | zero => simp [cutL]
  | succ f => unfold cutL; split <;> simp
theorem cutL_full (z : Nat) : ∀ (f : Nat) (l : List UInt8) (t : Nat), t + 1 < (cutL z f l).length → ((cutL z f l).getD t []).length = z
  | 0, l, t, h => by simp [cutL] at h
  | f + 1, l, t, h => by
    unfold cutL at *
    split at h
    case isTrue h1 =>
      rw [if_pos h1]
      cases t with
      | zero => show (l.take z).length = z; rw [List.length_take]; omega
      | succ t =>
        have := cutL_full z f (l.drop z) t (by simp at h; omega)
        simpa using this
    · simp at h
theorem cutL_count (z : Nat) : ∀ (f : Nat) (l : List UInt8), (cutL z f l).length = 1 ∨ ((cutL z f l).length - 1) * z < l.length
  | 0, l => by simp [cutL]
  | f + 1, l => by
    unfold cutL
    split
    case isTrue h1 =>
      refine Or.inr ?_
      rw [List.length_cons, Nat.add_sub_cancel]
      have hp := cutL_pos z f (l.drop z)
      rcases cutL_count z f (l.drop z) with h | h
      · rw [h]; omega
      · rw [List.length_drop] at h
        have e : (cutL z f (l.drop z)).length = ((cutL z f (l.drop z)).length - 1) + 1 := by omega
        rw [e, Nat.succ_mul]
        omega
    · simp
theorem cutS_len (l : List UInt8) (z : Nat) : (cutS l z).length = (cutL z l.length l).length := by simp [cutS]
theorem cutS_pos (l : List UInt8) (z : Nat) : 1 ≤ (cutS l z).length := by rw [cutS_len]; exact cutL_pos _ _ _
theorem cutS_most (l : List UInt8) (z : Nat) (h : (l.length : Int) ≤ 512 * (z : Int)) : (cutS l z).length ≤ 512 := by
  rw [cutS_len]
  rcases cutL_count z l.length l with h1 | h1
  · omega
  · have h2 : ((cutL z l.length l).length - 1) * z < 512 * z := by omega
    have := Nat.lt_of_mul_lt_mul_right h2
    omega
/-- A part, as bytes. -/
def prt (l : List UInt8) (z t : Nat) : List UInt8 := (cutL z l.length l).getD t []
theorem se_cut (l : List UInt8) (z t : Nat) : se (cutS l z) t = txt (prt l z t) := by
  unfold se cutS prt
  rw [List.getD_eq_getElem?_getD, List.getD_eq_getElem?_getD, List.getElem?_map]
  cases (cutL z l.length l)[t]? <;> rfl
theorem prt_mem (l : List UInt8) (z t : Nat) (h : t < (cutS l z).length) : prt l z t ∈ cutL z l.length l := by
  rw [cutS_len] at h
  unfold prt
  rw [List.getD_eq_getElem?_getD, List.getElem?_eq_getElem h]
  exact List.getElem_mem h
theorem prt_le (l : List UInt8) (z t : Nat) (hz : 1 ≤ z) (h : t < (cutS l z).length) : (prt l z t).length ≤ z := cutL_each z hz _ _ (Nat.le_refl _) _ (prt_mem l z t h)
theorem prt_full (l : List UInt8) (z t : Nat) (h : t + 1 < (cutS l z).length) : (prt l z t).length = z := cutL_full z _ _ t (by rw [← cutS_len]; exact h)
theorem prt_some (l : List UInt8) (z t : Nat) (hz : 1 ≤ z) (h : t < (cutS l z).length) (hl : l ≠ []) : prt l z t ≠ [] := cutL_some z hz _ _ hl _ (prt_mem l z t h)
/-- The first t parts, one behind the other. -/
def joinT (l : List UInt8) (z t : Nat) : List UInt8 := ((cutL z l.length l).take t).flatten
theorem joinT_zero (l : List UInt8) (z : Nat) : joinT l z 0 = [] := by simp [joinT]
theorem joinT_succ (l : List UInt8) (z t : Nat) (h : t < (cutS l z).length) : joinT l z (t + 1) = joinT l z t ++ prt l z t := by
  rw [cutS_len] at h
  unfold joinT prt
  rw [List.take_succ_eq_append_getElem h, List.flatten_append]
  simp [List.getD_eq_getElem?_getD, List.getElem?_eq_getElem h]
theorem joinT_all (l : List UInt8) (z : Nat) : joinT l z (cutS l z).length = l := by
  unfold joinT
  rw [cutS_len, List.take_of_length_le (Nat.le_refl _), cutL_flat]
theorem joinT_len (l : List UInt8) (z t : Nat) : (joinT l z t).length ≤ l.length := by
  have h : ((cutL z l.length l).take t).flatten ++ ((cutL z l.length l).drop t).flatten = l := by
    rw [← List.flatten_append, List.take_append_drop, cutL_flat]
  have := congrArg List.length h
  rw [List.length_append] at this
  unfold joinT
  omega
theorem cutS_size (l : List UInt8) (z : Nat) (hz : 1 ≤ z) (hz2 : z ≤ 4096) : ∀ s ∈ cutS l z, s.size ≤ 4096 := by
  intro s hs
  unfold cutS at hs
  rw [List.mem_map] at hs
  obtain ⟨p, hp, rfl⟩ := hs
  rw [txt_size]
  have := cutL_each z hz _ _ (Nat.le_refl _) p hp
  omega
theorem isE (l : List UInt8) : (txt l).toList.isEmpty = decide (l = []) := by
  rw [ByteArray.toList_eq, txt_list]
  cases l <;> simp
theorem leftL_filter (C : List Bool) (n k : Nat) : ∀ m, m ≤ n → leftL (gotB C n k) m = (leftL C m).filter (fun i => decide (i ≠ (k : Int)))
  | 0, _ => rfl
  | m + 1, h => by
    have ih := leftL_filter C n k m (by omega)
    have hb := gotB_be C n k m (by omega)
    cases hc : be C m with
    | true =>
      rw [hc, Bool.or_true] at hb
      rw [leftL_come hb, leftL_come hc, ih]
    | false =>
      rw [hc, Bool.or_false] at hb
      rw [leftL_not hc, List.filter_append, ← ih]
      by_cases e : m = k
      · rw [decide_eq_true e] at hb
        rw [leftL_come hb]
        simp [e]
      · rw [decide_eq_false e] at hb
        rw [leftL_not hb]
        have e2 : ¬ (m : Int) = (k : Int) := by omega
        simp [e2]
theorem leftL_less (C : List Bool) (n k : Nat) (hk : be C k = false) : ∀ m, m ≤ n → (leftL (gotB C n k) m).length + (if k < m then 1 else 0) = (leftL C m).length
  | 0, _ => by simp [leftL]
  | m + 1, h => by
    have ih := leftL_less C n k hk m (by omega)
    have hb := gotB_be C n k m (by omega)
    by_cases e : m = k
    · subst e
      rw [decide_eq_true rfl, Bool.true_or] at hb
      rw [leftL_come hb, leftL_not hk, List.length_append, List.length_singleton, if_pos (by omega)]
      rw [if_neg (by omega)] at ih
      omega
    · rw [decide_eq_false e, Bool.false_or] at hb
      have e2 : (if k < m + 1 then 1 else 0) = (if k < m then 1 else 0) := by
        by_cases h2 : k < m
        · rw [if_pos h2, if_pos (by omega)]
        · rw [if_neg h2, if_neg (by omega)]
      rw [e2]
      cases hc : be C m with
      | true =>
        rw [hc] at hb
        rw [leftL_come hb, leftL_come hc]
        exact ih
      | false =>
        rw [hc] at hb
        rw [leftL_not hb, leftL_not hc, List.length_append, List.length_append]
        omega
theorem leftL_be (C : List Bool) : ∀ (n t : Nat), t < (leftL C n).length → be C (el (leftL C n) t).toNat = false
  | 0, t, h => by simp [leftL] at h
  | n + 1, t, h => by
    have ih := leftL_be C n t
    cases hb : be C n with
    | true => rw [leftL_come hb] at *; exact ih h
    | false =>
      rw [leftL_not hb] at *
      rw [List.length_append, List.length_singleton] at h
      by_cases h1 : t < (leftL C n).length
      · have e : el (leftL C n ++ [(n : Int)]) t = el (leftL C n) t := by unfold el; rw [List.getD_eq_getElem?_getD, List.getElem?_append_left h1, ← List.getD_eq_getElem?_getD]
        rw [e]
        exact ih h1
      · have e : el (leftL C n ++ [(n : Int)]) t = (n : Int) := by unfold el; rw [List.getD_eq_getElem?_getD, List.getElem?_append_right (by omega), show t - (leftL C n).length = 0 by omega]; rfl
        rw [e, Int.toNat_natCast]
        exact hb
theorem leftL_none (m : Nat) : ∀ n, (leftL (List.replicate m false) n).length = n
  | 0 => rfl
  | n + 1 => by
    have hb : be (List.replicate m false) n = false := by
      unfold be
      rw [List.getD_eq_getElem?_getD, List.getElem?_replicate]
      split <;> rfl
    rw [leftL_not hb, List.length_append, leftL_none m n]
    rfl
theorem partsL_get (num : Int) (n : Nat) (S : List ByteArray) (A : List Int) (q j : Nat) (hj : j < q) (hq : q ≤ A.length) : (partsL num n S (A.take q)).getD j [] = partR num (el A j) n (se S (el A j).toNat) := by
  unfold partsL el
  rw [List.getD_eq_getElem?_getD, List.getElem?_map, List.getElem?_take, if_pos hj, List.getElem?_eq_getElem (by omega)]
  simp [List.getD_eq_getElem?_getD, List.getElem?_eq_getElem (show j < A.length by omega)]
theorem VOwn.ne_blk {w : World} {B b : Nat} {T T' : TypeId} {v : Value} {n : Nat} {L : List Value} {cs : Array Value} (h : VOwn w B T v n L) (h' : Blk w b T' cs) (hT : T ≠ T') (g : Nat) (e : v.ownBlock = some g) : g ≠ b := by
  rintro rfl
  rcases h.2 with ⟨h2, _⟩ | ⟨g1, cap, cur, h3, _, h5, _⟩
  · rw [h2] at e; cases e
  · rw [h3] at e
    cases e
    unfold Blk at h'
    rw [h5] at h'
    injection h' with h6
    injection h6 with _ h7 _
    exact hT h7
theorem ne_SS : (9 : TypeId) ≠ 30 := by decide
theorem ne_BS : (4 : TypeId) ≠ 30 := by decide
end Go.Proofs.YtdopcagikcdfcaaDoor
