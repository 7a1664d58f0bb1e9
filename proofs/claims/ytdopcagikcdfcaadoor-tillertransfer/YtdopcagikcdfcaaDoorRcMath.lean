/- What of a text has come; variables in memory. -/
import Derived.Test.YtdopcagikcdfcaaDoorRcWhole
namespace Go.Proofs.YtdopcagikcdfcaaDoor
open Go.ChangeShapes Go.WideShapes Go.ChangeAt Go.RowKit
theorem But.row {g : Nat} {w w' : World} (h : But g w w') (cs : Array Value) : But g w (w'.setRow g cs) :=
  ⟨h.os, h.tape, h.output, by simpa using h.size, fun k hk hg => (setRow_other _ _ _ _ hg).trans (h.block k hk hg)⟩
theorem But.then {g : Nat} {w w1 w2 : World} (h : But g w w1) (k : Below w1.heap.size w1 w2) : But g w w2 := h.trans (But.of_below k)
theorem VArg.but {w w' : World} {ao : Option Addr} {n ca : Nat} {L : List Value} {g : Nat} (h : VArg w ao n ca L) (k : But g w w') (hg : ∀ b o s, ao = some ⟨b, o, s⟩ → b ≠ g) : VArg w' ao n ca L := h.of_block (fun b o s e hl => k.block b hl (hg b o s e))
/-- A variable of type T that is laid and written at once. -/
theorem var3 (W : World) (T : TypeId) (z R : Array Value) : Blk (W.alloc (.cells z T)) W.heap.size T z ∧ Blk ((W.alloc (.cells z T)).setRow W.heap.size R) W.heap.size T R ∧ Below W.heap.size W ((W.alloc (.cells z T)).setRow W.heap.size R) ∧ ((W.alloc (.cells z T)).setRow W.heap.size R).heap.size = W.heap.size + 1 :=
  ⟨blk_new W T z, (blk_new W T z).row R, belowR (belowA W _) (Nat.le_refl _) _, by simp⟩
/-- What has come of the parts S is right. -/
structure Good (S S' : List ByteArray) (C' : List Bool) (n : Nat) : Prop where
  len : S.length = n
  lenS : S'.length = n
  lenC : C'.length = n
  size : ∀ s ∈ S', s.size ≤ 4096
  same : ∀ i, i < n → be C' i = true → se S' i = se S i
theorem se_set (S : List ByteArray) (k i : Nat) (x : ByteArray) (h : k < S.length) : se (S.set k x) i = if i = k then x else se S i := by
  unfold se
  rw [List.getD_eq_getElem?_getD, List.getD_eq_getElem?_getD, List.getElem?_set]
  by_cases e : k = i
  · subst e; simp [h]
  · have e2 : ¬ i = k := fun h => e h.symm
    simp [e, e2]
theorem be_set (C : List Bool) (k i : Nat) (h : k < C.length) : be (C.set k true) i = (decide (i = k) || be C i) := by
  unfold be
  rw [List.getD_eq_getElem?_getD, List.getD_eq_getElem?_getD, List.getElem?_set]
  by_cases e : k = i
  · subst e; simp [h]
  · have e2 : ¬ i = k := fun h => e h.symm
    simp [e, e2]
theorem Good.take {S S' : List ByteArray} {C' : List Bool} {n k : Nat} (h : Good S S' C' n) (hk : k < n) (hs : (se S k).size ≤ 4096) : Good S (S'.set k (se S k)) (C'.set k true) n := by
  refine ⟨h.len, by rw [List.length_set]; exact h.lenS, by rw [List.length_set]; exact h.lenC, fun s hs2 => ?_, fun i hi hb => ?_⟩
  · rcases List.mem_or_eq_of_mem_set hs2 with h1 | h1
    · exact h.size s h1
    · rw [h1]; exact hs
  · rw [se_set _ _ _ _ (by rw [h.lenS]; exact hk)]
    by_cases e : i = k
    · rw [if_pos e, e]
    · rw [if_neg e]
      rw [be_set _ _ _ (by rw [h.lenC]; exact hk), decide_eq_false e, Bool.false_or] at hb
      exact h.same i hi hb
theorem good_new (S : List ByteArray) (n : Nat) (h : S.length = n) : Good S (List.replicate n ⟨#[]⟩) (List.replicate n false) n := by
  refine ⟨h, by simp, by simp, fun s hs => ?_, fun i hi hb => ?_⟩
  · rw [(List.mem_replicate.1 hs).2]; show (0 : Nat) ≤ _; omega
  · unfold be at hb
    rw [List.getD_eq_getElem?_getD, List.getElem?_replicate, if_pos hi] at hb
    cases hb
theorem be_none (n i : Nat) : be (List.replicate n false) i = false := by
  unfold be
  rw [List.getD_eq_getElem?_getD, List.getElem?_replicate]
  split <;> rfl
theorem leftL_id (m : Nat) : ∀ n t, t < n → el (leftL (List.replicate m false) n) t = (t : Int)
  | 0, t, h => by omega
  | n + 1, t, h => by
    have hb := be_none m n
    rw [leftL_not hb]
    have hl := leftL_none m n
    by_cases h1 : t < n
    · have e : el (leftL (List.replicate m false) n ++ [(n : Int)]) t = el (leftL (List.replicate m false) n) t := by unfold el; rw [List.getD_eq_getElem?_getD, List.getElem?_append_left (by omega), ← List.getD_eq_getElem?_getD]
      rw [e]
      exact leftL_id m n t h1
    · have e : el (leftL (List.replicate m false) n ++ [(n : Int)]) t = (n : Int) := by unfold el; rw [List.getD_eq_getElem?_getD, List.getElem?_append_right (by omega), show t - (leftL (List.replicate m false) n).length = 0 by omega]; rfl
      rw [e]
      omega
theorem leftL_all {C : List Bool} : ∀ n, (∀ i, i < n → be C i = true) → leftL C n = []
  | 0, _ => rfl
  | n + 1, h => by rw [leftL_come (h n (by omega))]; exact leftL_all n (fun i hi => h i (by omega))
theorem leftL_nil {C : List Bool} : ∀ n, (leftL C n).length = 0 → ∀ i, i < n → be C i = true
  | 0, _, i, hi => by omega
  | n + 1, h, i, hi => by
    cases hb : be C n with
    | true =>
      rw [leftL_come hb] at h
      by_cases e : i = n
      · rw [e]; exact hb
      · exact leftL_nil n h i (by omega)
    | false => rw [leftL_not hb, List.length_append] at h; simp at h
theorem Good.all {S S' : List ByteArray} {C' : List Bool} {n : Nat} (h : Good S S' C' n) (ha : ∀ i, i < n → be C' i = true) : S' = S := by
  apply List.ext_getElem
  · rw [h.lenS, h.len]
  · intro i h1 h2
    have h3 := h.same i (by rw [← h.len]; exact h2) (ha i (by rw [← h.len]; exact h2))
    unfold se at h3
    rw [List.getD_eq_getElem?_getD, List.getD_eq_getElem?_getD, List.getElem?_eq_getElem h1, List.getElem?_eq_getElem h2] at h3
    exact h3
theorem catS_cut (l : List UInt8) (z : Nat) : catS (cutS l z) = l := by
  unfold catS cutS
  rw [List.map_map]
  have : ((fun s : ByteArray => s.data.toList) ∘ txt) = id := by funext x; exact txt_list x
  rw [this, List.map_id, cutL_flat]
theorem cutN_parts' {l : List UInt8} {I : Int} (h : cutN l I = 0) : 1 ≤ I ∧ I ≤ 4096 ∧ (l.length : Int) ≤ 512 * I := by
  unfold cutN at h
  by_cases d1 : I < 1
  · rw [if_pos d1] at h; omega
  rw [if_neg d1] at h
  by_cases d2 : 4096 < I ∨ 512 * I < (l.length : Int)
  · rw [if_pos d2] at h; omega
  · omega
theorem xor_ne (x : Int) : bits .xor .i64 x 1 ≠ x := by
  intro h
  have e : bits .xor .i64 x 1 = IntKind.i64.wrap (((BitVec.ofInt 64 x ^^^ BitVec.ofInt 64 1).toNat : Nat) : Int) := rfl
  rw [e] at h
  generalize hY : BitVec.ofInt 64 x ^^^ BitVec.ofInt 64 1 = Y at h
  have h2 : BitVec.ofInt 64 (IntKind.i64.wrap (Y.toNat : Int)) = Y := by
    apply BitVec.eq_of_toNat_eq
    rw [BitVec.toNat_ofInt]
    have := Y.isLt
    simp [IntKind.wrap, IntKind.bits, IntKind.signed]
    omega
  rw [h] at h2
  rw [h2] at hY
  have h3 : Y ^^^ (Y ^^^ BitVec.ofInt 64 1) = Y ^^^ Y := congrArg (fun b => Y ^^^ b) hY
  rw [← BitVec.xor_assoc, BitVec.xor_self, BitVec.zero_xor] at h3
  exact absurd h3 (by decide)
end Go.Proofs.YtdopcagikcdfcaaDoor
