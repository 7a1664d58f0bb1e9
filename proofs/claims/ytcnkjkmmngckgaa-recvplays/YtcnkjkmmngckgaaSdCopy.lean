/- send's copies of a state, and Got. -/
import Derived.Test.YtcnkjkmmngckgaaSdFun2
namespace Go.Proofs.Ytcnkjkmmngckgaa
open Go.ChangeShapes Go.WideShapes Go.ChangeAt Go.RowKit
theorem strs_set (S : List ByteArray) (t : Nat) : (strs S).set t (.string (se S t)) = strs S := by
  apply List.ext_getElem?
  intro i
  rw [List.getElem?_set]
  by_cases h : t = i
  · subst h
    rw [if_pos rfl]
    by_cases h2 : t < S.length
    · rw [if_pos (by rw [strs_len]; exact h2), strs_get h2]
    · rw [if_neg (by rw [strs_len]; exact h2), List.getElem?_eq_none (by rw [strs_len]; omega)]
  · rw [if_neg h]
theorem se_size {S : List ByteArray} {N : Nat} (h : ∀ s ∈ S, s.size ≤ N) (t : Nat) : (se S t).size ≤ N := by
  unfold se
  rw [List.getD_eq_getElem?_getD]
  by_cases ht : t < S.length
  · rw [List.getElem?_eq_getElem ht]; exact h _ (List.getElem_mem ht)
  · rw [List.getElem?_eq_none (by omega)]
    show (0 : Nat) ≤ N
    omega
theorem VOwn.apart {w : World} {B B' : Nat} {T T' : TypeId} {v v' : Value} {n n' : Nat} {L L' : List Value} (h : VOwn w B T v n L) (h' : VOwn w B' T' v' n' L') (hT : T ≠ T') (g : Nat) (e : v.ownBlock = some g) : v'.ownBlock ≠ some g := by
  intro e'
  rcases h.2 with ⟨h2, _⟩ | ⟨g1, cap, cur, h3, _, h5, _⟩
  · rw [h2] at e; cases e
  rcases h'.2 with ⟨h2, _⟩ | ⟨g2, cap', cur', h3', _, h5', _⟩
  · rw [h2] at e'; cases e'
  rw [h3] at e; rw [h3'] at e'
  cases e; cases e'
  rw [h5] at h5'
  injection h5' with h6
  injection h6 with _ h7 _
  exact hT h7
theorem VOwn.other {w : World} {B : Nat} {T : TypeId} {v : Value} {n : Nat} {L : List Value} (h : VOwn w B T v n L) {g : Nat} (hg : v.ownBlock ≠ some g) (j : Nat) (u : Value) : VOwn (w.setCell ⟨g, j, none⟩ u) B T v n L :=
  h.of_block (fun k hk _ _ => Below.heap_setCell _ _ _ _ (fun e => hg (by rw [hk]; exact congrArg some e)))
theorem ne_SB : (9 : TypeId) ≠ 4 := by decide
end Go.Proofs.Ytcnkjkmmngckgaa
