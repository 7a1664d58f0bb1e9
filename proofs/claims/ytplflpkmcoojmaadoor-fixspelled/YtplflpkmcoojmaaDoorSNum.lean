/- Plain texts: what digits, a point and digits say, with noughts ahead and behind; no condition. -/
import Derived.Test.YtplflpkmcoojmaaDoorRound
namespace Go.Proofs.YtplflpkmcoojmaaDoor
set_option linter.unusedVariables false
theorem zeros_val : ∀ j, valN (List.replicate j 48) = 0
  | 0 => rfl
  | j + 1 => by rw [List.replicate_succ, val_cons, zeros_val j]; simp
theorem zeros_all (j : Nat) : (List.replicate j (48 : UInt8)).all isD = true := by
  rw [List.all_replicate]; simp [isD]
/-- What a text of digits, a point and digits says. -/
theorem par_of (m : Bool) (D q : List UInt8) (hD : D.all isD = true) (h1 : 1 ≤ D.length) (h6 : D.length ≤ 6) (hq : q.all isD = true) :
    parN ((if m = true then [45] else []) ++ (D ++ 46 :: q)) = if 1 ≤ q.length ∧ q.length ≤ 16 then (if 2147483647 < sizeN D q then (0, 2) else (if m = true then -(sizeN D q) else sizeN D q, 0)) else (0, 3) := by
  have hm : minusL ((if m = true then [45] else []) ++ (D ++ 46 :: q)) = (D ++ 46 :: q, m) := by
    cases m with
    | true => simp [minusL]
    | false => simpa using minus_digits D (46 :: q) hD h1
  have hc : cutL (D ++ 46 :: q) = (D, q, true) := by
    rw [cut_digits D _ hD, cut_cons, if_pos rfl, List.append_nil]
  unfold parN
  rw [hm]
  dsimp only
  rw [hc]
  dsimp only
  by_cases hl : 1 ≤ q.length ∧ q.length ≤ 16
  · rw [if_pos hl, if_pos ⟨(digB_iff _ _).2 ⟨⟨h1, h6⟩, hD⟩, .inr ((digB_iff _ _).2 ⟨hl, hq⟩)⟩]
  · rw [if_neg hl, if_neg]
    rintro ⟨-, h | h⟩
    · cases h
    · exact hl ((digB_iff _ _).1 h).1
/-- The digits behind the point of a number, at least one. -/
def tailL (p : Nat) : List UInt8 := if p = 0 then [48] else fd 16 p
theorem tail_all (p : Nat) (h : p < 65536) : (tailL p).all isD = true := by
  unfold tailL; split
  · decide
  · exact fd_all 16 p h
theorem tail_len (p : Nat) : 1 ≤ (tailL p).length ∧ (tailL p).length ≤ 16 := by
  unfold tailL; split
  · decide
  · rename_i h; exact ⟨fd_pos p h, fd_len 16 p⟩
theorem tail_pad (p b : Nat) (h : p < 65536) (hb : (tailL p).length + b ≤ 16) : valN (padL (tailL p ++ List.replicate b 48)) = p * 152587890625 := by
  have e : padL (tailL p ++ List.replicate b 48) = padL (tailL p) := by
    unfold padL
    rw [List.append_assoc, List.length_append, List.length_replicate, List.replicate_append_replicate, show b + (16 - ((tailL p).length + b)) = 16 - (tailL p).length by omega]
  rw [e]
  unfold tailL
  split
  · rename_i h0; subst h0; decide
  · exact pad_val p h
theorem head_val (f n : Nat) : valN (List.replicate f 48 ++ Lib.decDigits n) = n := by
  rw [val_append, zeros_val, dec_val]; omega
theorem size_of (f n p b : Nat) (hp : p < 65536) (hb : (tailL p).length + b ≤ 16) : sizeN (List.replicate f 48 ++ Lib.decDigits n) (tailL p ++ List.replicate b 48) = ((n * 65536 + p : Nat) : Int) := by
  unfold sizeN
  rw [head_val, tail_pad p b hp hb, Int.natCast_mul]
  have := rnd_whole (p : Int) 152587890625 (by omega)
  rw [show ((152587890625 : Nat) : Int) = 152587890625 from rfl, this]
  omega
theorem head_all (f n : Nat) : (List.replicate f 48 ++ Lib.decDigits n).all isD = true := by
  rw [List.all_append, zeros_all, dec_all]; rfl
theorem head_len (f n : Nat) (hf : f ≤ 3) (hn : n ≤ 99) : 1 ≤ (List.replicate f 48 ++ Lib.decDigits n).length ∧ (List.replicate f 48 ++ Lib.decDigits n).length ≤ 5 := by
  have a := dec_pos n
  have b := dec_len 2 n (by omega) (by decide)
  rw [List.length_append, List.length_replicate]; omega
/-- The whole, spelled with noughts. -/
def spell (f n p b : Nat) : List UInt8 := (List.replicate f 48 ++ Lib.decDigits n) ++ 46 :: (tailL p ++ List.replicate b 48)
theorem spell_par (m : Bool) (f n p b : Nat) (hf : f ≤ 3) (hn : n ≤ 99) (hp : p < 65536) :
    parN ((if m = true then [45] else []) ++ spell f n p b) = if (tailL p).length + b ≤ 16 then (if m = true then -((n * 65536 + p : Nat) : Int) else ((n * 65536 + p : Nat) : Int), 0) else (0, 3) := by
  have hl := head_len f n hf hn
  have ht := tail_len p
  unfold spell
  rw [par_of m _ _ (head_all f n) hl.1 (by omega) (by rw [List.all_append, tail_all p hp, zeros_all]; rfl), List.length_append, List.length_replicate]
  by_cases hb : (tailL p).length + b ≤ 16
  · rw [if_pos hb, if_pos ⟨by omega, hb⟩, size_of f n p b hp hb, if_neg (by omega)]
  · rw [if_neg hb, if_neg (fun h => hb h.2)]
theorem spell_len (f n p b : Nat) (hf : f ≤ 3) (hn : n ≤ 99) (hb : b ≤ 20) : (spell f n p b).length = (List.replicate f 48 ++ Lib.decDigits n).length + 1 + ((tailL p).length + b) ∧ (spell f n p b).length ≤ 60 := by
  have hl := head_len f n hf hn
  have ht := tail_len p
  have e : (spell f n p b).length = (List.replicate f 48 ++ Lib.decDigits n).length + 1 + ((tailL p).length + b) := by
    unfold spell; simp; omega
  exact ⟨e, by omega⟩
theorem spell_text (f n p : Nat) : spell f n p 0 = List.replicate f 48 ++ (Lib.decDigits n ++ partL p) ++ (if p = 0 then [46, 48] else []) := by
  unfold spell tailL partL
  by_cases h : p = 0
  · simp [h]
  · simp [h]
theorem spell_more (f n p b : Nat) : spell f n p b ++ [48] = spell f n p (b + 1) := by
  unfold spell
  simp [List.replicate_succ']
/-- Where the point stands. -/
theorem at_point (H Q : List UInt8) (hH : H.all isD = true) (hQ : Q.all isD = true) (k : Nat) (hk : k < (H ++ 46 :: Q).length) : (H ++ 46 :: Q)[k] = 46 ↔ k = H.length := by
  have hk' : k < H.length + (Q.length + 1) := by simpa using hk
  constructor
  · intro h
    rcases Nat.lt_trichotomy k H.length with h1 | h1 | h1
    · rw [List.getElem_append_left h1] at h
      exact absurd h (no_point _ (List.all_eq_true.1 hH _ (List.getElem_mem h1))).1
    · exact h1
    · rw [List.getElem_append_right (by omega)] at h
      obtain ⟨j, hj⟩ : ∃ j, k - H.length = j + 1 := ⟨k - H.length - 1, by omega⟩
      have hjq : j < Q.length := by omega
      simp only [hj, List.getElem_cons_succ] at h
      exact absurd h (no_point _ (List.all_eq_true.1 hQ _ (List.getElem_mem hjq))).1
  · intro h
    subst h
    rw [List.getElem_append_right (Nat.le_refl _)]
    simp
theorem spell_at (f n p b k : Nat) (hp : p < 65536) (hk : k < (spell f n p b).length) : ((spell f n p b)[k] = 46 ↔ k = (List.replicate f 48 ++ Lib.decDigits n).length) :=
  at_point _ _ (head_all f n) (by rw [List.all_append, tail_all p hp, zeros_all]; rfl) k hk
theorem digits_no_point (l : List UInt8) (h : l.all isD = true) : l.any (· == 46) = false := by
  rw [List.any_eq_false]
  intro c hc
  have := (no_point c (List.all_eq_true.1 h c hc)).1
  simpa using this
theorem any_text (f n p : Nat) : (List.replicate f 48 ++ (Lib.decDigits n ++ partL p)).any (· == 46) = decide (p ≠ 0) := by
  rw [List.any_append, List.any_append, digits_no_point _ (zeros_all f), digits_no_point _ (dec_all n), Bool.false_or, Bool.false_or]
  unfold partL
  by_cases h : p = 0
  · simp [h]
  · simp [h]
end Go.Proofs.YtplflpkmcoojmaaDoor
