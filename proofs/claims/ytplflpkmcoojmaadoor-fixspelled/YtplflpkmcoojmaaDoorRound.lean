/- A number's text says the number: of every number of 32 bits; no condition. -/
import Derived.Test.YtplflpkmcoojmaaDoorPNum
import Derived.Test.YtplflpkmcoojmaaDoorFText
import Derived.Lib.ItoaMem
namespace Go.Proofs.YtplflpkmcoojmaaDoor
theorem ofNat_toNat (d : Nat) (h : d ≤ 9) : (UInt8.ofNat (48 + d)).toNat = 48 + d := by rw [UInt8.toNat_ofNat']; omega
theorem isD_of (d : Nat) (h : d ≤ 9) : isD (UInt8.ofNat (48 + d)) = true := by
  unfold isD; rw [ofNat_toNat d h, decide_eq_true (by omega), decide_eq_true (by omega)]; rfl
theorem dec_all (n : Nat) : (Lib.decDigits n).all isD = true := by
  induction n using Nat.strongRecOn with
  | ind n ih =>
    rw [Lib.decDigits]
    split
    · rename_i h; rw [List.all_cons, isD_of n (by omega)]; rfl
    · rename_i h
      rw [List.all_append, ih (n / 10) (by omega), List.all_cons, isD_of (n % 10) (by omega)]; rfl
theorem dec_val (n : Nat) : valN (Lib.decDigits n) = n := by
  induction n using Nat.strongRecOn with
  | ind n ih =>
    rw [Lib.decDigits]
    split
    · rename_i h
      rw [val_cons, ofNat_toNat n (by omega)]; simp [valN]
    · rename_i h
      rw [val_snoc, ih (n / 10) (by omega), ofNat_toNat (n % 10) (by omega)]; omega
theorem dec_len : ∀ (k n : Nat), n < 10 ^ k → 0 < k → (Lib.decDigits n).length ≤ k
  | 0, _, _, h => by omega
  | k + 1, n, h, _ => by
    rw [Lib.decDigits]
    split
    · simp
    · rename_i h10
      rw [List.length_append, List.length_singleton]
      have hk : 0 < k := by
        rcases Nat.eq_zero_or_pos k with rfl | hk
        · simp at h; omega
        · exact hk
      have := dec_len k (n / 10) (by rw [Nat.pow_succ] at h; omega) hk
      omega
theorem dec_pos (n : Nat) : 1 ≤ (Lib.decDigits n).length := by
  rw [Lib.decDigits]; split <;> simp
theorem digB_dec (n : Nat) (h : n ≤ 32768) : digB (Lib.decDigits n) 6 = true :=
  (digB_iff _ _).2 ⟨⟨dec_pos n, dec_len 6 n (by omega) (by decide)⟩, dec_all n⟩
theorem fd_all : ∀ (k p : Nat), p < 65536 → (fd k p).all isD = true
  | 0, _, _ => by simp [fd]
  | k + 1, p, h => by
    unfold fd
    split
    · rfl
    · rw [List.all_cons, isD_of (p * 10 / 65536) (by omega), fd_all k _ (by omega)]; rfl
theorem fd_val : ∀ (k p : Nat), p < 65536 → p * 10 ^ k % 65536 = 0 → valN (fd k p ++ List.replicate (k - (fd k p).length) 48) * 65536 = p * 10 ^ k
  | 0, p, h, hm => by
    have : p = 0 := by simp at hm; omega
    subst this; simp [fd, valN]
  | k + 1, p, h, hm => by
    by_cases h0 : p = 0
    · subst h0
      rw [fd_zero]
      have hz : ∀ j, valN (List.replicate j 48) = 0 := by
        intro j
        induction j with
        | zero => rfl
        | succ j ih => rw [List.replicate_succ, val_cons, ih]; simp
      simp [hz]
    · rw [fd_succ k p h0]
      have ih := fd_val k (p * 10 % 65536) (by omega) (fd_next p k hm)
      have hl := fd_len k (p * 10 % 65536)
      have e1 : k + 1 - ((fd k (p * 10 % 65536)).length + 1) = k - (fd k (p * 10 % 65536)).length := by omega
      have e2 : (fd k (p * 10 % 65536) ++ List.replicate (k - (fd k (p * 10 % 65536)).length) 48).length = k := by simp; omega
      rw [List.cons_append, List.length_cons, e1, val_cons, ofNat_toNat _ (by omega), e2, Nat.add_mul, ih]
      have e : p * 10 = 65536 * (p * 10 / 65536) + p * 10 % 65536 := (Nat.div_add_mod _ _).symm
      rw [Nat.pow_succ, Nat.mul_comm (10 ^ k) 10, ← Nat.mul_assoc]
      conv => rhs; rw [e, Nat.add_mul]
      rw [show 48 + p * 10 / 65536 - 48 = p * 10 / 65536 by omega, Nat.mul_right_comm, Nat.mul_comm (p * 10 / 65536) 65536]
theorem pad_val (p : Nat) (h : p < 65536) : valN (padL (fd 16 p)) = p * 152587890625 := by
  have hm : p * 10 ^ 16 % 65536 = 0 := by
    rw [show (10 : Nat) ^ 16 = 65536 * 152587890625 by decide, Nat.mul_left_comm]; exact Nat.mul_mod_right _ _
  have := fd_val 16 p h hm
  unfold padL
  rw [show (10 : Nat) ^ 16 = 152587890625 * 65536 by decide, ← Nat.mul_assoc] at this
  exact Nat.eq_of_mul_eq_mul_right (by decide) this
theorem no_point (c : UInt8) (h : isD c = true) : c ≠ 46 ∧ c ≠ 45 := by
  unfold isD at h
  simp at h
  constructor <;> (intro e; subst e; simp at h)
theorem cut_cons (c : UInt8) (r : List UInt8) : cutL (c :: r) = if c = 46 then ([], r, true) else (c :: (cutL r).1, (cutL r).2.1, (cutL r).2.2) := rfl
theorem minus_cons (c : UInt8) (r : List UInt8) : minusL (c :: r) = if c = 45 then (r, true) else (c :: r, false) := rfl
theorem cut_digits : ∀ (d r : List UInt8), d.all isD = true → cutL (d ++ r) = (d ++ (cutL r).1, (cutL r).2.1, (cutL r).2.2)
  | [], _, _ => rfl
  | c :: d, r, h => by
    rw [List.all_cons, Bool.and_eq_true] at h
    rw [List.cons_append, cut_cons, if_neg (no_point c h.1).1, cut_digits d r h.2]
    rfl
theorem cut_partL (p : Nat) : cutL (partL p) = ([], if p = 0 then [] else fd 16 p, decide (p ≠ 0)) := by
  unfold partL
  split
  · rename_i h; subst h; rfl
  · rename_i h; simp [cutL, h]
theorem minus_digits (d r : List UInt8) (h : d.all isD = true) (h1 : 1 ≤ d.length) : minusL (d ++ r) = (d ++ r, false) := by
  cases d with
  | nil => simp at h1
  | cons c d =>
    rw [List.all_cons, Bool.and_eq_true] at h
    rw [List.cons_append, minus_cons, if_neg (no_point c h.1).2]
theorem minus_text (x : Int) : minusL (textL x) = (Lib.decDigits (x.natAbs / 65536) ++ partL (x.natAbs % 65536), decide (x < 0)) := by
  unfold textL
  rw [Lib.itoa_nonneg]
  by_cases h : x < 0
  · rw [if_pos h, decide_eq_true h]
    simp [minusL]
  · rw [if_neg h, decide_eq_false h, List.nil_append]
    exact minus_digits _ _ (dec_all _) (dec_pos _)
theorem fd_pos (p : Nat) (h : p ≠ 0) : 1 ≤ (fd 16 p).length := by rw [fd_succ 15 p h]; simp
/-- What the text of a number says. -/
theorem par_text (x : Int) (h1 : -2147483648 ≤ x) (h2 : x ≤ 2147483647) : parN (textL x) = if x < -2147483647 then (0, 2) else (x, 0) := by
  have hn : x.natAbs / 65536 ≤ 32768 := by omega
  have hp : x.natAbs % 65536 < 65536 := by omega
  have hc : cutL (minusL (textL x)).1 = (Lib.decDigits (x.natAbs / 65536), if x.natAbs % 65536 = 0 then [] else fd 16 (x.natAbs % 65536), decide (x.natAbs % 65536 ≠ 0)) := by
    rw [minus_text, cut_digits _ _ (dec_all _), cut_partL, List.append_nil]
  have hsz : sizeN (Lib.decDigits (x.natAbs / 65536)) (if x.natAbs % 65536 = 0 then [] else fd 16 (x.natAbs % 65536)) = (x.natAbs : Int) := by
    have hv : valN (padL (if x.natAbs % 65536 = 0 then [] else fd 16 (x.natAbs % 65536))) = (x.natAbs % 65536) * 152587890625 := by
      split
      · rename_i h0; rw [h0, Nat.zero_mul, ← fd_zero 16, pad_val 0 (by decide)]
      · exact pad_val _ hp
    unfold sizeN
    rw [dec_val, hv, Int.natCast_mul]
    have := rnd_whole ((x.natAbs % 65536 : Nat) : Int) 152587890625 (by omega)
    rw [show ((152587890625 : Nat) : Int) = 152587890625 from rfl, this]
    omega
  have hok : digB (Lib.decDigits (x.natAbs / 65536)) 6 = true ∧ (decide (x.natAbs % 65536 ≠ 0) = false ∨ digB (if x.natAbs % 65536 = 0 then [] else fd 16 (x.natAbs % 65536)) 16 = true) := by
    refine ⟨digB_dec _ hn, ?_⟩
    by_cases h0 : x.natAbs % 65536 = 0
    · exact .inl (by simp [h0])
    · rw [if_neg h0]
      exact .inr ((digB_iff _ _).2 ⟨⟨fd_pos _ h0, fd_len 16 _⟩, fd_all 16 _ hp⟩)
  unfold parN
  rw [hc, hsz]
  rw [if_pos hok, minus_text]
  by_cases hb : x < -2147483647
  · rw [if_pos hb, if_pos (by omega)]
  · rw [if_neg hb, if_neg (by omega)]
    by_cases h0 : x < 0
    · simp only [decide_eq_true h0, if_true]; congr 1; omega
    · simp only [decide_eq_false h0]; congr 1; simp; omega
end Go.Proofs.YtplflpkmcoojmaaDoor
