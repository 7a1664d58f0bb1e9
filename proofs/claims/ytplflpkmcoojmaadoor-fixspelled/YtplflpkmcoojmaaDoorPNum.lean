/- Plain texts: digits, what they say, where the point stands, and the number that a text says; no condition. -/
import Derived.Test.YtplflpkmcoojmaaDoorNum2
import Derived.Lib.IndexLaws
import Derived.Lib.Strings
namespace Go.Proofs.YtplflpkmcoojmaaDoor
def isD (c : UInt8) : Bool := decide (48 ≤ c.toNat) && decide (c.toNat ≤ 57)
def digB (l : List UInt8) (most : Nat) : Bool := decide (1 ≤ l.length) && decide (l.length ≤ most) && l.all isD
def valN (l : List UInt8) : Nat := l.foldl (fun a c => a * 10 + (c.toNat - 48)) 0
theorem val_snoc (l : List UInt8) (c : UInt8) : valN (l ++ [c]) = valN l * 10 + (c.toNat - 48) := by simp [valN]
theorem val_from (l : List UInt8) : ∀ a : Nat, l.foldl (fun a c => a * 10 + (c.toNat - 48)) a = a * 10 ^ l.length + valN l := by
  induction l with
  | nil => intro a; simp [valN]
  | cons c r ih =>
    intro a
    unfold valN
    rw [List.foldl_cons, List.foldl_cons, ih, ih, List.length_cons, Nat.pow_succ, Nat.add_mul, Nat.add_mul, Nat.mul_assoc, Nat.mul_comm 10 (10 ^ r.length)]
    omega
theorem val_cons (c : UInt8) (r : List UInt8) : valN (c :: r) = (c.toNat - 48) * 10 ^ r.length + valN r := by
  have := val_from r (c.toNat - 48)
  unfold valN
  rw [List.foldl_cons, Nat.zero_mul, Nat.zero_add, this]; rfl
theorem val_append (l r : List UInt8) : valN (l ++ r) = valN l * 10 ^ r.length + valN r := by
  have := val_from r (valN l)
  rw [← this]
  simp [valN, List.foldl_append]
theorem val_lt : ∀ (l : List UInt8), l.all isD = true → valN l < 10 ^ l.length
  | [], _ => by simp [valN]
  | c :: r, h => by
    rw [List.all_cons, Bool.and_eq_true] at h
    have ih := val_lt r h.2
    have h2 := h.1
    unfold isD at h2
    simp at h2
    rw [val_cons, List.length_cons, Nat.pow_succ]
    have : (c.toNat - 48) * 10 ^ r.length ≤ 9 * 10 ^ r.length := Nat.mul_le_mul_right _ (by omega)
    omega
/-- A minus ahead. -/
def minusL : List UInt8 → List UInt8 × Bool
  | [] => ([], false)
  | c :: r => if c = 45 then (r, true) else (c :: r, false)
/-- What stands ahead of the first point and behind it. -/
def cutL : List UInt8 → List UInt8 × List UInt8 × Bool
  | [] => ([], [], false)
  | c :: r => if c = 46 then ([], r, true) else (c :: (cutL r).1, (cutL r).2.1, (cutL r).2.2)
theorem cut_none : ∀ (l : List UInt8), Lib.indexByte l 46 = -1 → cutL l = (l, [], false)
  | [], _ => rfl
  | c :: r, h => by
    unfold Lib.indexByte at h
    by_cases hc : c = 46
    · subst hc; simp at h
    · rw [if_neg (by simpa using hc)] at h
      have hr : Lib.indexByte r 46 = -1 := by
        by_cases h1 : Lib.indexByte r 46 = -1
        · exact h1
        · rw [if_neg (by simpa using h1)] at h
          have := Lib.indexByte_ge r 46; omega
      unfold cutL
      rw [if_neg hc, cut_none r hr]
theorem cut_some : ∀ (l : List UInt8) (o : Nat), Lib.indexByte l 46 = o → cutL l = (l.take o, l.drop (o + 1), true) ∧ o < l.length
  | [], o, h => by simp [Lib.indexByte] at h
  | c :: r, o, h => by
    unfold Lib.indexByte at h
    by_cases hc : c = 46
    · subst hc
      simp at h
      obtain rfl : o = 0 := by omega
      exact ⟨rfl, by simp⟩
    · rw [if_neg (by simpa using hc)] at h
      have hge := Lib.indexByte_ge r 46
      by_cases h1 : Lib.indexByte r 46 = -1
      · rw [if_pos (by simpa using h1)] at h; omega
      · rw [if_neg (by simpa using h1)] at h
        obtain ⟨o', rfl⟩ : ∃ o', o = o' + 1 := ⟨o - 1, by omega⟩
        have ih := cut_some r o' (by omega)
        unfold cutL
        rw [if_neg hc, ih.1]
        exact ⟨by simp, by simpa using ih.2⟩
def padL (l : List UInt8) : List UInt8 := l ++ List.replicate (16 - l.length) 48
def sizeN (whole part : List UInt8) : Int := (valN whole : Int) * 65536 + rnd (valN (padL part) : Int) 152587890625
/-- What a text says: the number, the error's number. -/
def parN (l : List UInt8) : Int × Int :=
  if digB (cutL (minusL l).1).1 6 = true ∧ ((cutL (minusL l).1).2.2 = false ∨ digB (cutL (minusL l).1).2.1 16 = true) then
    if 2147483647 < sizeN (cutL (minusL l).1).1 (cutL (minusL l).1).2.1 then (0, 2)
    else (if (minusL l).2 = true then -(sizeN (cutL (minusL l).1).1 (cutL (minusL l).1).2.1) else sizeN (cutL (minusL l).1).1 (cutL (minusL l).1).2.1, 0)
  else (0, 3)
theorem digB_iff (l : List UInt8) (m : Nat) : digB l m = true ↔ (1 ≤ l.length ∧ l.length ≤ m) ∧ l.all isD = true := by simp [digB]
theorem pad_len (l : List UInt8) (h : l.length ≤ 16) : (padL l).length = 16 := by simp [padL]; omega
theorem pad_all (l : List UInt8) (h : l.all isD = true) : (padL l).all isD = true := by
  unfold padL
  rw [List.all_append, h, Bool.true_and, List.all_replicate]
  simp [isD]
theorem cut_no_part (l : List UInt8) (h : (cutL l).2.2 = false) : (cutL l).2.1 = [] := by
  induction l with
  | nil => rfl
  | cons c r ih =>
    unfold cutL at h ⊢
    split at h
    · cases h
    · rename_i hc
      rw [if_neg hc]
      exact ih h
end Go.Proofs.YtplflpkmcoojmaaDoor
