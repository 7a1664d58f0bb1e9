/- Numbers as groups of seven bits, a message's text as a list of bytes, and how a number is taken off again: plain mathematics, no condition but the bounds that are named. -/
import Derived.WalkKit
namespace Go.Proofs.YtdopcagikcdfcaaDoor
/-- The groups ahead of the last one, the highest first. -/
def grpH (n : Nat) : List UInt8 := if _h : n = 0 then [] else grpH (n / 128) ++ [UInt8.ofNat (n % 128 + 128)]
termination_by n
decreasing_by omega
theorem grpH_zero : grpH 0 = [] := by rw [grpH]; simp
theorem grpH_pos (n : Nat) (h : n ≠ 0) : grpH n = grpH (n / 128) ++ [UInt8.ofNat (n % 128 + 128)] := by
  conv => lhs; rw [grpH]
  simp [h]
/-- A number's bytes. -/
def vB (n : Nat) : List UInt8 := grpH (n / 128) ++ [UInt8.ofNat (n % 128)]
theorem grpH_len (k : Nat) : ∀ n, n < 128 ^ k → (grpH n).length ≤ k := by
  induction k with
  | zero => intro n h; have : n = 0 := by simp at h; omega
            subst this; simp [grpH_zero]
  | succ k ih =>
    intro n h
    by_cases h0 : n = 0
    · subst h0; simp [grpH_zero]
    · rw [grpH_pos n h0]
      have := ih (n / 128) (by rw [Nat.pow_succ] at h; omega)
      simp; omega
theorem vB_len (n : Nat) (h : n ≤ 1099511627776) : (vB n).length ≤ 6 := by
  have := grpH_len 5 (n / 128) (by omega)
  simp [vB]; omega
theorem vB_pos (n : Nat) : 1 ≤ (vB n).length := by simp [vB]
theorem grpH_nil {n : Nat} (h : (grpH n).length = 0) : n = 0 := by
  by_cases h0 : n = 0
  · exact h0
  · rw [grpH_pos n h0] at h; simp at h
/-- The number that a row of bytes begins with, how many bytes it has, and the error's number; so many bytes and such a number are ahead. -/
def takeG : List UInt8 → Nat → Nat → Nat × Nat × Nat
  | [], _, _ => (0, 0, 11)
  | b :: t, i, n =>
    if i = 0 ∧ b.toNat = 128 ∨ i = 6 ∧ 127 < b.toNat then (0, 0, 3)
    else if b.toNat < 128 then (if 1099511627776 < 128 * n + b.toNat % 128 then (0, 0, 1) else (128 * n + b.toNat % 128, i + 1, 0))
    else takeG t (i + 1) (128 * n + b.toNat % 128)
theorem takeG_grp (r : List UInt8) (k : Nat) : k ≤ 6 → ∀ m, m < 128 ^ k → takeG (grpH m ++ r) 0 0 = takeG r (grpH m).length m := by
  induction k generalizing r with
  | zero => intro _ m h; have : m = 0 := by simp at h; omega
            subst this; simp [grpH_zero]
  | succ k ih =>
    intro hk m h
    by_cases h0 : m = 0
    · subst h0; simp [grpH_zero]
    · have hm : m / 128 < 128 ^ k := by rw [Nat.pow_succ] at h; omega
      have hl := grpH_len k (m / 128) hm
      rw [grpH_pos m h0, List.append_assoc, ih _ (by omega) _ hm]
      have hb : (UInt8.ofNat (m % 128 + 128)).toNat = m % 128 + 128 := by rw [UInt8.toNat_ofNat']; omega
      have hz : (grpH (m / 128)).length = 0 → m / 128 = 0 := grpH_nil
      rw [List.length_append]
      show takeG (UInt8.ofNat (m % 128 + 128) :: r) _ _ = _
      rw [takeG, hb, if_neg (by omega), if_neg (by omega), show 128 * (m / 128) + (m % 128 + 128) % 128 = m by omega]
      rfl
theorem takeG_num (r : List UInt8) (n : Nat) (h : n ≤ 1099511627776) : takeG (vB n ++ r) 0 0 = (n, (vB n).length, 0) := by
  have hb : (UInt8.ofNat (n % 128)).toNat = n % 128 := by rw [UInt8.toNat_ofNat']; omega
  have hl := grpH_len 5 (n / 128) (by omega)
  unfold vB
  rw [List.append_assoc, takeG_grp _ 5 (by omega) _ (by omega)]
  show takeG (UInt8.ofNat (n % 128) :: r) _ _ = _
  unfold takeG
  rw [hb, if_neg (by omega), if_pos (by omega), if_neg (by omega), List.length_append]
  have : 128 * (n / 128) + n % 128 % 128 = n := by omega
  rw [this]; rfl
/-- A message's text. -/
def msgL (ns ts : List Nat) (t : List UInt8) : List UInt8 := ns.flatMap vB ++ (vB ts.length ++ (ts.map UInt8.ofNat ++ (vB t.length ++ t)))
theorem flatW_len (ns : List Nat) (h : ∀ n ∈ ns, n ≤ 1099511627776) : (ns.flatMap vB).length ≤ 6 * ns.length := by
  induction ns with
  | nil => simp
  | cons a l ih =>
    have h1 := vB_len a (h a (by simp))
    have h2 := ih (fun n hn => h n (by simp [hn]))
    simp only [List.flatMap_cons, List.length_append, List.length_cons]; omega
theorem msgL_len (ns ts : List Nat) (t : List UInt8) (h : ∀ n ∈ ns, n ≤ 1099511627776) (h1 : ts.length ≤ 1099511627776) (h2 : t.length ≤ 1099511627776) : (msgL ns ts t).length ≤ 6 * ns.length + 12 + ts.length + t.length := by
  have a := flatW_len ns h
  have b := vB_len ts.length h1
  have c := vB_len t.length h2
  simp only [msgL, List.length_append, List.length_map]; omega
theorem num_inj {a b : Nat} {r s : List UInt8} (ha : a ≤ 1099511627776) (hb : b ≤ 1099511627776) (h : vB a ++ r = vB b ++ s) : a = b ∧ r = s := by
  have h1 := takeG_num r a ha
  rw [h, takeG_num s b hb] at h1
  have e : b = a := congrArg (·.1) h1
  subst e
  exact ⟨rfl, List.append_cancel_left h⟩
theorem flat_inj {a b : List Nat} {r s : List UInt8} (hl : a.length = b.length) (ha : ∀ n ∈ a, n ≤ 1099511627776) (hb : ∀ n ∈ b, n ≤ 1099511627776) (h : a.flatMap vB ++ r = b.flatMap vB ++ s) : a = b ∧ r = s := by
  induction a generalizing b with
  | nil => cases b with
    | nil => exact ⟨rfl, by simpa using h⟩
    | cons => simp at hl
  | cons x a ih => cases b with
    | nil => simp at hl
    | cons y b =>
      simp only [List.flatMap_cons, List.append_assoc] at h
      obtain ⟨rfl, h2⟩ := num_inj (ha x (by simp)) (hb y (by simp)) h
      obtain ⟨rfl, h3⟩ := ih (by simpa using hl) (fun n hn => ha n (by simp [hn])) (fun n hn => hb n (by simp [hn])) h2
      exact ⟨rfl, h3⟩
theorem bytes_inj {a b : List Nat} (ha : ∀ n ∈ a, n ≤ 255) (hb : ∀ n ∈ b, n ≤ 255) (h : a.map UInt8.ofNat = b.map UInt8.ofNat) : a = b := by
  have back : ∀ l : List Nat, (∀ n ∈ l, n ≤ 255) → (l.map UInt8.ofNat).map UInt8.toNat = l := by
    intro l hl
    rw [List.map_map]
    conv => rhs; rw [← List.map_id l]
    apply List.map_congr_left
    intro n hn
    have := hl n hn
    simp only [Function.comp, UInt8.toNat_ofNat', id_eq]; omega
  rw [← back a ha, ← back b hb, h]
theorem msgL_inj {a b ta tb : List Nat} {t u : List UInt8} (hl : a.length = b.length) (ha : ∀ n ∈ a, n ≤ 1099511627776) (hb : ∀ n ∈ b, n ≤ 1099511627776)
    (h1 : ∀ n ∈ ta, n ≤ 255) (h2 : ∀ n ∈ tb, n ≤ 255) (l1 : ta.length ≤ 1099511627776) (l2 : tb.length ≤ 1099511627776) (l3 : t.length ≤ 1099511627776) (l4 : u.length ≤ 1099511627776)
    (h : msgL a ta t = msgL b tb u) : a = b ∧ ta = tb ∧ t = u := by
  unfold msgL at h
  obtain ⟨rfl, hx⟩ := flat_inj hl ha hb h
  obtain ⟨e, hy⟩ := num_inj l1 l2 hx
  have h3 := List.append_inj hy (by simpa using e)
  obtain ⟨e2, h4⟩ := num_inj l3 l4 h3.2
  exact ⟨rfl, bytes_inj h1 h2 h3.1, h4⟩
end Go.Proofs.YtdopcagikcdfcaaDoor
