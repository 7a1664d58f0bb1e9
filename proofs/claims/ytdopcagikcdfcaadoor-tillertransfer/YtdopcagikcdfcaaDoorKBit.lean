/- Plain numbers: the cyclic sum bit by bit; a burst of at most 32 bits is never nought; no condition. -/
import Derived.Test.YtdopcagikcdfcaaDoorFLin
import Derived.Test.YtdopcagikcdfcaaDoorKBack
namespace Go.Proofs.YtdopcagikcdfcaaDoor
/-- One bit more. -/
def bit1 (c : Nat) : Nat := (c / 2) ^^^ (if c % 2 = 1 then 3988292384 else 0)
def bitsN : Nat → Nat → Nat
  | 0, c => c
  | k + 1, c => bitsN k (bit1 c)
theorem bitsN_add (i j c : Nat) : bitsN (i + j) c = bitsN j (bitsN i c) := by
  induction i generalizing c with
  | zero => simp [bitsN]
  | succ i ih => rw [Nat.succ_add]; exact ih (bit1 c)
theorem bitsN_succ' (k c : Nat) : bitsN (k + 1) c = bit1 (bitsN k c) := bitsN_add k 1 c
theorem xor_div2 (a b : Nat) : (a ^^^ b) / 2 = a / 2 ^^^ b / 2 := by
  have := @Nat.shiftRight_xor_distrib 1 a b
  simpa [Nat.shiftRight_eq_div_pow] using this
theorem bit1_xor (a b : Nat) : bit1 (a ^^^ b) = bit1 a ^^^ bit1 b := by
  have e2 : (a ^^^ b) % 2 = a % 2 ^^^ b % 2 := @Nat.xor_mod_two_pow a b 1
  have ha : a % 2 = 0 ∨ a % 2 = 1 := by omega
  have hb : b % 2 = 0 ∨ b % 2 = 1 := by omega
  unfold bit1
  rw [xor_div2, e2]
  rcases ha with ha | ha <;> rcases hb with hb | hb <;> rw [ha, hb] <;> simp
  · ac_rfl
  · ac_rfl
  · rw [show a / 2 ^^^ 3988292384 ^^^ (b / 2 ^^^ 3988292384) = (a / 2 ^^^ b / 2) ^^^ (3988292384 ^^^ 3988292384) by ac_rfl, Nat.xor_self, Nat.xor_zero]
theorem bitsN_xor (k a b : Nat) : bitsN k (a ^^^ b) = bitsN k a ^^^ bitsN k b := by
  induction k generalizing a b with
  | zero => rfl
  | succ k ih => show bitsN k (bit1 _) = _; rw [bit1_xor, ih]; rfl
theorem bit1_two (y : Nat) : bit1 (2 * y) = y := by
  unfold bit1
  rw [if_neg (by omega), Nat.mul_div_cancel_left _ (by decide), Nat.xor_zero]
theorem bitsN_pow (k y : Nat) : bitsN k (2 ^ k * y) = y := by
  induction k generalizing y with
  | zero => simp [bitsN]
  | succ k ih =>
    show bitsN k (bit1 (2 ^ (k + 1) * y)) = y
    rw [show 2 ^ (k + 1) * y = 2 * (2 ^ k * y) by rw [Nat.pow_succ]; ac_rfl, bit1_two, ih]
theorem bit1_lt (c : Nat) (h : c < 4294967296) : bit1 c < 4294967296 :=
  Nat.xor_lt_two_pow (n := 32) (by omega) (by split <;> omega)
theorem bit1_ne (c : Nat) (h : c < 4294967296) (h0 : c ≠ 0) : bit1 c ≠ 0 := by
  unfold bit1
  split
  · intro he
    have hx : c / 2 = 3988292384 := by
      have := congrArg (fun z => z ^^^ 3988292384) he
      simpa [Nat.xor_assoc] using this
    omega
  · rw [Nat.xor_zero]; omega
theorem bitsN_ne (k c : Nat) (h : c < 4294967296) (h0 : c ≠ 0) : bitsN k c ≠ 0 := by
  induction k generalizing c with
  | zero => exact h0
  | succ k ih => exact ih _ (bit1_lt c h) (bit1_ne c h h0)
theorem xor_add (x y i : Nat) (h : x < 2 ^ i) : x ^^^ (2 ^ i * y) = x + 2 ^ i * y := by
  apply Eq.symm
  apply Nat.eq_of_testBit_eq
  intro j
  rw [Nat.add_comm, Nat.testBit_two_pow_mul_add _ h, Nat.testBit_xor, Nat.testBit_two_pow_mul]
  by_cases hi : j < i
  · simp [hi, show ¬ i ≤ j by omega]
  · have : x.testBit j = false := Nat.testBit_lt_two_pow (Nat.lt_of_lt_of_le h (Nat.pow_le_pow_right (by decide) (show i ≤ j by omega)))
    simp [hi, show i ≤ j by omega, this]
theorem nib_bits4 (c : Nat) : nib c = bitsN 4 c := by
  have h16 : c = (c % 16) ^^^ (2 ^ 4 * (c / 16)) := by
    rw [xor_add _ _ 4 (Nat.mod_lt _ (by decide))]
    omega
  have hf : ∀ i : Fin 16, bitsN 4 i.val = fourAt i.val := by decide
  conv => rhs; rw [h16, bitsN_xor, bitsN_pow]
  unfold nib
  rw [hf ⟨c % 16, Nat.mod_lt _ (by decide)⟩, Nat.xor_comm]
theorem stepC_bits (c x : Nat) : stepC c x = bitsN 8 (c ^^^ x) := by
  unfold stepC
  rw [nib_bits4, nib_bits4, ← bitsN_add]
/-- All bytes as one number, the first the lowest. -/
def numL : List UInt8 → Nat
  | [] => 0
  | b :: l => b.toNat ^^^ 256 * numL l
theorem crc_bits (l : List UInt8) : ∀ c, crcL c l = bitsN (8 * l.length) (c ^^^ numL l) := by
  induction l with
  | nil => intro c; simp [crcL, numL, bitsN]
  | cons b l ih =>
    intro c
    show crcL (stepC c b.toNat) l = _
    rw [ih, stepC_bits, show 8 * (b :: l).length = 8 + 8 * l.length by simp; omega, bitsN_add]
    congr 1
    have : bitsN 8 (256 * numL l) = numL l := bitsN_pow 8 _
    show _ = bitsN 8 (c ^^^ (b.toNat ^^^ 256 * numL l))
    rw [show c ^^^ (b.toNat ^^^ 256 * numL l) = (c ^^^ b.toNat) ^^^ 256 * numL l by ac_rfl]
    conv => rhs; rw [bitsN_xor, this]
theorem numL_cons (b : UInt8) (l : List UInt8) : numL (b :: l) = b.toNat + 256 * numL l := xor_add b.toNat (numL l) 8 b.toNat_lt
theorem numL_inj : ∀ (l m : List UInt8), l.length = m.length → numL l = numL m → l = m
  | [], [], _, _ => rfl
  | a :: l, b :: m, h, he => by
    rw [numL_cons, numL_cons] at he
    have ha := a.toNat_lt
    have hb := b.toNat_lt
    have e1 : a.toNat = b.toNat := by omega
    rw [UInt8.toNat_inj.1 e1, numL_inj l m (by simpa using h) (by omega)]
  | [], _ :: _, h, _ => by simp at h
  | _ :: _, [], h, _ => by simp at h
theorem numL_four (a b c d : UInt8) : numL [a, b, c, d] = numB a b c d := by
  rw [numL_cons, numL_cons, numL_cons, numL_cons]
  show _ + 256 * (_ + 256 * (_ + 256 * (_ + 256 * 0))) = _
  unfold numB
  omega
/-- The residue of a frame that tells no fault. -/
theorem good_residue (m : List UInt8) (h : fltN m = none) : crcL 4294967295 m = bitsN 32 4294967295 := by
  unfold fltN at h
  split at h
  · cases h
  split at h
  · cases h
  split at h
  · cases h
  split at h
  · cases h
  split at h
  · cases h
  split at h
  · cases h
  split at h
  · cases h
  rename_i h1 _ _ _ h5 h6 h7
  have hl : m.length = numAt m 2 + 6 + 4 := by omega
  generalize numAt m 2 + 6 = q at *
  have hq : numAt m q = sumN (m.take q) := by simpa using h7
  have hsplit : m = m.take q ++ m.drop q := (List.take_append_drop q m).symm
  have hdl : (m.drop q).length = 4 := by rw [List.length_drop]; omega
  obtain ⟨a, b, c, d, hd⟩ : ∃ a b c d, m.drop q = [a, b, c, d] := by
    match hh : m.drop q, hdl with
    | [a, b, c, d], _ => exact ⟨a, b, c, d, rfl⟩
  have hn : numAt m q = numL (m.drop q) := by
    have e : numAt m q = numAt (m.drop q) 0 := by
      unfold numAt
      simp [List.getD_eq_getElem?_getD, List.getElem?_drop]
    rw [e, hd, numL_four]
    rfl
  have : crcL 4294967295 m = crcL (crcL 4294967295 (m.take q)) (m.drop q) := by
    conv => lhs; rw [hsplit, crcL_append]
  rw [this, crc_bits, hdl, ← hn, hq]
  congr 1
  unfold sumN
  rw [show crcL 4294967295 (m.take q) ^^^ (4294967295 ^^^ crcL 4294967295 (m.take q)) = 4294967295 ^^^ (crcL 4294967295 (m.take q) ^^^ crcL 4294967295 (m.take q)) by ac_rfl, Nat.xor_self, Nat.xor_zero]
/-- A burst is told. -/
theorem burst_told (l m : List UInt8) (at_ y : Nat) (hl : fltN l = none) (hlen : m.length = l.length) (hn : numL m = numL l ^^^ 2 ^ at_ * y) (ha : at_ ≤ 8 * l.length) (hy : y < 4294967296) (h0 : y ≠ 0) : fltN m ≠ none := by
  intro hm
  have r1 := good_residue l hl
  have r2 := good_residue m hm
  rw [crc_bits] at r1 r2
  rw [hlen, hn, ← r1, show 4294967295 ^^^ (numL l ^^^ 2 ^ at_ * y) = (4294967295 ^^^ numL l) ^^^ 2 ^ at_ * y by ac_rfl, bitsN_xor] at r2
  have r3 : bitsN (8 * l.length) (2 ^ at_ * y) = 0 := by
    have := congrArg (fun z => bitsN (8 * l.length) (4294967295 ^^^ numL l) ^^^ z) r2
    simp only [← Nat.xor_assoc, Nat.xor_self, Nat.zero_xor] at this
    exact this
  rw [show 8 * l.length = at_ + (8 * l.length - at_) by omega, bitsN_add, bitsN_pow] at r3
  exact bitsN_ne _ y hy h0 r3
theorem mul_xor (i a b : Nat) : 2 ^ i * (a ^^^ b) = 2 ^ i * a ^^^ 2 ^ i * b := by
  have := @Nat.shiftLeft_xor_distrib i a b
  simpa [Nat.shiftLeft_eq, Nat.mul_comm] using this
/-- A bit of one byte. -/
def oneB (r : Nat) : UInt8 := UInt8.ofNat (2 ^ r)
theorem oneB_toNat (r : Nat) (h : r < 8) : (oneB r).toNat = 2 ^ r := by
  unfold oneB
  rw [UInt8.toNat_ofNat']
  exact Nat.mod_eq_of_lt (Nat.pow_lt_pow_right (by decide) h)
/-- Bit j of all bytes is turned. -/
def flip (l : List UInt8) (j : Nat) : List UInt8 := l.set (j / 8) (l.getD (j / 8) 0 ^^^ oneB (j % 8))
theorem flip_length (l : List UInt8) (j : Nat) : (flip l j).length = l.length := by simp [flip]
theorem numL_flip : ∀ (l : List UInt8) (j : Nat), j < 8 * l.length → numL (flip l j) = numL l ^^^ 2 ^ j
  | [], j, h => by simp at h
  | b :: l, j, h => by
    by_cases c : j < 8
    · have e0 : j / 8 = 0 := by omega
      have e1 : j % 8 = j := by omega
      unfold flip
      rw [e0, e1]
      show (b ^^^ oneB j).toNat ^^^ 256 * numL l = b.toNat ^^^ 256 * numL l ^^^ 2 ^ j
      rw [UInt8.toNat_xor, oneB_toNat j c]
      ac_rfl
    · obtain ⟨i, rfl⟩ : ∃ i, j = i + 8 := ⟨j - 8, by omega⟩
      have e0 : (i + 8) / 8 = i / 8 + 1 := by omega
      have e1 : (i + 8) % 8 = i % 8 := by omega
      have ih := numL_flip l i (by simp at h; omega)
      unfold flip at ih ⊢
      rw [e0, e1]
      show b.toNat ^^^ 256 * numL (l.set (i / 8) (l.getD (i / 8) 0 ^^^ oneB (i % 8))) = b.toNat ^^^ 256 * numL l ^^^ 2 ^ (i + 8)
      rw [ih, show 256 = 2 ^ 8 from rfl, mul_xor, ← Nat.pow_add, Nat.add_comm 8 i]
      ac_rfl
/-- The first k bits of a number. -/
theorem mod_succ (x k : Nat) : x % 2 ^ (k + 1) = x % 2 ^ k + (if x / 2 ^ k % 2 = 1 then 2 ^ k else 0) := by
  rw [Nat.pow_succ, Nat.mod_mul]
  split
  · rename_i h; rw [h]; omega
  · rename_i h
    have : x / 2 ^ k % 2 = 0 := by omega
    rw [this]; omega
theorem mod_xor (x k : Nat) (h : x / 2 ^ k % 2 = 1) : x % 2 ^ (k + 1) = x % 2 ^ k ^^^ 2 ^ k := by
  rw [mod_succ, if_pos h]
  have := xor_add (x % 2 ^ k) 1 k (Nat.mod_lt _ (Nat.two_pow_pos k))
  rw [Nat.mul_one] at this
  exact this.symm
theorem mod_same (x k : Nat) (h : ¬ x / 2 ^ k % 2 = 1) : x % 2 ^ (k + 1) = x % 2 ^ k := by
  rw [mod_succ, if_neg h, Nat.add_zero]
end Go.Proofs.YtdopcagikcdfcaaDoor
