/- Plain numbers: the cyclic sum is added by xor; no condition. -/
import Derived.Test.YtdopcagikcdfcaaDoorFNum
namespace Go.Proofs.YtdopcagikcdfcaaDoor
theorem fourAt_xor (a b : Nat) (ha : a < 16) (hb : b < 16) : fourAt (a ^^^ b) = fourAt a ^^^ fourAt b := by
  have : ∀ i j : Fin 16, fourAt (i.val ^^^ j.val) = fourAt i.val ^^^ fourAt j.val := by decide +kernel
  exact this ⟨a, ha⟩ ⟨b, hb⟩
theorem nib_xor (a b : Nat) : nib (a ^^^ b) = nib a ^^^ nib b := by
  unfold nib
  have e1 : (a ^^^ b) / 16 = a / 16 ^^^ b / 16 := by
    have := @Nat.shiftRight_xor_distrib 4 a b
    simpa [Nat.shiftRight_eq_div_pow] using this
  have e2 : (a ^^^ b) % 16 = a % 16 ^^^ b % 16 := @Nat.xor_mod_two_pow a b 4
  rw [e1, e2, fourAt_xor _ _ (Nat.mod_lt _ (by decide)) (Nat.mod_lt _ (by decide))]
  ac_rfl
theorem stepC_xor (c d x y : Nat) : stepC (c ^^^ d) (x ^^^ y) = stepC c x ^^^ stepC d y := by
  unfold stepC
  rw [show c ^^^ d ^^^ (x ^^^ y) = (c ^^^ x) ^^^ (d ^^^ y) by ac_rfl, nib_xor, nib_xor]
/-- Two texts of one length, byte by byte. -/
def xorL (l m : List UInt8) : List UInt8 := List.zipWith (fun a b => a ^^^ b) l m
theorem crc_xor : ∀ (l m : List UInt8) (c d : Nat), l.length = m.length → crcL (c ^^^ d) (xorL l m) = crcL c l ^^^ crcL d m
  | [], [], c, d, _ => rfl
  | a :: l, b :: m, c, d, h => by
    have e : ((a ^^^ b : UInt8)).toNat = a.toNat ^^^ b.toNat := UInt8.toNat_xor a b
    show crcL (stepC (c ^^^ d) (a ^^^ b).toNat) (xorL l m) = crcL (stepC c a.toNat) l ^^^ crcL (stepC d b.toNat) m
    rw [e, stepC_xor]
    exact crc_xor l m _ _ (by simpa using h)
  | [], _ :: _, _, _, h => by simp at h
  | _ :: _, [], _, _, h => by simp at h
def zeroL (n : Nat) : List UInt8 := List.replicate n 0
theorem xorL_zero (l : List UInt8) : xorL l (zeroL l.length) = l := by
  induction l with
  | nil => rfl
  | cons a l ih =>
    have : a ^^^ 0 = a := UInt8.xor_zero
    show (a ^^^ 0) :: xorL l (zeroL l.length) = a :: l
    rw [this, ih]
theorem xorL_length (l m : List UInt8) (h : l.length = m.length) : (xorL l m).length = l.length := by simp [xorL, h]
theorem sum_xor (l m : List UInt8) (h : l.length = m.length) : (sumN l ^^^ sumN m) ^^^ sumN (xorL l m) = sumN (zeroL l.length) := by
  unfold sumN
  have e1 : crcL 4294967295 (xorL l m) = crcL 4294967295 l ^^^ crcL 0 m := by
    have := crc_xor l m 4294967295 0 h
    rwa [Nat.xor_zero] at this
  have e2 : crcL 4294967295 m = crcL 0 m ^^^ crcL 4294967295 (zeroL m.length) := by
    have := crc_xor m (zeroL m.length) 0 4294967295 (by simp [zeroL])
    rw [xorL_zero, Nat.zero_xor] at this
    exact this
  rw [e1, e2, h]
  generalize crcL 4294967295 l = a
  generalize crcL 0 m = b
  generalize crcL 4294967295 (zeroL m.length) = c
  generalize 4294967295 = k
  have q : ∀ x y : Nat, x ^^^ (x ^^^ y) = y := fun x y => by rw [← Nat.xor_assoc, Nat.xor_self, Nat.zero_xor]
  rw [show k ^^^ a ^^^ (k ^^^ (b ^^^ c)) ^^^ (k ^^^ (a ^^^ b)) = a ^^^ (a ^^^ (b ^^^ (b ^^^ (k ^^^ (k ^^^ (k ^^^ c)))))) by ac_rfl, q, q, q]
/-- The first k bytes are added, the others nought. -/
def xorTo (l m : List UInt8) (k : Nat) : List UInt8 := (xorL l m).take k ++ zeroL (l.length - k)
theorem xorTo_zero (l m : List UInt8) : xorTo l m 0 = zeroL l.length := by simp [xorTo]
theorem xorTo_all (l m : List UInt8) (h : l.length = m.length) : xorTo l m l.length = xorL l m := by
  unfold xorTo
  rw [List.take_of_length_le (by rw [xorL_length l m h]; omega), Nat.sub_self]
  simp [zeroL]
theorem xorTo_succ (l m : List UInt8) (k : Nat) (h : k < l.length) (hm : k < m.length) : xorTo l m (k + 1) = (xorTo l m k).set k (l.getD k 0 ^^^ m.getD k 0) := by
  have hx : k < (xorL l m).length := by simp [xorL]; omega
  have hz : zeroL (l.length - k) = 0 :: zeroL (l.length - (k + 1)) := by
    unfold zeroL
    rw [show l.length - k = (l.length - (k + 1)) + 1 by omega, List.replicate_succ]
  have hlen : ((xorL l m).take k).length = k := by rw [List.length_take]; omega
  have hg : (xorL l m)[k] = l.getD k 0 ^^^ m.getD k 0 := by
    simp [xorL, List.getD_eq_getElem?_getD, List.getElem?_eq_getElem h, List.getElem?_eq_getElem hm]
  unfold xorTo
  rw [hz, List.take_succ_eq_append_getElem hx, hg]
  conv => rhs; rw [List.set_append_right _ _ (by omega), hlen, Nat.sub_self, List.set_cons_zero]
  simp
end Go.Proofs.YtdopcagikcdfcaaDoor
