/- Plain numbers: the cyclic sum of bytes, by a table of four bits; no condition. -/
namespace Go.Proofs.YtdopcagikcdfcaaDoor
/-- What four turned bits come to. -/
def fourL : List Nat := [0, 498536548, 997073096, 651767980, 1994146192, 1802195444, 1303535960, 1342533948, 3988292384, 4027552580, 3604390888, 3412177804, 2607071920, 2262029012, 2685067896, 3183342108]
def fourAt (i : Nat) : Nat := fourL.getD i 0
/-- Four bits more. -/
def nib (c : Nat) : Nat := (c / 16) ^^^ fourAt (c % 16)
/-- A byte more. -/
def stepC (c x : Nat) : Nat := nib (nib (c ^^^ x))
def crcL (c : Nat) (l : List UInt8) : Nat := l.foldl (fun c b => stepC c b.toNat) c
def sumN (l : List UInt8) : Nat := 4294967295 ^^^ crcL 4294967295 l
theorem fourAt_lt (i : Nat) (h : i < 16) : fourAt i < 4294967296 := by
  have : ∀ j : Fin 16, fourAt j.val < 4294967296 := by decide
  exact this ⟨i, h⟩
theorem nib_lt (c : Nat) (h : c < 4294967296) : nib c < 4294967296 :=
  Nat.xor_lt_two_pow (n := 32) (by omega) (fourAt_lt _ (Nat.mod_lt _ (by decide)))
theorem stepC_lt (c x : Nat) (h : c < 4294967296) (hx : x < 256) : stepC c x < 4294967296 :=
  nib_lt _ (nib_lt _ (Nat.xor_lt_two_pow (n := 32) h (by omega)))
theorem crcL_lt (l : List UInt8) : ∀ c, c < 4294967296 → crcL c l < 4294967296 := by
  induction l with
  | nil => intro c h; exact h
  | cons b l ih => intro c h; exact ih _ (stepC_lt c b.toNat h b.toNat_lt)
theorem crcL_snoc (c : Nat) (l : List UInt8) (b : UInt8) : crcL c (l ++ [b]) = stepC (crcL c l) b.toNat := by simp [crcL]
theorem crcL_append (c : Nat) (l m : List UInt8) : crcL c (l ++ m) = crcL (crcL c l) m := by simp [crcL]
theorem sumN_lt (l : List UInt8) : sumN l < 4294967296 := Nat.xor_lt_two_pow (n := 32) (by decide) (crcL_lt _ _ (by decide))
theorem crc_take (c : Nat) (l : List UInt8) (i : Nat) (h : i < l.length) : crcL c (l.take (i + 1)) = stepC (crcL c (l.take i)) (l[i]).toNat := by
  rw [List.take_succ_eq_append_getElem h, crcL_snoc]
/-- A number in four bytes, the lowest first. -/
def fourB (n : Nat) : List UInt8 := [UInt8.ofNat (n % 256), UInt8.ofNat (n / 256 % 256), UInt8.ofNat (n / 65536 % 256), UInt8.ofNat (n / 16777216 % 256)]
theorem fourB_length (n : Nat) : (fourB n).length = 4 := rfl
/-- All of a frame ahead of its sum. -/
def headL (l : List UInt8) : List UInt8 := 84 :: 1 :: (fourB l.length ++ l)
def packL (l : List UInt8) : List UInt8 := headL l ++ fourB (sumN (headL l))
theorem headL_length (l : List UInt8) : (headL l).length = l.length + 6 := by simp [headL, fourB]
theorem packL_length (l : List UInt8) : (packL l).length = l.length + 10 := by simp [packL, headL_length, fourB]
/-- The number of four bytes. -/
def numB (a b c d : UInt8) : Nat := a.toNat + 256 * b.toNat + 65536 * c.toNat + 16777216 * d.toNat
theorem numB_lt (a b c d : UInt8) : numB a b c d < 4294967296 := by
  have := a.toNat_lt; have := b.toNat_lt; have := c.toNat_lt; have := d.toNat_lt
  unfold numB; omega
def numAt (l : List UInt8) (i : Nat) : Nat := numB (l.getD i 0) (l.getD (i + 1) 0) (l.getD (i + 2) 0) (l.getD (i + 3) 0)
theorem numAt_lt (l : List UInt8) (i : Nat) : numAt l i < 4294967296 := numB_lt _ _ _ _
theorem num_four (n : Nat) (h : n < 4294967296) : numB (UInt8.ofNat (n % 256)) (UInt8.ofNat (n / 256 % 256)) (UInt8.ofNat (n / 65536 % 256)) (UInt8.ofNat (n / 16777216 % 256)) = n := by
  unfold numB
  simp only [UInt8.toNat_ofNat']
  omega
end Go.Proofs.YtdopcagikcdfcaaDoor
