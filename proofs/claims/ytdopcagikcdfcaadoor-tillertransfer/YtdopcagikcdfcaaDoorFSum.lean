/- Package frame's Sum. Condition: the table of sums lies in its block. -/
import Derived.Test.YtdopcagikcdfcaaDoorRows
import Derived.Test.YtdopcagikcdfcaaDoorFNum
import Derived.Test.YtdopcagikcdfcaaDoorKin
import Derived.Laws.Bits64
import Derived.Deep.OwnRows
import Derived.Deep.LoopGhost
import Derived.Deep.RegionWith
import Derived.Deep.QuietTactic
import Derived.Laws.IdiomStrings
import Derived.Lib.UnsafeStr
namespace Go.Proofs.YtdopcagikcdfcaaDoor
open Go.ChangeShapes Go.WideShapes Go.ChangeAt Go.RowKit
theorem bits_xor_u32_nat (a b : Nat) (ha : a < 4294967296) (hb : b < 4294967296) : bits .xor .u32 (a : Int) (b : Int) = ((a ^^^ b : Nat) : Int) := by
  have hx : a ^^^ b < 2 ^ 32 := Nat.xor_lt_two_pow (by omega) (by omega)
  have h1 : (BitVec.ofInt 32 (a : Int)).toNat = a := by
    rw [BitVec.ofInt_natCast, BitVec.toNat_ofNat]; exact Nat.mod_eq_of_lt (by omega)
  have h2 : (BitVec.ofInt 32 (b : Int)).toNat = b := by
    rw [BitVec.ofInt_natCast, BitVec.toNat_ofNat]; exact Nat.mod_eq_of_lt (by omega)
  show IntKind.u32.wrap ((BitVec.ofInt 32 (a : Int) ^^^ BitVec.ofInt 32 (b : Int)).toNat : Int) = _
  rw [BitVec.toNat_xor, h1, h2]
  simp [IntKind.wrap, IntKind.bits, IntKind.signed]
  omega
theorem bits_or_u32_nat (a b : Nat) (ha : a < 4294967296) (hb : b < 4294967296) : bits .or .u32 (a : Int) (b : Int) = ((a ||| b : Nat) : Int) := by
  have hx : a ||| b < 2 ^ 32 := Nat.or_lt_two_pow (by omega) (by omega)
  have h1 : (BitVec.ofInt 32 (a : Int)).toNat = a := by
    rw [BitVec.ofInt_natCast, BitVec.toNat_ofNat]; exact Nat.mod_eq_of_lt (by omega)
  have h2 : (BitVec.ofInt 32 (b : Int)).toNat = b := by
    rw [BitVec.ofInt_natCast, BitVec.toNat_ofNat]; exact Nat.mod_eq_of_lt (by omega)
  show IntKind.u32.wrap ((BitVec.ofInt 32 (a : Int) ||| BitVec.ofInt 32 (b : Int)).toNat : Int) = _
  rw [BitVec.toNat_or, h1, h2]
  simp [IntKind.wrap, IntKind.bits, IntKind.signed]
  omega
theorem bits_and15 (a : Nat) (ha : a < 4294967296) : bits .and .u32 (a : Int) 15 = ((a % 16 : Nat) : Int) := by
  have h1 : (BitVec.ofInt 32 (a : Int)).toNat = a := by
    rw [BitVec.ofInt_natCast, BitVec.toNat_ofNat]; exact Nat.mod_eq_of_lt (by omega)
  show IntKind.u32.wrap ((BitVec.ofInt 32 (a : Int) &&& BitVec.ofInt 32 15).toNat : Int) = _
  have h2 : (BitVec.ofInt 32 15).toNat = 2 ^ 4 - 1 := by decide
  rw [BitVec.toNat_and, h1, h2, Nat.and_two_pow_sub_one_eq_mod]
  simp [IntKind.wrap, IntKind.bits, IntKind.signed]
  omega
def sumCells : Array Value := (fourL.map fun (n : Nat) => Value.int .u32 (n : Int)).toArray
theorem sum_get (i : Nat) (h : i < 16) : sumCells[i]? = some (.int .u32 (fourAt i : Int)) := by
  have hl : fourL.length = 16 := rfl
  simp [sumCells, fourAt, hl, h]
/-- The table of sums lies in its block. -/
def Tab (w : World) : Prop := ∃ t fr, w.heap[0]? = some (.cells sumCells t fr)
theorem Tab.lt {w : World} (h : Tab w) : 0 < w.heap.size := by
  obtain ⟨t, fr, h⟩ := h
  exact (Array.getElem?_eq_some_iff.1 h).1
theorem Tab.next {w w' : World} (h : Tab w) (hb : Below w.heap.size w w') : Tab w' := by
  obtain ⟨t, fr, h'⟩ := h
  exact ⟨t, fr, (hb.block 0 (Tab.lt ⟨t, fr, h'⟩)).trans h'⟩
theorem Tab.drewN {w : World} (h : Tab w) (n : Nat) : Tab (w.drewN n) := h.next (below_drewN (Below.refl _ w) n)
theorem Tab.cell {w : World} (h : Tab w) (i : Nat) (hi : i < 16) : w.cell? ⟨0, i, none⟩ = some (.int .u32 (fourAt i : Int)) := by
  obtain ⟨t, fr, h'⟩ := h
  have := sum_get i hi
  simp only [World.cell?, h']
  exact this
theorem nib_bits (c : Nat) (h : c < 4294967296) : bits .xor .u32 ((c : Int) / 16) (fourAt (c % 16) : Int) = (nib c : Int) := by
  have e : ((c : Int) / 16) = ((c / 16 : Nat) : Int) := rfl
  rw [e, bits_xor_u32_nat _ _ (by omega) (fourAt_lt _ (Nat.mod_lt _ (by decide)))]
  rfl
set_option maxHeartbeats 800000 in
theorem sum_any (s : ByteArray) (w : World) (h : Tab w) (hs : s.size ≤ 9223372036854775807) :
   Calls Tryd.prog 32 #[.string s] w fun e w' => e = .returned (.int .u32 (sumN s.data.toList : Int)) ∧ w' = w := by
  have hl : s.data.toList.length = s.size := rfl
  go_enter Tryd.func32, Tryd.ntmps32
  go_wp2_with fail
  go_loopg [3, 7] s.size (fun r c i wr => ∃ k : Nat, k ≤ s.size ∧ r = s.size - k ∧ i = .int .i64 k ∧ c = .int .u32 (crcL 4294967295 (s.data.toList.take k) : Int) ∧ wr = w)
  case atStart => exact ⟨0, by omega, by omega, rfl, rfl, rfl⟩
  case round =>
    obtain ⟨k, hk, rfl, rfl, rfl, rfl⟩ := hrel
    by_cases hks : k < s.size
    · have e1 : Hid (crcL 4294967295 (s.data.toList.take (k + 1)) = stepC (crcL 4294967295 (s.data.toList.take k)) (s[k]'hks).toNat) := by
        show _ = _
        rw [crc_take _ _ _ (by omega)]
        rfl
      have b0 : crcL 4294967295 (s.data.toList.take k) < 4294967296 := crcL_lt _ _ (by decide)
      generalize crcL 4294967295 (s.data.toList.take k) = c at *
      have hx := (s[k]'hks).toNat_lt
      have e2 := bits_xor_u32_nat c (s[k]'hks).toNat b0 (by omega)
      have b1 : c ^^^ (s[k]'hks).toNat < 4294967296 := Nat.xor_lt_two_pow (n := 32) b0 (by omega)
      have HS : Hid (stepC c (s[k]'hks).toNat = nib (nib (c ^^^ (s[k]'hks).toNat))) := rfl
      generalize c ^^^ (s[k]'hks).toNat = c1 at *
      have a1 := bits_and15 c1 b1
      have t1 := h.cell (c1 % 16) (Nat.mod_lt _ (by decide))
      have n1 := nib_bits c1 b1
      have b2 := nib_lt c1 b1
      have l1 : c1 % 16 < 16 := Nat.mod_lt _ (by decide)
      generalize fourAt (c1 % 16) = q1 at *
      generalize c1 % 16 = i1 at *
      generalize nib c1 = c2 at *
      have a2 := bits_and15 c2 b2
      have t2 := h.cell (c2 % 16) (Nat.mod_lt _ (by decide))
      have n2 := nib_bits c2 b2
      have b3 := nib_lt c2 b2
      have l2 : c2 % 16 < 16 := Nat.mod_lt _ (by decide)
      generalize fourAt (c2 % 16) = q2 at *
      generalize c2 % 16 = i2 at *
      generalize nib c2 = c3 at *
      clear h
      go_wp2_with fail
      go_roundg (s.size - (k + 1))
      case measure => omega
      case rel => exact ⟨k + 1, by omega, rfl, by go_num, by rw [e1.out, HS.out], rfl⟩
    · obtain rfl : k = s.size := by omega
      have hb : crcL 4294967295 s.data.toList < 4294967296 := crcL_lt _ _ (by decide)
      have ht : s.data.toList.take s.size = s.data.toList := List.take_of_length_le (by omega)
      rw [ht]
      go_wp2_with fail
      go_ret
      exact ⟨ret_int (bits_xor_u32_nat 4294967295 _ (by decide) hb), rfl⟩
end Go.Proofs.YtdopcagikcdfcaaDoor
