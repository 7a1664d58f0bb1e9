/- Frames as lists: what is packed is unpacked; a frame that wants its last byte is told. -/
import Derived.Test.YtdopcagikcdfcaaDoorKCut
namespace Go.Proofs.YtdopcagikcdfcaaDoor
open Go.ChangeShapes Go.WideShapes Go.ChangeAt Go.RowKit
theorem getD_take (l : List UInt8) (k i : Nat) (h : i < k) : (l.take k).getD i 0 = l.getD i 0 := by
  rw [List.getD_eq_getElem?_getD, List.getD_eq_getElem?_getD, List.getElem?_take_of_lt h]
theorem numAt_take (l : List UInt8) (k i : Nat) (h : i + 4 ≤ k) : numAt (l.take k) i = numAt l i := by
  unfold numAt
  rw [getD_take _ _ _ (by omega), getD_take _ _ _ (by omega), getD_take _ _ _ (by omega), getD_take _ _ _ (by omega)]
theorem numAt_head (l r : List UInt8) (h : l.length < 4294967296) : numAt (headL l ++ r) 2 = l.length := by
  have : numAt (headL l ++ r) 2 = numB (UInt8.ofNat (l.length % 256)) (UInt8.ofNat (l.length / 256 % 256)) (UInt8.ofNat (l.length / 65536 % 256)) (UInt8.ofNat (l.length / 16777216 % 256)) := rfl
  rw [this, num_four _ h]
theorem numAt_pack (l : List UInt8) (h : l.length < 4294967296) : numAt (packL l) 2 = l.length := numAt_head l _ h
theorem pack_0 (l : List UInt8) : ((packL l).getD 0 0).toNat = 84 := rfl
theorem pack_1 (l : List UInt8) : ((packL l).getD 1 0).toNat = 1 := rfl
theorem getD_append_right (a b : List UInt8) (i : Nat) : (a ++ b).getD (a.length + i) 0 = b.getD i 0 := by
  rw [List.getD_eq_getElem?_getD, List.getD_eq_getElem?_getD, List.getElem?_append_right (by omega), Nat.add_sub_cancel_left]
theorem numAt_append_right (a b : List UInt8) (i : Nat) : numAt (a ++ b) (a.length + i) = numAt b i := by
  unfold numAt
  rw [getD_append_right, Nat.add_assoc, getD_append_right, Nat.add_assoc, getD_append_right, Nat.add_assoc, getD_append_right]
theorem pack_sum (l : List UInt8) : numAt (packL l) (l.length + 6) = sumN ((packL l).take (l.length + 6)) := by
  have e : l.length + 6 = (headL l).length + 0 := by rw [headL_length]
  have e2 : (packL l).take (l.length + 6) = headL l := by
    unfold packL
    rw [← headL_length, List.take_left]
  rw [e2]
  conv => lhs; rw [e]
  unfold packL
  rw [numAt_append_right]
  exact num_four _ (sumN_lt _)
theorem flt_pack (l : List UInt8) (h : l.length ≤ 60000) : fltN (packL l) = none := by
  have hn := numAt_pack l (by omega)
  have hl := packL_length l
  have hs := pack_sum l
  unfold fltN
  rw [hn, if_neg (by omega), if_neg (by rw [pack_0]; omega), if_neg (by rw [pack_1]; omega), if_neg (by omega), if_neg (by omega), if_neg (by omega), if_neg (by rw [hs]; simp)]
theorem un_pack (l : List UInt8) (h : l.length ≤ 60000) : unT (packL l) = l := by
  unfold unT
  rw [flt_pack l h, numAt_pack l (by omega)]
  exact packL_body l
theorem flt_short (l : List UInt8) (h : l.length ≤ 60000) : fltN ((packL l).take (l.length + 9)) = some (l.length + 9, 11) := by
  have hl : ((packL l).take (l.length + 9)).length = l.length + 9 := by rw [List.length_take, packL_length]; omega
  by_cases c : l.length = 0
  · unfold fltN
    rw [if_pos (by omega), hl]
  · have hn : numAt ((packL l).take (l.length + 9)) 2 = l.length := by rw [numAt_take _ _ _ (by omega), numAt_pack l (by omega)]
    unfold fltN
    rw [hn, hl, if_neg (by omega), if_neg (by rw [getD_take _ _ _ (by omega), pack_0]; omega), if_neg (by rw [getD_take _ _ _ (by omega), pack_1]; omega), if_neg (by omega), if_pos (by omega)]
end Go.Proofs.YtdopcagikcdfcaaDoor
