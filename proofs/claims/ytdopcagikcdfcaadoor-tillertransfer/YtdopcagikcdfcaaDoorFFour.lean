/- Package frame's fourBytes and number: no condition but the sizes. -/
import Derived.Test.YtdopcagikcdfcaaDoorFSum
namespace Go.Proofs.YtdopcagikcdfcaaDoor
open Go.ChangeShapes Go.WideShapes Go.ChangeAt Go.RowKit
/-- Bytes as a text. -/
def txt (l : List UInt8) : ByteArray := ⟨l.toArray⟩
theorem txt_list (l : List UInt8) : (txt l).data.toList = l := by simp [txt]
theorem txt_size (l : List UInt8) : (txt l).size = l.length := by simp [txt, ByteArray.size]
theorem txt_of (s : ByteArray) : txt s.data.toList = s := by simp [txt]
theorem txt_get (l : List UInt8) (i : Nat) (h : i < (txt l).size) : (txt l)[i] = l[i]'(by rw [txt_size] at h; exact h) := by
  show (txt l).data[i] = _
  simp [txt]
theorem txt_append (l m : List UInt8) : txt l ++ txt m = txt (l ++ m) := by
  apply ByteArray.ext
  simp [txt, ByteArray.data_append]
theorem bytes4 (n : Nat) (hn : n < 4294967296) (w : World) (j : Nat) (hj : j < (fourB n).length) : (w.alloc (.cells #[Value.int .u8 ((n : Int) % 256), Value.int .u8 ((n : Int) / 256 % 256), Value.int .u8 ((n : Int) / 65536 % 256), Value.int .u8 ((n : Int) / 16777216)] 5)).cell? ((⟨w.heap.size, 0, none⟩ : Addr).add j) = some (.int .u8 ((fourB n)[j].toNat : Int)) := by
  have hadd : (⟨w.heap.size, 0, none⟩ : Addr).add j = ⟨w.heap.size, j, none⟩ := by unfold Addr.add; split <;> simp_all
  rw [hadd, World.cell?_alloc_at _ _ _ _ (by simp)]
  rw [fourB_length] at hj
  rcases j with _ | _ | _ | _ | j
  · simp [fourB]
  · simp [fourB]
  · simp [fourB]
  · simp [fourB]; omega
  · omega
set_option maxRecDepth 4000 in
theorem four_any (n : Nat) (w : World) (hn : n < 4294967296) :
   Calls Tryd.prog 31 #[.int .u32 (n : Int)] w fun e w' => e = .returned (.string (txt (fourB n))) ∧ Below w.heap.size w w' := by
  have hc := run_convert_bytes_back (P := Tryd.prog) (w.alloc (.cells #[Value.int .u8 ((n : Int) % 256), Value.int .u8 ((n : Int) / 256 % 256), Value.int .u8 ((n : Int) / 65536 % 256), Value.int .u8 ((n : Int) / 16777216)] 5)) 51 9 5 ⟨w.heap.size, 0, none⟩ 4 (fourB n) Tryd.underlying51 Tryd.underlying5 Tryd.underlying9 (bytes4 n hn w)
  rw [fourB_length] at hc
  rw [show (ByteArray.mk (fourB n).toArray) = txt (fourB n) from rfl] at hc
  have hb : Below w.heap.size w (w.alloc (.cells #[Value.int .u8 ((n : Int) % 256), Value.int .u8 ((n : Int) / 256 % 256), Value.int .u8 ((n : Int) / 65536 % 256), Value.int .u8 ((n : Int) / 16777216)] 5)) := (Below.refl _ w).alloc (Nat.le_refl _) _
  go_enter Tryd.func31, Tryd.ntmps31
  go_wp2_with fail
  go_ret
  exact ⟨rfl, hb⟩
theorem index_at (s : ByteArray) (i : Nat) (h : i < s.size) (I : Int) (hI : I = (i : Int)) (W : World) : (Instr.index 9 (.string s) (.int .i64 I)).run Tryd.prog W = .ok (.int .u8 ((s.data.toList.getD i 0).toNat : Int)) W := by
  have hl : s.data.toList.length = s.size := rfl
  subst hI
  rw [run_index_string W _ _ _ _ Tryd.underlying9, dif_pos ⟨by omega, by omega⟩]
  congr 3
  simp only [Int.toNat_natCast]
  rw [List.getD_eq_getElem?_getD, List.getElem?_eq_getElem (by omega)]
  rfl
theorem or_add (x y i : Nat) (h : x < 2 ^ i) : x ||| (y * 2 ^ i) = x + y * 2 ^ i := by
  rw [Nat.or_comm, Nat.mul_comm, ← Nat.two_pow_add_eq_or_of_lt h, Nat.add_comm]
theorem or_sum (x y i : Nat) (h : x < 2 ^ i) (hb : x + y * 2 ^ i < 4294967296) (P : Int) (hP : P = ((2 ^ i : Nat) : Int)) : bits .or .u32 (x : Int) ((y : Int) * P) = ((x + y * 2 ^ i : Nat) : Int) := by
  rw [hP, show (y : Int) * ((2 ^ i : Nat) : Int) = ((y * 2 ^ i : Nat) : Int) by simp, bits_or_u32_nat _ _ (by omega) (by omega), or_add x y i h]
set_option maxHeartbeats 1600000 in
theorem number_any (s : ByteArray) (i : Nat) (w : World) (h : i + 4 ≤ s.size) (hs : s.size ≤ 281474976710656) :
   Calls Tryd.prog 33 #[.string s, .int .i64 (i : Int)] w fun e w' => e = .returned (.int .u32 (numAt s.data.toList i : Int)) ∧ ∃ m, w' = w.drewN m := by
  have i0 := index_at s i (by omega) (i : Int) rfl
  have i1 := index_at s (i + 1) (by omega) ((i : Int) + 1) (by omega)
  have i2 := index_at s (i + 2) (by omega) ((i : Int) + 2) (by omega)
  have i3 := index_at s (i + 3) (by omega) ((i : Int) + 3) (by omega)
  have HN : Hid (numAt s.data.toList i = numB (s.data.toList.getD i 0) (s.data.toList.getD (i + 1) 0) (s.data.toList.getD (i + 2) 0) (s.data.toList.getD (i + 3) 0)) := rfl
  generalize s.data.toList.getD i 0 = x0 at *
  generalize s.data.toList.getD (i + 1) 0 = x1 at *
  generalize s.data.toList.getD (i + 2) 0 = x2 at *
  generalize s.data.toList.getD (i + 3) 0 = x3 at *
  have y0 := x0.toNat_lt
  have y1 := x1.toNat_lt
  have y2 := x2.toNat_lt
  have y3 := x3.toNat_lt
  have o1 := or_sum x0.toNat x1.toNat 8 (by omega) (by omega) 256 rfl
  have o2 := or_sum (x0.toNat + x1.toNat * 2 ^ 8) x2.toNat 16 (by omega) (by omega) 65536 rfl
  have o3 := or_sum (x0.toNat + x1.toNat * 2 ^ 8 + x2.toNat * 2 ^ 16) x3.toNat 24 (by omega) (by omega) 16777216 rfl
  have HM : Hid (x0.toNat + x1.toNat * 2 ^ 8 + x2.toNat * 2 ^ 16 + x3.toNat * 2 ^ 24 = numB x0 x1 x2 x3) := by show _ = _; unfold numB; omega
  generalize x0.toNat + x1.toNat * 2 ^ 8 + x2.toNat * 2 ^ 16 + x3.toNat * 2 ^ 24 = z3 at *
  generalize x0.toNat + x1.toNat * 2 ^ 8 + x2.toNat * 2 ^ 16 = z2 at *
  generalize x0.toNat + x1.toNat * 2 ^ 8 = z1 at *
  go_enter Tryd.func33, Tryd.ntmps33
  go_wp2_with fail
  go_quiet (fail)
  go_wp2_with fail
  go_ret
  exact ⟨ret_int (by rw [HN.out, HM.out]), _, rfl⟩
end Go.Proofs.YtdopcagikcdfcaaDoor
