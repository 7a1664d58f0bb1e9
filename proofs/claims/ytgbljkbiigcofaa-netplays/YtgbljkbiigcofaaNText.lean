/- Texts, and rows of bytes of the call's own: made of a text, made of zeros, written, read; the statements' Cut. -/
import Derived.Test.YtgbljkbiigcofaaRows
import Derived.Test.YtgbljkbiigcofaaKin
import Derived.Lib.ConvBytes
import Derived.Lib.IndexBytes
import Derived.Deep.OwnRows
import Derived.Lib.Hide
namespace Go.Proofs.Ytgbljkbiigcofaa
open Go.ChangeShapes Go.WideShapes Go.ChangeAt Go.RowKit
/-- Bytes as a text. -/
def txt (l : List UInt8) : ByteArray := ⟨l.toArray⟩
theorem txt_list (l : List UInt8) : (txt l).data.toList = l := by simp [txt]
theorem txt_size (l : List UInt8) : (txt l).size = l.length := by simp [txt, ByteArray.size]
theorem txt_of (s : ByteArray) : txt s.data.toList = s := by simp [txt]
theorem txt_get (l : List UInt8) (i : Nat) (h : i < (txt l).size) : (txt l)[i] = l[i]'(by rw [txt_size] at h; exact h) := by
  show (txt l).data[i] = _
  simp [txt]
theorem txt_append (l m : List UInt8) : txt l ++ txt m = txt (l ++ m) := by
  apply ByteArray.ext
  simp [txt, ByteArray.data_append]
theorem index_at (s : ByteArray) (i : Nat) (h : i < s.size) (I : Int) (hI : I = (i : Int)) (W : World) : (Instr.index 9 (.string s) (.int .i64 I)).run Try.prog W = .ok (.int .u8 ((s.data.toList.getD i 0).toNat : Int)) W := by
  have hl : s.data.toList.length = s.size := rfl
  subst hI
  rw [run_index_string W _ _ _ _ Try.underlying9, dif_pos ⟨by omega, by omega⟩]
  congr 3
  simp only [Int.toNat_natCast]
  rw [List.getD_eq_getElem?_getD, List.getElem?_eq_getElem (by omega)]
  rfl
theorem below_alloc (w : World) (o : Obj) : Below w.heap.size w (w.alloc o) := (Below.refl _ w).alloc (Nat.le_refl _) o
theorem extract_txt (l : List UInt8) (a b : Nat) : (txt l).extract a b = txt ((l.drop a).take (b - a)) := ByteArray.extract_mk l a b
theorem slice_to (s : ByteArray) (n : Nat) (I : Int) (hI : I = (n : Int)) (h : n ≤ s.size) (W : World) :
    (Instr.slice 9 (.string s) none (some (.int .i64 I)) none).run Try.prog W = .ok (.string (txt (s.data.toList.take n))) W := by
  subst hI
  rw [run_slice_string_to_if W _ _ _ _ Try.underlying9, if_pos ⟨by omega, by omega⟩]
  conv => lhs; rw [← txt_of s, extract_txt]
  simp
theorem slice_mid (s : ByteArray) (a n : Nat) (A I : Int) (hA : A = (a : Int)) (hI : I = (n : Int)) (h0 : a ≤ n) (h : n ≤ s.size) (W : World) :
    (Instr.slice 9 (.string s) (some (.int .i64 A)) (some (.int .i64 I)) none).run Try.prog W = .ok (.string (txt ((s.data.toList.drop a).take (n - a)))) W := by
  subst hA
  subst hI
  rw [run_slice_string W _ _ _ _ _ _ Try.underlying9 (by omega) (by omega) (by omega)]
  conv => lhs; rw [← txt_of s, extract_txt]
  simp
theorem cut_any (s : ByteArray) (n : Nat) (w : World) :
   Calls Try.prog 14 #[.string s, .int .i64 (n : Int)] w fun e w' => e = .returned (.string (txt (s.data.toList.take n))) ∧ w' = w := by
  have hl : s.data.toList.length = s.size := rfl
  by_cases c : n < s.size
  · have SL := slice_to s n (n : Int) rfl (by omega)
    generalize txt (s.data.toList.take n) = X at *
    go_enter Try.func14, Try.ntmps14
    go_wp2_with fail
    go_ret
    exact ⟨rfl, rfl⟩
  · have e : txt (s.data.toList.take n) = s := by rw [List.take_of_length_le (by omega), txt_of]
    rw [e]
    go_enter Try.func14, Try.ntmps14
    go_wp2_with fail
    go_ret
    exact ⟨rfl, rfl⟩
theorem txt_inj {l m : List UInt8} (h : txt l = txt m) : l = m := by
  have := congrArg (fun s => s.data.toList) h
  simpa [txt] using this
theorem txt_ne {s t : ByteArray} (h : ¬ s = t) : (s.toList == t.toList) = false := by
  rw [beq_eq_false_iff_ne, ByteArray.toList_eq, ByteArray.toList_eq]
  intro he
  apply h
  rw [← txt_of s, ← txt_of t, he]
theorem txt_same (s : ByteArray) : (s.toList == s.toList) = true := by simp
def zeroL (n : Nat) : List UInt8 := List.replicate n 0
theorem Try.infoU8 : (Try.prog.info? 5).map (fun i => (i.zero, i.size, i.bytes)) = some (some (.int .u8 0), 1, 1) := by kernel_rfl
theorem makeB (n : Nat) (h : n ≤ 281474976710656) (w : World) : (Instr.makeSlice 45 (.int .i64 (n : Int)) (.int .i64 (n : Int))).run Try.prog w = .ok (.slice (some ⟨w.heap.size, 0, none⟩) n n) (w.alloc (.cells (madeCells #[.int .u8 0] n) 5)) :=
  run_make_row' (P := Try.prog) 45 5 (.int .u8 0) 1 Try.underlying45 Try.infoU8 rfl .i64 .i64 n (by omega) (by omega) w
theorem made_get (n j : Nat) (h : j < n) : (madeCells #[Value.int .u8 0] n)[j]? = some (.int .u8 0) := by
  simp [madeCells, h, Nat.mod_one]
theorem conv_zero (n : Nat) (w : World) (g c : Nat) (h : ∀ j, j < n → w.cell? ⟨g, j, none⟩ = some (.int .u8 0)) :
    (convert 45 9 (.slice (some ⟨g, 0, none⟩) n c)).run Try.prog w = .ok (.string (txt (zeroL n))) w := by
  have hl : (zeroL n).length = n := by simp [zeroL]
  have := run_convert_bytes_back (P := Try.prog) w 45 9 5 ⟨g, 0, none⟩ c (zeroL n) Try.underlying45 Try.underlying5 Try.underlying9 (fun j hj => by
    have hadd : (⟨g, 0, none⟩ : Addr).add j = ⟨g, j, none⟩ := by unfold Addr.add; split <;> simp_all
    rw [hadd, h j (by omega)]
    simp [zeroL])
  rw [hl] at this
  exact this
theorem conv_made (n : Nat) (w : World) : (convert 45 9 (.slice (some ⟨w.heap.size, 0, none⟩) n n)).run Try.prog (w.alloc (.cells (madeCells #[.int .u8 0] n) 5)) = .ok (.string (txt (zeroL n))) (w.alloc (.cells (madeCells #[.int .u8 0] n) 5)) :=
  conv_zero n _ _ _ (fun j hj => by rw [World.cell?_alloc_at _ _ _ _ (by simp)]; exact made_get n j hj)
theorem bits_xor_u8_nat (a b : UInt8) : bits .xor .u8 (a.toNat : Int) (b.toNat : Int) = ((a ^^^ b).toNat : Int) := by
  have ha := a.toNat_lt
  have hb := b.toNat_lt
  have hx : a.toNat ^^^ b.toNat < 2 ^ 8 := Nat.xor_lt_two_pow (by omega) (by omega)
  have h1 : (BitVec.ofInt 8 (a.toNat : Int)).toNat = a.toNat := by
    rw [BitVec.ofInt_natCast, BitVec.toNat_ofNat]; exact Nat.mod_eq_of_lt (by omega)
  have h2 : (BitVec.ofInt 8 (b.toNat : Int)).toNat = b.toNat := by
    rw [BitVec.ofInt_natCast, BitVec.toNat_ofNat]; exact Nat.mod_eq_of_lt (by omega)
  show IntKind.u8.wrap ((BitVec.ofInt 8 (a.toNat : Int) ^^^ BitVec.ofInt 8 (b.toNat : Int)).toNat : Int) = _
  rw [BitVec.toNat_xor, h1, h2, UInt8.toNat_xor]
  simp [IntKind.wrap, IntKind.bits, IntKind.signed]
  omega
/-- A row of bytes in a block of the call's own. -/
structure Byt (w : World) (B g n : Nat) (l : List UInt8) : Prop where
  base : B ≤ g
  lt : g < w.heap.size
  len : l.length = n
  cell : ∀ j, j < n → w.cell? ⟨g, j, none⟩ = some (.int .u8 ((l.getD j 0).toNat : Int))
  free : ∀ j, j < n → w.frozen? ⟨g, j, none⟩ = false
theorem Byt.of_block {w w' : World} {B g n : Nat} {l : List UInt8} (h : Byt w B g n l) (hb : w'.heap[g]? = w.heap[g]?) : Byt w' B g n l := by
  have hlt : g < w'.heap.size := by
    rcases Nat.lt_or_ge g w'.heap.size with k | k
    · exact k
    · rw [Array.getElem?_eq_none k] at hb
      have := Array.getElem?_eq_getElem h.lt
      rw [this] at hb
      cases hb
  exact ⟨h.base, hlt, h.len, fun j hj => by rw [World.cell?_of_block (w := w) (a := ⟨g, j, none⟩) hb]; exact h.cell j hj, fun j hj => by rw [World.frozen?_of_block (w := w) (a := ⟨g, j, none⟩) hb]; exact h.free j hj⟩
theorem Byt.below {w w' : World} {B g n : Nat} {l : List UInt8} (h : Byt w B g n l) (hb : Below w.heap.size w w') : Byt w' B g n l := h.of_block (hb.block g h.lt)
theorem Byt.drew {w : World} {B g n : Nat} {l : List UInt8} (h : Byt w B g n l) : Byt w.drew B g n l := h.of_block rfl
theorem bytesWorld_size (w : World) (e : TypeId) (s : ByteArray) : (Lib.bytesWorld w e s).heap.size = w.heap.size + 1 := by
  simp [Lib.bytesWorld, World.freeze]
theorem conv_bytes (s : ByteArray) (w : World) : (convert 9 45 (.string s)).run Try.prog w = .ok (.slice (some ⟨w.heap.size, 0, none⟩) s.size (grownCap w s.size 0 5)) (Lib.bytesWorld w 5 s) :=
  Lib.run_convert_string_bytes w 9 45 5 s Try.underlying9 Try.underlying45 Try.underlying5
theorem bytes_below {B : Nat} {a w : World} (h : Below B a w) (hB : B ≤ w.heap.size) (s : ByteArray) : Below B a (Lib.bytesWorld w 5 s) :=
  ⟨h.os, h.tape, h.output, by rw [bytesWorld_size]; have := h.size; omega, fun k hk => by rw [Lib.bytesWorld_at_old _ _ _ _ (by omega)]; exact h.block k hk⟩
theorem byt_conv (w : World) (l : List UInt8) (B : Nat) (hB : B ≤ w.heap.size) : Byt (Lib.bytesWorld w 5 (txt l)) B w.heap.size l.length l := by
  have hn := Lib.bytesWorld_at_new w 5 (txt l)
  refine ⟨hB, by rw [bytesWorld_size]; omega, rfl, fun j hj => ?_, fun j hj => ?_⟩
  · simp only [World.cell?, hn]
    simp [Lib.bytesCells, txt, Array.getElem?_append, hj, List.getD_eq_getElem?_getD]
  · simp only [World.frozen?, hn]
    have : j < (Lib.bytesCells w 5 (txt l)).size := by
      simp [Lib.bytesCells, txt]; omega
    simp; omega
theorem byt_made (w : World) (n : Nat) (B : Nat) (hB : B ≤ w.heap.size) : Byt (w.alloc (.cells (madeCells #[.int .u8 0] n) 5)) B w.heap.size n (zeroL n) := by
  refine ⟨hB, by simp, by simp [zeroL], fun j hj => ?_, fun j hj => ?_⟩
  · rw [World.cell?_alloc_at _ _ _ _ (by simp), made_get n j hj]
    simp [zeroL, List.getD_eq_getElem?_getD, hj]
  · rw [World.frozen?_alloc_at _ _ _ _ (by simp)]
theorem Byt.conv {w : World} {B g n : Nat} {l : List UInt8} (h : Byt w B g n l) (s : ByteArray) : Byt (Lib.bytesWorld w 5 s) B g n l := h.of_block (Lib.bytesWorld_at_old _ _ _ _ h.lt)
theorem Byt.alloc {w : World} {B g n : Nat} {l : List UInt8} (h : Byt w B g n l) (o : Obj) : Byt (w.alloc o) B g n l := h.below (below_alloc w o)
theorem bytC (w : World) (l : List UInt8) (B n g : Nat) (hg : g = w.heap.size) (hn : l.length = n) (hB : B ≤ w.heap.size) : Byt (Lib.bytesWorld w 5 (txt l)) B g n l := by
  subst hg; subst hn
  exact byt_conv w l B hB
theorem bytM (w : World) (n B g : Nat) (hg : g = w.heap.size) (hB : B ≤ w.heap.size) : Byt (w.alloc (.cells (madeCells #[.int .u8 0] n) 5)) B g n (zeroL n) := by
  subst hg
  exact byt_made w n B hB
/-- The text of a row of bytes. -/
theorem Byt.text {w : World} {B g n : Nat} {l : List UInt8} (h : Byt w B g n l) (c : Nat) : (convert 45 9 (.slice (some ⟨g, 0, none⟩) n c)).run Try.prog w = .ok (.string (txt l)) w := by
  have := run_convert_bytes_back (P := Try.prog) w 45 9 5 ⟨g, 0, none⟩ c l Try.underlying45 Try.underlying5 Try.underlying9 (fun j hj => by
    have hadd : (⟨g, 0, none⟩ : Addr).add j = ⟨g, j, none⟩ := by unfold Addr.add; split <;> simp_all
    have hl := h.len
    rw [hadd, h.cell j (by omega), List.getD_eq_getElem?_getD, List.getElem?_eq_getElem hj]
    rfl)
  rw [h.len] at this
  exact this
theorem Byt.set {w : World} {B g n : Nat} {l : List UInt8} (h : Byt w B g n l) (i : Nat) (hi : i < n) (x : UInt8) : Byt (w.setCell ⟨g, i, none⟩ (.int .u8 (x.toNat : Int))) B g n (l.set i x) := by
  have hl := h.len
  refine ⟨h.base, by simpa using h.lt, by rw [List.length_set]; exact h.len, fun j hj => ?_, fun j hj => ?_⟩
  · by_cases e : j = i
    · subst e
      rw [World.cell?_setCell_same _ _ _ (h.cell j hi), List.getD_eq_getElem?_getD, List.getElem?_set_self (by omega)]
      rfl
    · rw [World.cell?_setCell_other _ _ _ _ (by simp <;> omega), h.cell j hj, List.getD_eq_getElem?_getD, List.getD_eq_getElem?_getD, List.getElem?_set_ne (by omega)]
  · rw [World.frozen?_setCell]
    exact h.free j hj
theorem Byt.other {w : World} {B g n : Nat} {l : List UInt8} (h : Byt w B g n l) {a : Addr} (ha : g ≠ a.block) (v : Value) : Byt (w.setCell a v) B g n l := h.of_block (Below.heap_setCell w a v g ha)
end Go.Proofs.Ytgbljkbiigcofaa
