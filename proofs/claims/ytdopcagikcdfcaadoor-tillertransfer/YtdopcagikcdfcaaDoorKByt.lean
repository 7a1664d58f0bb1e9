/- Rows of bytes of the call's own: made of a text, made of zeros, written, read; no condition but the sizes. -/
import Derived.Test.YtdopcagikcdfcaaDoorKMake
import Derived.Lib.ConvBytes
namespace Go.Proofs.YtdopcagikcdfcaaDoor
open Go.ChangeShapes Go.WideShapes Go.ChangeAt Go.RowKit
theorem bits_xor_u8_nat (a b : UInt8) : bits .xor .u8 (a.toNat : Int) (b.toNat : Int) = ((a ^^^ b).toNat : Int) := by
  have ha := a.toNat_lt
  have hb := b.toNat_lt
  have hx : a.toNat ^^^ b.toNat < 2 ^ 8 := Nat.xor_lt_two_pow (by omega) (by omega)
  have h1 : (BitVec.ofInt 8 (a.toNat : Int)).toNat = a.toNat := by
    rw [BitVec.ofInt_natCast, BitVec.toNat_ofNat]; exact Nat.mod_eq_of_lt (by omega)
  have h2 : (BitVec.ofInt 8 (b.toNat : Int)).toNat = b.toNat := by
    rw [BitVec.ofInt_natCast, BitVec.toNat_ofNat]; exact Nat.mod_eq_of_lt (by omega)
  show IntKind.u8.wrap ((BitVec.ofInt 8 (a.toNat : Int) ^^^ BitVec.ofInt 8 (b.toNat : Int)).toNat : Int) = _
  rw [BitVec.toNat_xor, h1, h2, UInt8.toNat_xor]
  simp [IntKind.wrap, IntKind.bits, IntKind.signed]
  omega
/-- A row of bytes in a block of the call's own. -/
structure Byt (w : World) (B g n : Nat) (l : List UInt8) : Prop where
  base : B ≤ g
  lt : g < w.heap.size
  len : l.length = n
  cell : ∀ j, j < n → w.cell? ⟨g, j, none⟩ = some (.int .u8 ((l.getD j 0).toNat : Int))
  free : ∀ j, j < n → w.frozen? ⟨g, j, none⟩ = false
theorem Byt.of_block {w w' : World} {B g n : Nat} {l : List UInt8} (h : Byt w B g n l) (hb : w'.heap[g]? = w.heap[g]?) : Byt w' B g n l := by
  have hlt : g < w'.heap.size := by
    rcases Nat.lt_or_ge g w'.heap.size with k | k
    · exact k
    · rw [Array.getElem?_eq_none k] at hb
      have := Array.getElem?_eq_getElem h.lt
      rw [this] at hb
      cases hb
  exact ⟨h.base, hlt, h.len, fun j hj => by rw [World.cell?_of_block (w := w) (a := ⟨g, j, none⟩) hb]; exact h.cell j hj, fun j hj => by rw [World.frozen?_of_block (w := w) (a := ⟨g, j, none⟩) hb]; exact h.free j hj⟩
theorem Byt.below {w w' : World} {B g n : Nat} {l : List UInt8} (h : Byt w B g n l) (hb : Below w.heap.size w w') : Byt w' B g n l := h.of_block (hb.block g h.lt)
theorem Byt.drew {w : World} {B g n : Nat} {l : List UInt8} (h : Byt w B g n l) : Byt w.drew B g n l := h.of_block rfl
theorem bytesWorld_size (w : World) (e : TypeId) (s : ByteArray) : (Lib.bytesWorld w e s).heap.size = w.heap.size + 1 := by
  simp [Lib.bytesWorld, World.freeze]
theorem conv_bytes (s : ByteArray) (w : World) : (convert 9 51 (.string s)).run Tryd.prog w = .ok (.slice (some ⟨w.heap.size, 0, none⟩) s.size (grownCap w s.size 0 5)) (Lib.bytesWorld w 5 s) :=
  Lib.run_convert_string_bytes w 9 51 5 s Tryd.underlying9 Tryd.underlying51 Tryd.underlying5
theorem bytes_below {B : Nat} {a w : World} (h : Below B a w) (hB : B ≤ w.heap.size) (s : ByteArray) : Below B a (Lib.bytesWorld w 5 s) :=
  ⟨h.os, h.tape, h.output, by rw [bytesWorld_size]; have := h.size; omega, fun k hk => by rw [Lib.bytesWorld_at_old _ _ _ _ (by omega)]; exact h.block k hk⟩
theorem byt_conv (w : World) (l : List UInt8) (B : Nat) (hB : B ≤ w.heap.size) : Byt (Lib.bytesWorld w 5 (txt l)) B w.heap.size l.length l := by
  have hn := Lib.bytesWorld_at_new w 5 (txt l)
  refine ⟨hB, by rw [bytesWorld_size]; omega, rfl, fun j hj => ?_, fun j hj => ?_⟩
  · simp only [World.cell?, hn]
    simp [Lib.bytesCells, txt, Array.getElem?_append, hj, List.getD_eq_getElem?_getD]
  · simp only [World.frozen?, hn]
    have : j < (Lib.bytesCells w 5 (txt l)).size := by
      simp [Lib.bytesCells, txt]; omega
    simp; omega
theorem byt_made (w : World) (n : Nat) (B : Nat) (hB : B ≤ w.heap.size) : Byt (w.alloc (.cells (madeCells #[.int .u8 0] n) 5)) B w.heap.size n (zeroL n) := by
  refine ⟨hB, by simp, by simp [zeroL], fun j hj => ?_, fun j hj => ?_⟩
  · rw [World.cell?_alloc_at _ _ _ _ (by simp), made_get n j hj]
    simp [zeroL, List.getD_eq_getElem?_getD, hj]
  · rw [World.frozen?_alloc_at _ _ _ _ (by simp)]
theorem Byt.conv {w : World} {B g n : Nat} {l : List UInt8} (h : Byt w B g n l) (s : ByteArray) : Byt (Lib.bytesWorld w 5 s) B g n l := h.of_block (Lib.bytesWorld_at_old _ _ _ _ h.lt)
theorem Byt.alloc {w : World} {B g n : Nat} {l : List UInt8} (h : Byt w B g n l) (o : Obj) : Byt (w.alloc o) B g n l := h.below (below_alloc w o)
theorem bytC (w : World) (l : List UInt8) (B n g : Nat) (hg : g = w.heap.size) (hn : l.length = n) (hB : B ≤ w.heap.size) : Byt (Lib.bytesWorld w 5 (txt l)) B g n l := by
  subst hg; subst hn
  exact byt_conv w l B hB
theorem bytM (w : World) (n B g : Nat) (hg : g = w.heap.size) (hB : B ≤ w.heap.size) : Byt (w.alloc (.cells (madeCells #[.int .u8 0] n) 5)) B g n (zeroL n) := by
  subst hg
  exact byt_made w n B hB
/-- The text of a row of bytes. -/
theorem Byt.text {w : World} {B g n : Nat} {l : List UInt8} (h : Byt w B g n l) (c : Nat) : (convert 51 9 (.slice (some ⟨g, 0, none⟩) n c)).run Tryd.prog w = .ok (.string (txt l)) w := by
  have := run_convert_bytes_back (P := Tryd.prog) w 51 9 5 ⟨g, 0, none⟩ c l Tryd.underlying51 Tryd.underlying5 Tryd.underlying9 (fun j hj => by
    have hadd : (⟨g, 0, none⟩ : Addr).add j = ⟨g, j, none⟩ := by unfold Addr.add; split <;> simp_all
    have hl := h.len
    rw [hadd, h.cell j (by omega), List.getD_eq_getElem?_getD, List.getElem?_eq_getElem hj]
    rfl)
  rw [h.len] at this
  exact this
theorem Byt.set {w : World} {B g n : Nat} {l : List UInt8} (h : Byt w B g n l) (i : Nat) (hi : i < n) (x : UInt8) : Byt (w.setCell ⟨g, i, none⟩ (.int .u8 (x.toNat : Int))) B g n (l.set i x) := by
  have hl := h.len
  refine ⟨h.base, by simpa using h.lt, by rw [List.length_set]; exact h.len, fun j hj => ?_, fun j hj => ?_⟩
  · by_cases e : j = i
    · subst e
      rw [World.cell?_setCell_same _ _ _ (h.cell j hi), List.getD_eq_getElem?_getD, List.getElem?_set_self (by omega)]
      rfl
    · rw [World.cell?_setCell_other _ _ _ _ (by simp <;> omega), h.cell j hj, List.getD_eq_getElem?_getD, List.getD_eq_getElem?_getD, List.getElem?_set_ne (by omega)]
  · rw [World.frozen?_setCell]
    exact h.free j hj
theorem Byt.other {w : World} {B g n : Nat} {l : List UInt8} (h : Byt w B g n l) {a : Addr} (ha : g ≠ a.block) (v : Value) : Byt (w.setCell a v) B g n l := h.of_block (Below.heap_setCell w a v g ha)
end Go.Proofs.YtdopcagikcdfcaaDoor
