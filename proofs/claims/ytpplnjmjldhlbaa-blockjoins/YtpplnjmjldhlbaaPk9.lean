/- Contracts of the program's functions, part 9 of 10: what each call returns and leaves of memory. -/
import Derived.Test.YtpplnjmjldhlbaaPk8
import Derived.Lib.ConvBytes
/- Package block: bytes are taken off a text. -/
namespace Go.Proofs.Ytpplnjmjldhlbaa
open Go.ChangeShapes Go.WideShapes Go.ChangeAt Go.RowKit
theorem extract_txt (l : List UInt8) (a b : Nat) : (txt l).extract a b = txt ((l.drop a).take (b - a)) := ByteArray.extract_mk l a b
theorem conv_bytes (s : ByteArray) (w : World) : (convert 9 84 (.string s)).run Try.prog w = .ok (.slice (some ⟨w.heap.size, 0, none⟩) s.size (grownCap w s.size 0 5)) (Lib.bytesWorld w 5 s) :=
  Lib.run_convert_string_bytes w 9 84 5 s Try.underlying9 Try.underlying84 Try.underlying5
theorem below_bytes (w : World) (s : ByteArray) : Below w.heap.size w (Lib.bytesWorld w 5 s) := ⟨rfl, rfl, rfl, by rw [Lib.bytesWorld_size]; omega, fun k hk => Lib.bytesWorld_at_old _ _ _ _ hk⟩
theorem bytes_cell (w : World) (l : List UInt8) (j : Nat) (hj : j < l.length) : (Lib.bytesWorld w 5 (txt l)).cell? ⟨w.heap.size, j, none⟩ = some (.int .u8 ((l.getD j 0).toNat : Int)) := by
  rw [Lib.bytesWorld_cell w _ _ _ (by rw [txt_size]; exact hj), txt_list]
/-- What bytes are as one number, the highest first. -/
def valB (l : List UInt8) : Nat := l.foldl (fun x b => x * 256 + b.toNat) 0
theorem valB_snoc (l : List UInt8) (b : UInt8) : valB (l ++ [b]) = valB l * 256 + b.toNat := by unfold valB; rw [List.foldl_append]; rfl
theorem valB_lt : ∀ (k : Nat) (l : List UInt8), l.length = k → valB l < 256 ^ k
  | 0, l, h => by rw [List.length_eq_zero_iff.1 h]; decide
  | k + 1, l, h => by
    rcases List.eq_nil_or_concat l with e | ⟨l', b, e⟩
    · rw [e] at h; cases h
    · rw [List.concat_eq_append] at e
      subst e
      rw [List.length_append, List.length_singleton] at h
      have ih := valB_lt k l' (by omega)
      have hb := b.toNat_lt
      rw [valB_snoc, Nat.pow_succ]
      omega
theorem take_snocB {l : List UInt8} {j : Nat} (h : j < l.length) : l.take (j + 1) = l.take j ++ [l.getD j 0] := by
  rw [List.take_add_one, List.getElem?_eq_getElem h, List.getD_eq_getElem?_getD, List.getElem?_eq_getElem h]
  rfl
theorem bits_or_u32_nat (a b : Nat) (ha : a < 4294967296) (hb : b < 4294967296) : bits .or .u32 (a : Int) (b : Int) = ((a ||| b : Nat) : Int) := by
  have hx : a ||| b < 2 ^ 32 := Nat.or_lt_two_pow (by omega) (by omega)
  have h1 : (BitVec.ofInt 32 (a : Int)).toNat = a := by
    rw [BitVec.ofInt_natCast, BitVec.toNat_ofNat]; exact Nat.mod_eq_of_lt (by omega)
  have h2 : (BitVec.ofInt 32 (b : Int)).toNat = b := by
    rw [BitVec.ofInt_natCast, BitVec.toNat_ofNat]; exact Nat.mod_eq_of_lt (by omega)
  show IntKind.u32.wrap ((BitVec.ofInt 32 (a : Int) ||| BitVec.ofInt 32 (b : Int)).toNat : Int) = _
  rw [BitVec.toNat_or, h1, h2]
  simp [IntKind.wrap, IntKind.bits, IntKind.signed]
  omega
theorem shl_or (x b : Nat) (hx : x < 16777216) (hb : b < 256) : bits .or .u32 ((x : Int) * 256) (b : Int) = ((x * 256 + b : Nat) : Int) := by
  rw [show (x : Int) * 256 = ((x * 256 : Nat) : Int) by omega, bits_or_u32_nat _ _ (by omega) (by omega)]
  congr 1
  have h := Nat.two_pow_add_eq_or_of_lt (i := 8) (b := b) (by omega) x
  rw [Nat.mul_comm x 256]
  exact h.symm
set_option maxRecDepth 100000 in
set_option maxHeartbeats 1600000 in
theorem take1_less (c : Nat) (l : List UInt8) (n : Nat) (w : World) (hc : Blk w c 9 #[.string (txt l)]) (hn : n ≤ 4) (hle : n ≤ l.length) :
   Calls Try.prog 52 #[.int .i64 (n : Int), .pointer (some ⟨c, 0, none⟩)] w fun e w' => e = .returned (.int .u32 ((valB (l.take (n)) : Nat) : Int)) ∧ Blk w' c 9 #[.string (txt (l.drop (n)))] ∧ But c w w' := by
  have hkl : n ≤ l.length := by omega
  have hk4 : n ≤ 4 := by omega
  have hlt := hc.lt
  have HX : Hid (Blk w c 9 #[.string (txt l)]) := hc
  have c0 : w.cell? ⟨c, 0, none⟩ = some (.string (txt l)) := hc.cell 0 rfl
  have f0 := hc.frozen 0
  have hsz : (txt l).size = l.length := txt_size l
  obtain ⟨R, hR⟩ : ∃ R, l.take (n) = R := ⟨_, rfl⟩
  obtain ⟨Z, hZ⟩ : ∃ Z, l.drop (n) = Z := ⟨_, rfl⟩
  have hlk : R.length = n := by rw [← hR, List.length_take]; omega
  have hex : (txt l).extract 0 (n) = txt R := by rw [extract_txt, ← hR]; rfl
  have hex2 : (txt l).extract (n) l.length = txt Z := by rw [extract_txt, List.take_of_length_le (by rw [List.length_drop]; exact Nat.le_refl _), hZ]
  have hcv := conv_bytes (txt R) w
  have htk : (txt R).size = n := by rw [txt_size, hlk]
  have BX := below_bytes w (txt R)
  have hcells : ∀ j, j < R.length → (Lib.bytesWorld w 5 (txt R)).cell? ⟨w.heap.size, j, none⟩ = some (.int .u8 ((R.getD j 0).toNat : Int)) := fun j hj => bytes_cell w R j hj
  rw [htk] at hcv
  rw [hR, hZ]
  obtain ⟨cp, hcp⟩ : ∃ cp, grownCap w (n) 0 5 = cp := ⟨_, rfl⟩
  rw [hcp] at hcv
  obtain ⟨wb, hwb⟩ : ∃ wb, Lib.bytesWorld w 5 (txt R) = wb := ⟨_, rfl⟩
  rw [hwb] at hcv BX hcells
  have HCE : Hid (∀ j, j < R.length → wb.cell? ⟨w.heap.size, j, none⟩ = some (.int .u8 ((R.getD j 0).toNat : Int))) := hcells
  have HB : Hid (Below w.heap.size w wb) := BX
  have HLK : Hid (R.length = n) := hlk
  have HZ : Hid (l.drop (n) = Z) := hZ
  clear hc hcp hwb hcells BX hR hZ hlk htk
  go_enter Try.func52, Try.ntmps52
  go_wp2
  clear hcv c0 f0 hex
  go_loopg [4, 16] (n) (fun r x s16 wr => ∃ j : Nat, j ≤ n ∧ r = n - j ∧ s16 = .int .i64 (j : Int) ∧ x = .int .u32 ((valB (R.take j) : Nat) : Int) ∧ wr = wb)
  case atStart => exact ⟨0, by omega, by omega, rfl, rfl, rfl⟩
  case round =>
    obtain ⟨j, hj, rfl, rfl, rfl, rfl⟩ := hrel
    by_cases hjk : j < n
    · have q1 := HCE.out j (by rw [HLK.out]; exact hjk)
      have HS : Hid (valB (R.take (j + 1)) = valB (R.take j) * 256 + (R.getD j 0).toNat) := by
        show _ = _
        rw [take_snocB (by rw [HLK.out]; exact hjk), valB_snoc]
      have hv : valB (R.take j) < 16777216 := by
        have h1 := valB_lt j (R.take j) (by rw [List.length_take, HLK.out]; omega)
        have h2 : 256 ^ j ≤ 256 ^ 3 := Nat.pow_le_pow_right (by omega) (by omega)
        omega
      have hb := (R.getD j 0).toNat_lt
      generalize (R.getD j 0).toNat = b at *
      generalize valB (R.take j) = x at *
      go_wp2
      go_roundg (n - (j + 1))
      case measure => omega
      case rel => exact ⟨j + 1, by omega, rfl, by go_num, by rw [HS.out, shl_or x b hv hb], rfl⟩
    · have hje : j = n := by omega
      have c0 : wr.cell? ⟨c, 0, none⟩ = some (.string (txt l)) := (HX.out.below HB.out).cell 0 rfl
      have f0 := (HX.out.below HB.out).frozen 0
      go_wp2
      go_ret
      refine ⟨?_, (HX.out.below HB.out).set 0 _, (But.of_below HB.out).trans ?_⟩
      · rw [← HLK.out] at hje
        rw [hje, List.take_length]
        rfl
      · exact ⟨rfl, rfl, rfl, by simp [World.setCell], fun k _ hk => Below.heap_setCell _ _ _ k hk⟩
set_option maxRecDepth 100000 in
set_option maxHeartbeats 1600000 in
theorem take1_over (c : Nat) (l : List UInt8) (n : Nat) (w : World) (hc : Blk w c 9 #[.string (txt l)]) (hn : n ≤ 4) (hle : l.length < n) :
   Calls Try.prog 52 #[.int .i64 (n : Int), .pointer (some ⟨c, 0, none⟩)] w fun e w' => e = .returned (.int .u32 ((valB (l.take (l.length)) : Nat) : Int)) ∧ Blk w' c 9 #[.string (txt (l.drop (l.length)))] ∧ But c w w' := by
  have hkl : l.length ≤ l.length := by omega
  have hk4 : l.length ≤ 4 := by omega
  have hlt := hc.lt
  have HX : Hid (Blk w c 9 #[.string (txt l)]) := hc
  have c0 : w.cell? ⟨c, 0, none⟩ = some (.string (txt l)) := hc.cell 0 rfl
  have f0 := hc.frozen 0
  have hsz : (txt l).size = l.length := txt_size l
  obtain ⟨R, hR⟩ : ∃ R, l.take (l.length) = R := ⟨_, rfl⟩
  obtain ⟨Z, hZ⟩ : ∃ Z, l.drop (l.length) = Z := ⟨_, rfl⟩
  have hlk : R.length = l.length := by rw [← hR, List.length_take]; omega
  have hex : (txt l).extract 0 (l.length) = txt R := by rw [extract_txt, ← hR]; rfl
  have hex2 : (txt l).extract (l.length) l.length = txt Z := by rw [extract_txt, List.take_of_length_le (by rw [List.length_drop]; exact Nat.le_refl _), hZ]
  have hcv := conv_bytes (txt R) w
  have htk : (txt R).size = l.length := by rw [txt_size, hlk]
  have BX := below_bytes w (txt R)
  have hcells : ∀ j, j < R.length → (Lib.bytesWorld w 5 (txt R)).cell? ⟨w.heap.size, j, none⟩ = some (.int .u8 ((R.getD j 0).toNat : Int)) := fun j hj => bytes_cell w R j hj
  rw [htk] at hcv
  rw [hR, hZ]
  obtain ⟨cp, hcp⟩ : ∃ cp, grownCap w (l.length) 0 5 = cp := ⟨_, rfl⟩
  rw [hcp] at hcv
  obtain ⟨wb, hwb⟩ : ∃ wb, Lib.bytesWorld w 5 (txt R) = wb := ⟨_, rfl⟩
  rw [hwb] at hcv BX hcells
  have HCE : Hid (∀ j, j < R.length → wb.cell? ⟨w.heap.size, j, none⟩ = some (.int .u8 ((R.getD j 0).toNat : Int))) := hcells
  have HB : Hid (Below w.heap.size w wb) := BX
  have HLK : Hid (R.length = l.length) := hlk
  have HZ : Hid (l.drop (l.length) = Z) := hZ
  clear hc hcp hwb hcells BX hR hZ hlk htk
  go_enter Try.func52, Try.ntmps52
  go_wp2
  clear hcv c0 f0 hex
  go_loopg [4, 16] (l.length) (fun r x s16 wr => ∃ j : Nat, j ≤ l.length ∧ r = l.length - j ∧ s16 = .int .i64 (j : Int) ∧ x = .int .u32 ((valB (R.take j) : Nat) : Int) ∧ wr = wb)
  case atStart => exact ⟨0, by omega, by omega, rfl, rfl, rfl⟩
  case round =>
    obtain ⟨j, hj, rfl, rfl, rfl, rfl⟩ := hrel
    by_cases hjk : j < l.length
    · have q1 := HCE.out j (by rw [HLK.out]; exact hjk)
      have HS : Hid (valB (R.take (j + 1)) = valB (R.take j) * 256 + (R.getD j 0).toNat) := by
        show _ = _
        rw [take_snocB (by rw [HLK.out]; exact hjk), valB_snoc]
      have hv : valB (R.take j) < 16777216 := by
        have h1 := valB_lt j (R.take j) (by rw [List.length_take, HLK.out]; omega)
        have h2 : 256 ^ j ≤ 256 ^ 3 := Nat.pow_le_pow_right (by omega) (by omega)
        omega
      have hb := (R.getD j 0).toNat_lt
      generalize (R.getD j 0).toNat = b at *
      generalize valB (R.take j) = x at *
      go_wp2
      go_roundg (l.length - (j + 1))
      case measure => omega
      case rel => exact ⟨j + 1, by omega, rfl, by go_num, by rw [HS.out, shl_or x b hv hb], rfl⟩
    · have hje : j = l.length := by omega
      have c0 : wr.cell? ⟨c, 0, none⟩ = some (.string (txt l)) := (HX.out.below HB.out).cell 0 rfl
      have f0 := (HX.out.below HB.out).frozen 0
      go_wp2
      go_ret
      refine ⟨?_, by
        rw [show txt Z = ByteArray.empty by rw [← HZ.out, List.drop_length]; rfl]
        exact (HX.out.below HB.out).set 0 _, (But.of_below HB.out).trans ?_⟩
      · rw [← HLK.out] at hje
        rw [hje, List.take_length]
        rfl
      · exact ⟨rfl, rfl, rfl, by simp [World.setCell], fun k _ hk => Below.heap_setCell _ _ _ k hk⟩
theorem take1_any (c : Nat) (l : List UInt8) (n : Nat) (w : World) (hc : Blk w c 9 #[.string (txt l)]) (hn : n ≤ 4) :
   Calls Try.prog 52 #[.int .i64 (n : Int), .pointer (some ⟨c, 0, none⟩)] w fun e w' => e = .returned (.int .u32 ((valB (l.take n) : Nat) : Int)) ∧ Blk w' c 9 #[.string (txt (l.drop n))] ∧ But c w w' := by
  rcases Nat.lt_or_ge l.length n with h | h
  · have := take1_over c l n w hc hn h
    rw [List.take_length, List.drop_length] at this
    rw [List.take_of_length_le (by omega), List.drop_eq_nil_of_le (by omega)]
    exact this
  · exact take1_less c l n w hc hn h
end Go.Proofs.Ytpplnjmjldhlbaa

/- Package block: lists of numbers, as they are taken off a text: what stays. -/
namespace Go.Proofs.Ytpplnjmjldhlbaa
open Go.ChangeShapes Go.WideShapes Go.ChangeAt Go.RowKit
/-- Blocks ahead of B stay, but for c. -/
structure Up (B c : Nat) (w w' : World) : Prop where
  os : w'.os = w.os
  tape : w'.tape = w.tape
  output : w'.output = w.output
  size : w.heap.size ≤ w'.heap.size
  block : ∀ b, b < B → b ≠ c → w'.heap[b]? = w.heap[b]?
theorem Up.refl (B c : Nat) (w : World) : Up B c w w := ⟨rfl, rfl, rfl, Nat.le_refl _, fun _ _ _ => rfl⟩
theorem Up.trans {B c : Nat} {w w1 w2 : World} (h : Up B c w w1) (k : Up B c w1 w2) : Up B c w w2 :=
  ⟨k.os.trans h.os, k.tape.trans h.tape, k.output.trans h.output, Nat.le_trans h.size k.size, fun b h1 h2 => (k.block b h1 h2).trans (h.block b h1 h2)⟩
theorem Up.mono {B B' c : Nat} {w w' : World} (h : Up B c w w') (hB : B' ≤ B) : Up B' c w w' := ⟨h.os, h.tape, h.output, h.size, fun b h1 h2 => h.block b (Nat.lt_of_lt_of_le h1 hB) h2⟩
theorem Up.of_but {B c : Nat} {w w' : World} (h : But c w w') (hB : B ≤ w.heap.size) : Up B c w w' := ⟨h.os, h.tape, h.output, h.size, fun b h1 h2 => h.block b (Nat.lt_of_lt_of_le h1 hB) h2⟩
theorem Up.of_below {B c : Nat} {w w' : World} (h : Below w.heap.size w w') (hB : B ≤ w.heap.size) : Up B c w w' := ⟨h.os, h.tape, h.output, h.size, fun b h1 _ => h.block b (Nat.lt_of_lt_of_le h1 hB)⟩
theorem Up.set {B c : Nat} {w w' : World} (h : Up B c w w') {g k : Nat} (hg : B ≤ g) (v : Value) : Up B c w (w'.setCell ⟨g, k, none⟩ v) :=
  ⟨h.os, h.tape, h.output, by simpa [World.setCell] using h.size, fun b h1 h2 => by rw [Below.heap_setCell _ _ _ b (by show b ≠ g; omega)]; exact h.block b h1 h2⟩
theorem Up.blk {B c g : Nat} {w w' : World} {T : TypeId} {cs : Array Value} (h : Blk w g T cs) (u : Up B c w w') (h1 : g < B) (h2 : g ≠ c) : Blk w' g T cs := h.of_block (u.block g h1 h2)
/-- A made list of rows; those ahead of place t are laid, each of dim numbers. -/
structure GF (w : World) (gB P t dim : Nat) (R : Nat → List Int) : Prop where
  row : ∃ cs : Array Value, w.heap[gB]? = some (.cells cs 72 (0, 0)) ∧ cs.size = P ∧ ∀ j, j < t → ∃ gR, cs[j]? = some (.slice (some ⟨gR, 0, none⟩) dim dim) ∧ gB < gR ∧ Fresh w gB gR dim dim (R j)
theorem GF.lt {w : World} {gB P t dim : Nat} {R : Nat → List Int} (h : GF w gB P t dim R) : gB < w.heap.size := by
  obtain ⟨cs, h1, _⟩ := h.row
  exact (Array.getElem?_eq_some_iff.1 h1).1
theorem GF.same {w w' : World} {gB P t dim : Nat} {R : Nat → List Int} (h : GF w gB P t dim R) (hs : ∀ b, gB ≤ b → b < w.heap.size → w'.heap[b]? = w.heap[b]?) : GF w' gB P t dim R := by
  have hl := h.lt
  obtain ⟨cs, h1, h2, h3⟩ := h.row
  exact ⟨cs, (hs gB (Nat.le_refl _) hl).trans h1, h2, fun j hj => let ⟨gR, e, q, F⟩ := h3 j hj; ⟨gR, e, q, F.of_block (hs gR (Nat.le_of_lt q) F.lt)⟩⟩
theorem GF.up {w w' : World} {gB P t dim B c : Nat} {R : Nat → List Int} (h : GF w gB P t dim R) (u : Up B c w w') (hB : w.heap.size ≤ B) (hc : c < gB) : GF w' gB P t dim R :=
  h.same fun b h1 h2 => u.block b (by omega) (by omega)
theorem GF.congr {w : World} {gB P t dim : Nat} {R R' : Nat → List Int} (h : GF w gB P t dim R) (e : ∀ j, j < t → R' j = R j) : GF w gB P t dim R' := by
  obtain ⟨cs, h1, h2, h3⟩ := h.row
  exact ⟨cs, h1, h2, fun j hj => by rw [e j hj]; exact h3 j hj⟩
theorem GF.cell {w : World} {gB P t dim k : Nat} {R : Nat → List Int} (h : GF w gB P t dim R) (hk : k < P) : (∃ u, w.cell? ⟨gB, k, none⟩ = some u) ∧ w.frozen? ⟨gB, k, none⟩ = false := by
  obtain ⟨cs, h1, h2, h3⟩ := h.row
  exact ⟨⟨cs[k]'(by omega), by simp [World.cell?, h1, Array.getElem?_eq_getElem (show k < cs.size by omega)]⟩, by simp [World.frozen?, h1]⟩
/-- One row more. -/
theorem GF.step {w : World} {gB P t dim gR : Nat} {R : Nat → List Int} (h : GF w gB P t dim R) (ht : t < P) (hg : gB < gR) (F : Fresh w gB gR dim dim (R t)) : GF (w.setCell ⟨gB, t, none⟩ (.slice (some ⟨gR, 0, none⟩) dim dim)) gB P (t + 1) dim R := by
  obtain ⟨cs, h1, h2, h3⟩ := h.row
  refine ⟨cs.setIfInBounds t (.slice (some ⟨gR, 0, none⟩) dim dim), by simp [World.setCell, Array.getElem?_modify, h1], by simpa using h2, fun j hj => ?_⟩
  by_cases hjt : j = t
  · subst hjt
    exact ⟨gR, by rw [Array.getElem?_setIfInBounds, if_pos rfl, if_pos (by omega)], hg, F.setOther (by show gR ≠ gB; omega) _⟩
  · obtain ⟨g, e, q, F2⟩ := h3 j (by omega)
    exact ⟨g, by rw [Array.getElem?_setIfInBounds, if_neg (fun e => hjt e.symm)]; exact e, q, F2.setOther (by show g ≠ gB; omega) _⟩
theorem gf_made (w : World) (P dim : Nat) (R : Nat → List Int) : GF (w.alloc (.cells (madeCells #[.slice none 0 0] P) 72)) w.heap.size P 0 dim R :=
  ⟨_, heap_alloc_new w _, by simp [madeCells], fun j hj => by omega⟩
theorem GF.grid {w : World} {gB P dim : Nat} {R : Nat → List Int} (h : GF w gB P P dim R) (hP : P ≤ 4096) : GridAt w (some ⟨gB, 0, none⟩) P ((List.range P).map R) := by
  refine ⟨by simp, by omega, fun _ => ⟨gB, 0, rfl, fun t ht => ?_⟩⟩
  obtain ⟨cs, h1, h2, h3⟩ := h.row
  obtain ⟨gR, e, q, F⟩ := h3 t ht
  have er : rowOf ((List.range P).map R) t = R t := by
    unfold rowOf
    rw [List.getD_eq_getElem?_getD, List.getElem?_map, List.getElem?_range ht]
    rfl
  refine ⟨some ⟨gR, 0, none⟩, dim, dim, by rw [Nat.zero_add]; simp [World.cell?, h1, e], ?_⟩
  rw [er]
  exact F.arg
/-- A made list of lists; those ahead of place i are laid. -/
structure OF (w : World) (gA m i P dim : Nat) (R : Nat → Nat → List Int) : Prop where
  row : ∃ cs : Array Value, w.heap[gA]? = some (.cells cs 73 (0, 0)) ∧ cs.size = m ∧ ∀ j, j < i → ∃ gB, cs[j]? = some (.slice (some ⟨gB, 0, none⟩) P P) ∧ gA < gB ∧ GF w gB P P dim (R j)
theorem OF.lt {w : World} {gA m i P dim : Nat} {R : Nat → Nat → List Int} (h : OF w gA m i P dim R) : gA < w.heap.size := by
  obtain ⟨cs, h1, _⟩ := h.row
  exact (Array.getElem?_eq_some_iff.1 h1).1
theorem OF.same {w w' : World} {gA m i P dim : Nat} {R : Nat → Nat → List Int} (h : OF w gA m i P dim R) (hs : ∀ b, gA ≤ b → b < w.heap.size → w'.heap[b]? = w.heap[b]?) : OF w' gA m i P dim R := by
  have hl := h.lt
  obtain ⟨cs, h1, h2, h3⟩ := h.row
  exact ⟨cs, (hs gA (Nat.le_refl _) hl).trans h1, h2, fun j hj => let ⟨gB, e, q, F⟩ := h3 j hj; ⟨gB, e, q, F.same fun b k1 k2 => hs b (by omega) k2⟩⟩
theorem OF.up {w w' : World} {gA m i P dim B c : Nat} {R : Nat → Nat → List Int} (h : OF w gA m i P dim R) (u : Up B c w w') (hB : w.heap.size ≤ B) (hc : c < gA) : OF w' gA m i P dim R :=
  h.same fun b h1 h2 => u.block b (by omega) (by omega)
theorem OF.cell {w : World} {gA m i P dim k : Nat} {R : Nat → Nat → List Int} (h : OF w gA m i P dim R) (hk : k < m) : (∃ u, w.cell? ⟨gA, k, none⟩ = some u) ∧ w.frozen? ⟨gA, k, none⟩ = false := by
  obtain ⟨cs, h1, h2, h3⟩ := h.row
  exact ⟨⟨cs[k]'(by omega), by simp [World.cell?, h1, Array.getElem?_eq_getElem (show k < cs.size by omega)]⟩, by simp [World.frozen?, h1]⟩
/-- The next place is set: the lists ahead of it stay. -/
theorem OF.set {w : World} {gA m i P dim : Nat} {R : Nat → Nat → List Int} (h : OF w gA m i P dim R) (hi : i < m) (v : Value) : OF (w.setCell ⟨gA, i, none⟩ v) gA m i P dim R ∧ (w.setCell ⟨gA, i, none⟩ v).cell? ⟨gA, i, none⟩ = some v := by
  obtain ⟨⟨u, hu⟩, _⟩ := h.cell hi
  refine ⟨?_, World.cell?_setCell_same _ _ _ hu⟩
  obtain ⟨cs, h1, h2, h3⟩ := h.row
  refine ⟨cs.setIfInBounds i v, by simp [World.setCell, Array.getElem?_modify, h1], by simpa using h2, fun j hj => ?_⟩
  obtain ⟨gB, e, q, F⟩ := h3 j hj
  exact ⟨gB, by rw [Array.getElem?_setIfInBounds, if_neg (by omega)]; exact e, q, F.same fun b k1 _ => Below.heap_setCell _ _ _ b (by show b ≠ gA; omega)⟩
theorem OF.next {w : World} {gA m i P dim gB : Nat} {R : Nat → Nat → List Int} (h : OF w gA m i P dim R) (hc : w.cell? ⟨gA, i, none⟩ = some (.slice (some ⟨gB, 0, none⟩) P P)) (hg : gA < gB) (G : GF w gB P P dim (R i)) : OF w gA m (i + 1) P dim R := by
  obtain ⟨cs, h1, h2, h3⟩ := h.row
  refine ⟨cs, h1, h2, fun j hj => ?_⟩
  by_cases hji : j = i
  · subst hji
    refine ⟨gB, ?_, hg, G⟩
    unfold World.cell? at hc
    simp only [h1] at hc
    simpa using hc
  · exact h3 j (by omega)
theorem of_made (w : World) (m P dim : Nat) (R : Nat → Nat → List Int) : OF (w.alloc (.cells (madeCells #[.slice none 0 0] m) 73)) w.heap.size m 0 P dim R :=
  ⟨_, heap_alloc_new w _, by simp [madeCells], fun j hj => by omega⟩
theorem OF.cube {w : World} {gA m P dim : Nat} {R : Nat → Nat → List Int} (h : OF w gA m m P dim R) (hm : m ≤ 4096) (hP : P ≤ 4096) : CubeAt w (some ⟨gA, 0, none⟩) m ((List.range m).map fun i => (List.range P).map (R i)) := by
  refine ⟨by simp, by omega, fun _ => ⟨gA, 0, rfl, fun t X hX => ?_⟩⟩
  have ht : t < m := by have := (List.getElem?_eq_some_iff.1 hX).1; simpa using this
  rw [List.getElem?_map, List.getElem?_range ht] at hX
  simp only [Option.map_some, Option.some.injEq] at hX
  subst hX
  obtain ⟨cs, h1, h2, h3⟩ := h.row
  obtain ⟨gB, e, q, G⟩ := h3 t ht
  exact ⟨some ⟨gB, 0, none⟩, P, P, by rw [Nat.zero_add]; simp [World.cell?, h1, e], (fun h => by cases h), Nat.le_refl _, by omega, G.grid hP⟩
theorem OF.new {w : World} {gA m P dim s : Nat} {R : Nat → Nat → List Int} (h : OF w gA m m P dim R) (hs : s ≤ gA) (hm : m ≤ 4096) (hP : P ≤ 4096) : Hangs (fun b => s ≤ b) w (fun w => CubeAt w (some ⟨gA, 0, none⟩) m ((List.range m).map fun i => (List.range P).map (R i))) :=
  fun _ h2 => (h.same fun b k1 k2 => h2 b (Nat.le_trans hs k1) k2).cube hm hP
/-- Numbers, as they are taken. -/
def toI (n : Nat) : Int := IntKind.i32.wrap (n : Int)
theorem toI_small (n : Nat) : -2147483648 ≤ toI n ∧ toI n ≤ 2147483647 := by
  unfold toI
  simp [IntKind.wrap, IntKind.bits, IntKind.signed]
  omega
def numAt (l : List UInt8) (k : Nat) : Int := toI (valB ((l.drop (4 * k)).take 4))
def rowT (l : List UInt8) (dim k0 : Nat) : List Int := tab dim fun j => numAt l (k0 + j)
def cubeT (l : List UInt8) (layers places dim : Nat) : List (List (List Int)) := (List.range layers).map fun i => (List.range places).map fun t => rowT l dim (i * (places * dim) + t * dim)
end Go.Proofs.Ytpplnjmjldhlbaa

/- Package block: takeLists. -/
namespace Go.Proofs.Ytpplnjmjldhlbaa
open Go.ChangeShapes Go.WideShapes Go.ChangeAt Go.RowKit
theorem set_alike {w w' : World} {b : Nat} (h : w'.heap[b]? = w.heap[b]?) (a : Addr) (v : Value) : (w'.setCell a v).heap[b]? = (w.setCell a v).heap[b]? := by
  simp [World.setCell, Array.getElem?_modify, h]
set_option maxRecDepth 100000 in
set_option maxHeartbeats 3200000 in
theorem takeLists_any (c : Nat) (l : List UInt8) (m P dim : Nat) (w : World) (hc : Blk w c 9 #[.string (txt l)]) (hm : m ≤ 4096) (hP : P ≤ 4096) (hdim : dim ≤ 4096) :
   Calls Try.prog 43 #[.func (.func 52) #[] #[.pointer (some ⟨c, 0, none⟩)], .int .i64 (m : Int), .int .i64 (P : Int), .int .i64 (dim : Int)] w fun e w' => ∃ g, e = .returned (.slice (some ⟨g, 0, none⟩) m m) ∧ Hangs (fun b => w.heap.size ≤ b) w' (fun w => CubeAt w (some ⟨g, 0, none⟩) m (cubeT l m P dim)) ∧ Blk w' c 9 #[.string (txt (l.drop (4 * (m * (P * dim)))))] ∧ But c w w' := by
  have hmk := run_make_row' (P := Try.prog) 25 73 (.slice none 0 0) 24 Try.underlying25 Try.infoList rfl .i64 .i64 m (by omega) (by omega)
  have HMK2 := run_make_row' (P := Try.prog) 73 72 (.slice none 0 0) 24 Try.underlying73 Try.infoRow rfl .i64 .i64 P (by omega) (by omega)
  have HMK3 := run_make_row' (P := Try.prog) 72 71 (.int .i32 0) 4 Try.underlying72 Try.infoNum rfl .i64 .i64 dim (by omega) (by omega)
  have hcl := hc.lt
  have OM := of_made w m P dim (fun i t => rowT l dim (i * (P * dim) + t * dim))
  have BA : Below w.heap.size w (w.alloc (.cells (madeCells #[.slice none 0 0] m) 73)) := (Below.refl _ _).alloc (Nat.le_refl _) _
  have XC := hc.below BA
  have UA : Up w.heap.size c w (w.alloc (.cells (madeCells #[.slice none 0 0] m) 73)) := Up.of_below BA (Nat.le_refl _)
  obtain ⟨gA, hg⟩ : ∃ gA, gA = w.heap.size := ⟨_, rfl⟩
  have hgA : c < gA := by omega
  have HG : Hid (w.heap.size = gA) := hg.symm
  clear hc
  go_enter Try.func43, Try.ntmps43
  go_upto_region 3 with fail
  clear hmk
  rw [← hg] at OM UA
  rw [show (some (⟨w.heap.size, 0, none⟩ : Addr)) = some ⟨gA, 0, none⟩ by rw [hg]]
  clear hg BA hcl
  generalize w.alloc (.cells (madeCells #[.slice none 0 0] m) 73) = w1 at *
  go_loopg [18] m (fun r s18 wr => ∃ i : Nat, i ≤ m ∧ r = m - i ∧ s18 = .int .i64 (i : Int) ∧ OF wr gA m i P dim (fun i t => rowT l dim (i * (P * dim) + t * dim)) ∧ Blk wr c 9 #[.string (txt (l.drop (4 * (i * (P * dim)))))] ∧ Up gA c w wr)
  case atStart => exact ⟨0, by omega, by omega, rfl, OM, by rw [Nat.zero_mul, Nat.mul_zero, List.drop_zero]; exact XC, UA⟩
  case round =>
    clear OM XC UA
    obtain ⟨i, hi, rfl, rfl, OM, XC, UA⟩ := hrel
    by_cases hlt : i < m
    · obtain ⟨⟨u0, cu⟩, fz⟩ := OM.cell hlt
      have BM : Below wr.heap.size wr (wr.alloc (.cells (madeCells #[.slice none 0 0] P) 72)) := (Below.refl _ _).alloc (Nat.le_refl _) _
      have hgr := OM.lt
      have cu1 := cell_keep cu BM
      have fz1 : (wr.alloc (.cells (madeCells #[.slice none 0 0] P) 72)).frozen? ⟨gA, i, none⟩ = false := (frozen_of_block (BM.block gA hgr)).trans fz
      have GM := gf_made wr P dim (fun t => rowT l dim (i * (P * dim) + t * dim))
      have mk2 := HMK2 wr
      have HSC : Hid (∀ b, b < wr.heap.size → ((wr.alloc (.cells (madeCells #[.slice none 0 0] P) 72)).setCell ⟨gA, i, none⟩ (.slice (some ⟨wr.heap.size, 0, none⟩) P P)).heap[b]? = (wr.setCell ⟨gA, i, none⟩ (.slice (some ⟨wr.heap.size, 0, none⟩) P P)).heap[b]?) := fun b hb => set_alike (BM.block b hb) _ _
      obtain ⟨OMx, _⟩ := OM.set hlt (.slice (some ⟨wr.heap.size, 0, none⟩) P P)
      have hsx : (wr.setCell ⟨gA, i, none⟩ (.slice (some ⟨wr.heap.size, 0, none⟩) P P)).heap.size = wr.heap.size := by simp [World.setCell]
      have HO2 : Hid (∀ wx, Up wr.heap.size c ((wr.alloc (.cells (madeCells #[.slice none 0 0] P) 72)).setCell ⟨gA, i, none⟩ (.slice (some ⟨wr.heap.size, 0, none⟩) P P)) wx → OF wx gA m i P dim (fun i t => rowT l dim (i * (P * dim) + t * dim))) := fun wx u => OMx.same (fun b h1 h2 => by
        rw [hsx] at h2
        rw [u.block b h2 (by omega)]
        exact HSC.out b (by omega))
      have c2 : ((wr.alloc (.cells (madeCells #[.slice none 0 0] P) 72)).setCell ⟨gA, i, none⟩ (.slice (some ⟨wr.heap.size, 0, none⟩) P P)).cell? ⟨gA, i, none⟩ = some (.slice (some ⟨wr.heap.size, 0, none⟩) P P) := World.cell?_setCell_same _ _ _ cu1
      clear OMx hsx HSC
      have XC1 := XC.below BM
      have UA1 := UA.trans (Up.of_below BM (by omega))
      generalize hwm : wr.alloc (.cells (madeCells #[.slice none 0 0] P) 72) = wm at *
      have XC2 : Blk (wm.setCell ⟨gA, i, none⟩ (.slice (some ⟨wr.heap.size, 0, none⟩) P P)) c 9 _ := XC1.of_block (Below.heap_setCell _ _ _ c (by show c ≠ gA; omega))
      have GM2 : GF (wm.setCell ⟨gA, i, none⟩ (.slice (some ⟨wr.heap.size, 0, none⟩) P P)) wr.heap.size P 0 dim (fun t => rowT l dim (i * (P * dim) + t * dim)) := GM.same (fun b h1 _ => Below.heap_setCell _ _ _ b (by show b ≠ gA; omega))
      have UA2 := UA1.set (g := gA) (k := i) (Nat.le_refl _) (.slice (some ⟨wr.heap.size, 0, none⟩) P P)
      go_wp2_with fail
      clear cu cu1 fz fz1 BM hwm mk2 OM XC XC1 GM UA UA1
      have hAB := hgr
      clear hgr
      generalize wr.heap.size = gB at *
      generalize wm.setCell ⟨gA, i, none⟩ (.slice (some ⟨gB, 0, none⟩) P P) = w2 at *
      have HC2 : Hid (w2.cell? ⟨gA, i, none⟩ = some (.slice (some ⟨gB, 0, none⟩) P P)) := c2
      clear c2
      go_loopg [31] P (fun r s31 wx => ∃ t : Nat, t ≤ P ∧ r = P - t ∧ s31 = .int .i64 (t : Int) ∧ GF wx gB P t dim (fun t => rowT l dim (i * (P * dim) + t * dim)) ∧ Blk wx c 9 #[.string (txt (l.drop (4 * (i * (P * dim) + t * dim))))] ∧ Up gB c w2 wx)
      case atStart => exact ⟨0, by omega, by omega, rfl, GM2, by rw [Nat.zero_mul, Nat.add_zero]; exact XC2, Up.refl _ _ _⟩
      case round =>
        clear GM2 XC2
        obtain ⟨t, ht, rfl, rfl, GM, XC, UB⟩ := hrel
        by_cases htP : t < P
        · have hgl := GM.lt
          have BM : Below wr.heap.size wr (wr.alloc (.cells (madeCells #[.int .i32 0] dim) 71)) := (Below.refl _ _).alloc (Nat.le_refl _) _
          have FM := fresh_made wr dim (by omega)
          have mk3 := HMK3 wr
          have HG0 : Hid (∀ wx, Up wr.heap.size c (wr.alloc (.cells (madeCells #[.int .i32 0] dim) 71)) wx → GF wx gB P t dim (fun t => rowT l dim (i * (P * dim) + t * dim))) := fun wx u => GM.same (fun b h1 h2 => (u.block b (by omega) (by omega)).trans (BM.block b h2))
          have XC1 := XC.below BM
          have UB1 := UB.trans (Up.of_below BM (by omega))
          have HWS : Hid ((wr.alloc (.cells (madeCells #[.int .i32 0] dim) 71)).heap.size = wr.heap.size + 1) := by show _ = _; simp
          generalize hwm : wr.alloc (.cells (madeCells #[.int .i32 0] dim) 71) = wm at *
          go_wp2_with fail
          clear mk3 hwm BM GM XC UB
          have hBR := hgl
          clear hgl
          generalize wr.heap.size = gR at *
          have HU1 : Hid (Up gB c w2 wm) := UB1
          have HGS : Hid (wm.heap.size = gR + 1) := HWS.out
          clear UB1 HWS
          go_loopg [38] dim (fun r s38 wx => ∃ k : Nat, k ≤ dim ∧ r = dim - k ∧ s38 = .int .i64 (k : Int) ∧ Fresh wx gR gR dim dim (tab dim fun j => if j < k then numAt l (i * (P * dim) + t * dim + j) else 0) ∧ Blk wx c 9 #[.string (txt (l.drop (4 * (i * (P * dim) + t * dim + k))))] ∧ Up gR c wm wx)
          case atStart => exact ⟨0, by omega, by omega, rfl, by simpa using FM, by rw [Nat.add_zero]; exact XC1, Up.refl _ _ _⟩
          case round =>
            clear FM XC1
            obtain ⟨k, hk, rfl, rfl, FM, XC, UC⟩ := hrel
            by_cases hkd : k < dim
            · have CT := take1_any c _ 4 wr XC (Nat.le_refl _)
              obtain ⟨q, hq⟩ : ∃ q, i * (P * dim) + t * dim + k = q := ⟨_, rfl⟩
              have HQ : Hid (i * (P * dim) + t * dim + k = q) := hq
              have HV : Hid (toI (valB ((l.drop (4 * q)).take 4)) = numAt l q) := rfl
              rw [hq, List.drop_drop, show 4 * q + 4 = 4 * (q + 1) by omega] at CT
              have hsm := toI_small (valB ((l.drop (4 * q)).take 4))
              have hto : IntKind.i32.wrap ((valB ((l.drop (4 * q)).take 4) : Nat) : Int) = toI (valB ((l.drop (4 * q)).take 4)) := rfl
              clear hq
              generalize valB ((l.drop (4 * q)).take 4) = vv at *
              generalize toI vv = x at *
              have hfl := FM.lt
              go_wp2_with fail
              refine CT.mono ?_
              rintro e w5 ⟨rfl, X5, B5⟩
              have F5 := FM.of_block (B5.block gR hfl (by omega))
              have y0 := F5.cell hkd
              have fz := F5.frozen k
              clear CT
              go_wp2_with fail
              go_roundg (dim - (k + 1))
              case measure => omega
              case rel =>
                refine ⟨k + 1, by omega, rfl, by go_num, F5.step x hkd (by rw [HQ.out]; exact HV.out) hsm, ?_, (UC.trans (Up.of_but B5 (Nat.le_of_lt hfl))).set (Nat.le_refl _) _⟩
                rw [← Nat.add_assoc, HQ.out]
                exact X5.of_block (Below.heap_setCell _ _ _ c (by show c ≠ gR; omega))
            · obtain rfl : dim = k := by omega
              have FR : Fresh wr gR gR dim dim (rowT l dim (i * (P * dim) + t * dim)) := by
                have e : rowT l dim (i * (P * dim) + t * dim) = tab dim fun j => if j < dim then numAt l (i * (P * dim) + t * dim + j) else 0 := by
                  unfold rowT
                  exact tab_congr fun j hj => by rw [if_pos hj]
                rw [e]
                exact FM
              have U3 := HU1.out.trans (UC.mono (Nat.le_of_lt hBR))
              have G3 := HG0.out wr UC
              have c3 : wr.cell? ⟨gA, i, none⟩ = some (.slice (some ⟨gB, 0, none⟩) P P) := by
                rw [World.cell?_of_block (w := w2) (a := ⟨gA, i, none⟩) (U3.block gA hAB (by omega))]; exact HC2.out
              obtain ⟨⟨u9, q9⟩, fz9⟩ := G3.cell htP
              go_wp2_with fail
              go_roundg (P - (t + 1))
              case measure => omega
              case rel =>
                refine ⟨t + 1, by omega, rfl, by go_num, G3.step htP hBR (FR.mono (Nat.le_of_lt hBR)), ?_, U3.set (Nat.le_refl _) _⟩
                rw [show (t + 1) * dim = t * dim + dim from Nat.succ_mul t dim, ← Nat.add_assoc]
                refine XC.of_block ?_
                exact Below.heap_setCell _ _ _ c (by show c ≠ gB; omega)
        · obtain rfl : P = t := by omega
          have c3 : wr.cell? ⟨gA, i, none⟩ = some (.slice (some ⟨gB, 0, none⟩) P P) := by
            rw [World.cell?_of_block (w := w2) (a := ⟨gA, i, none⟩) (UB.block gA hAB (by omega))]; exact HC2.out
          have O3 := HO2.out wr UB
          go_wp2_with fail
          go_roundg (m - (i + 1))
          case measure => omega
          case rel =>
            refine ⟨i + 1, by omega, rfl, by go_num, O3.next c3 hAB GM, ?_, UA2.trans (UB.mono (Nat.le_of_lt hAB))⟩
            rw [show (i + 1) * (P * dim) = i * (P * dim) + P * dim from Nat.succ_mul i (P * dim)]
            exact XC
    · obtain rfl : m = i := by omega
      go_wp2_with fail
      go_ret
      exact ⟨gA, rfl, OM.new (by have := HG.out; omega) hm hP, XC, ⟨UA.os, UA.tape, UA.output, UA.size, fun b h1 h2 => UA.block b (by have := HG.out; omega) h2⟩⟩
end Go.Proofs.Ytpplnjmjldhlbaa

/- Package block: Read. -/
namespace Go.Proofs.Ytpplnjmjldhlbaa
open Go.ChangeShapes Go.WideShapes Go.ChangeAt Go.RowKit
def noPg : Pg := ⟨[], 0, [], []⟩
/-- Bytes' page: what lies behind the two first ones, t and f. -/
def pgT (m d t f : Nat) (r : List UInt8) : Pg := ⟨(r.take t).map fun b => (b.toNat : Int), f, cubeT (r.drop t) m (t - f) d, cubeT ((r.drop t).drop (4 * (m * ((t - f) * d)))) m (t - f) d⟩
def rd2 (Vo D L : Int) (t f : Nat) (r : List UInt8) : Int × Pg :=
  if r.length < t then (11, noPg) else if 4 < L.toNat ∨ 32 < D.toNat ∨ r.length - t ≠ 8 * (t - f) * L.toNat * D.toNat then (6, noPg)
  else if ckN Vo D L (pgT L.toNat D.toNat t f r) = 0 then (0, pgT L.toNat D.toNat t f r) else (ckN Vo D L (pgT L.toNat D.toNat t f r), noPg)
def rdS (Vo D L : Int) : List UInt8 → Int × Pg
  | a :: b :: r => rd2 Vo D L a.toNat b.toNat r
  | _ => (11, noPg)
theorem below_but {B c : Nat} {w0 w w' : World} (h : Below B w0 w) (k : But c w w') (hc : B ≤ c) (hB : B ≤ w.heap.size) : Below B w0 w' :=
  h.trans ⟨k.os, k.tape, k.output, k.size, fun b hb => k.block b (by omega) (by omega)⟩
theorem noPg_at (w : World) : PgAt w ⟨⟨none, 0, 0⟩, 0, ⟨none, 0, 0⟩, ⟨none, 0, 0⟩⟩ noPg := ⟨iarg_nil w, rfl, ⟨rfl, Nat.zero_le _, fun h => by simp at h⟩, ⟨rfl, Nat.zero_le _, fun h => by simp at h⟩⟩
def noP : Array Value := #[.slice none 0 0, .int .i64 0, .slice none 0 0, .slice none 0 0]
theorem Try.infoInt1 : (Try.prog.info? 3).map (fun i => (i.zero, i.size, i.bytes)) = some (some (.int .i64 0), 1, 8) := by kernel_rfl
theorem taker_any (s : ByteArray) (w : World) : Calls Try.prog 42 #[.string s] w fun e w' => e = .returned (.func (.func 52) #[] #[.pointer (some ⟨w.heap.size, 0, none⟩)]) ∧ w' = w.alloc (.cells #[.string s] 9) := by
  have hmf : ∀ (fn : Fn) (first cap : Array Value) (w : World), (Instr.makeFunc fn first cap).run Try.prog w = .ok (.func fn first cap) w := fun _ _ _ _ => rfl
  go_enter Try.func42, Try.ntmps42
  go_wp2
  go_ret
  exact ⟨rfl, rfl⟩
/-- A row of whole numbers of one's own, filled from the front. -/
structure TF (w : World) (g t k : Nat) (F : Nat → Int) : Prop where
  row : ∃ cs : Array Value, Blk w g 3 cs ∧ cs.size = t ∧ ∀ j, j < k → cs[j]? = some (.int .i64 (F j))
theorem TF.blk {w w' : World} {g t k : Nat} {F : Nat → Int} (h : TF w g t k F) (e : w'.heap[g]? = w.heap[g]?) : TF w' g t k F := by
  obtain ⟨cs, h1, h2, h3⟩ := h.row
  exact ⟨cs, h1.of_block e, h2, h3⟩
theorem TF.lt {w : World} {g t k : Nat} {F : Nat → Int} (h : TF w g t k F) : g < w.heap.size := by
  obtain ⟨cs, h1, _⟩ := h.row
  exact h1.lt
theorem TF.cell {w : World} {g t k j : Nat} {F : Nat → Int} (h : TF w g t k F) (hj : j < t) : (∃ u, w.cell? ⟨g, j, none⟩ = some u) ∧ w.frozen? ⟨g, j, none⟩ = false := by
  obtain ⟨cs, h1, h2, h3⟩ := h.row
  exact ⟨⟨cs[j]'(by omega), h1.cell j (Array.getElem?_eq_getElem (by omega))⟩, h1.frozen j⟩
theorem TF.step {w : World} {g t k : Nat} {F : Nat → Int} (h : TF w g t k F) (hk : k < t) : TF (w.setCell ⟨g, k, none⟩ (.int .i64 (F k))) g t (k + 1) F := by
  obtain ⟨cs, h1, h2, h3⟩ := h.row
  refine ⟨_, h1.set k _, by simpa using h2, fun j hj => ?_⟩
  by_cases e : j = k
  · subst e
    rw [Array.getElem?_setIfInBounds, if_pos rfl, if_pos (by omega)]
  · rw [Array.getElem?_setIfInBounds, if_neg (fun h => e h.symm)]
    exact h3 j (by omega)
theorem TF.arg {w : World} {g t : Nat} {F : Nat → Int} (h : TF w g t t F) (ht : t ≤ 4096) (hF : ∀ j, -9223372036854775808 ≤ F j ∧ F j ≤ 9223372036854775807) {A : List Int} (hA : A.length = t) (hE : ∀ j, j < t → el A j = F j) : IArg w (some ⟨g, 0, none⟩) t t A := by
  obtain ⟨cs, h1, h2, h3⟩ := h.row
  refine ⟨⟨hA, by omega, fun k => ?_, fun _ => ⟨g, 0, rfl, fun j hj => ?_⟩⟩, Nat.le_refl _, by omega, fun h => by cases h⟩
  · rcases Nat.lt_or_ge k t with h | h
    · rw [hE k h]; exact hF k
    · rw [el_over (by omega)]; omega
  · rw [Nat.zero_add, hE j hj]
    exact h1.cell j (h3 j hj)
theorem take1_one (c : Nat) (b : UInt8) (r : List UInt8) (w : World) (hc : Blk w c 9 #[.string (txt (b :: r))]) :
   Calls Try.prog 52 #[.int .i64 1, .pointer (some ⟨c, 0, none⟩)] w fun e w' => e = .returned (.int .u32 (b.toNat : Int)) ∧ Blk w' c 9 #[.string (txt r)] ∧ But c w w' := by
  have := take1_any c (b :: r) 1 w hc (by omega)
  rw [show valB ((b :: r).take 1) = b.toNat by show 0 * 256 + b.toNat = _; omega] at this
  exact this
set_option maxRecDepth 100000 in
set_option maxHeartbeats 6400000 in
theorem read_short (Vo D Hd H L : Int) (l : List UInt8) (w : World) (hl : l.length < 2) :
   Calls Try.prog 22 #[.agg (cfgC Vo D Hd H L), .string (txt l)] w fun e w' => e = .returned (.tuple #[.agg noP, .int .i64 11]) ∧ Below w.heap.size w w' := by
  have hsz : (txt l).size = l.length := txt_size l
  rw [show cfgC Vo D Hd H L = #[.int .i64 Vo, .int .i64 D, .int .i64 Hd, .int .i64 H, .int .i64 L] from rfl]
  have B0 : Below w.heap.size w (w.alloc (.cells #[.int .i64 Vo, .int .i64 D, .int .i64 Hd, .int .i64 H, .int .i64 L] 23)) := (Below.refl _ _).alloc (Nat.le_refl _) _
  have s0 : (w.alloc (.cells #[.int .i64 Vo, .int .i64 D, .int .i64 Hd, .int .i64 H, .int .i64 L] 23)).heap.size = w.heap.size + 1 := by simp
  generalize hw0 : w.alloc (.cells #[.int .i64 Vo, .int .i64 D, .int .i64 Hd, .int .i64 H, .int .i64 L] 23) = w0 at *
  have X1 := blk_new w0 47 #[.slice none 0 0, .int .i64 0, .slice none 0 0, .slice none 0 0]
  have B1 : Below w0.heap.size w0 (w0.alloc (.cells #[.slice none 0 0, .int .i64 0, .slice none 0 0, .slice none 0 0] 47)) := (Below.refl _ _).alloc (Nat.le_refl _) _
  rw [s0] at X1
  generalize hw1 : w0.alloc (.cells #[.slice none 0 0, .int .i64 0, .slice none 0 0, .slice none 0 0] 47) = w1 at *
  have hlr : (loadVar 47 ⟨w.heap.size + 1, 0, none⟩).run Try.prog (w1.setRow (w.heap.size + 1) noP) = .ok (.agg noP) (w1.setRow (w.heap.size + 1) noP) := load_pg (X1.row _) rfl
  have BF := below_setRow (below_then B0 B1) (by omega : w.heap.size ≤ w.heap.size + 1) noP
  go_enter Try.func22, Try.ntmps22
  go_wp2_with (refine wpList_store_row rfl 47 _ _ rfl (w.heap.size + 1) noP rfl rfl 47 _ X1 (by exact Try.infoPg) rfl (by simp [noP, Value.oneCell']) ?_)
  refine bodyPost_ret (results_cBt (by rfl) _ _ _ _ rfl hlr) rfl ?_
  exact ⟨rfl, BF⟩
set_option maxRecDepth 100000 in
set_option maxHeartbeats 6400000 in
theorem read_two (Vo D Hd H L : Int) (a0 b0 : UInt8) (r : List UInt8) (w : World) (hl : r.length ≤ 16777216) (hD : -9223372036854775808 ≤ D ∧ D ≤ 9223372036854775807) (hL : -9223372036854775808 ≤ L ∧ L ≤ 9223372036854775807) :
   Calls Try.prog 22 #[.agg (cfgC Vo D Hd H L), .string (txt (a0 :: b0 :: r))] w fun e w' => ∃ p : PgV, e = .returned (.tuple #[.agg p.cells, .int .i64 (rd2 Vo D L a0.toNat b0.toNat r).1]) ∧ New w.heap.size w' (fun w => PgAt w p (rd2 Vo D L a0.toNat b0.toNat r).2) ∧ Below w.heap.size w w' := by
  have ht := a0.toNat_lt
  have hf := b0.toNat_lt
  have hsz : (txt (a0 :: b0 :: r)).size = r.length + 2 := by rw [txt_size]; rfl
  have CT1 := fun (c : Nat) (wv : World) hc => take1_one c a0 (b0 :: r) wv hc
  have CT2 := fun (c : Nat) (wv : World) hc => take1_one c b0 r wv hc
  obtain ⟨s, hs⟩ : ∃ s, txt (a0 :: b0 :: r) = s := ⟨_, rfl⟩
  rw [hs] at hsz CT1 ⊢
  generalize a0.toNat = t at *
  generalize b0.toNat = f at *
  obtain ⟨RS, hRS⟩ : ∃ RS, rd2 Vo D L t f r = RS := ⟨_, rfl⟩
  have HRS : Hid (rd2 Vo D L t f r = RS) := hRS
  rw [hRS]
  clear hRS
  have CK := fun (p : PgV) (X : Pg) (wv : World) hp hF => check11_any Vo D Hd H L p X wv hp hF
  rw [show cfgC Vo D Hd H L = #[.int .i64 Vo, .int .i64 D, .int .i64 Hd, .int .i64 H, .int .i64 L] from rfl] at CK ⊢
  have X0 := blk_new w 23 #[.int .i64 Vo, .int .i64 D, .int .i64 Hd, .int .i64 H, .int .i64 L]
  have B0 : Below w.heap.size w (w.alloc (.cells #[.int .i64 Vo, .int .i64 D, .int .i64 Hd, .int .i64 H, .int .i64 L] 23)) := (Below.refl _ _).alloc (Nat.le_refl _) _
  have s0 : (w.alloc (.cells #[.int .i64 Vo, .int .i64 D, .int .i64 Hd, .int .i64 H, .int .i64 L] 23)).heap.size = w.heap.size + 1 := by simp
  generalize hw0 : w.alloc (.cells #[.int .i64 Vo, .int .i64 D, .int .i64 Hd, .int .i64 H, .int .i64 L] 23) = w0 at *
  have X1 := blk_new w0 47 #[.slice none 0 0, .int .i64 0, .slice none 0 0, .slice none 0 0]
  have B1 : Below w0.heap.size w0 (w0.alloc (.cells #[.slice none 0 0, .int .i64 0, .slice none 0 0, .slice none 0 0] 47)) := (Below.refl _ _).alloc (Nat.le_refl _) _
  have s1 : (w0.alloc (.cells #[.slice none 0 0, .int .i64 0, .slice none 0 0, .slice none 0 0] 47)).heap.size = w.heap.size + 2 := by simp; omega
  rw [s0] at X1
  generalize hw1 : w0.alloc (.cells #[.slice none 0 0, .int .i64 0, .slice none 0 0, .slice none 0 0] 47) = w1 at *
  replace X0 := X0.below B1
  have BB1 := below_then B0 B1
  have TK := taker_any s w1
  have X2 := blk_new w1 9 #[.string s]
  have B2 : Below w1.heap.size w1 (w1.alloc (.cells #[.string s] 9)) := (Below.refl _ _).alloc (Nat.le_refl _) _
  have s2 : (w1.alloc (.cells #[.string s] 9)).heap.size = w.heap.size + 3 := by simp; omega
  rw [s1] at X2 TK
  generalize hw2 : w1.alloc (.cells #[.string s] 9) = w2 at *
  replace X0 := X0.below B2
  replace X1 := X1.below B2
  have BB2 := below_then BB1 B2
  go_enter Try.func22, Try.ntmps22
  go_upto_region 3 with fail
  clear hw0 hw1 hw2 s0 s1 B0 B1 BB1
  go_wp2_with fail
  refine TK.mono ?_
  rintro e wt ⟨rfl, hwt⟩
  subst hwt
  clear TK B2
  obtain ⟨c, hcc⟩ : ∃ c, w.heap.size + 2 = c := ⟨_, rfl⟩
  rw [hcc] at X2 ⊢
  have C1 := CT1 c _ X2
  go_wp2_with fail
  refine C1.mono ?_
  rintro e w3 ⟨rfl, X3, K3⟩
  have C2 := CT2 c w3 X3
  go_wp2_with fail
  refine C2.mono ?_
  rintro e w4 ⟨rfl, X4, K4⟩
  have KK := K3.trans K4
  have X04 := X0.but KK (by omega)
  have X14 := X1.but KK (by omega)
  have B4 := below_but BB2 KK (by omega) BB2.size
  have s4 : w.heap.size + 3 ≤ w4.heap.size := by have := KK.size; omega
  have hcs : c < w4.heap.size := by omega
  have HCC : Hid (w.heap.size + 2 = c) := hcc
  have hcw : w.heap.size + 1 < c := by omega
  clear C1 C2 CT1 CT2 X0 X1 X2 X3 K3 K4 KK BB2 s2 hs hcc
  have HSE : Hid (∀ q, Blk q (w.heap.size + 1) 47 noP → Below w.heap.size w q → (loadVar 47 ⟨w.heap.size + 1, 0, none⟩).run Try.prog (q.setRow (w.heap.size + 1) noP) = .ok (.agg noP) (q.setRow (w.heap.size + 1) noP) ∧ Below w.heap.size w (q.setRow (w.heap.size + 1) noP)) := fun q hq hb => ⟨load_pg (hq.row _) rfl, below_setRow hb (by omega) noP⟩
  by_cases hrt : r.length < t
  · have HR : Hid (RS = (11, noPg)) := by show _ = _; rw [← HRS.out]; unfold rd2; rw [if_pos hrt]
    obtain ⟨hlr, BF⟩ := HSE.out w4 X14 B4
    go_wp2_with (refine wpList_store_row rfl 47 _ _ rfl (w.heap.size + 1) noP rfl rfl 47 _ X14 (by exact Try.infoPg) rfl (by simp [noP, Value.oneCell']) ?_)
    refine bodyPost_ret (results_cBt (by rfl) _ _ _ _ rfl hlr) rfl ?_
    refine ⟨⟨⟨none, 0, 0⟩, 0, ⟨none, 0, 0⟩, ⟨none, 0, 0⟩⟩, by rw [HR.out]; rfl, fun w9 _ => ?_, BF⟩
    rw [HR.out]
    exact noPg_at w9
  · obtain ⟨n, hn⟩ : ∃ n, r.length - t = n := ⟨_, rfl⟩
    have hnr : r.length = n + t := by omega
    obtain ⟨P, hP⟩ : ∃ P, t - f = P := ⟨_, rfl⟩
    obtain ⟨m, hm⟩ : ∃ m, L.toNat = m := ⟨_, rfl⟩
    obtain ⟨d, hd⟩ : ∃ d, D.toNat = d := ⟨_, rfl⟩
    have hP2 : P < 256 := by omega
    have HRD : Hid (RS = if 4 < m ∨ 32 < d ∨ n ≠ 8 * P * m * d then (6, noPg) else if ckN Vo D L (pgT m d t f r) = 0 then (0, pgT m d t f r) else (ckN Vo D L (pgT m d t f r), noPg)) := by
      show _ = _
      rw [← HRS.out]
      unfold rd2
      rw [if_neg hrt, hn, hP, hm, hd]
    have HPP : Hid (t - f = P) := hP
    have HMX : Hid (max ((t : Int) - (f : Int)) 0 = (P : Int) ∧ max L 0 = (m : Int) ∧ max D 0 = (d : Int)) := by
      show _ ∧ _ ∧ _
      omega
    have HNR : Hid (r.length = n + t) := hnr
    have HM : Hid (m ≤ 4 → True) := fun _ => trivial
    have hni : ((r.length : Int) + 2 - 2 - (t : Int)) = (n : Int) := by omega
    clear HRS hn hP hm hd HM
    go_upto_region 8 with fail
    have BD : Below w4.heap.size w4 w4.drew := (Below.refl _ w4).drew
    have Y0 := X04.below BD
    have Y1 := X14.below BD
    have Y4 := X4.below BD
    have D4 := below_then B4 BD
    refine wp_region_held_drew (S := fun w' => Blk w' w.heap.size 23 #[.int .i64 Vo, .int .i64 D, .int .i64 Hd, .int .i64 H, .int .i64 L]) (by kernel_rfl) (Y0) (fun hHeld => ?_)
    have sd : w.heap.size + 3 ≤ w4.drew.heap.size := s4
    have hcd : c < w4.drew.heap.size := hcs
    generalize hA : w4.drew = wA at *
    clear hA X04 X14 X4 B4 BD s4 hcs
    refine wpAnyH_take (i := 0) (v := (.int .i64 (t : Int))) rfl (by kernel_rfl) (by kernel_rfl) (by kernel_rfl) (fun _ _ _ h => h) (Or.inl ⟨by rfl, ?_⟩) (by assumption) ?_
    · intro w' hSw
      go_simp
    simp only [List.getElem_toArray, List.getElem_cons_zero, Act.put, List.setIfInBounds_toArray, List.set_cons_zero, List.set_cons_succ]
    refine wpAnyH_take (i := 1) (v := (.int .i64 (f : Int))) rfl (by kernel_rfl) (by kernel_rfl) (by kernel_rfl) (fun _ _ _ h => h) (Or.inl ⟨by rfl, ?_⟩) (by assumption) ?_
    · intro w' hSw
      go_simp
    simp only [List.getElem_toArray, List.getElem_cons_succ, List.getElem_cons_zero, Act.put, List.setIfInBounds_toArray, List.set_cons_zero, List.set_cons_succ]
    refine wpAnyH_take (i := 2) (v := (.int .i64 ((t : Int) - (f : Int)))) rfl (by kernel_rfl) (by kernel_rfl) (by kernel_rfl) (fun _ _ _ h => h) (Or.inl ⟨by rfl, ?_⟩) (by assumption) ?_
    · intro w' hSw
      (go_simp; exact wrap_in (by omega))
    simp only [List.getElem_toArray, List.getElem_cons_succ, List.getElem_cons_zero, Act.put, List.setIfInBounds_toArray, List.set_cons_zero, List.set_cons_succ]
    refine wpAnyH_take (i := 3) (v := (.int .i64 (P : Int))) rfl (by kernel_rfl) (by kernel_rfl) (by kernel_rfl) (fun _ _ _ h => h) (Or.inl ⟨by rfl, ?_⟩) (by assumption) ?_
    · intro w' hSw
      (go_simp; have hmx := HMX.out; split <;> omega)
    simp only [List.getElem_toArray, List.getElem_cons_succ, List.getElem_cons_zero, Act.put, List.setIfInBounds_toArray, List.set_cons_zero, List.set_cons_succ]
    refine wpAnyH_take (i := 4) (v := (.pointer (some ⟨w.heap.size, 4, none⟩))) rfl (by kernel_rfl) (by kernel_rfl) (by kernel_rfl) (fun _ _ _ h => h) (Or.inl ⟨by rfl, ?_⟩) (by assumption) ?_
    · intro w' hSw
      go_simp
    simp only [List.getElem_toArray, List.getElem_cons_succ, List.getElem_cons_zero, Act.put, List.setIfInBounds_toArray, List.set_cons_zero, List.set_cons_succ]
    refine wpAnyH_take (i := 5) (v := (.int .i64 L)) rfl (by kernel_rfl) (by kernel_rfl) (by kernel_rfl) (fun _ _ _ h => h) (Or.inl ⟨by rfl, ?_⟩) (by assumption) ?_
    · intro w' hSw
      have c0 : w'.cell? ⟨w.heap.size, 4, none⟩ = some (.int .i64 L) := hSw.cell 4 rfl
      go_simp
    simp only [List.getElem_toArray, List.getElem_cons_succ, List.getElem_cons_zero, Act.put, List.setIfInBounds_toArray, List.set_cons_zero, List.set_cons_succ]
    refine wpAnyH_take (i := 6) (v := (.int .i64 (m : Int))) rfl (by kernel_rfl) (by kernel_rfl) (by kernel_rfl) (fun _ _ _ h => h) (Or.inl ⟨by rfl, ?_⟩) (by assumption) ?_
    · intro w' hSw
      (go_simp; have hmx := HMX.out; split <;> omega)
    simp only [List.getElem_toArray, List.getElem_cons_succ, List.getElem_cons_zero, Act.put, List.setIfInBounds_toArray, List.set_cons_zero, List.set_cons_succ]
    refine wpAnyH_take (i := 7) (v := (.pointer (some ⟨w.heap.size, 1, none⟩))) rfl (by kernel_rfl) (by kernel_rfl) (by kernel_rfl) (fun _ _ _ h => h) (Or.inl ⟨by rfl, ?_⟩) (by assumption) ?_
    · intro w' hSw
      go_simp
    simp only [List.getElem_toArray, List.getElem_cons_succ, List.getElem_cons_zero, Act.put, List.setIfInBounds_toArray, List.set_cons_zero, List.set_cons_succ]
    refine wpAnyH_take (i := 8) (v := (.int .i64 D)) rfl (by kernel_rfl) (by kernel_rfl) (by kernel_rfl) (fun _ _ _ h => h) (Or.inl ⟨by rfl, ?_⟩) (by assumption) ?_
    · intro w' hSw
      have c0 : w'.cell? ⟨w.heap.size, 1, none⟩ = some (.int .i64 D) := hSw.cell 1 rfl
      go_simp
    simp only [List.getElem_toArray, List.getElem_cons_succ, List.getElem_cons_zero, Act.put, List.setIfInBounds_toArray, List.set_cons_zero, List.set_cons_succ]
    refine wpAnyH_take (i := 9) (v := (.int .i64 (d : Int))) rfl (by kernel_rfl) (by kernel_rfl) (by kernel_rfl) (fun _ _ _ h => h) (Or.inl ⟨by rfl, ?_⟩) (by assumption) ?_
    · intro w' hSw
      (go_simp; have hmx := HMX.out; split <;> omega)
    simp only [List.getElem_toArray, List.getElem_cons_succ, List.getElem_cons_zero, Act.put, List.setIfInBounds_toArray, List.set_cons_zero, List.set_cons_succ]
    refine wpAnyH_ready (rs := [10]) (by kernel_rfl) (by simp) ?_
    refine AllReadyH.cons rfl (fun Kc hKc => ?_) AllReadyH.nil
    simp only [List.getElem_toArray, List.getElem_cons_succ, List.getElem_cons_zero]
    rw [if_pos (by rfl)]
    go_wp2_with fail
    refine hKc.out _ _ Y0 (fun hHeld => ?_)
    clear hKc Kc
    refine wpAnyH_ready (rs := [11]) (by kernel_rfl) (by simp) ?_
    refine AllReadyH.cons rfl (fun Kc hKc => ?_) AllReadyH.nil
    simp only [List.getElem_toArray, List.getElem_cons_succ, List.getElem_cons_zero]
    rw [if_pos (by rfl)]
    go_wp2_with fail
    refine hKc.out _ _ Y0 (fun hHeld => ?_)
    clear hKc Kc
    refine wpAnyH_ready (rs := [12]) (by kernel_rfl) (by simp) ?_
    refine AllReadyH.cons rfl (fun Kc hKc => ?_) AllReadyH.nil
    simp only [List.getElem_toArray, List.getElem_cons_succ, List.getElem_cons_zero]
    rw [if_pos (by rfl)]
    go_wp2_with fail
    refine hKc.out _ _ Y0 (fun hHeld => ?_)
    clear hKc Kc
    refine wpAnyH_done (by kernel_rfl) ?_ _
    by_cases h4 : 4 < m
    · have HR : Hid (RS = (6, noPg)) := by show _ = _; rw [HRD.out, if_pos (Or.inl h4)]
      have h4' : (4 : Int) < (m : Int) := by omega
      obtain ⟨hlr, BF⟩ := HSE.out wA Y1 D4
      go_wp2_with (refine wpList_store_row rfl 47 _ _ rfl (w.heap.size + 1) noP rfl rfl 47 _ Y1 (by exact Try.infoPg) rfl (by simp [noP, Value.oneCell']) ?_)
      refine bodyPost_ret (results_cBt (by rfl) _ _ _ _ rfl hlr) rfl ?_
      refine ⟨⟨⟨none, 0, 0⟩, 0, ⟨none, 0, 0⟩, ⟨none, 0, 0⟩⟩, by rw [HR.out]; rfl, fun w9 _ => ?_, BF⟩
      rw [HR.out]
      exact noPg_at w9
    · by_cases h5 : 32 < d
      · have HR : Hid (RS = (6, noPg)) := by show _ = _; rw [HRD.out, if_pos (Or.inr (Or.inl h5))]
        have h4' : ¬ (4 : Int) < (m : Int) := by omega
        have h5' : (32 : Int) < (d : Int) := by omega
        obtain ⟨hlr, BF⟩ := HSE.out wA Y1 D4
        go_wp2_with (refine wpList_store_row rfl 47 _ _ rfl (w.heap.size + 1) noP rfl rfl 47 _ Y1 (by exact Try.infoPg) rfl (by simp [noP, Value.oneCell']) ?_)
        refine bodyPost_ret (results_cBt (by rfl) _ _ _ _ rfl hlr) rfl ?_
        refine ⟨⟨⟨none, 0, 0⟩, 0, ⟨none, 0, 0⟩, ⟨none, 0, 0⟩⟩, by rw [HR.out]; rfl, fun w9 _ => ?_, BF⟩
        rw [HR.out]
        exact noPg_at w9
      · obtain ⟨q2, hq2⟩ : ∃ q2, 8 * P * m = q2 := ⟨_, rfl⟩
        obtain ⟨q3, hq3⟩ : ∃ q3, q2 * d = q3 := ⟨_, rfl⟩
        have b2 : q2 ≤ 8160 := by rw [← hq2]; exact Nat.le_trans (Nat.mul_le_mul (by omega : 8 * P ≤ 2040) (by omega : m ≤ 4)) (by decide)
        have b3 : q3 ≤ 261120 := by rw [← hq3]; exact Nat.le_trans (Nat.mul_le_mul b2 (by omega : d ≤ 32)) (by decide)
        have w2' : IntKind.i64.wrap (8 * (P : Int) * (m : Int)) = (q2 : Int) := by rw [show (8 * (P : Int) * (m : Int)) = (q2 : Int) by rw [← hq2]; push_cast; rfl]; exact wrap_in (by omega)
        have w3' : IntKind.i64.wrap ((q2 : Int) * (d : Int)) = (q3 : Int) := by rw [show ((q2 : Int) * (d : Int)) = (q3 : Int) by rw [← hq3]; push_cast; rfl]; exact wrap_in (by omega)
        have HRE : Hid (RS = if n ≠ q3 then (6, noPg) else if ckN Vo D L (pgT m d t f r) = 0 then (0, pgT m d t f r) else (ckN Vo D L (pgT m d t f r), noPg)) := by
          show _ = _
          rw [HRD.out, hq2, hq3]
          by_cases hz : n = q3
          · rw [if_neg (by omega), if_neg (show ¬ (n ≠ q3) by omega)]
          · rw [if_pos (Or.inr (Or.inr hz)), if_pos hz]
        have HQ : Hid (8 * P * m * d = q3) := by show _ = _; rw [hq2, hq3]
        have h4' : ¬ (4 : Int) < (m : Int) := by omega
        have h5' : ¬ (32 : Int) < (d : Int) := by omega
        clear hq2 hq3 HRD
        by_cases hz : n = q3
        · subst hz
          have HRF : Hid (RS = if ckN Vo D L (pgT m d t f r) = 0 then (0, pgT m d t f r) else (ckN Vo D L (pgT m d t f r), noPg)) := by show _ = _; rw [HRE.out, if_neg (by omega)]
          clear HRE
          have HX : Hid (pgT m d t f r = ⟨(r.take t).map fun b => (b.toNat : Int), f, cubeT (r.drop t) m P d, cubeT ((r.drop t).drop (4 * (m * (P * d)))) m P d⟩) := by
            show _ = _
            unfold pgT
            rw [HPP.out]
          have hm4 : m ≤ 4 := by omega
          have hd32 : d ≤ 32 := by omega
          generalize pgT m d t f r = X at *
          have hmk := run_make_row' (P := Try.prog) 24 3 (.int .i64 0) 8 Try.underlying24 Try.infoInt1 rfl .i64 .i64 t (by omega) (by omega) wA
          have B5 : Below wA.heap.size wA (wA.alloc (.cells (madeCells #[.int .i64 0] t) 3)) := (Below.refl _ _).alloc (Nat.le_refl _) _
          have TF5 : TF (wA.alloc (.cells (madeCells #[.int .i64 0] t) 3)) wA.heap.size t 0 (fun j => ((r.getD j 0).toNat : Int)) := ⟨_, blk_new wA _ _, by simp [madeCells], fun j hj => by omega⟩
          have s5 : (wA.alloc (.cells (madeCells #[.int .i64 0] t) 3)).heap.size = wA.heap.size + 1 := by simp
          generalize hw5 : wA.alloc (.cells (madeCells #[.int .i64 0] t) 3) = w5 at *
          have XZ := blk_new w5 47 #[.slice none 0 0, .int .i64 0, .slice none 0 0, .slice none 0 0]
          have B6 : Below w5.heap.size w5 (w5.alloc (.cells #[.slice none 0 0, .int .i64 0, .slice none 0 0, .slice none 0 0] 47)) := (Below.refl _ _).alloc (Nat.le_refl _) _
          rw [s5] at XZ
          generalize hw6 : w5.alloc (.cells #[.slice none 0 0, .int .i64 0, .slice none 0 0, .slice none 0 0] 47) = w6 at *
          have XP := XZ.row #[.slice (some ⟨wA.heap.size, 0, none⟩) t t, .int .i64 (f : Int), .slice none 0 0, .slice none 0 0]
          have B7 := below_setRow (below_then B5 B6) (by omega : wA.heap.size ≤ wA.heap.size + 1) #[.slice (some ⟨wA.heap.size, 0, none⟩) t t, .int .i64 (f : Int), .slice none 0 0, .slice none 0 0]
          have TF7 := (TF5.blk (B6.block _ TF5.lt)).blk (setRow_other w6 (wA.heap.size + 1) wA.heap.size #[.slice (some ⟨wA.heap.size, 0, none⟩) t t, .int .i64 (f : Int), .slice none 0 0, .slice none 0 0] (by omega))
          generalize hw7 : w6.setRow (wA.heap.size + 1) #[.slice (some ⟨wA.heap.size, 0, none⟩) t t, .int .i64 (f : Int), .slice none 0 0, .slice none 0 0] = w7 at *
          go_upto_region 12 with (refine wpList_store_row rfl 47 _ _ rfl (wA.heap.size + 1) #[.slice (some ⟨wA.heap.size, 0, none⟩) t t, .int .i64 (f : Int), .slice none 0 0, .slice none 0 0] rfl rfl 47 _ XZ (by exact Try.infoPg) rfl (by simp [Value.oneCell']) ?_; rw [hw7])
          have Z0 := Y0.below B7
          have Z1 := Y1.below B7
          have Z4 := Y4.below B7
          have D7 := below_then D4 B7
          clear hmk B5 TF5 s5 hw5 XZ B6 hw6 B7 hw7 Y0 Y1 Y4 D4
          obtain ⟨gT, hgT⟩ : ∃ gT, wA.heap.size = gT := ⟨_, rfl⟩
          rw [hgT] at XP TF7 sd hcd ⊢
          have b0 : w7.cell? ⟨gT + 1, 0, none⟩ = some (.slice (some ⟨gT, 0, none⟩) t t) := XP.cell 0 rfl
          clear hgT
          go_wp2_with fail
          clear b0
          go_loopg [70] t (fun rr s70 wr => ∃ k : Nat, k ≤ t ∧ rr = t - k ∧ s70 = .int .i64 (k : Int) ∧ TF wr gT t k (fun j => ((r.getD j 0).toNat : Int)) ∧ Blk wr (gT + 1) 47 #[.slice (some ⟨gT, 0, none⟩) t t, .int .i64 (f : Int), .slice none 0 0, .slice none 0 0] ∧ Blk wr w.heap.size 23 #[.int .i64 Vo, .int .i64 D, .int .i64 Hd, .int .i64 H, .int .i64 L] ∧ Blk wr (w.heap.size + 1) 47 noP ∧ Blk wr c 9 #[.string (txt (r.drop k))] ∧ Below w.heap.size w wr)
          case atStart => exact ⟨0, by omega, by omega, rfl, TF7, XP, Z0, Z1, by rw [List.drop_zero]; exact Z4, D7⟩
          case round =>
            clear TF7 XP Z0 Z1 Z4 D7
            obtain ⟨k, hk, rfl, rfl, TF7, XP, Z0, Z1, Z4, D7⟩ := hrel
            by_cases hkt : k < t
            · have hkr : k < r.length := by have := HNR.out; omega
              have hdr : r.drop k = r.getD k 0 :: r.drop (k + 1) := by
                rw [List.drop_eq_getElem_cons hkr, List.getD_eq_getElem?_getD, List.getElem?_eq_getElem hkr]; rfl
              rw [hdr] at Z4
              have HB9 : Hid (((r.getD k 0).toNat : Int) = (fun j => ((r.getD j 0).toNat : Int)) k) := rfl
              generalize r.getD k 0 = bb at *
              have hbb := bb.toNat_lt
              clear hdr
              have hgl := TF7.lt
              have hpl := XP.lt
              have D7s := D7.size
              go_upto_region 15 with fail
              have BD : Below wr.heap.size wr wr.drew := (Below.refl _ wr).drew
              have XPd := XP.below BD
              have TFd := TF7.blk (BD.block _ TF7.lt)
              have Z0d := Z0.below BD
              have Z1d := Z1.below BD
              have Z4d := Z4.below BD
              have Dd := below_then D7 BD
              refine wp_region_held_drew (S := fun w' => Blk w' (gT + 1) 47 #[.slice (some ⟨gT, 0, none⟩) t t, .int .i64 (f : Int), .slice none 0 0, .slice none 0 0]) (by kernel_rfl) (XPd) (fun hHeld => ?_)
              have gd : gT < wr.drew.heap.size := hgl
              have pd : gT + 1 < wr.drew.heap.size := hpl
              generalize hA : wr.drew = wd at *
              clear hA XP TF7 Z0 Z1 Z4 D7 BD
              refine wpAnyH_take (i := 0) (v := (.pointer (some ⟨gT + 1, 0, none⟩))) rfl (by kernel_rfl) (by kernel_rfl) (by kernel_rfl) (fun _ _ _ h => h) (Or.inl ⟨by rfl, ?_⟩) (by assumption) ?_
              · intro w' hSw
                go_simp
              simp only [List.getElem_toArray, List.getElem_cons_zero, Act.put, List.setIfInBounds_toArray, List.set_cons_zero, List.set_cons_succ]
              refine wpAnyH_take (i := 1) (v := (.slice (some ⟨gT, 0, none⟩) t t)) rfl (by kernel_rfl) (by kernel_rfl) (by kernel_rfl) (fun _ _ _ h => h) (Or.inl ⟨by rfl, ?_⟩) (by assumption) ?_
              · intro w' hSw
                have c0 : w'.cell? ⟨gT + 1, 0, none⟩ = some (.slice (some ⟨gT, 0, none⟩) t t) := hSw.cell 0 rfl
                go_simp
              simp only [List.getElem_toArray, List.getElem_cons_succ, List.getElem_cons_zero, Act.put, List.setIfInBounds_toArray, List.set_cons_zero, List.set_cons_succ]
              refine wpAnyH_take (i := 2) (v := (.int .i64 (k : Int))) rfl (by kernel_rfl) (by kernel_rfl) (by kernel_rfl) (fun _ _ _ h => h) (Or.inl ⟨by rfl, ?_⟩) (by assumption) ?_
              · intro w' hSw
                go_simp
              simp only [List.getElem_toArray, List.getElem_cons_succ, List.getElem_cons_zero, Act.put, List.setIfInBounds_toArray, List.set_cons_zero, List.set_cons_succ]
              refine wpAnyH_take (i := 3) (v := (.func (.func 52) #[] #[.pointer (some ⟨c, 0, none⟩)])) rfl (by kernel_rfl) (by kernel_rfl) (by kernel_rfl) (fun _ _ _ h => h) (Or.inl ⟨by rfl, ?_⟩) (by assumption) ?_
              · intro w' hSw
                go_simp
              simp only [List.getElem_toArray, List.getElem_cons_succ, List.getElem_cons_zero, Act.put, List.setIfInBounds_toArray, List.set_cons_zero, List.set_cons_succ]
              refine wpAnyH_ready (rs := [4]) (by kernel_rfl) (by simp) ?_
              refine AllReadyH.cons rfl (fun Kc hKc => ?_) AllReadyH.nil
              simp only [List.getElem_toArray, List.getElem_cons_succ, List.getElem_cons_zero]
              rw [if_pos (by rfl)]
              go_wp2_with fail
              refine (take1_one c bb (r.drop (k + 1)) wd Z4d).mono ?_
              rintro e w8 ⟨rfl, Z48, K8⟩
              have XP8 := XPd.but K8 (by omega)
              have TF8 := TFd.blk (K8.block gT gd (by omega))
              have Z08 := Z0d.but K8 (by omega)
              have Z18 := Z1d.but K8 (by omega)
              have D8 := below_but Dd K8 (by omega) Dd.size
              go_wp2_with fail
              refine hKc.out _ _ (XP8) (fun hHeld => ?_)
              clear hKc Kc
              refine wpAnyH_ready (rs := [5]) (by kernel_rfl) (by simp) ?_
              refine AllReadyH.cons rfl (fun Kc hKc => ?_) AllReadyH.nil
              simp only [List.getElem_toArray, List.getElem_cons_succ, List.getElem_cons_zero]
              rw [if_pos (by rfl)]
              go_wp2_with fail
              refine hKc.out _ _ XP8 (fun hHeld => ?_)
              clear hKc Kc
              obtain ⟨⟨u9, q9⟩, fz9⟩ := TF8.cell hkt
              refine wpAnyH_ready (rs := [6]) (by kernel_rfl) (by simp) ?_
              refine AllReadyH.cons rfl (fun Kc hKc => ?_) AllReadyH.nil
              simp only [List.getElem_toArray, List.getElem_cons_succ, List.getElem_cons_zero]
              rw [if_pos (by rfl)]
              go_wp2_with fail
              refine hKc.out _ _ XP8 (fun hHeld => ?_)
              clear hKc Kc
              refine wpAnyH_ready (rs := [7]) (by kernel_rfl) (by simp) ?_
              refine AllReadyH.cons rfl (fun Kc hKc => ?_) AllReadyH.nil
              simp only [List.getElem_toArray, List.getElem_cons_succ, List.getElem_cons_zero]
              rw [if_pos (by rfl)]
              have XP9 := XP8.of_block (Below.heap_setCell w8 ⟨gT, k, none⟩ (.int .i64 (bb.toNat : Int)) (gT + 1) (by show gT + 1 ≠ gT; omega))
              go_wp2_with fail
              refine hKc.out _ _ XP9 (fun hHeld => ?_)
              clear hKc Kc
              refine wpAnyH_done (by kernel_rfl) ?_ _
              have TF9 := TF8.step hkt
              rw [← HB9.out] at TF9
              go_wp2_with fail
              go_roundg (t - (k + 1))
              case measure => omega
              case rel => exact ⟨k + 1, by omega, rfl, by go_num, TF9, XP9, Z08.of_block (Below.heap_setCell _ _ _ _ (by show _ ≠ gT; omega)), Z18.of_block (Below.heap_setCell _ _ _ _ (by show _ ≠ gT; omega)), Z48.of_block (Below.heap_setCell _ _ _ _ (by show _ ≠ gT; omega)), Below.setCell (p := ⟨gT, k, none⟩) D8 (by show w.heap.size ≤ gT; omega) _⟩
            · obtain rfl : t = k := by omega
              obtain ⟨cs, tb1, tb2, tb3⟩ := TF7.row
              have hpl := XP.lt
              have D7s := D7.size
              have Q1 := takeLists_any c (r.drop t) m P d wr Z4 (by omega) (by omega) (by omega)
              go_wp2_with fail
              refine Q1.mono ?_
              clear Q1
              rintro e w8 ⟨gK, rfl, NK, Z4', K8⟩
              have Q2 := takeLists_any c _ m P d w8 Z4' (by omega) (by omega) (by omega)
              go_wp2_with fail
              refine Q2.mono ?_
              clear Q2
              rintro e w9 ⟨gV, rfl, NV, Z4'', K9⟩
              have KK := K8.trans K9
              have hs8 := K8.size
              have hs9 := K9.size
              have XP9 := XP.but KK (by omega)
              have Z09 := Z0.but KK (by omega)
              have Z19 := Z1.but KK (by omega)
              have D9 := below_but D7 KK (by omega) D7s
              have TF9 := TF7.blk (KK.block gT TF7.lt (by omega))
              have hgl := TF7.lt
              have NK9 : Hangs (fun b => wr.heap.size ≤ b) w9 (fun w => CubeAt w (some ⟨gK, 0, none⟩) m (cubeT (r.drop t) m P d)) := NK.turn ⟨hs9, fun b hb hp => ⟨hp, K9.block b hb (by have : wr.heap.size ≤ b := hp; omega)⟩⟩
              have NV9 : Hangs (fun b => wr.heap.size ≤ b) w9 (fun w => CubeAt w (some ⟨gV, 0, none⟩) m (cubeT ((r.drop t).drop (4 * (m * (P * d)))) m P d)) := Hangs.mono NV fun b _ h => by have h' : w8.heap.size ≤ b := h; show wr.heap.size ≤ b; omega
              clear Z4 Z4' Z4'' K8 K9 KK NK NV Z0 Z1 XP TF7 tb1 tb2 tb3
              have c2 : w9.cell? ⟨gT + 1, 2, none⟩ = some (.slice none 0 0) := XP9.cell 2 rfl
              have f2 := XP9.frozen 2
              have XPa := XP9.set 2 (.slice (some ⟨gK, 0, none⟩) m m)
              have c3 : (w9.setCell ⟨gT + 1, 2, none⟩ (.slice (some ⟨gK, 0, none⟩) m m)).cell? ⟨gT + 1, 3, none⟩ = some (.slice none 0 0) := XPa.cell 3 rfl
              have f3 := XPa.frozen 3
              have XPb := XPa.set 3 (.slice (some ⟨gV, 0, none⟩) m m)
              have oth : ∀ b, b ≠ gT + 1 → ((w9.setCell ⟨gT + 1, 2, none⟩ (.slice (some ⟨gK, 0, none⟩) m m)).setCell ⟨gT + 1, 3, none⟩ (.slice (some ⟨gV, 0, none⟩) m m)).heap[b]? = w9.heap[b]? := fun b hb => by rw [Below.heap_setCell _ _ _ b hb, Below.heap_setCell _ _ _ b hb]
              have sza : ((w9.setCell ⟨gT + 1, 2, none⟩ (.slice (some ⟨gK, 0, none⟩) m m)).setCell ⟨gT + 1, 3, none⟩ (.slice (some ⟨gV, 0, none⟩) m m)).heap.size = w9.heap.size := by simp [World.setCell]
              have Da : Below w.heap.size w ((w9.setCell ⟨gT + 1, 2, none⟩ (.slice (some ⟨gK, 0, none⟩) m m)).setCell ⟨gT + 1, 3, none⟩ (.slice (some ⟨gV, 0, none⟩) m m)) := Below.setCell (p := ⟨gT + 1, 3, none⟩) (Below.setCell (p := ⟨gT + 1, 2, none⟩) D9 (by show w.heap.size ≤ gT + 1; omega) _) (by show w.heap.size ≤ gT + 1; omega) _
              have Z0a := Z09.of_block (oth _ (by omega))
              have Z1a := Z19.of_block (oth _ (by omega))
              have TFa := TF9.blk (oth gT (by omega))
              have NKa := NK9.turn (p' := fun b => wr.heap.size ≤ b) (w' := (w9.setCell ⟨gT + 1, 2, none⟩ (.slice (some ⟨gK, 0, none⟩) m m)).setCell ⟨gT + 1, 3, none⟩ (.slice (some ⟨gV, 0, none⟩) m m)) ⟨by rw [sza]; exact Nat.le_refl _, fun b hb hp => ⟨hp, oth b (by have : wr.heap.size ≤ b := hp; omega)⟩⟩
              have NVa := NV9.turn (p' := fun b => wr.heap.size ≤ b) (w' := (w9.setCell ⟨gT + 1, 2, none⟩ (.slice (some ⟨gK, 0, none⟩) m m)).setCell ⟨gT + 1, 3, none⟩ (.slice (some ⟨gV, 0, none⟩) m m)) ⟨by rw [sza]; exact Nat.le_refl _, fun b hb hp => ⟨hp, oth b (by have : wr.heap.size ≤ b := hp; omega)⟩⟩
              replace XPb : Blk ((w9.setCell ⟨gT + 1, 2, none⟩ (.slice (some ⟨gK, 0, none⟩) m m)).setCell ⟨gT + 1, 3, none⟩ (.slice (some ⟨gV, 0, none⟩) m m)) (gT + 1) 47 #[.slice (some ⟨gT, 0, none⟩) t t, .int .i64 (f : Int), .slice (some ⟨gK, 0, none⟩) m m, .slice (some ⟨gV, 0, none⟩) m m] := XPb
              go_upto_region 18 with fail
              clear c2 f2 c3 f3 XPa XP9 Z09 Z19 TF9 NK9 NV9 D9 oth sza
              generalize (w9.setCell ⟨gT + 1, 2, none⟩ (.slice (some ⟨gK, 0, none⟩) m m)).setCell ⟨gT + 1, 3, none⟩ (.slice (some ⟨gV, 0, none⟩) m m) = wa at *
              have HPG : Hid (∀ wv, (∀ b, w.heap.size + 2 < b → b < wa.heap.size → wv.heap[b]? = wa.heap[b]?) → PgAt wv ⟨⟨some ⟨gT, 0, none⟩, t, t⟩, (f : Int), ⟨some ⟨gK, 0, none⟩, m, m⟩, ⟨some ⟨gV, 0, none⟩, m, m⟩⟩ X) := fun wv hv => by
                rw [HX.out]
                refine ⟨?_, rfl, NKa wv (fun b hp hb => hv b (by have : wr.heap.size ≤ b := hp; omega) hb), NVa wv (fun b hp hb => hv b (by have : wr.heap.size ≤ b := hp; omega) hb)⟩
                refine (TFa.blk (hv gT (by omega) TFa.lt)).arg (by omega) (fun j => by have := (r.getD j 0).toNat_lt; omega) (by rw [List.length_map, List.length_take]; have := HNR.out; omega) (fun j hj => ?_)
                unfold el
                rw [List.getD_eq_getElem?_getD, List.getElem?_map, List.getElem?_take_of_lt hj, List.getElem?_eq_getElem (by have := HNR.out; omega), List.getD_eq_getElem?_getD, List.getElem?_eq_getElem (by have := HNR.out; omega)]
                rfl
              have HXF : Hid (X.F = (f : Int)) := by show _ = _; rw [HX.out]
              have CKx := CK _ X wa (HPG.out wa (fun _ _ _ => rfl)) (by rw [HXF.out]; omega)
              rw [show PgV.cells ⟨⟨some ⟨gT, 0, none⟩, t, t⟩, (f : Int), ⟨some ⟨gK, 0, none⟩, m, m⟩, ⟨some ⟨gV, 0, none⟩, m, m⟩⟩ = #[.slice (some ⟨gT, 0, none⟩) t t, .int .i64 (f : Int), .slice (some ⟨gK, 0, none⟩) m m, .slice (some ⟨gV, 0, none⟩) m m] from rfl] at CKx
              clear NKa NVa TFa HX CK
              generalize ckN Vo D L X = cn at *
              have a0 : wa.cell? ⟨w.heap.size, 0, none⟩ = some (.int .i64 Vo) := Z0a.cell 0 rfl
              have a1 : wa.cell? ⟨w.heap.size, 1, none⟩ = some (.int .i64 D) := Z0a.cell 1 rfl
              have a2 : wa.cell? ⟨w.heap.size, 2, none⟩ = some (.int .i64 Hd) := Z0a.cell 2 rfl
              have a3 : wa.cell? ⟨w.heap.size, 3, none⟩ = some (.int .i64 H) := Z0a.cell 3 rfl
              have a4 : wa.cell? ⟨w.heap.size, 4, none⟩ = some (.int .i64 L) := Z0a.cell 4 rfl
              have b0 : wa.cell? ⟨gT + 1, 0, none⟩ = some (.slice (some ⟨gT, 0, none⟩) t t) := XPb.cell 0 rfl
              have b1 : wa.cell? ⟨gT + 1, 1, none⟩ = some (.int .i64 (f : Int)) := XPb.cell 1 rfl
              have b2' : wa.cell? ⟨gT + 1, 2, none⟩ = some (.slice (some ⟨gK, 0, none⟩) m m) := XPb.cell 2 rfl
              have b3' : wa.cell? ⟨gT + 1, 3, none⟩ = some (.slice (some ⟨gV, 0, none⟩) m m) := XPb.cell 3 rfl
              go_wp2_with fail
              refine CKx.mono ?_
              rintro e wb ⟨rfl, Bb⟩
              have Z1b := Z1a.below Bb
              have XPc := XPb.below Bb
              have Db := below_then Da Bb
              have hss := Bb.size
              clear CKx a0 a1 a2 a3 a4 b0 b1 b2' b3' Z0a Z1a XPb Da
              by_cases hc0 : cn = 0
              · subst hc0
                have HR : Hid (RS = (0, X)) := by show _ = _; rw [HRF.out, if_pos rfl]
                have b0 : wb.cell? ⟨gT + 1, 0, none⟩ = some (.slice (some ⟨gT, 0, none⟩) t t) := XPc.cell 0 rfl
                have b1 : wb.cell? ⟨gT + 1, 1, none⟩ = some (.int .i64 (f : Int)) := XPc.cell 1 rfl
                have b2' : wb.cell? ⟨gT + 1, 2, none⟩ = some (.slice (some ⟨gK, 0, none⟩) m m) := XPc.cell 2 rfl
                have b3' : wb.cell? ⟨gT + 1, 3, none⟩ = some (.slice (some ⟨gV, 0, none⟩) m m) := XPc.cell 3 rfl
                have hlr : (loadVar 47 ⟨w.heap.size + 1, 0, none⟩).run Try.prog (wb.setRow (w.heap.size + 1) #[.slice (some ⟨gT, 0, none⟩) t t, .int .i64 (f : Int), .slice (some ⟨gK, 0, none⟩) m m, .slice (some ⟨gV, 0, none⟩) m m]) = .ok (.agg #[.slice (some ⟨gT, 0, none⟩) t t, .int .i64 (f : Int), .slice (some ⟨gK, 0, none⟩) m m, .slice (some ⟨gV, 0, none⟩) m m]) (wb.setRow (w.heap.size + 1) #[.slice (some ⟨gT, 0, none⟩) t t, .int .i64 (f : Int), .slice (some ⟨gK, 0, none⟩) m m, .slice (some ⟨gV, 0, none⟩) m m]) := load_pg (Z1b.row _) rfl
                have BF := below_setRow Db (by omega : w.heap.size ≤ w.heap.size + 1) #[.slice (some ⟨gT, 0, none⟩) t t, .int .i64 (f : Int), .slice (some ⟨gK, 0, none⟩) m m, .slice (some ⟨gV, 0, none⟩) m m]
                go_wp2_with (refine wpList_store_row rfl 47 _ _ rfl (w.heap.size + 1) #[.slice (some ⟨gT, 0, none⟩) t t, .int .i64 (f : Int), .slice (some ⟨gK, 0, none⟩) m m, .slice (some ⟨gV, 0, none⟩) m m] rfl rfl 47 _ Z1b (by exact Try.infoPg) rfl (by simp [Value.oneCell']) ?_)
                refine bodyPost_ret (results_cBt (by rfl) _ _ _ _ rfl hlr) rfl ?_
                refine ⟨⟨⟨some ⟨gT, 0, none⟩, t, t⟩, (f : Int), ⟨some ⟨gK, 0, none⟩, m, m⟩, ⟨some ⟨gV, 0, none⟩, m, m⟩⟩, by rw [HR.out]; rfl, fun wv hv => ?_, BF⟩
                rw [HR.out]
                refine HPG.out wv (fun b h1 h2 => ?_)
                rw [hv b (by show w.heap.size ≤ b; omega) (by rw [show (wb.setRow (w.heap.size + 1) #[.slice (some ⟨gT, 0, none⟩) t t, .int .i64 (f : Int), .slice (some ⟨gK, 0, none⟩) m m, .slice (some ⟨gV, 0, none⟩) m m]).heap.size = wb.heap.size by simp [World.setRow]]; omega), setRow_other _ _ _ _ (by omega)]
                exact Bb.block b h2
              · have HR : Hid (RS = (cn, noPg)) := by show _ = _; rw [HRF.out, if_neg hc0]
                have hc0' : (cn == 0) = false := by simpa using hc0
                obtain ⟨hlr, BF⟩ := HSE.out wb Z1b Db
                go_wp2_with (refine wpList_store_row rfl 47 _ _ rfl (w.heap.size + 1) noP rfl rfl 47 _ Z1b (by exact Try.infoPg) rfl (by simp [noP, Value.oneCell']) ?_)
                refine bodyPost_ret (results_cBt (by rfl) _ _ _ _ rfl hlr) rfl ?_
                refine ⟨⟨⟨none, 0, 0⟩, 0, ⟨none, 0, 0⟩, ⟨none, 0, 0⟩⟩, by rw [HR.out]; rfl, fun w9 _ => ?_, BF⟩
                rw [HR.out]
                exact noPg_at w9
        · have HR : Hid (RS = (6, noPg)) := by show _ = _; rw [HRE.out, if_pos hz]
          have hz' : ((n : Int) == (q3 : Int)) = false := by simp; omega
          have hz2 : ¬ (n : Int) = (q3 : Int) := by omega
          obtain ⟨hlr, BF⟩ := HSE.out wA Y1 D4
          go_wp2_with (refine wpList_store_row rfl 47 _ _ rfl (w.heap.size + 1) noP rfl rfl 47 _ Y1 (by exact Try.infoPg) rfl (by simp [noP, Value.oneCell']) ?_)
          refine bodyPost_ret (results_cBt (by rfl) _ _ _ _ rfl hlr) rfl ?_
          refine ⟨⟨⟨none, 0, 0⟩, 0, ⟨none, 0, 0⟩, ⟨none, 0, 0⟩⟩, by rw [HR.out]; rfl, fun w9 _ => ?_, BF⟩
          rw [HR.out]
          exact noPg_at w9
end Go.Proofs.Ytpplnjmjldhlbaa

/- Package block: what is written reads back. -/
namespace Go.Proofs.Ytpplnjmjldhlbaa
open Go.ChangeShapes Go.WideShapes Go.ChangeAt Go.RowKit
theorem byteOf_nat (x : Int) : (byteOf x).toNat = (x % 256).toNat := by
  have := byteOf_toNat x
  omega
theorem back_num (x : Int) (h : -2147483648 ≤ x ∧ x ≤ 2147483647) : toI (valB (numB x)) = x := by
  have e : valB (numB x) = ((((byteOf (x / 16777216)).toNat) * 256 + (byteOf (x / 65536)).toNat) * 256 + (byteOf (x / 256)).toNat) * 256 + (byteOf x).toNat := by
    show ((((0 * 256 + (byteOf (x / 16777216)).toNat) * 256 + (byteOf (x / 65536)).toNat) * 256 + (byteOf (x / 256)).toNat) * 256 + (byteOf x).toNat) = _
    rw [Nat.zero_mul, Nat.zero_add]
  rw [e, byteOf_nat, byteOf_nat, byteOf_nat, byteOf_nat]
  unfold toI
  simp [IntKind.wrap, IntKind.bits, IntKind.signed]
  omega
theorem drop_flat (rest : List UInt8) : ∀ (ns : List Int) (q : Nat), q ≤ ns.length → (ns.flatMap numB ++ rest).drop (4 * q) = (ns.drop q).flatMap numB ++ rest
  | ns, 0, _ => by simp
  | [], q + 1, h => by simp at h
  | x :: ns, q + 1, h => by
    have ih := drop_flat rest ns q (by simpa using h)
    rw [List.flatMap_cons, List.append_assoc, show 4 * (q + 1) = (numB x).length + 4 * q by show _ = 4 + 4 * q; omega, ← List.drop_drop, List.drop_left, List.drop_succ_cons]
    exact ih
theorem num_flat (rest : List UInt8) (ns : List Int) (q : Nat) (hq : q < ns.length) (hs : -2147483648 ≤ el ns q ∧ el ns q ≤ 2147483647) : numAt (ns.flatMap numB ++ rest) q = el ns q := by
  have e : ns.drop q = el ns q :: ns.drop (q + 1) := by
    rw [List.drop_eq_getElem_cons hq]
    unfold el
    rw [List.getD_eq_getElem?_getD, List.getElem?_eq_getElem hq]
    rfl
  unfold numAt
  rw [drop_flat rest ns q (by omega), e, List.flatMap_cons, List.append_assoc, List.take_left' (by rfl)]
  exact back_num _ hs
theorem el_left {A B : List Int} {k : Nat} (h : k < A.length) : el (A ++ B) k = el A k := by
  unfold el
  rw [List.getD_eq_getElem?_getD, List.getD_eq_getElem?_getD, List.getElem?_append_left h]
theorem el_right {A B : List Int} {k : Nat} (h : A.length ≤ k) : el (A ++ B) k = el B (k - A.length) := by
  unfold el
  rw [List.getD_eq_getElem?_getD, List.getD_eq_getElem?_getD, List.getElem?_append_right h]
theorem flat_length (d : Nat) : ∀ R : List (List Int), (∀ r ∈ R, r.length = d) → R.flatten.length = R.length * d
  | [], _ => by simp
  | r :: R, h => by
    rw [List.flatten_cons, List.length_append, flat_length d R (fun x hx => h x (List.mem_cons_of_mem _ hx)), h r List.mem_cons_self, List.length_cons, Nat.succ_mul]
    omega
theorem el_flat (d : Nat) : ∀ (R : List (List Int)) (t j : Nat), (∀ r ∈ R, r.length = d) → t < R.length → j < d → el R.flatten (t * d + j) = el (R.getD t []) j
  | [], t, j, _, h, _ => by simp at h
  | r :: R, 0, j, h, _, hj => by
    rw [List.flatten_cons, Nat.zero_mul, Nat.zero_add, el_left (by rw [h r List.mem_cons_self]; exact hj)]
    rfl
  | r :: R, t + 1, j, h, ht, hj => by
    have hr := h r List.mem_cons_self
    rw [List.flatten_cons, Nat.succ_mul, el_right (by rw [hr]; omega), hr, show t * d + d + j - d = t * d + j by omega, el_flat d R t j (fun x hx => h x (List.mem_cons_of_mem _ hx)) (by simpa using ht) hj]
    rfl
theorem flatMap_flat {α : Type} (f : Int → List α) : ∀ R : List (List Int), R.flatMap (fun r => r.flatMap f) = R.flatten.flatMap f
  | [] => rfl
  | r :: R => by rw [List.flatMap_cons, List.flatten_cons, List.flatMap_append, flatMap_flat f R]
theorem gridB_flat (R : List (List Int)) : gridB R = R.flatten.flatMap numB := flatMap_flat numB R
def flatC (C : List (List (List Int))) : List Int := (C.map List.flatten).flatten
theorem cubeB_flat : ∀ C : List (List (List Int)), cubeB C = (flatC C).flatMap numB
  | [] => rfl
  | R :: C => by
    have ih := cubeB_flat C
    unfold cubeB flatC at *
    rw [List.flatMap_cons, List.map_cons, List.flatten_cons, List.flatMap_append, ih, gridB_flat]
/-- Lists of P rows of d numbers, none too great. -/
def Dims (P d : Nat) (C : List (List (List Int))) : Prop := ∀ R ∈ C, R.length = P ∧ ∀ r ∈ R, r.length = d ∧ ∀ x ∈ r, -2147483648 ≤ x ∧ x ≤ 2147483647
theorem dims_flat {P d : Nat} {C : List (List (List Int))} (h : Dims P d C) : ∀ r ∈ C.map List.flatten, r.length = P * d := fun r hr => by
  obtain ⟨R, hR, rfl⟩ := List.mem_map.1 hr
  rw [flat_length d R (fun x hx => ((h R hR).2 x hx).1), (h R hR).1]
theorem flatMap_len (ns : List Int) : (ns.flatMap numB).length = 4 * ns.length := by
  induction ns with
  | nil => rfl
  | cons x ns ih => rw [List.flatMap_cons, List.length_append, ih, List.length_cons]; show 4 + _ = _; omega
theorem cubeB_len {P d : Nat} {C : List (List (List Int))} (h : Dims P d C) : (cubeB C).length = 4 * (C.length * (P * d)) := by
  rw [cubeB_flat, flatMap_len]
  unfold flatC
  rw [flat_length (P * d) _ (dims_flat h), List.length_map]
theorem cube_back {P d : Nat} {C : List (List (List Int))} (h : Dims P d C) (rest : List UInt8) : cubeT (cubeB C ++ rest) C.length P d = C := by
  unfold cubeT
  refine List.ext_getElem (by simp) fun i h1 h2 => ?_
  rw [List.getElem_map, List.getElem_range]
  have hR : C[i] ∈ C := List.getElem_mem _
  obtain ⟨hP, hr⟩ := h _ hR
  refine List.ext_getElem (by simp [hP]) fun t h3 h4 => ?_
  rw [List.getElem_map, List.getElem_range]
  have hrm : C[i][t] ∈ C[i] := List.getElem_mem _
  obtain ⟨hd, hx⟩ := hr _ hrm
  unfold rowT
  refine ext_el (by rw [tab_len, hd]) fun j hj => ?_
  rw [tab_len] at hj
  rw [el_tab hj]
  have htP : t < P := by rw [← hP]; exact h4
  have hb : t * d + j < P * d := by
    have : (t + 1) * d ≤ P * d := Nat.mul_le_mul_right d htP
    rw [Nat.succ_mul] at this
    omega
  have hfl : (flatC C).length = C.length * (P * d) := by unfold flatC; rw [flat_length (P * d) _ (dims_flat h), List.length_map]
  have hq : i * (P * d) + t * d + j < (flatC C).length := by
    rw [hfl]
    have : (i + 1) * (P * d) ≤ C.length * (P * d) := Nat.mul_le_mul_right _ h2
    rw [Nat.succ_mul] at this
    omega
  have ee : el (flatC C) (i * (P * d) + t * d + j) = el C[i][t] j := by
    unfold flatC
    rw [Nat.add_assoc, el_flat (P * d) _ i (t * d + j) (dims_flat h) (by rw [List.length_map]; exact h2) hb]
    rw [List.getD_eq_getElem?_getD, List.getElem?_map, List.getElem?_eq_getElem h2]
    show el C[i].flatten (t * d + j) = _
    rw [el_flat d C[i] t j (fun x hx => (hr x hx).1) h4 hj, List.getD_eq_getElem?_getD, List.getElem?_eq_getElem h4]
    rfl
  rw [cubeB_flat, num_flat rest _ _ hq ?_]
  · exact ee
  · rw [ee]
    exact hx _ (by unfold el; rw [List.getD_eq_getElem?_getD, List.getElem?_eq_getElem (by rw [hd]; exact hj)]; exact List.getElem_mem _)
/-- The page of the bytes of a page that is right. -/
theorem ck_dims {Vo L : Int} {D : Nat} {X : Pg} (h : ckN Vo D L X = 0) (hs : ∀ R ∈ X.K, ∀ r ∈ R, ∀ x ∈ r, -2147483648 ≤ x ∧ x ≤ 2147483647) (hv : ∀ R ∈ X.V, ∀ r ∈ R, ∀ x ∈ r, -2147483648 ≤ x ∧ x ≤ 2147483647) : Dims (X.T.length - X.F.toNat) D X.K ∧ Dims (X.T.length - X.F.toNat) D X.V := by
  obtain ⟨h1, h2, h3, h4, h5, h6⟩ := ck_zero h
  obtain ⟨j1, j2, j3, j4⟩ := plB_true h1
  refine ⟨fun R hR => ?_, fun R hR => ?_⟩
  · obtain ⟨q1, q2⟩ := rfB_spec h5 R hR
    exact ⟨by omega, fun r hr => ⟨by have := q2 r hr; omega, hs R hR r hr⟩⟩
  · obtain ⟨q1, q2⟩ := rfB_spec h6 R hR
    exact ⟨by omega, fun r hr => ⟨by have := q2 r hr; omega, hv R hR r hr⟩⟩
theorem byteOf_small {n : Nat} (h : n < 256) : (byteOf (n : Int)).toNat = n := by rw [byteOf_nat]; omega
theorem pageB_form (X : Pg) : pageB X = byteOf (X.T.length : Int) :: byteOf X.F :: (X.T.map byteOf ++ (cubeB X.K ++ cubeB X.V)) := by
  unfold pageB
  simp
theorem page_len {Vo : Int} {D L : Nat} {X : Pg} (h : ckN Vo D L X = 0) (hs : ∀ R ∈ X.K, ∀ r ∈ R, ∀ x ∈ r, -2147483648 ≤ x ∧ x ≤ 2147483647) (hv : ∀ R ∈ X.V, ∀ r ∈ R, ∀ x ∈ r, -2147483648 ≤ x ∧ x ≤ 2147483647) :
    (X.T.map byteOf ++ (cubeB X.K ++ cubeB X.V)).length = X.T.length + 8 * (X.T.length - X.F.toNat) * L * D := by
  obtain ⟨dk, dv⟩ := ck_dims h hs hv
  obtain ⟨h1, h2, h3, h4, h5, h6⟩ := ck_zero h
  have hK : X.K.length = L := by omega
  have hV : X.V.length = L := by omega
  rw [List.length_append, List.length_append, List.length_map, cubeB_len dk, cubeB_len dv, hK, hV]
  generalize X.T.length - X.F.toNat = P
  have : 8 * P * L * D = 4 * (L * (P * D)) + 4 * (L * (P * D)) := by
    rw [show 8 * P * L * D = 8 * (L * (P * D)) by rw [Nat.mul_assoc, Nat.mul_assoc, Nat.mul_left_comm P L D]]
    omega
  omega
theorem page_back {Vo : Int} {D L : Nat} {X : Pg} (h : ckN Vo D L X = 0) (hs : ∀ R ∈ X.K, ∀ r ∈ R, ∀ x ∈ r, -2147483648 ≤ x ∧ x ≤ 2147483647) (hv : ∀ R ∈ X.V, ∀ r ∈ R, ∀ x ∈ r, -2147483648 ≤ x ∧ x ≤ 2147483647) (hVo : Vo ≤ 256) (hD : D ≤ 32) (hL : L ≤ 4) :
    rdS Vo D L (pageB X) = (0, X) := by
  have hlen := page_len h hs hv
  obtain ⟨dk, dv⟩ := ck_dims h hs hv
  obtain ⟨h1, h2, h3, h4, h5, h6⟩ := ck_zero h
  obtain ⟨j1, j2, j3, j4⟩ := plB_true h1
  have hK : X.K.length = L := by omega
  have hV : X.V.length = L := by omega
  rw [pageB_form]
  show rd2 Vo D L (byteOf (X.T.length : Int)).toNat (byteOf X.F).toNat (X.T.map byteOf ++ (cubeB X.K ++ cubeB X.V)) = _
  obtain ⟨f, hf⟩ : ∃ f : Nat, X.F = (f : Int) := ⟨X.F.toNat, by omega⟩
  have hfn : X.F.toNat = f := by omega
  rw [hfn] at hlen dk dv
  rw [byteOf_small (show X.T.length < 256 by omega), hf, byteOf_small (show f < 256 by omega)]
  have e1 : pgT L D X.T.length f (X.T.map byteOf ++ (cubeB X.K ++ cubeB X.V)) = X := by
    obtain ⟨T, F, K, V⟩ := X
    simp only at *
    unfold pgT
    have t1 : (T.map byteOf ++ (cubeB K ++ cubeB V)).take T.length = T.map byteOf := List.take_left' (by rw [List.length_map])
    have t2 : (T.map byteOf ++ (cubeB K ++ cubeB V)).drop T.length = cubeB K ++ cubeB V := List.drop_left' (by rw [List.length_map])
    have t3 : (cubeB K ++ cubeB V).drop (4 * (L * ((T.length - f) * D))) = cubeB V := List.drop_left' (by rw [cubeB_len dk, hK])
    rw [t1, t2, t3]
    have c1 := cube_back dk (cubeB V)
    have c2 := cube_back dv []
    rw [List.append_nil] at c2
    rw [hK] at c1
    rw [hV] at c2
    rw [c1, c2, hf, List.map_map]
    congr 1
    rw [show T = T.map id by simp] 
    rw [List.map_map]
    refine List.map_congr_left fun x hx => ?_
    have hx1 := List.all_eq_true.1 h4 x hx
    have hx2 : 0 ≤ x ∧ x < Vo := by simpa [tokB] using hx1
    show ((byteOf x).toNat : Int) = x
    rw [byteOf_toNat]
    omega
  unfold rd2
  rw [hlen, if_neg (by omega), show (L : Int).toNat = L by omega, show (D : Int).toNat = D by omega, if_neg (by rintro (a | a | a) <;> omega), e1, if_pos h]
theorem page_cut {Vo : Int} {D L : Nat} {X : Pg} (h : ckN Vo D L X = 0) (hs : ∀ R ∈ X.K, ∀ r ∈ R, ∀ x ∈ r, -2147483648 ≤ x ∧ x ≤ 2147483647) (hv : ∀ R ∈ X.V, ∀ r ∈ R, ∀ x ∈ r, -2147483648 ≤ x ∧ x ≤ 2147483647) (hD : D ≤ 32) (hL : L ≤ 4) {cut : Nat} (hc : cut < (pageB X).length) :
    rdS Vo D L ((pageB X).take cut) = (11, noPg) ∨ rdS Vo D L ((pageB X).take cut) = (6, noPg) := by
  have hlen := page_len h hs hv
  obtain ⟨h1, h2, h3, h4, h5, h6⟩ := ck_zero h
  obtain ⟨j1, j2, j3, j4⟩ := plB_true h1
  rw [pageB_form] at hc ⊢
  obtain ⟨r, hr⟩ : ∃ r, X.T.map byteOf ++ (cubeB X.K ++ cubeB X.V) = r := ⟨_, rfl⟩
  rw [hr] at hlen hc ⊢
  obtain ⟨f, hf⟩ : ∃ f : Nat, X.F = (f : Int) := ⟨X.F.toNat, by omega⟩
  have hfn : X.F.toNat = f := by omega
  rw [hfn] at hlen
  match cut, hc with
  | 0, _ => exact Or.inl rfl
  | 1, _ => exact Or.inl rfl
  | k + 2, hc =>
    rw [List.take_succ_cons, List.take_succ_cons]
    show rd2 _ _ _ _ _ _ = _ ∨ rd2 _ _ _ _ _ _ = _
    have hk : k < r.length := by simpa using hc
    rw [byteOf_small (show X.T.length < 256 by omega), hf, byteOf_small (show f < 256 by omega)]
    unfold rd2
    rw [List.length_take, Nat.min_eq_left (Nat.le_of_lt hk), show (L : Int).toNat = L by omega, show (D : Int).toNat = D by omega]
    by_cases a : k < X.T.length
    · exact Or.inl (by rw [if_pos a])
    · refine Or.inr ?_
      rw [if_neg a, if_pos]
      refine Or.inr (Or.inr ?_)
      omega
end Go.Proofs.Ytpplnjmjldhlbaa

/- Package block: the pages of a view are right, and join to it. -/
namespace Go.Proofs.Ytpplnjmjldhlbaa
open Go.ChangeShapes Go.WideShapes Go.ChangeAt Go.RowKit
theorem partR_len {R : List (List Int)} {fr to' : Nat} (h : to' ≤ R.length) : (partR R fr to').length = to' - fr := by
  unfold partR
  rw [List.length_take, List.length_drop]
  omega
theorem partR_mem {R : List (List Int)} {fr to' : Nat} {r : List Int} (h : r ∈ partR R fr to') : r ∈ R := List.mem_of_mem_drop (List.mem_of_mem_take h)
theorem rows_len {R : List (List Int)} {D n : Nat} (h1 : R.length = n) (h : ∀ t, t < n → (rowOf R t).length = D) : ∀ r ∈ R, r.length = D := fun r hr => by
  obtain ⟨t, ht, rfl⟩ := List.getElem_of_mem hr
  have := h t (by omega)
  unfold rowOf at this
  rw [List.getD_eq_getElem?_getD, List.getElem?_eq_getElem ht] at this
  exact this
theorem rfB_part {C : List (List (List Int))} {n D fr to' : Nat} (h : ∀ R ∈ C, R.length = n ∧ ∀ t, t < n → (rowOf R t).length = D) (h1 : fr < to') (h2 : to' ≤ n) : rfB (C.map fun R => partR R fr to') ((to' : Int) - (fr : Int)) D = true := by
  refine rfB_true fun t Q hQ => ?_
  obtain ⟨R, hR, rfl⟩ := List.mem_map.1 (List.mem_of_getElem? hQ)
  obtain ⟨q1, q2⟩ := h R hR
  have hl : (partR R fr to').length = to' - fr := partR_len (by omega)
  refine rfR_true (by rw [hl]; omega) fun j hj => ?_
  have := rows_len q1 q2 _ (partR_mem (rowOf_mem hj))
  omega
theorem pg_ok {V : Int} {D L : Nat} {X : Vw} {fr to' : Nat} (hf : VwFit V D L X) (h1 : fr < to') (h2 : to' ≤ X.T.length) (h3 : to' - fr ≤ 16) : ckN V D L (pgOf X fr to') = 0 := by
  have hm := hf.most
  have hT : (pgOf X fr to').T.length = to' := by show (X.T.take to').length = _; rw [List.length_take]; omega
  have hK : (pgOf X fr to').K.length = L := by show (X.K.map _).length = _; rw [List.length_map, hf.k, if_neg (by omega)]
  have hV : (pgOf X fr to').V.length = L := by show (X.V.map _).length = _; rw [List.length_map, hf.v, if_neg (by omega)]
  have hF : (pgOf X fr to').F = (fr : Int) := rfl
  have hA : (pgOf X fr to').T.all (tokB V) = true := by
    rw [List.all_eq_true]
    intro x hx
    exact List.all_eq_true.1 hf.toks x (List.mem_of_mem_take hx)
  have hp : plB to' (fr : Int) = true := by
    unfold plB
    simp only [Bool.and_eq_true, decide_eq_true_eq]
    omega
  unfold ckN
  rw [hT, hF, hK, hV, hp, if_neg (by simp), if_pos hA, if_pos ⟨rfB_part hf.ks h1 h2, rfB_part hf.vs h1 h2⟩]
/-- The beginning of a view. -/
def cutX (X : Vw) (n : Nat) : Vw := ⟨X.T.take n, X.K.map fun R => R.take n, X.V.map fun R => R.take n⟩
def cut0 (X : Vw) (n : Nat) : Vw := if n = 0 then noVw else cutX X n
theorem take_part (R : List (List Int)) {fr to' : Nat} (h : fr ≤ to') : R.take fr ++ partR R fr to' = R.take to' := by
  unfold partR
  rw [show to' = fr + (to' - fr) by omega, List.take_add, show fr + (to' - fr) - fr = to' - fr by omega]
theorem catC_part (C : List (List (List Int))) {fr to' : Nat} (h : fr ≤ to') : catC (C.map fun R => R.take fr) (C.map fun R => partR R fr to') = C.map fun R => R.take to' := by
  refine List.ext_getElem (by rw [catC_len, List.length_map, List.length_map]) fun i h1 h2 => ?_
  rw [List.length_map] at h2
  have e : (catC (C.map fun R => R.take fr) (C.map fun R => partR R fr to')).getD i [] = (C.map fun R => R.take fr).getD i [] ++ (C.map fun R => partR R fr to').getD i [] := catC_at (by rw [List.length_map]; exact h2)
  rw [List.getD_eq_getElem?_getD, List.getElem?_eq_getElem h1, List.getD_eq_getElem?_getD, List.getElem?_map, List.getElem?_eq_getElem h2, List.getD_eq_getElem?_getD, List.getElem?_map, List.getElem?_eq_getElem h2] at e
  simp only [Option.getD_some, Option.map_some] at e
  rw [e, List.getElem_map, take_part _ h]
theorem catC_nil (C : List (List (List Int))) {to' : Nat} : catC [] (C.map fun R => partR R 0 to') = C.map fun R => R.take to' := by
  refine List.ext_getElem (by rw [catC_len, List.length_map, List.length_map]) fun i h1 h2 => ?_
  rw [List.length_map] at h2
  have e : (catC [] (C.map fun R => partR R 0 to')).getD i [] = ([] : List (List (List Int))).getD i [] ++ (C.map fun R => partR R 0 to').getD i [] := catC_at (by rw [List.length_map]; exact h2)
  rw [List.getD_eq_getElem?_getD, List.getElem?_eq_getElem h1, List.getD_eq_getElem?_getD (l := C.map _), List.getElem?_map, List.getElem?_eq_getElem h2] at e
  simp only [Option.getD_some, Option.map_some] at e
  rw [e, List.getElem_map]
  unfold partR
  simp
/-- One page more. -/
theorem jn_step {V : Int} {D L : Nat} {X : Vw} {fr to' : Nat} (l : List Pg) (hf : VwFit V D L X) (h1 : fr < to') (h2 : to' ≤ X.T.length) (h3 : to' - fr ≤ 16) : jnS V D L (cut0 X fr) (pgOf X fr to' :: l) = jnS V D L (cut0 X to') l := by
  have hk := pg_ok hf h1 h2 h3
  have eT : (pgOf X fr to').T.take (pgOf X fr to').F.toNat = X.T.take fr := by
    show (X.T.take to').take ((fr : Int).toNat) = _
    rw [List.take_take]
    congr 1
    omega
  have hc : (cut0 X fr).T = X.T.take fr := by
    unfold cut0
    split
    · rename_i h0; rw [h0]; rfl
    · rfl
  show (if _ then _ else if _ then _ else _) = _
  rw [if_neg (by rw [hk]; simp), if_pos (by rw [eT, hc])]
  congr 1
  unfold cut0
  rw [if_neg (by omega : ¬ to' = 0)]
  split
  · rename_i h0
    subst h0
    show (⟨X.T.take to', catC [] _, catC [] _⟩ : Vw) = _
    rw [show (pgOf X 0 to').K = X.K.map fun R => partR R 0 to' from rfl, show (pgOf X 0 to').V = X.V.map fun R => partR R 0 to' from rfl, catC_nil, catC_nil]
    rfl
  · show (⟨X.T.take to', catC (X.K.map fun R => R.take fr) _, catC (X.V.map fun R => R.take fr) _⟩ : Vw) = _
    rw [show (pgOf X fr to').K = X.K.map fun R => partR R fr to' from rfl, show (pgOf X fr to').V = X.V.map fun R => partR R fr to' from rfl, catC_part _ (by omega), catC_part _ (by omega)]
    rfl
theorem cutx_all {V : Int} {D L : Nat} {X : Vw} (hf : VwFit V D L X) : cut0 X X.T.length = X := by
  unfold cut0
  split
  · rename_i h0
    have hk := hf.k
    have hv := hf.v
    rw [if_pos h0] at hk hv
    obtain ⟨T, K, V2⟩ := X
    simp only at h0 hk hv
    rw [List.length_eq_zero_iff.1 h0, List.length_eq_zero_iff.1 hk, List.length_eq_zero_iff.1 hv]
    rfl
  · unfold cutX
    have e : ∀ C : List (List (List Int)), (∀ R ∈ C, R.length = X.T.length) → (C.map fun R => R.take X.T.length) = C := fun C hC => by
      rw [show (C.map fun R => R.take X.T.length) = C.map id from List.map_congr_left fun R hR => by rw [← hC R hR, List.take_length]; rfl, List.map_id]
    rw [e X.K fun R hR => (hf.ks R hR).1, e X.V fun R hR => (hf.vs R hR).1, List.take_length]
theorem drop_pages (X : Vw) (page NP k : Nat) (hk : k < NP) : (pagesOf X page NP).drop k = pgOf X (k * page) (min ((k + 1) * page) X.T.length) :: (pagesOf X page NP).drop (k + 1) := by
  have hl := pagesOf_len X page NP
  have hat := pagesOf_at X page NP k hk
  rw [List.drop_eq_getElem_cons (by rw [hl]; exact hk)]
  congr 1
  rw [List.getElem?_eq_getElem (by rw [hl]; exact hk)] at hat
  exact Option.some.inj hat
/-- The pages of a view, joined from the k-th on behind its beginning. -/
theorem jn_from {V : Int} {D L : Nat} {X : Vw} {page : Nat} (hf : VwFit V D L X) (hp1 : 1 ≤ page) (hp2 : page ≤ 16) : ∀ (r k : Nat), k + r = pageN X.T.length page → jnS V D L (cut0 X (min (k * page) X.T.length)) ((pagesOf X page (pageN X.T.length page)).drop k) = (0, X)
  | 0, k, h => by
    rw [List.drop_eq_nil_of_le (by rw [pagesOf_len]; omega)]
    have : X.T.length ≤ k * page := by
      rcases Nat.lt_or_ge (k * page) X.T.length with q | q
      · have := (pageN_lt hp1).1 q; omega
      · exact q
    rw [Nat.min_eq_right this, cutx_all hf]
    rfl
  | r + 1, k, h => by
    have hk : k < pageN X.T.length page := by omega
    have hlt := (pageN_lt hp1 (n := X.T.length) (k := k)).2 hk
    have hs : (k + 1) * page = k * page + page := Nat.succ_mul k page
    rw [drop_pages X page _ k hk, Nat.min_eq_left (Nat.le_of_lt hlt), jn_step _ hf (by omega) (by omega) (by omega)]
    exact jn_from hf hp1 hp2 r (k + 1) (by omega)
theorem jn_all {V : Int} {D L : Nat} {X : Vw} {page : Nat} (hf : VwFit V D L X) (hp1 : 1 ≤ page) (hp2 : page ≤ 16) : jnS V D L noVw (pagesOf X page (pageN X.T.length page)) = (0, X) := by
  have := jn_from hf hp1 hp2 (pageN X.T.length page) 0 (by omega)
  rw [List.drop_zero, Nat.zero_mul, Nat.zero_min] at this
  exact this
end Go.Proofs.Ytpplnjmjldhlbaa

/- Package block: Split of so many tokens that there is no page; the law's small, ref0. -/
namespace Go.Proofs.Ytpplnjmjldhlbaa
open Go.ChangeShapes Go.WideShapes Go.ChangeAt Go.RowKit
set_option maxRecDepth 100000 in
set_option maxHeartbeats 3200000 in
theorem split_bad (Vo D Hd H L : Int) (ta : Option Addr) (tn tz : Nat) (ka : Option Addr) (kn kz : Nat) (va : Option Addr) (vn vz : Nat) (page : Int) (w : World) (hp : page < 1 ∨ 16 < page) :
   Calls Try.prog 7 #[.agg (cfgC Vo D Hd H L), .agg #[.slice ta tn tz, .slice ka kn kz, .slice va vn vz], .int .i64 page] w fun e w' => e = .returned (.tuple #[.slice none 0 0, .int .i64 1]) ∧ Below w.heap.size w w' := by
  rw [show cfgC Vo D Hd H L = #[.int .i64 Vo, .int .i64 D, .int .i64 Hd, .int .i64 H, .int .i64 L] from rfl]
  have B0 : Below w.heap.size w (w.alloc (.cells #[.int .i64 Vo, .int .i64 D, .int .i64 Hd, .int .i64 H, .int .i64 L] 23)) := (Below.refl _ _).alloc (Nat.le_refl _) _
  generalize hw0 : w.alloc (.cells #[.int .i64 Vo, .int .i64 D, .int .i64 Hd, .int .i64 H, .int .i64 L] 23) = w0 at *
  have B1 : Below w0.heap.size w0 (w0.alloc (.cells #[.slice ta tn tz, .slice ka kn kz, .slice va vn vz] 29)) := (Below.refl _ _).alloc (Nat.le_refl _) _
  generalize hw1 : w0.alloc (.cells #[.slice ta tn tz, .slice ka kn kz, .slice va vn vz] 29) = w1 at *
  have BB := below_then B0 B1
  go_enter Try.func7, Try.ntmps7
  by_cases h1 : page < 1
  · go_wp2_with fail
    go_ret2
    exact ⟨rfl, BB⟩
  · have h2 : (16 : Int) < page := by omega
    go_wp2_with fail
    go_ret2
    exact ⟨rfl, BB⟩
def smC : Array Value := #[.int .i64 9, .int .i64 1, .int .i64 1, .int .i64 1, .int .i64 1]
set_option maxRecDepth 100000 in
set_option maxHeartbeats 1600000 in
theorem small11_any (w : World) : Calls Try.prog 29 #[] w fun e w' => e = .returned (.agg smC) ∧ Below w.heap.size w w' := by
  have XZ := blk_new w 23 #[.int .i64 0, .int .i64 0, .int .i64 0, .int .i64 0, .int .i64 0]
  have BZ : Below w.heap.size w (w.alloc (.cells #[.int .i64 0, .int .i64 0, .int .i64 0, .int .i64 0, .int .i64 0] 23)) := (Below.refl _ _).alloc (Nat.le_refl _) _
  generalize hwz : w.alloc (.cells #[.int .i64 0, .int .i64 0, .int .i64 0, .int .i64 0, .int .i64 0] 23) = wz at *
  have hlr : (loadVar 23 ⟨w.heap.size, 0, none⟩).run Try.prog (wz.setRow w.heap.size smC) = .ok (.agg smC) (wz.setRow w.heap.size smC) := run_loadVar_row _ _ _ _ smC _ _ (XZ.row smC) Try.underlying23 rfl (by exact Try.infoC)
  have BF := below_setRow BZ (Nat.le_refl _) smC
  go_enter Try.func29, Try.ntmps29
  go_wp2_with (refine wpList_store_row rfl 23 _ _ rfl w.heap.size smC rfl rfl 23 _ XZ (by exact Try.infoC) rfl (by simp [smC, Value.oneCell']) ?_)
  refine bodyPost_ret (results_cB (by rfl) _ _ _ _ rfl hlr) rfl ?_
  exact ⟨rfl, BF⟩
end Go.Proofs.Ytpplnjmjldhlbaa
