/- Package wire's Write. Condition: the tokens can be read; the package's variables hold what they are laid with. -/
import Derived.Test.YtdopcagikcdfcaaDoorWrMsg
import Derived.Test.YtdopcagikcdfcaaDoorKPack
namespace Go.Proofs.YtdopcagikcdfcaaDoor
open Go.ChangeShapes Go.WideShapes Go.ChangeAt Go.RowKit
/-- A message that is right. -/
structure Rt (g : Nat → Int) (A : List Int) (tl : Nat) : Prop where
  kind : 1 ≤ g 0 ∧ g 0 ≤ 10
  num : ∀ k, k < 10 → 0 ≤ g k ∧ g k ≤ 1099511627776
  few : A.length ≤ 128
  tok : ∀ k, 0 ≤ el A k ∧ el A k ≤ 255
  len : tl ≤ 50000
theorem rt_of_chk {g : Nat → Int} {A : List Int} {tl : Nat} (h : (chkN g A tl).1 = 0) : Rt g A tl ∧ chkN g A tl = (0, -1) := by
  by_cases h0 : g 0 < 1 ∨ 10 < g 0
  · rw [chk_kind h0] at h; cases h
  have hx : (List.range 10).find? (fun i => badI (g i)) = none := by
    cases hf : (List.range 10).find? (fun i => badI (g i)) with
    | none => rfl
    | some i =>
      unfold chkN at h
      rw [if_neg h0, hf] at h
      cases h
  have h1 : ∀ j, j < 10 → badI (g j) = false := by
    rw [List.find?_range_eq_none] at hx
    intro j hj
    simpa using hx j hj
  have h2 := chk_rest (A := A) (tl := tl) h0 h1
  rw [h2] at h ⊢
  by_cases a : 128 < A.length
  · rw [if_pos a] at h; cases h
  rw [if_neg a] at h ⊢
  by_cases b : A.any badT = true
  · rw [if_pos b] at h; cases h
  rw [if_neg b] at h ⊢
  by_cases c : 50000 < tl
  · rw [if_pos c] at h; cases h
  rw [if_neg c]
  refine ⟨⟨by omega, fun k hk => ?_, by omega, fun k => ?_, by omega⟩, rfl⟩
  · have := h1 k hk
    simp [badI] at this
    omega
  · rcases Nat.lt_or_ge k A.length with hk | hk
    · have : ¬ badT (el A k) = true := fun hb => b (any_bad hk hb)
      simp [badT] at this
      omega
    · rw [el_over hk]; omega
/-- The numbers of a message, its tokens, as the text has them. -/
def nmL (g : Nat → Int) : List Nat := (List.range 10).map fun i => (g i).toNat
def tokL (A : List Int) : List Nat := A.map Int.toNat
def nsB (g : Nat → Int) (k : Nat) : List UInt8 := (List.range k).flatMap fun i => vB (g i).toNat
def tsB (A : List Int) (k : Nat) : List UInt8 := (A.take k).map fun x => UInt8.ofNat x.toNat
theorem nsB_succ (g : Nat → Int) (k : Nat) : nsB g (k + 1) = nsB g k ++ vB (g k).toNat := by
  unfold nsB; rw [List.range_succ, List.flatMap_append]; simp
theorem nsB_ten (g : Nat → Int) : nsB g 10 = (nmL g).flatMap vB := by
  unfold nsB nmL; rw [List.flatMap_map]
theorem tsB_succ {A : List Int} {k : Nat} (h : k < A.length) : tsB A (k + 1) = tsB A k ++ [UInt8.ofNat (el A k).toNat] := by
  unfold tsB
  rw [List.take_succ_eq_append_getElem h, List.map_append]
  unfold el
  rw [List.getD_eq_getElem?_getD, List.getElem?_eq_getElem h]
  rfl
theorem tsB_all (A : List Int) : tsB A A.length = (tokL A).map UInt8.ofNat := by
  unfold tsB tokL; rw [List.take_length, List.map_map]; rfl
theorem nsB_len {g : Nat → Int} {A : List Int} {tl : Nat} (h : Rt g A tl) (k : Nat) (hk : k ≤ 10) : (nsB g k).length ≤ 6 * k := by
  induction k with
  | zero => simp [nsB]
  | succ k ih =>
    rw [nsB_succ, List.length_append]
    have h1 := ih (by omega)
    have h2 := vB_len (g k).toNat (by have := h.num k (by omega); omega)
    omega
theorem tsB_len (A : List Int) (k : Nat) (h : k ≤ A.length) : (tsB A k).length = k := by unfold tsB; rw [List.length_map, List.length_take]; omega
/-- The text of a message. -/
def mL (g : Nat → Int) (A : List Int) (t : ByteArray) : List UInt8 := msgL (nmL g) (tokL A) t.data.toList
theorem mL_eq (g : Nat → Int) (A : List Int) (t : ByteArray) : mL g A t = ((nsB g 10 ++ vB A.length) ++ tsB A A.length ++ vB t.size) ++ t.data.toList := by
  unfold mL msgL
  rw [nsB_ten, tsB_all, show (tokL A).length = A.length by simp [tokL], show t.data.toList.length = t.size from rfl]
  simp [List.append_assoc]
theorem mL_len {g : Nat → Int} {A : List Int} {t : ByteArray} (h : Rt g A t.size) : (mL g A t).length ≤ 50300 := by
  have h1 := nsB_len h 10 (by omega)
  have h2 := tsB_len A A.length (by omega)
  have h3 := vB_len A.length (by have := h.few; omega)
  have h4 := vB_len t.size (by have := h.len; omega)
  have h5 := h.few
  have h6 := h.len
  rw [mL_eq]
  simp only [List.length_append, h2]
  rw [show t.data.toList.length = t.size from rfl]
  omega
set_option maxHeartbeats 1000000 in
theorem write_bad (g : Nat → Int) (ao : Option Addr) (n ca : Nat) (A : List Int) (t : ByteArray) (w : World) (hA : IArg w ao n ca A) (hg : ∀ k, k < 10 → -9223372036854775808 ≤ g k ∧ g k ≤ 9223372036854775807) (hc : (chkN g A t.size).1 ≠ 0) :
   Calls Tryd.prog 10 #[msgV g (.slice ao n ca) t] w fun e w' => e = .returned (.tuple #[.string ⟨#[]⟩, eB (chkN g A t.size).2 (eN (chkN g A t.size).1)]) ∧ Below w.heap.size w w' := by
  have X0 := blk_new w 50 (msgC g (.slice ao n ca) t)
  have B0 : Below w.heap.size w (w.alloc (.cells (msgC g (.slice ao n ca) t) 50)) := below_alloc _ _
  generalize hw0 : w.alloc (.cells (msgC g (.slice ao n ca) t) 50) = w0 at *
  have C := check_any g ao n ca A t w0 (hA.below B0) hg
  have E : chkE (chkN g A t.size) = eB (chkN g A t.size).2 (eN (chkN g A t.size).1) := by unfold chkE; rw [if_neg hc]
  unfold ChkR at C
  rw [E] at C
  generalize (chkN g A t.size).2 = q at *
  generalize (chkN g A t.size).1 = m at *
  clear hA hg E
  go_enter Tryd.func10, Tryd.ntmps10
  go_wp2_with (first
    | (refine wpList_load_row rfl 50 _ rfl w.heap.size rfl 50 (msgC g (.slice ao n ca) t) (0, 0) _ X0 Tryd.underlying50 rfl Tryd.infoMsg ?_)
    | (go_at_call 17; refine C.mono ?_; rintro e w1 ⟨rfl, B1⟩))
  go_ret2
  exact ⟨rfl, below_then B0 B1⟩
set_option maxHeartbeats 2000000 in
theorem write_ok (g : Nat → Int) (ao : Option Addr) (n ca : Nat) (A : List Int) (t : ByteArray) (w : World) (hE : Env w) (hA : IArg w ao n ca A) (hg : ∀ k, k < 10 → -9223372036854775808 ≤ g k ∧ g k ≤ 9223372036854775807) (hc : (chkN g A t.size).1 = 0) :
   Calls Tryd.prog 10 #[msgV g (.slice ao n ca) t] w fun e w' => e = .returned (.tuple #[.string (txt (packL (mL g A t))), .nilIface]) ∧ Below w.heap.size w w' := by
  obtain ⟨hR, hc2⟩ := rt_of_chk hc
  have X0 := blk_new w 50 (msgC g (.slice ao n ca) t)
  have B0 : Below w.heap.size w (w.alloc (.cells (msgC g (.slice ao n ca) t) 50)) := below_alloc _ _
  generalize hw0 : w.alloc (.cells (msgC g (.slice ao n ca) t) 50) = w0 at *
  have C := check_any g ao n ca A t w0 (hA.below B0) hg
  unfold ChkR at C
  rw [hc2, show chkE (0, -1) = .nilIface from rfl] at C
  have hl := hA.row.len
  have N0 := fun W => numbersOf_any g ao n ca t W
  have hn128 := hR.few
  have ht5 := hR.len
  rw [hl] at hn128
  clear hg hc hc2
  go_enter Tryd.func10, Tryd.ntmps10
  go_wp2_with (first
    | (refine wpList_load_row rfl 50 _ rfl w.heap.size rfl 50 (msgC g (.slice ao n ca) t) (0, 0) _ X0 Tryd.underlying50 rfl Tryd.infoMsg ?_)
    | (go_at_call 17; refine C.mono ?_; rintro e w1 ⟨rfl, B1⟩; have X1 := X0.next B1)
    | (refine wpList_load_row rfl 50 _ rfl w.heap.size rfl 50 (msgC g (.slice ao n ca) t) (0, 0) _ X1 Tryd.underlying50 rfl Tryd.infoMsg ?_)
    | (go_at_call 18; refine (N0 _).mono ?_; rintro e w2 ⟨rfl, B2⟩))
  have X2 := X1.next B2
  have D := below_then (below_then B0 B1) B2
  have hA2 := hA.below D
  have E2 := hE.next D
  clear X0 X1 B0 B1 B2 hA hE C N0 hw0
  go_loopg [5, 17] 10 (fun r b i wr => ∃ k : Nat, k ≤ 10 ∧ r = 10 - k ∧ i = .int .i64 (k : Int) ∧ BOwn wr w2.heap.size b (nsB g k) ∧ Below w2.heap.size w2 wr)
  case atStart => exact ⟨0, by omega, by omega, rfl, bown_nil _ _, Below.refl _ _⟩
  case round =>
    obtain ⟨k, hk, rfl, rfl, O1, H1⟩ := hrel
    by_cases hk1 : k < 10
    · have ix := idx10 g k hk1
      have hr := hR.num k hk1
      have hlen := nsB_len hR k hk
      obtain ⟨m, hm⟩ : ∃ m : Nat, m = (g k).toNat := ⟨_, rfl⟩
      have HS : Hid (nsB g (k + 1) = nsB g k ++ vB m) := by show _ = _; rw [nsB_succ, hm]
      have hgm : g k = (m : Int) := by omega
      rw [hgm] at ix hr
      have AD := add_any m _ _ _ _ (by omega) (by omega) O1 (H1.size)
      clear hm hgm
      generalize nsB g k = l0 at *
      go_wp2_with (go_at_call 19; refine AD.mono ?_; rintro e w3 ⟨v3, rfl, O3, B3⟩)
      go_roundg (10 - (k + 1))
      case measure => omega
      case rel => exact ⟨k + 1, by omega, rfl, by go_num, by rw [HS.out]; exact O3, H1.trans B3⟩
    · obtain rfl : k = 10 := by omega
      have hlen := nsB_len hR 10 hk
      have X3 : Blk wr w.heap.size 50 (msgC g (.slice ao n ca) t) := X2.next H1
      have c10 : wr.cell? ⟨w.heap.size, 10, none⟩ = some (.slice ao n ca) := X3.cell 10 rfl
      have AD := add_any n _ _ _ _ (by omega) (by omega) O1 (H1.size)
      generalize hl0 : nsB g 10 = l0 at *
      have HL0 : Hid (nsB g 10 = l0) := hl0
      clear hl0
      go_wp2_with (go_at_call 19; refine AD.mono ?_; rintro e w3 ⟨v3, rfl, O3, B3⟩; have X4 := X2.next (H1.trans B3); have d10 : w3.cell? ⟨w.heap.size, 10, none⟩ = some (.slice ao n ca) := X4.cell 10 rfl)
      have H3 := H1.trans B3
      have hv := vB_len n (by omega)
      clear AD c10 X3 O1 H1 B3
      go_loopg [5, 32] n (fun r b i wr => ∃ k : Nat, k ≤ n ∧ r = n - k ∧ i = .int .i64 (k : Int) ∧ BOwn wr w2.heap.size b ((l0 ++ vB n) ++ tsB A k) ∧ Below w2.heap.size w2 wr)
      case atStart => exact ⟨0, by omega, by omega, rfl, by simpa [tsB] using O3, H3⟩
      case round =>
        clear O3 H3 X4 d10
        obtain ⟨k, hk, rfl, rfl, O1, H1⟩ := hrel
        have hs2 := H1.size
        by_cases hk1 : k < n
        · have hA3 := hA2.below H1
          obtain ⟨b, o, rfl, hcl⟩ := hA3.row.cells (by omega)
          have hck := hcl k hk1
          have hr := hR.tok k
          have HS : Hid ((l0 ++ vB n) ++ tsB A (k + 1) = ((l0 ++ vB n) ++ tsB A k) ++ [UInt8.ofNat (el A k).toNat]) := by show _ = _; rw [tsB_succ (by omega), List.append_assoc, List.append_assoc, List.append_assoc]
          have hlk : ((l0 ++ vB n) ++ tsB A k).length ≤ 300 := by
            have := tsB_len A k (by omega)
            simp only [List.length_append]; omega
          obtain ⟨m, hm⟩ : ∃ m : Nat, el A k = (m : Int) := ⟨(el A k).toNat, by omega⟩
          rw [hm] at hck hr
          have a3 := wrap_u8 m (by omega)
          have a4 : (UInt8.ofNat (el A k).toNat).toNat = m := by rw [hm, UInt8.toNat_ofNat', Int.toNat_natCast]; omega
          generalize UInt8.ofNat (el A k).toNat = y at a4 HS
          generalize (l0 ++ vB n) ++ tsB A k = l1 at O1 HS hlk
          clear hcl hm hA3
          go_wp2_with (at_builtin; refine wpList_append_byte rfl _ _ rfl w2.heap.size _ l1 rfl (O1.below (below_alloc _ _)) _ y rfl (by rw [a4]; simp) (by omega) (by simp; omega) ?_; intro v4 w4 O4 B4)
          go_roundg (n - (k + 1))
          case measure => omega
          case rel => exact ⟨k + 1, by omega, rfl, by go_num, by rw [HS.out]; exact O4, (H1.alloc hs2 _).trans B4⟩
        · obtain rfl : k = n := by omega
          have X3 : Blk wr w.heap.size 50 (msgC g (.slice ao k ca) t) := X2.next H1
          have c11 : wr.cell? ⟨w.heap.size, 11, none⟩ = some (.string t) := X3.cell 11 rfl
          have hlk : ((l0 ++ vB k) ++ tsB A k).length ≤ 300 := by
            have := tsB_len A k (by omega)
            simp only [List.length_append]; omega
          have hv2 := vB_len t.size (by omega)
          have HM : Hid (mL g A t = (((l0 ++ vB k) ++ tsB A k) ++ vB t.size) ++ t.data.toList) := by show _ = _; rw [mL_eq, HL0.out, hl]
          have hmL := mL_len hR
          generalize (l0 ++ vB k) ++ tsB A k = l1 at O1 HM hlk
          have AD := add_any t.size _ _ _ _ (by omega) (by omega) O1 (H1.size)
          obtain ⟨i0, hi, hz0, hz1, hz2⟩ := info_parts Tryd.infoByte
          obtain ⟨S, hS⟩ : ∃ S, S = txt (mL g A t) := ⟨_, rfl⟩
          have zS : S.size ≤ 60000 := by rw [hS, txt_size]; omega
          have P1 := fun W hW => pack_ok S W hW zS
          rw [show S.data.toList = mL g A t by rw [hS, txt_list]] at P1
          have HT : Hid (∀ W v, BOwn W w2.heap.size v ((l1 ++ vB t.size) ++ t.data.toList) → (convert 51 9 v).run Tryd.prog W = .ok (.string S) W) := fun W v h => by rw [hS, HM.out]; exact h.conv
          have hl2 : (l1 ++ vB t.size).length ≤ 306 := by rw [List.length_append]; omega
          generalize l1 ++ vB t.size = l2 at *
          obtain ⟨R, hRR⟩ : ∃ R, txt (packL (mL g A t)) = R := ⟨_, rfl⟩
          rw [hRR] at P1
          have HRR : Hid (txt (packL (mL g A t)) = R) := hRR
          clear hRR
          clear hS zS
          go_wp2_with (first
            | (go_at_call 19; refine AD.mono ?_; rintro e w3 ⟨v3, rfl, O3, B3⟩; have H3 := H1.trans B3; have s3 := H3.size; have X4 := X2.next H3; have d11 : w3.cell? ⟨w.heap.size, 11, none⟩ = some (.string t) := X4.cell 11 rfl)
            | (at_builtin; refine Lib.wpList_append_own_string w3 rfl _ _ 51 9 rfl w2.heap.size 5 i0 Tryd.underlying51 Tryd.underlying9 hi hz0 hz1 hz2 _ l2.length _ rfl O3 t rfl (by unfold maxLen; omega) (by omega) s3 ?_; intro v5 w5 O5 G5 N5; have H5 : Below w2.heap.size w3 w5 := (Below.refl _ _).grown G5 s3 (fun j hj => (O3.lt j hj).1); have cv := HT.out w5 v5 (by unfold BOwn; rw [List.map_append, List.length_append]; exact O5); have V5 := E2.next (H3.trans H5))
            | (go_at_call 20; refine (P1 _ V5).mono ?_; rintro e w6 ⟨rfl, B6⟩))
          go_ret2
          rw [HRR.out]
          exact ⟨rfl, below_then D (below_then (H3.trans H5) B6)⟩
end Go.Proofs.YtdopcagikcdfcaaDoor
