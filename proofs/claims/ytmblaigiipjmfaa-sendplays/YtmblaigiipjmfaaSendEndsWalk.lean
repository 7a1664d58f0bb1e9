/- SendEnds. -/
import Derived.Test.YtmblaigiipjmfaaSendJoinsWalk
import Derived.Deep.RegionHeld3
namespace Go.Proofs.Ytmblaigiipjmfaa
open Go.ChangeShapes Go.WideShapes Go.ChangeAt Go.RowKit
/-- Three cells of a block are written. -/
def set3 (W : World) (b : Nat) (x y z : Value) : World := ((W.setCell ⟨b, 0, none⟩ x).setCell ⟨b, 1, none⟩ y).setCell ⟨b, 2, none⟩ z
theorem set3_blk {W : World} {b : Nat} {T : TypeId} {x y z : Value} (h : Blk W b T #[x, y, z]) (x' y' z' : Value) : Blk (set3 W b x' y' z') b T #[x', y', z'] := ((h.set 0 x').set 1 y').set 2 z'
theorem set3_other (W : World) (b g : Nat) (x y z : Value) (h : g ≠ b) : (set3 W b x y z).heap[g]? = W.heap[g]? := by
  unfold set3
  rw [Below.heap_setCell _ _ _ _ (show g ≠ b from h), Below.heap_setCell _ _ _ _ (show g ≠ b from h), Below.heap_setCell _ _ _ _ (show g ≠ b from h)]
theorem set3_below {w W : World} {b B : Nat} (h : Below B w W) (hb : B ≤ b) (x y z : Value) : Below B w (set3 W b x y z) := belowS (belowS (belowS h hb _) hb _) hb _
theorem tmod_bd (p : Int) (q : Nat) (hq : 1 ≤ q) : -(q : Int) < p.tmod (q : Int) ∧ p.tmod (q : Int) < (q : Int) := by
  have h1 : (p.tmod (q : Int)).natAbs = p.natAbs % q := by rw [Int.natAbs_tmod]; rfl
  have h2 := Nat.mod_lt p.natAbs (show 0 < q by omega)
  omega
set_option maxHeartbeats 64000000 in
theorem sendEnds_walk (s : ByteArray) (I pk : Int) (w : World) (_hI : -9223372036854775808 ≤ I ∧ I ≤ 9223372036854775807) (_hpk : -9223372036854775808 ≤ pk ∧ pk ≤ 9223372036854775807) :
    Calls Try.prog 6 #[.string s, .int .i64 I, .int .i64 pk] w fun e w' => e = .returned (.bool true) ∧ Below w.heap.size w w' := by
  have CU := cut_any s.data.toList 300 w
  rw [txt_of] at CU
  have hl : (s.data.toList.take 300).length ≤ 300 := by rw [List.length_take]; omega
  generalize s.data.toList.take 300 = l at *
  have AW := sawake_any
  by_cases h : cutN l I = 0
  case neg =>
    have C := sbegin_bad 1 l I w h
    unfold stV at C
    generalize cutN l I = r at *
    generalize txt l = T at *
    go_enter Try.func6, Try.ntmps6
    go_wp2_with (first
      | (go_at_call 7; refine CU.mono ?_; rintro e w1 ⟨rfl, h9⟩; obtain rfl := h9.symm)
      | (go_at_call 9; refine C.mono ?_; rintro e w2 ⟨rfl, B2⟩; have z2 := B2.size; have X1 := blk_new w2 30 #[.int .i64 0, .slice none 0 0, .slice none 0 0]; have BA := below_then B2 (belowA w2 (.cells #[.int .i64 0, .slice none 0 0, .slice none 0 0] 30)); generalize hwa : w2.alloc (.cells #[.int .i64 0, .slice none 0 0, .slice none 0 0] 30) = wa at *)
      | (refine wpList_store_row rfl 30 _ _ rfl w2.heap.size _ rfl rfl 30 _ X1 Try.infoSs rfl (stall _ _ _ _ _ _ _) ?_)
      | (go_at_call 11; refine (AW _).mono ?_; rintro e w3 ⟨rfl, B3⟩))
    go_ret
    exact ⟨rfl, below_then (belowR BA (by omega) _) B3⟩
  obtain ⟨h1, h2, h3⟩ := cutN_parts h
  obtain ⟨z, rfl⟩ : ∃ z : Nat, I = (z : Int) := ⟨I.toNat, by omega⟩
  have hm := cutS_most l z h3
  have hzs := cutS_size l z (by omega) (by omega)
  have CT := sbegin_ok 1 l z w h (by omega) (by omega)
  unfold stV at CT
  generalize cutS l z = S at *
  generalize hn : S.length = n at *
  have HN : Hid (S.length = n) := hn
  have hzz : ∀ s ∈ S, s.size ≤ 140737488355328 := fun s hs => by have := hzs s hs; omega
  have HZ : Hid (∀ s ∈ S, s.size ≤ 140737488355328) := hzz
  clear h hzs hzz hn h1 h2 h3
  generalize txt l = T at *
  go_enter Try.func6, Try.ntmps6
  go_wp2_with (first
      | (go_at_call 7; refine CU.mono ?_; rintro e w1 ⟨rfl, h9⟩; obtain rfl := h9.symm)
      | (go_at_call 9; refine CT.mono ?_; rintro e w2 ⟨a, c, a2, c2, rfl, P2, C2, B2⟩; have z2 := B2.size; have X1 := blk_new w2 30 #[.int .i64 0, .slice none 0 0, .slice none 0 0]; have BA := below_then B2 (belowA w2 (.cells #[.int .i64 0, .slice none 0 0, .slice none 0 0] 30)); have PA := VOwn.below P2 (belowA w2 (.cells #[.int .i64 0, .slice none 0 0, .slice none 0 0] 30)); have CA := VOwn.below C2 (belowA w2 (.cells #[.int .i64 0, .slice none 0 0, .slice none 0 0] 30)); generalize hwa : w2.alloc (.cells #[.int .i64 0, .slice none 0 0, .slice none 0 0] 30) = wa at *; have X2 := X1.row #[.int .i64 1, .slice a n c, .slice a2 n c2]; have PB := VOwn.of_block PA (w' := wa.setRow w2.heap.size #[.int .i64 1, .slice a n c, .slice a2 n c2]) (fun g hg _ _ => setRow_other _ _ _ _ (VOwn.ne_blk PA X1 ne_SS g hg)); have CB := VOwn.of_block CA (w' := wa.setRow w2.heap.size #[.int .i64 1, .slice a n c, .slice a2 n c2]) (fun g hg _ _ => setRow_other _ _ _ _ (VOwn.ne_blk CA X1 ne_BS g hg)); have BB := belowR BA (show w.heap.size ≤ w2.heap.size by omega) #[.int .i64 1, .slice a n c, .slice a2 n c2]; generalize hwb : wa.setRow w2.heap.size #[.int .i64 1, .slice a n c, .slice a2 n c2] = wb at *; have k1 : wb.cell? ⟨w2.heap.size, 1, none⟩ = some (.slice a n c) := X2.cell 1 rfl)
      | (refine wpList_store_row rfl 30 _ _ rfl w2.heap.size _ rfl rfl 30 _ X1 Try.infoSs rfl (stall _ _ _ _ _ _ _) ?_; rw [hwb]))
  generalize hbs : w2.heap.size = bs at *
  go_loopg [10] n (fun r s10 wr => ∃ (i : Nat) (a : Option Addr) (c : Nat) (a2 : Option Addr) (c2 : Nat) (C : List Bool), r = n - i ∧ i ≤ n ∧ s10 = .int .i64 (i : Int) ∧ (leftL C n).length = n - i ∧ Blk wr bs 30 #[.int .i64 1, .slice a n c, .slice a2 n c2] ∧ VOwn wr 0 9 (.slice a n c) n (strs S) ∧ VOwn wr 0 4 (.slice a2 n c2) n (bools C) ∧ Below w.heap.size w wr)
  case atStart => exact ⟨0, a, c, a2, c2, _, rfl, by omega, rfl, by rw [leftL_none]; rfl, X2, PB.base (by omega), CB.base (by omega), BB⟩
  case round =>
  have hbw : w.heap.size ≤ bs := by omega
  clear PA CA PB CB X1 X2 BA BB k1 P2 C2 hwa hwb CT CU
  obtain ⟨i, a, c, a2, c2, C, rfl, hi, rfl, hlen, X, PO, CO, B⟩ := hrel
  have PV := PO.varg
  have CV := CO.varg
  by_cases d1 : i < n
  case neg =>
    obtain rfl : i = n := by omega
    have OV := fun W (hW : Below wr.heap.size wr W) => sover_any 1 a a2 i c i c2 C W (CV.below hW) (by omega)
    have NX := fun W (hW : Below wr.heap.size wr W) => snext_any 1 3 a a2 i c i c2 0 S C W (PV.below hW) (CV.below hW) (by omega) HZ.out (by rw [hlen]; simp)
    rw [hlen] at OV
    have e0 : decide (((i - i : Nat) : Int) = 0) = true := by simp
    rw [e0] at OV
    unfold stV at OV NX
    have OV' : Hid _ := OV
    have NX' : Hid _ := NX
    clear e0 OV NX
    go_wp2_with (first
      | (go_at_call 11; refine (AW _).mono ?_; rintro e w3 ⟨rfl, B3⟩; have X3 := X.below B3; have u30 : w3.cell? ⟨bs, 0, none⟩ = some (.int .i64 1) := X3.cell 0 rfl; have u31 : w3.cell? ⟨bs, 1, none⟩ = some (.slice a i c) := X3.cell 1 rfl; have u32 : w3.cell? ⟨bs, 2, none⟩ = some (.slice a2 i c2) := X3.cell 2 rfl)
      | (go_at_call 17; refine (OV'.out _ B3).mono ?_; rintro e w4 ⟨rfl, B4⟩; have X4 := X3.below B4; have u40 : w4.cell? ⟨bs, 0, none⟩ = some (.int .i64 1) := X4.cell 0 rfl; have u41 : w4.cell? ⟨bs, 1, none⟩ = some (.slice a i c) := X4.cell 1 rfl; have u42 : w4.cell? ⟨bs, 2, none⟩ = some (.slice a2 i c2) := X4.cell 2 rfl)
      | (go_at_call 18; refine (NX'.out _ (below_then B3 B4)).mono ?_; rintro e w5 ⟨x, xc, rfl, _, B5⟩)
      | (refine wpList_load_row rfl 30 _ rfl bs rfl 30 _ (0, 0) _ X3 Try.underlying30 rfl Try.infoSs ?_)
      | (refine wpList_load_row rfl 30 _ rfl bs rfl 30 _ (0, 0) _ X4 Try.underlying30 rfl Try.infoSs ?_))
    go_ret
    exact ⟨rfl, below_then B (below_then B3 (below_then B4 B5))⟩
  have d1' : (i : Int) < (n : Int) := by omega
  obtain ⟨q, hq⟩ : ∃ q, q = min 3 (n - i) := ⟨_, rfl⟩
  have hq1 : 1 ≤ q := by omega
  have hq3 : q ≤ n - i := by omega
  obtain ⟨m, hm0⟩ : ∃ m, m = n - i := ⟨_, rfl⟩
  rw [← hm0] at hlen hq hq3
  have hmI : (n : Int) - (i : Int) = (m : Int) := by omega
  have hm1 : 1 ≤ m := by omega
  have hq0 : ¬ (q : Int) = 0 := by omega
  have OV := fun W (hW : Below wr.heap.size wr W) => sover_any 1 a a2 n c n c2 C W (CV.below hW) (by omega)
  have NX := fun W (hW : Below wr.heap.size wr W) => snext_any 1 3 a a2 n c n c2 q S C W (PV.below hW) (CV.below hW) (by omega) HZ.out (by rw [hlen]; exact hq)
  have LF := fun W (hW : Below wr.heap.size wr W) => sleft_any 1 a a2 n c n c2 C W (CV.below hW) (by omega)
  have GT := fun W (hW : Below wr.heap.size wr W) (k : Nat) (hk : k < n) => sgot_ok 1 a a2 n c n c2 k S C W (PV.below hW) (CV.below hW) (by omega) (by omega) HZ.out hk
  have e0 : decide ((m : Int) = 0) = false := by rw [decide_eq_false_iff_not]; omega
  rw [hlen, e0] at OV
  simp only [hlen] at LF
  have hel := leftL_el C n
  have hbe := leftL_be C n
  have hls := fun k hk => leftL_less C n k hk n (Nat.le_refl _)
  obtain ⟨rr, hrr⟩ : ∃ rr, rr = pk.tmod (q : Int) := ⟨_, rfl⟩
  have hrb := tmod_bd pk q hq1
  rw [← hrr] at hrb
  obtain ⟨j, hj⟩ : ∃ j : Nat, (j : Int) = if rr < 0 then rr + q else rr := ⟨(if rr < 0 then rr + q else rr).toNat, by split <;> omega⟩
  have hjq : j < q := by split at hj <;> omega
  have hj2 := partsL_get 1 n S (leftL C n) q j hjq (by omega)
  have hjk := hel j (by omega)
  obtain ⟨k, hk⟩ : ∃ k : Nat, (k : Int) = el (leftL C n) j := ⟨(el (leftL C n) j).toNat, by omega⟩
  have hkn : k < n := by omega
  have hkb : be C k = false := by have := hbe j (by omega); rw [← hk, Int.toNat_natCast] at this; exact this
  have hl2 := hls k hkb
  rw [if_pos hkn, hlen] at hl2
  have GK := fun W hW => GT W hW k hkn
  rw [← hk] at hj2
  unfold stV at OV NX LF GK
  have OV' : Hid _ := OV
  have NX' : Hid _ := NX
  have LF' : Hid _ := LF
  have GK' : Hid _ := GK
  have HJ : Hid ((j : Int) = if rr < 0 then rr + q else rr) := hj
  have HJ2 : Hid _ := hj2
  have HL2 : Hid _ := hl2
  have hrr' := hrr.symm
  clear OV NX LF GT GK hel hbe hls hjk hk hkb hl2 hj hj2 e0 hlen hq hrr hm0
  generalize se S (k : Int).toNat = xs at *
  go_upto_if 56 with (first
      | (go_at_call 18; refine (NX'.out _ (Below.refl _ _)).mono ?_; rintro e w3 ⟨x, xc, rfl, R3, B3⟩; have X3 := X.below B3)
      | (go_at_call 17; refine (OV'.out _ B3).mono ?_; rintro e w4 ⟨rfl, B4⟩; have X4 := X3.below B4; have R4 := R3.below B4; have u40 : w4.cell? ⟨bs, 0, none⟩ = some (.int .i64 1) := X4.cell 0 rfl; have u41 : w4.cell? ⟨bs, 1, none⟩ = some (.slice a n c) := X4.cell 1 rfl; have u42 : w4.cell? ⟨bs, 2, none⟩ = some (.slice a2 n c2) := X4.cell 2 rfl)
      | (go_at_call 16; refine (LF'.out _ (below_then B3 B4)).mono ?_; rintro e w5 ⟨y, yc, rfl, _, B5⟩; have X5 := X4.below B5; have R5 := R4.below B5)
      | (refine wpList_load_row rfl 30 _ rfl bs rfl 30 _ (0, 0) _ X Try.underlying30 rfl Try.infoSs ?_)
      | (refine wpList_load_row rfl 30 _ rfl bs rfl 30 _ (0, 0) _ X3 Try.underlying30 rfl Try.infoSs ?_)
      | (refine wpList_load_row rfl 30 _ rfl bs rfl 30 _ (0, 0) _ X4 Try.underlying30 rfl Try.infoSs ?_))
  clear OV' NX' LF' X X3 X4 R3 R4 u40 u41 u42
  have B35 : Below wr.heap.size wr w5 := below_then B3 (below_then B4 B5)
  have z5 := B35.size
  have BW := below_then B B35
  clear B3 B4 B5
  have hxm := R5.max
  obtain ⟨g, rfl, hg0, hg5, kc⟩ := R5.cells (by omega)
  have kj := kc j 1 hjq (by omega)
  rw [HJ2.out] at kj
  have kj' : w5.cell? ⟨g, j * 4 + 1, none⟩ = some (.int .i64 (k : Int)) := kj
  have lt5 := X5.lt
  have v0 : w5.cell? ⟨bs, 0, none⟩ = some (.int .i64 1) := X5.cell 0 rfl
  have v1 : w5.cell? ⟨bs, 1, none⟩ = some (.slice a n c) := X5.cell 1 rfl
  have v2 : w5.cell? ⟨bs, 2, none⟩ = some (.slice a2 n c2) := X5.cell 2 rfl
  have kj2 : (w5.alloc (.cells #[.int .i64 0, .slice none 0 0, .slice none 0 0] 30)).cell? ⟨g, j * 4 + 1, none⟩ = some (.int .i64 (k : Int)) := ((belowA w5 (.cells #[.int .i64 0, .slice none 0 0, .slice none 0 0] 30)).cell (by exact hg5)).trans kj'
  have v02 : (w5.alloc (.cells #[.int .i64 0, .slice none 0 0, .slice none 0 0] 30)).cell? ⟨bs, 0, none⟩ = some (.int .i64 1) := (X5.below (belowA w5 (.cells #[.int .i64 0, .slice none 0 0, .slice none 0 0] 30))).cell 0 rfl
  have v12 : (w5.alloc (.cells #[.int .i64 0, .slice none 0 0, .slice none 0 0] 30)).cell? ⟨bs, 1, none⟩ = some (.slice a n c) := (X5.below (belowA w5 (.cells #[.int .i64 0, .slice none 0 0, .slice none 0 0] 30))).cell 1 rfl
  have v22 : (w5.alloc (.cells #[.int .i64 0, .slice none 0 0, .slice none 0 0] 30)).cell? ⟨bs, 2, none⟩ = some (.slice a2 n c2) := (X5.below (belowA w5 (.cells #[.int .i64 0, .slice none 0 0, .slice none 0 0] 30))).cell 2 rfl
  clear kc kj R5
  go_cut [12] from 28 to 73 (fun s12 wc => s12 = .int .i64 (j : Int) ∧ wc = w5)
  case first =>
    have hj' := HJ.out
    by_cases d3 : rr < 0
    · rw [if_pos d3] at hj'
      have hja := hj'.symm
      clear hj'
      go_wp2_with fail
      go_meet
      case rel => exact ⟨rfl, rfl⟩
    · rw [if_neg d3] at hj'
      subst hj'
      go_wp2_with fail
      go_meet
      case rel => exact ⟨rfl, rfl⟩
  case rest =>
  obtain ⟨rfl, h8⟩ := hcut
  obtain rfl := h8.symm
  go_upto_region 14 with fail
  go_cut [13, 14] from 28 to 73 (fun s13 s14 wc => ∃ (bt : Nat) (b : Option Addr) (d : Nat) (b2 : Option Addr) (d2 : Nat), s13 = .pointer (some ⟨bt, 0, none⟩) ∧ s14 = .int .i64 0 ∧ Blk wc bt 30 #[.int .i64 1, .slice b n d, .slice b2 n d2] ∧ Blk wc bs 30 #[.int .i64 1, .slice a n c, .slice a2 n c2] ∧ VOwn wc 0 9 (.slice b n d) n (strs S) ∧ VOwn wc 0 4 (.slice b2 n d2) n (bools (gotB C n k)) ∧ Below w.heap.size w wc)
  case first =>
    refine wp_region_held_drew (S := fun w' => Blk w' bs 30 #[.int .i64 1, .slice a n c, .slice a2 n c2] ∧ w'.cell? ⟨g, j * 4 + 1, none⟩ = some (.int .i64 (k : Int))) (by kernel_rfl) (⟨X5, kj'⟩) (fun hHeld => ?_)
    refine wpAnyH_take (i := 0) (v := (.agg #[.int .i64 1, .slice a n c, .slice a2 n c2])) rfl (by kernel_rfl) (by kernel_rfl) (by kernel_rfl) (fun _ _ _ h => h) (Or.inl ⟨by rfl, ?_⟩) (by assumption) ?_
    · intro w' hSw
      have y0 : w'.cell? ⟨bs, 0, none⟩ = some (.int .i64 1) := hSw.1.cell 0 rfl
      have y1 : w'.cell? ⟨bs, 1, none⟩ = some (.slice a n c) := hSw.1.cell 1 rfl
      have y2 : w'.cell? ⟨bs, 2, none⟩ = some (.slice a2 n c2) := hSw.1.cell 2 rfl
      go_simp
    simp only [List.getElem_toArray, List.getElem_cons_zero, Act.put, List.setIfInBounds_toArray, List.set_cons_zero, List.set_cons_succ]
    refine wpAnyH_take (i := 1) (v := (.slice (some ⟨g, 0, none⟩) q xc)) rfl (by kernel_rfl) (by kernel_rfl) (by kernel_rfl) (fun _ _ _ h => h) (Or.inl ⟨by rfl, ?_⟩) (by assumption) ?_
    · intro w' hSw
      go_simp
    simp only [List.getElem_toArray, List.getElem_cons_succ, List.getElem_cons_zero, Act.put, List.setIfInBounds_toArray, List.set_cons_zero, List.set_cons_succ]
    refine wpAnyH_take (i := 2) (v := (.int .i64 (j : Int))) rfl (by kernel_rfl) (by kernel_rfl) (by kernel_rfl) (fun _ _ _ h => h) (Or.inl ⟨by rfl, ?_⟩) (by assumption) ?_
    · intro w' hSw
      go_simp
    simp only [List.getElem_toArray, List.getElem_cons_succ, List.getElem_cons_zero, Act.put, List.setIfInBounds_toArray, List.set_cons_zero, List.set_cons_succ]
    refine wpAnyH_take (i := 3) (v := (.pointer (some ⟨g, j * 4, none⟩))) rfl (by kernel_rfl) (by kernel_rfl) (by kernel_rfl) (fun _ _ _ h => h) (Or.inl ⟨by rfl, ?_⟩) (by assumption) ?_
    · intro w' hSw
      go_simp
    simp only [List.getElem_toArray, List.getElem_cons_succ, List.getElem_cons_zero, Act.put, List.setIfInBounds_toArray, List.set_cons_zero, List.set_cons_succ]
    refine wpAnyH_take (i := 4) (v := (.pointer (some ⟨g, j * 4 + 1, none⟩))) rfl (by kernel_rfl) (by kernel_rfl) (by kernel_rfl) (fun _ _ _ h => h) (Or.inl ⟨by rfl, ?_⟩) (by assumption) ?_
    · intro w' hSw
      go_simp
    simp only [List.getElem_toArray, List.getElem_cons_succ, List.getElem_cons_zero, Act.put, List.setIfInBounds_toArray, List.set_cons_zero, List.set_cons_succ]
    refine wpAnyH_take (i := 5) (v := (.int .i64 (k : Int))) rfl (by kernel_rfl) (by kernel_rfl) (by kernel_rfl) (fun _ _ _ h => h) (Or.inl ⟨by rfl, ?_⟩) (by assumption) ?_
    · intro w' hSw
      have y0 := hSw.2
      go_simp
    simp only [List.getElem_toArray, List.getElem_cons_succ, List.getElem_cons_zero, Act.put, List.setIfInBounds_toArray, List.set_cons_zero, List.set_cons_succ]
    refine wpAnyH_ready (rs := [6, 10]) (by kernel_rfl) (by simp) ?_
    refine AllReadyH.cons rfl (fun Kc hKc => ?_) (AllReadyH.cons rfl (fun Kc hKc => ?_) AllReadyH.nil)
    · simp only [List.getElem_toArray, List.getElem_cons_succ, List.getElem_cons_zero]
      rw [if_pos (by rfl)]
      go_wp2_with fail
      refine (GK'.out _ (by exact below_then B35 (Below.refl _ _).drew)).mono ?_
      rintro e w6 ⟨b, d, b2, d2, rfl, P6, C6, B6⟩
      replace B6 : Below w5.heap.size w5 w6 := below_then (Below.refl w5.heap.size w5).drew B6
      have z6 := B6.size
      have zd : w5.drew.heap.size = w5.heap.size := rfl
      have XS := X5.below B6
      have kj6 : w6.cell? ⟨g, j * 4 + 1, none⟩ = some (.int .i64 (k : Int)) := (B6.cell (by exact hg5)).trans kj'
      go_wp2_with fail
      refine hKc.out _ _ (⟨XS, kj6⟩) (fun hHeld => ?_)
      clear hKc Kc
      refine wpAnyH_take (i := 7) (v := (.tuple #[.agg #[.int .i64 1, .slice b n d, .slice b2 n d2], .int .i64 0])) rfl (by kernel_rfl) (by kernel_rfl) (by kernel_rfl) (fun _ _ _ h => h) (Or.inl ⟨by rfl, ?_⟩) (by assumption) ?_
      · intro w' hSw
        go_simp
      simp only [List.getElem_toArray, List.getElem_cons_succ, List.getElem_cons_zero, Act.put, List.setIfInBounds_toArray, List.set_cons_zero, List.set_cons_succ]
      refine wpAnyH_take (i := 8) (v := (.agg #[.int .i64 1, .slice b n d, .slice b2 n d2])) rfl (by kernel_rfl) (by kernel_rfl) (by kernel_rfl) (fun _ _ _ h => h) (Or.inl ⟨by rfl, ?_⟩) (by assumption) ?_
      · intro w' hSw
        go_simp
      simp only [List.getElem_toArray, List.getElem_cons_succ, List.getElem_cons_zero, Act.put, List.setIfInBounds_toArray, List.set_cons_zero, List.set_cons_succ]
      refine wpAnyH_take (i := 9) (v := (.int .i64 0)) rfl (by kernel_rfl) (by kernel_rfl) (by kernel_rfl) (fun _ _ _ h => h) (Or.inl ⟨by rfl, ?_⟩) (by assumption) ?_
      · intro w' hSw
        go_simp
      simp only [List.getElem_toArray, List.getElem_cons_succ, List.getElem_cons_zero, Act.put, List.setIfInBounds_toArray, List.set_cons_zero, List.set_cons_succ]
      have YA := blk_new w6 30 #[.int .i64 0, .slice none 0 0, .slice none 0 0]
      have BA := belowA w6 (.cells #[.int .i64 0, .slice none 0 0, .slice none 0 0] 30)
      have XS7 := XS.below BA
      have kj7 : (w6.alloc (.cells #[.int .i64 0, .slice none 0 0, .slice none 0 0] 30)).cell? ⟨g, j * 4 + 1, none⟩ = some (.int .i64 (k : Int)) := (BA.cell (by exact Nat.lt_of_lt_of_le hg5 z6)).trans kj6
      have P7 := VOwn.below P6 BA
      have C7 := VOwn.below C6 BA
      have BW7 := below_then BW (below_then B6 BA)
      generalize hw7 : w6.alloc (.cells #[.int .i64 0, .slice none 0 0, .slice none 0 0] 30) = w7 at *
      refine wpAnyH_ready (rs := [10]) (by kernel_rfl) (by simp) ?_
      refine AllReadyH.cons rfl (fun Kc hKc => ?_) AllReadyH.nil
      simp only [List.getElem_toArray, List.getElem_cons_succ, List.getElem_cons_zero]
      rw [if_pos (by rfl)]
      go_wp2_with fail
      refine hKc.out _ _ (⟨XS7, kj7⟩) (fun hHeld => ?_)
      clear hKc Kc
      have i0 : w7.cell? ⟨w6.heap.size, 0, none⟩ = some (.int .i64 0) := YA.cell 0 rfl
      have i1 : w7.cell? ⟨w6.heap.size, 1, none⟩ = some (.slice none 0 0) := YA.cell 1 rfl
      have i2 : w7.cell? ⟨w6.heap.size, 2, none⟩ = some (.slice none 0 0) := YA.cell 2 rfl
      have f0 := YA.frozen 0
      have f1 := YA.frozen 1
      have f2 := YA.frozen 2
      have Q8 := set3_blk YA (.int .i64 1) (.slice b n d) (.slice b2 n d2)
      have o8 : ∀ g', g' ≠ w6.heap.size → (set3 w7 w6.heap.size (.int .i64 1) (.slice b n d) (.slice b2 n d2)).heap[g']? = w7.heap[g']? := fun g' hg' => set3_other _ _ _ _ _ _ hg'
      have XS8 := XS7.of_block (o8 bs (by omega))
      have kj8 : (set3 w7 w6.heap.size (.int .i64 1) (.slice b n d) (.slice b2 n d2)).cell? ⟨g, j * 4 + 1, none⟩ = some (.int .i64 (k : Int)) := by have h9 := kj7; unfold World.cell? at h9 ⊢; rw [o8 g (by omega)]; exact h9
      have P8 := VOwn.of_block P7 (fun g' h h2 h3 => o8 g' (by have := (World.ownsRow.lt P6 g' h).2; have := (World.ownsRow.lt P6 g' h).1; omega))
      have C8 := VOwn.of_block C7 (fun g' h h2 h3 => o8 g' (by have := (World.ownsRow.lt C6 g' h).2; have := (World.ownsRow.lt C6 g' h).1; omega))
      have B8 := set3_below BW7 (show w.heap.size ≤ w6.heap.size by omega) (.int .i64 1) (.slice b n d) (.slice b2 n d2)
      unfold set3 at *
      refine wpAnyH_ready (rs := [11]) (by kernel_rfl) (by simp) ?_
      refine AllReadyH.cons rfl (fun Kc hKc => ?_) AllReadyH.nil
      simp only [List.getElem_toArray, List.getElem_cons_succ, List.getElem_cons_zero]
      rw [if_pos (by rfl)]
      go_wp2_with fail
      refine hKc.out _ _ (⟨XS8, kj8⟩) (fun hHeld => ?_)
      clear hKc Kc
      refine wpAnyH_take (i := 12) (v := (.int .i64 0)) rfl (by kernel_rfl) (by kernel_rfl) (by kernel_rfl) (fun _ _ _ h => h) (Or.inl ⟨by rfl, ?_⟩) (by assumption) ?_
      · intro w' hSw
        go_simp
      simp only [List.getElem_toArray, List.getElem_cons_succ, List.getElem_cons_zero, Act.put, List.setIfInBounds_toArray, List.set_cons_zero, List.set_cons_succ]
      refine wpAnyH_done (by kernel_rfl) ?_ _
      go_wp2_with fail
      go_meet
      case rel => exact ⟨_, b, d, b2, d2, rfl, rfl, Q8, XS8, P8.base (Nat.zero_le _), C8.base (Nat.zero_le _), B8⟩
    · have YA := blk_new w5.drew 30 #[.int .i64 0, .slice none 0 0, .slice none 0 0]
      have BA : Below w5.heap.size w5 (w5.drew.alloc (.cells #[.int .i64 0, .slice none 0 0, .slice none 0 0] 30)) := below_then (Below.refl w5.heap.size w5).drew (belowA w5.drew (.cells #[.int .i64 0, .slice none 0 0, .slice none 0 0] 30))
      have z7 : (w5.drew.alloc (.cells #[.int .i64 0, .slice none 0 0, .slice none 0 0] 30)).heap.size = w5.heap.size + 1 := by simp
      have XS7 := X5.below BA
      have kj7 : (w5.drew.alloc (.cells #[.int .i64 0, .slice none 0 0, .slice none 0 0] 30)).cell? ⟨g, j * 4 + 1, none⟩ = some (.int .i64 (k : Int)) := (BA.cell (by exact hg5)).trans kj'
      have zd : w5.drew.heap.size = w5.heap.size := rfl
      rw [zd] at YA
      generalize hw7 : w5.drew.alloc (.cells #[.int .i64 0, .slice none 0 0, .slice none 0 0] 30) = w7 at *
      simp only [List.getElem_toArray, List.getElem_cons_succ, List.getElem_cons_zero]
      rw [if_pos (by rfl)]
      go_wp2_with fail
      refine hKc.out _ _ (⟨XS7, kj7⟩) (fun hHeld => ?_)
      clear hKc Kc
      refine wpAnyH_ready (rs := [6]) (by kernel_rfl) (by simp) ?_
      refine AllReadyH.cons rfl (fun Kc hKc => ?_) AllReadyH.nil
      simp only [List.getElem_toArray, List.getElem_cons_succ, List.getElem_cons_zero]
      rw [if_pos (by rfl)]
      go_wp2_with fail
      refine (GK'.out _ (by exact below_then B35 BA)).mono ?_
      rintro e w6 ⟨b, d, b2, d2, rfl, P6, C6, B6⟩
      have z6 := B6.size
      have XS := XS7.below B6
      have YB := YA.below B6
      have kj6 : w6.cell? ⟨g, j * 4 + 1, none⟩ = some (.int .i64 (k : Int)) := (B6.cell (by show g < w7.heap.size; omega)).trans kj7
      go_wp2_with fail
      refine hKc.out _ _ (⟨XS, kj6⟩) (fun hHeld => ?_)
      clear hKc Kc
      refine wpAnyH_take (i := 7) (v := (.tuple #[.agg #[.int .i64 1, .slice b n d, .slice b2 n d2], .int .i64 0])) rfl (by kernel_rfl) (by kernel_rfl) (by kernel_rfl) (fun _ _ _ h => h) (Or.inl ⟨by rfl, ?_⟩) (by assumption) ?_
      · intro w' hSw
        go_simp
      simp only [List.getElem_toArray, List.getElem_cons_succ, List.getElem_cons_zero, Act.put, List.setIfInBounds_toArray, List.set_cons_zero, List.set_cons_succ]
      refine wpAnyH_take (i := 8) (v := (.agg #[.int .i64 1, .slice b n d, .slice b2 n d2])) rfl (by kernel_rfl) (by kernel_rfl) (by kernel_rfl) (fun _ _ _ h => h) (Or.inl ⟨by rfl, ?_⟩) (by assumption) ?_
      · intro w' hSw
        go_simp
      simp only [List.getElem_toArray, List.getElem_cons_succ, List.getElem_cons_zero, Act.put, List.setIfInBounds_toArray, List.set_cons_zero, List.set_cons_succ]
      refine wpAnyH_take (i := 9) (v := (.int .i64 0)) rfl (by kernel_rfl) (by kernel_rfl) (by kernel_rfl) (fun _ _ _ h => h) (Or.inl ⟨by rfl, ?_⟩) (by assumption) ?_
      · intro w' hSw
        go_simp
      simp only [List.getElem_toArray, List.getElem_cons_succ, List.getElem_cons_zero, Act.put, List.setIfInBounds_toArray, List.set_cons_zero, List.set_cons_succ]
      have i0 : w6.cell? ⟨w5.heap.size, 0, none⟩ = some (.int .i64 0) := YB.cell 0 rfl
      have i1 : w6.cell? ⟨w5.heap.size, 1, none⟩ = some (.slice none 0 0) := YB.cell 1 rfl
      have i2 : w6.cell? ⟨w5.heap.size, 2, none⟩ = some (.slice none 0 0) := YB.cell 2 rfl
      have f0 := YB.frozen 0
      have f1 := YB.frozen 1
      have f2 := YB.frozen 2
      have Q8 := set3_blk YB (.int .i64 1) (.slice b n d) (.slice b2 n d2)
      have o8 : ∀ g', g' ≠ w5.heap.size → (set3 w6 w5.heap.size (.int .i64 1) (.slice b n d) (.slice b2 n d2)).heap[g']? = w6.heap[g']? := fun g' hg' => set3_other _ _ _ _ _ _ hg'
      have XS8 := XS.of_block (o8 bs (by omega))
      have kj8 : (set3 w6 w5.heap.size (.int .i64 1) (.slice b n d) (.slice b2 n d2)).cell? ⟨g, j * 4 + 1, none⟩ = some (.int .i64 (k : Int)) := by have h9 := kj6; unfold World.cell? at h9 ⊢; rw [o8 g (by omega)]; exact h9
      have P8 := VOwn.of_block P6 (fun g' h h2 h3 => o8 g' (by have := (World.ownsRow.lt P6 g' h).2; have := (World.ownsRow.lt P6 g' h).1; omega))
      have C8 := VOwn.of_block C6 (fun g' h h2 h3 => o8 g' (by have := (World.ownsRow.lt C6 g' h).2; have := (World.ownsRow.lt C6 g' h).1; omega))
      have B8 := set3_below (below_then BW (below_then BA B6)) (show w.heap.size ≤ w5.heap.size by omega) (.int .i64 1) (.slice b n d) (.slice b2 n d2)
      unfold set3 at *
      refine wpAnyH_ready (rs := [11]) (by kernel_rfl) (by simp) ?_
      refine AllReadyH.cons rfl (fun Kc hKc => ?_) AllReadyH.nil
      simp only [List.getElem_toArray, List.getElem_cons_succ, List.getElem_cons_zero]
      rw [if_pos (by rfl)]
      go_wp2_with fail
      refine hKc.out _ _ (⟨XS8, kj8⟩) (fun hHeld => ?_)
      clear hKc Kc
      refine wpAnyH_take (i := 12) (v := (.int .i64 0)) rfl (by kernel_rfl) (by kernel_rfl) (by kernel_rfl) (fun _ _ _ h => h) (Or.inl ⟨by rfl, ?_⟩) (by assumption) ?_
      · intro w' hSw
        go_simp
      simp only [List.getElem_toArray, List.getElem_cons_succ, List.getElem_cons_zero, Act.put, List.setIfInBounds_toArray, List.set_cons_zero, List.set_cons_succ]
      refine wpAnyH_done (by kernel_rfl) ?_ _
      go_wp2_with fail
      go_meet
      case rel => exact ⟨_, b, d, b2, d2, rfl, rfl, Q8, XS8, P8.base (Nat.zero_le _), C8.base (Nat.zero_le _), B8⟩
  case rest =>
  obtain ⟨bt, b, d, b2, d2, rfl, rfl, XT, XS, P8, C8, B8⟩ := hcut
  clear v0 v1 v2 kj' kj2 v02 v12 v22 X5
  go_wp2_with (first
      | (refine wpList_load_row rfl 30 _ rfl bt rfl 30 _ (0, 0) _ XT Try.underlying30 rfl Try.infoSs ?_)
      | (refine wpList_store_row rfl 30 _ _ rfl bs _ rfl rfl 30 _ XS Try.infoSs rfl (stall _ _ _ _ _ _ _) ?_))
  go_roundg (n - (i + 1))
  case measure => omega
  case rel => exact ⟨i + 1, b, d, b2, d2, gotB C n k, rfl, by omega, by go_num, by have := HL2.out; omega, XS.row _, P8.of_block (fun g h _ _ => setRow_other _ _ _ _ (P8.ne_blk XS ne_SS g h)), C8.of_block (fun g h _ _ => setRow_other _ _ _ _ (C8.ne_blk XS ne_BS g h)), belowR B8 (by omega) _⟩
end Go.Proofs.Ytmblaigiipjmfaa
