/- WireWrites' walk: messages are written in one way, and read back. -/
import Derived.Test.YtmcjcmddijikbaaDoorWireApartWalk
namespace Go.Proofs.YtmcjcmddijikbaaDoor
open Go.ChangeShapes Go.WideShapes Go.ChangeAt Go.RowKit
set_option maxRecDepth 100000 in
set_option maxHeartbeats 4000000 in
theorem wireWrites_walk (g : Nat → Int) (ao : Option Addr) (n ca : Nat) (A : List Int) (t : ByteArray) (w : World) (hg : ∀ k, k < 10 → -9223372036854775808 ≤ g k ∧ g k ≤ 9223372036854775807) (hA : IArg w ao n ca A) (hE : Env w) :
   Calls Tryd.prog 3 #[msgV g (.slice ao n ca) t] w fun e w' => e = .returned (.bool true) ∧ Below w.heap.size w w' := by
  have AW := fun W (hW : Env W) => awake15_any W hW
  have X0 := blk_new w 24 (msgC g (.slice ao n ca) t)
  have B0 : Below w.heap.size w (w.alloc (.cells (msgC g (.slice ao n ca) t) 24)) := below_alloc _ _
  have s0 : (w.alloc (.cells (msgC g (.slice ao n ca) t) 24)).heap.size = w.heap.size + 1 := by simp
  generalize hw0 : w.alloc (.cells (msgC g (.slice ao n ca) t) 24) = w0 at *
  have S0 : Hid (w0.heap.size = w.heap.size + 1) := s0
  have V0 := hE.next B0
  have HV : Hid (∀ W, Below w.heap.size w W → Env W) := fun W hW => hE.next hW
  clear s0 hE
  have F0 := fewM_any g ao n ca A t w0 (hA.below B0)
  have e0 := txt_same ⟨#[]⟩
  have lA : (cutA A).length ≤ 140 := by rw [List.length_take]; omega
  have cA : (cutA A).take 140 = cutA A := cutA_small lA
  have uA := cutT_cut t
  clear hA
  generalize cutA A = A1 at *
  generalize cutT t = t1 at *
  have FW := fun W b c (hW : IArg W (some ⟨b, 0, none⟩) A1.length c A1) => fewM_any g (some ⟨b, 0, none⟩) A1.length c A1 t1 W hW
  have TA := fun W b c (hW : IArg W (some ⟨b, 0, none⟩) A1.length c A1) => told_any g (some ⟨b, 0, none⟩) A1.length c A1 t1 W hW
  rw [show cutA A1 = A1 from cA, uA] at TA FW
  have CH := fun W b c (hW : IArg W (some ⟨b, 0, none⟩) A1.length c A1) => check_any g (some ⟨b, 0, none⟩) A1.length c A1 t1 W hW hg
  have RC := fun W b c (hW : IArg W (some ⟨b, 0, none⟩) A1.length c A1) => rcheck_any g (some ⟨b, 0, none⟩) A1.length c A1 t1 W hW hg
  unfold ChkR at CH
  unfold RchR at RC
  by_cases hc : (chkN g A1 t1.size).1 = 0
  rotate_left
  · have WR := fun W b c (_ : Env W) (hW : IArg W (some ⟨b, 0, none⟩) A1.length c A1) => write_bad g (some ⟨b, 0, none⟩) A1.length c A1 t1 W hW hg hc
    have E : chkE (chkN g A1 t1.size) = eB (chkN g A1 t1.size).2 (eN (chkN g A1 t1.size).1) := by unfold chkE; rw [if_neg hc]
    rw [E] at CH
    generalize (chkN g A1 t1.size).2 = q at *
    generalize (chkN g A1 t1.size).1 = m at *
    have hm0 : ((m : Int) == 0) = false := by simpa using hc
    have hm1 : ¬ (m : Int) = 0 := by omega
    clear hg E
    go_enter Tryd.func3, Tryd.ntmps3
    go_wp2_with (first
    | (refine wpList_load_row rfl 24 _ rfl w.heap.size rfl 24 (msgC g (.slice ao n ca) t) (0, 0) _ X0 Tryd.underlying24 rfl Tryd.infoMsg ?_)
    | (go_at_call_of 9 ca; refine F0.mono ?_; rintro e w1 ⟨b, c, rfl, R1, nb, B1⟩; have V1 := V0.next B1; have X1 := X0.next B1; have on := msg_one g (some ⟨b, 0, none⟩) A1.length c t1)
    | (refine wpList_store_row rfl 24 _ _ rfl w.heap.size (msgC g (.slice (some ⟨b, 0, none⟩) A1.length c) t1) rfl rfl 24 _ X1 Tryd.infoMsg rfl on ?_; have X2 := X1.row (msgC g (.slice (some ⟨b, 0, none⟩) A1.length c) t1); have R2 := R1.row' (g := w.heap.size) (fun _ ad e => by injection e with e; subst e; show b ≠ w.heap.size; have := S0.out; omega) (msgC g (.slice (some ⟨b, 0, none⟩) A1.length c) t1); have D2 : Below w.heap.size w (w1.setRow w.heap.size (msgC g (.slice (some ⟨b, 0, none⟩) A1.length c) t1)) := below_setRow (below_then B0 B1) (Nat.le_refl _) _; have V2 := HV.out _ D2; generalize hw2 : w1.setRow w.heap.size (msgC g (.slice (some ⟨b, 0, none⟩) A1.length c) t1) = w2 at *)
    | (refine wpList_load_row rfl 24 _ rfl w.heap.size rfl 24 (msgC g (.slice (some ⟨b, 0, none⟩) A1.length c) t1) (0, 0) _ X2 Tryd.underlying24 rfl Tryd.infoMsg ?_)
    | (go_at_call 10; refine (WR _ b c V2 R2).mono ?_; rintro e w3 ⟨rfl, B3⟩; have V3 := V2.next B3; have X3 := X2.next B3; have R3 := R2.below B3; have D3 := below_then D2 B3)
    | (refine wpList_load_row rfl 24 _ rfl w.heap.size rfl 24 (msgC g (.slice (some ⟨b, 0, none⟩) A1.length c) t1) (0, 0) _ X3 Tryd.underlying24 rfl Tryd.infoMsg ?_)
    | (go_at_call_of 9 b; refine (FW _ b c R3).mono ?_; rintro e w4 ⟨b4, c4, rfl, Q4, nb4, B4⟩; have V4 := V3.next B4; have X4 := X3.next B4; have R4 := R3.below B4; have D4 := below_then D3 B4)
    | (go_at_call 11; refine (CH _ b4 c4 Q4).mono ?_; rintro e w5 ⟨rfl, B5⟩; have V5 := V4.next B5; have X5 := X4.next B5; have R5 := R4.below B5; have D5 := below_then D4 B5)
    | (refine wpList_load_row rfl 24 _ rfl w.heap.size rfl 24 (msgC g (.slice (some ⟨b, 0, none⟩) A1.length c) t1) (0, 0) _ X5 Tryd.underlying24 rfl Tryd.infoMsg ?_)
    | (go_at_call 13; refine (TA _ b c R5).mono ?_; rintro e w6 ⟨b6, c6, rfl, Q6, nb6, B6⟩; have V6 := V5.next B6; have X6 := X5.next B6; have R6 := R5.below B6; have D6 := below_then D5 B6)
    | (go_at_call 12; refine (RC _ b6 c6 Q6).mono ?_; rintro e w7 ⟨rfl, B7⟩; have V7 := V6.next B7; have X7 := X6.next B7; have R7 := R6.below B7; have D7 := below_then D6 B7)
    | (go_at_call 14; refine (AW _ V7).mono ?_; rintro e w8 ⟨rfl, B8⟩; have V8 := V7.next B8; have X8 := X7.next B8; have R8 := R7.below B8; have D8 := below_then D7 B8)
    | (go_at_call 15; refine (whyBE q (m : Int) _ V8.hand).mono ?_; rintro e w9 ⟨rfl, B9⟩; have V9 := V8.next B9; have X9 := X8.next B9; have R9 := R8.below B9; have D9 := below_then D8 B9)
    | (go_at_call 16; refine (partBE q (m : Int) _ V9.hand).mono ?_; rintro e wa ⟨rfl, Ba⟩; have Va := V9.next Ba; have Xa := X9.next Ba; have Ra := R9.below Ba; have Da := below_then D9 Ba)
    | (go_at_call 15; refine (whyBE q (m : Int) _ Va.hand).mono ?_; rintro e wb ⟨rfl, Bb⟩; have Vb := Va.next Bb; have Xb := Xa.next Bb; have Rb := Ra.below Bb; have Db := below_then Da Bb)
    | (go_at_call 16; refine (partBE q (m : Int) _ Vb.hand).mono ?_; rintro e wc ⟨rfl, Bc⟩; have Vc := Vb.next Bc; have Xc := Xb.next Bc; have Rc := Rb.below Bc; have Dc := below_then Db Bc)
    | (go_at_call 17; refine (placeBE q (m : Int) _ Vc.hand).mono ?_; rintro e wd ⟨rfl, Bd⟩; have Vd := Vc.next Bd; have Xd := Xc.next Bd; have Rd := Rc.below Bd; have Dd := below_then Dc Bd))
    go_ret
    exact ⟨rfl, Dd⟩
  have WR := fun W b c (hE : Env W) (hW : IArg W (some ⟨b, 0, none⟩) A1.length c A1) => write_ok g (some ⟨b, 0, none⟩) A1.length c A1 t1 W hE hW hg hc
  obtain ⟨hR, hc2⟩ := rt_of_chk hc
  rw [hc2, show chkE (0, -1) = .nilIface from rfl] at CH
  rw [hc2] at RC
  have RD := fun W (hE : Env W) => read_ok g A1 t1 (txt (packL (mL g A1 t1))) W hE hc rfl
  have TX := fun W b c (hW : IArg W (some ⟨b, 0, none⟩) A1.length c A1) => text_ref g (some ⟨b, 0, none⟩) A1.length c A1 t1 W hW hR
  have hml := mL_len hR
  have PK := fun W => refPack_any (txt (mL g A1 t1)) W (by rw [txt_size]; omega)
  rw [txt_list] at PK
  have TB := fun W ao c (hW : IArg W ao A1.length c A1) => told_any g ao A1.length c A1 t1 W hW
  rw [show cutA A1 = A1 from cA, uA] at TB
  have SM := fun W b3 c3 b4 c4 (h3 : IArg W (some ⟨b3, 0, none⟩) A1.length c3 A1) (h4 : IArg W (some ⟨b4, 0, none⟩) A1.length c4 A1) => same_any g (some ⟨b3, 0, none⟩) A1.length c3 A1 t1 g (some ⟨b4, 0, none⟩) A1.length c4 A1 t1 W h3 h4 (by omega) (by omega)
  rw [samM_refl] at SM
  generalize txt (packL (mL g A1 t1)) = Z at *
  generalize txt (mL g A1 t1) = Y at *
  have SS := txt_same Z
  clear hg hc hc2 hR hml cA uA
  go_enter Tryd.func3, Tryd.ntmps3
  go_wp2_with (first
  | (refine wpList_load_row rfl 24 _ rfl w.heap.size rfl 24 (msgC g (.slice ao n ca) t) (0, 0) _ X0 Tryd.underlying24 rfl Tryd.infoMsg ?_)
  | (go_at_call_of 9 ca; refine F0.mono ?_; rintro e w1 ⟨b, c, rfl, R1, nb, B1⟩; have V1 := V0.next B1; have X1 := X0.next B1; have on := msg_one g (some ⟨b, 0, none⟩) A1.length c t1)
  | (refine wpList_store_row rfl 24 _ _ rfl w.heap.size (msgC g (.slice (some ⟨b, 0, none⟩) A1.length c) t1) rfl rfl 24 _ X1 Tryd.infoMsg rfl on ?_; have X2 := X1.row (msgC g (.slice (some ⟨b, 0, none⟩) A1.length c) t1); have R2 := R1.row' (g := w.heap.size) (fun _ ad e => by injection e with e; subst e; show b ≠ w.heap.size; have := S0.out; omega) (msgC g (.slice (some ⟨b, 0, none⟩) A1.length c) t1); have D2 : Below w.heap.size w (w1.setRow w.heap.size (msgC g (.slice (some ⟨b, 0, none⟩) A1.length c) t1)) := below_setRow (below_then B0 B1) (Nat.le_refl _) _; have V2 := HV.out _ D2; generalize hw2 : w1.setRow w.heap.size (msgC g (.slice (some ⟨b, 0, none⟩) A1.length c) t1) = w2 at *)
  | (refine wpList_load_row rfl 24 _ rfl w.heap.size rfl 24 (msgC g (.slice (some ⟨b, 0, none⟩) A1.length c) t1) (0, 0) _ X2 Tryd.underlying24 rfl Tryd.infoMsg ?_)
  | (go_at_call 10; refine (WR _ b c V2 R2).mono ?_; rintro e w3 ⟨rfl, B3⟩; have V3 := V2.next B3; have X3 := X2.next B3; have R3 := R2.below B3; have D3 := below_then D2 B3)
  | (refine wpList_load_row rfl 24 _ rfl w.heap.size rfl 24 (msgC g (.slice (some ⟨b, 0, none⟩) A1.length c) t1) (0, 0) _ X3 Tryd.underlying24 rfl Tryd.infoMsg ?_)
  | (go_at_call_of 9 b; refine (FW _ b c R3).mono ?_; rintro e w4 ⟨b4, c4, rfl, Q4, nb4, B4⟩; have V4 := V3.next B4; have X4 := X3.next B4; have R4 := R3.below B4; have D4 := below_then D3 B4)
  | (go_at_call 11; refine (CH _ b4 c4 Q4).mono ?_; rintro e w5 ⟨rfl, B5⟩; have V5 := V4.next B5; have X5 := X4.next B5; have R5 := R4.below B5; have D5 := below_then D4 B5)
  | (refine wpList_load_row rfl 24 _ rfl w.heap.size rfl 24 (msgC g (.slice (some ⟨b, 0, none⟩) A1.length c) t1) (0, 0) _ X5 Tryd.underlying24 rfl Tryd.infoMsg ?_)
  | (go_at_call 13; refine (TA _ b c R5).mono ?_; rintro e w6 ⟨b6, c6, rfl, Q6, nb6, B6⟩; have V6 := V5.next B6; have X6 := X5.next B6; have R6 := R5.below B6; have D6 := below_then D5 B6)
  | (go_at_call 12; refine (RC _ b6 c6 Q6).mono ?_; rintro e w7 ⟨rfl, B7⟩; have V7 := V6.next B7; have X7 := X6.next B7; have R7 := R6.below B7; have D7 := below_then D6 B7)
  | (go_at_call 14; refine (AW _ V7).mono ?_; rintro e w8 ⟨rfl, B8⟩; have V8 := V7.next B8; have X8 := X7.next B8; have R8 := R7.below B8; have D8 := below_then D7 B8)
  | (go_at_call 15; refine (whyO _).mono ?_; rintro e w9 ⟨rfl, B9⟩; have V9 := V8.next B9; have X9 := X8.next B9; have R9 := R8.below B9; have D9 := below_then D8 B9)
  | (go_at_call 16; refine (partO _).mono ?_; rintro e wa ⟨rfl, Ba⟩; have Va := V9.next Ba; have Xa := X9.next Ba; have Ra := R9.below Ba; have Da := below_then D9 Ba)
  | (go_at_call 15; refine (whyO _).mono ?_; rintro e wb ⟨rfl, Bb⟩; have Vb := Va.next Bb; have Xb := Xa.next Bb; have Rb := Ra.below Bb; have Db := below_then Da Bb)
  | (go_at_call 16; refine (partO _).mono ?_; rintro e wc ⟨rfl, Bc⟩; have Vc := Vb.next Bc; have Xc := Xb.next Bc; have Rc := Rb.below Bc; have Dc := below_then Db Bc)
  | (go_at_call 17; refine (placeO _).mono ?_; rintro e wd ⟨rfl, Bd⟩; have Vd := Vc.next Bd; have Xd := Xc.next Bd; have Rd := Rc.below Bd; have Dd := below_then Dc Bd)
  | (go_at_call 18; refine (RD _ Vd).mono ?_; rintro e we ⟨a9, c9, rfl, Qe, nbe, Be⟩; have Ve := Vd.next Be; have Xe := Xd.next Be; have Re := Rd.below Be; have De := below_then Dd Be; have one := msg_one g a9 A1.length c9 t1; have Ye := blk_new we 24 #[.int .i64 0, .int .i64 0, .int .i64 0, .int .i64 0, .int .i64 0, .int .i64 0, .int .i64 0, .int .i64 0, .int .i64 0, .int .i64 0, .slice none 0 0, .string ⟨#[]⟩]; have Bf : Below we.heap.size we (we.alloc (.cells #[.int .i64 0, .int .i64 0, .int .i64 0, .int .i64 0, .int .i64 0, .int .i64 0, .int .i64 0, .int .i64 0, .int .i64 0, .int .i64 0, .slice none 0 0, .string ⟨#[]⟩] 24)) := below_alloc _ _; have Vf := Ve.next Bf; have Xf := Xe.next Bf; have Rf := Re.below Bf; have Df := below_then De Bf; have Qf := Qe.below Bf; generalize hwf : we.alloc (.cells #[.int .i64 0, .int .i64 0, .int .i64 0, .int .i64 0, .int .i64 0, .int .i64 0, .int .i64 0, .int .i64 0, .int .i64 0, .int .i64 0, .slice none 0 0, .string ⟨#[]⟩] 24) = wf at *)
  | (refine wpList_store_row rfl 24 _ _ rfl we.heap.size (msgC g (.slice a9 A1.length c9) t1) rfl rfl 24 _ Ye Tryd.infoMsg rfl one ?_))
  have ltx := Xe.lt
  have Yg := Ye.row (msgC g (.slice a9 A1.length c9) t1)
  have Xg : Blk (wf.setRow we.heap.size (msgC g (.slice a9 A1.length c9) t1)) w.heap.size 24 (msgC g (.slice (some ⟨b, 0, none⟩) A1.length c) t1) := Xf.of_block (setRow_other _ _ _ _ (by omega))
  have Bg : Below we.heap.size we (wf.setRow we.heap.size (msgC g (.slice a9 A1.length c9) t1)) := below_setRow Bf (Nat.le_refl _) _
  have Vg := Ve.next Bg
  have Rg := Re.below Bg
  have Qg := Qe.below Bg
  have Dg := below_then De Bg
  generalize wf.setRow we.heap.size (msgC g (.slice a9 A1.length c9) t1) = wg at *
  clear V2 X2 R2 D2 V3 X3 R3 D3 V4 X4 R4 D4 V5 X5 R5 D5 V6 X6 R6 D6 V7 X7 R7 D7 V8 X8 R8 D8 V9 X9 R9 D9 Va Xa Ra Da Vb Xb Rb Db Vc Xc Rc Dc Vd Xd Rd Dd Ve Xe Re De Vf Xf Rf Df Qe Qf Ye Bf Bg hwf Be B9 Ba Bb Bc Bd B3 B4 B5 B6 B7 B8 B1 nbe Q4 Q6 nb4 nb6 R1 V1 X1 X0 B0 V0 hw2 FW CH RC WR RD F0 hw0
  refine wp_region_held_drew (S := fun w' => Blk w' w.heap.size 24 (msgC g (.slice (some ⟨b, 0, none⟩) A1.length c) t1) ∧ Blk w' we.heap.size 24 (msgC g (.slice a9 A1.length c9) t1)) (by kernel_rfl) (⟨Xg, Yg⟩) (fun hHeld => ?_)
  have Dh := Dg.drew
  have Xh : Blk wg.drew w.heap.size 24 (msgC g (.slice (some ⟨b, 0, none⟩) A1.length c) t1) := Xg
  have Yh : Blk wg.drew we.heap.size 24 (msgC g (.slice a9 A1.length c9) t1) := Yg
  replace Rg := Rg.below ((Below.refl _ wg).drew)
  replace Qg := Qg.below ((Below.refl _ wg).drew)
  generalize hWd : wg.drew = wh at *
  clear hWd Xg Yg Vg Dg
  refine wpAnyH_take (i := 0) (v := (.string Z)) rfl (by kernel_rfl) (by kernel_rfl) (by kernel_rfl) (fun _ _ _ h => h) (Or.inl ⟨by rfl, ?_⟩) (by assumption) ?_
  · intro w' hSw
    go_simp
  simp only [List.getElem_toArray, List.getElem_cons_zero, Act.put, List.setIfInBounds_toArray, List.set_cons_zero, List.set_cons_succ]
  refine wpAnyH_take (i := 1) (v := .agg (msgC g (.slice (some ⟨b, 0, none⟩) A1.length c) t1)) rfl (by kernel_rfl) (by kernel_rfl) (by kernel_rfl) (fun _ _ _ h => h) (yields_row (by rfl) 24 _ rfl w.heap.size rfl 24 (msgC g (.slice (some ⟨b, 0, none⟩) A1.length c) t1) _ (fun w' hS => hS.1) Tryd.underlying24 rfl Tryd.infoMsg) (by assumption) ?_
  simp only [List.getElem_toArray, List.getElem_cons_succ, List.getElem_cons_zero, Act.put, List.setIfInBounds_toArray, List.set_cons_zero, List.set_cons_succ]
  refine wpAnyH_ready (rs := [2]) (by kernel_rfl) (by simp) ?_
  refine AllReadyH.cons rfl (fun Kc hKc => ?_) AllReadyH.nil
  simp only [List.getElem_toArray, List.getElem_cons_succ, List.getElem_cons_zero]
  rw [if_pos (by rfl)]
  go_wp2_with fail
  refine (TA _ b c Rg).mono ?_
  rintro e wi ⟨b3, c3, rfl, Q3, nb3, Bi⟩
  replace Xh := Xh.next Bi
  replace Yh := Yh.next Bi
  replace Dh := below_then Dh Bi
  replace Rg := Rg.below Bi
  replace Qg := Qg.below Bi
  go_wp2_with fail
  refine hKc.out _ _ (⟨Xh, Yh⟩) (fun hHeld => ?_)
  clear hKc Kc
  refine wpAnyH_ready (rs := [3]) (by kernel_rfl) (by simp) ?_
  refine AllReadyH.cons rfl (fun Kc hKc => ?_) AllReadyH.nil
  simp only [List.getElem_toArray, List.getElem_cons_succ, List.getElem_cons_zero]
  rw [if_pos (by rfl)]
  go_wp2_with fail
  refine (TX _ b3 c3 Q3).mono ?_
  rintro e wj ⟨rfl, Bj⟩
  replace Xh := Xh.next Bj
  replace Yh := Yh.next Bj
  replace Dh := below_then Dh Bj
  replace Rg := Rg.below Bj
  replace Qg := Qg.below Bj
  go_wp2_with fail
  refine hKc.out _ _ (⟨Xh, Yh⟩) (fun hHeld => ?_)
  clear hKc Kc
  refine wpAnyH_ready (rs := [4]) (by kernel_rfl) (by simp) ?_
  refine AllReadyH.cons rfl (fun Kc hKc => ?_) AllReadyH.nil
  simp only [List.getElem_toArray, List.getElem_cons_succ, List.getElem_cons_zero]
  rw [if_pos (by rfl)]
  go_wp2_with fail
  refine (PK _).mono ?_
  rintro e wk ⟨rfl, Bk⟩
  replace Xh := Xh.next Bk
  replace Yh := Yh.next Bk
  replace Dh := below_then Dh Bk
  replace Rg := Rg.below Bk
  replace Qg := Qg.below Bk
  go_wp2_with fail
  refine hKc.out _ _ (⟨Xh, Yh⟩) (fun hHeld => ?_)
  clear hKc Kc
  refine wpAnyH_take (i := 5) (v := (.bool true)) rfl (by kernel_rfl) (by kernel_rfl) (by kernel_rfl) (fun _ _ _ h => h) (Or.inl ⟨by rfl, ?_⟩) (by assumption) ?_
  · intro w' hSw
    go_simp
  simp only [List.getElem_toArray, List.getElem_cons_succ, List.getElem_cons_zero, Act.put, List.setIfInBounds_toArray, List.set_cons_zero, List.set_cons_succ]
  refine wpAnyH_take (i := 6) (v := (.bool true)) rfl (by kernel_rfl) (by kernel_rfl) (by kernel_rfl) (fun _ _ _ h => h) (Or.inl ⟨by rfl, ?_⟩) (by assumption) ?_
  · intro w' hSw
    go_simp
  simp only [List.getElem_toArray, List.getElem_cons_succ, List.getElem_cons_zero, Act.put, List.setIfInBounds_toArray, List.set_cons_zero, List.set_cons_succ]
  refine wpAnyH_take (i := 7) (v := .nilIface) rfl (by kernel_rfl) (by kernel_rfl) (by kernel_rfl) (fun _ _ _ h => h) (Or.inl ⟨by rfl, ?_⟩) (by assumption) ?_
  · intro w' hSw
    go_simp
  simp only [List.getElem_toArray, List.getElem_cons_succ, List.getElem_cons_zero, Act.put, List.setIfInBounds_toArray, List.set_cons_zero, List.set_cons_succ]
  refine wpAnyH_take (i := 8) (v := (.bool true)) rfl (by kernel_rfl) (by kernel_rfl) (by kernel_rfl) (fun _ _ _ h => h) (Or.inl ⟨by rfl, ?_⟩) (by assumption) ?_
  · intro w' hSw
    go_simp
  simp only [List.getElem_toArray, List.getElem_cons_succ, List.getElem_cons_zero, Act.put, List.setIfInBounds_toArray, List.set_cons_zero, List.set_cons_succ]
  refine wpAnyH_take (i := 9) (v := (.bool true)) rfl (by kernel_rfl) (by kernel_rfl) (by kernel_rfl) (fun _ _ _ h => h) (Or.inl ⟨by rfl, ?_⟩) (by assumption) ?_
  · intro w' hSw
    go_simp
  simp only [List.getElem_toArray, List.getElem_cons_succ, List.getElem_cons_zero, Act.put, List.setIfInBounds_toArray, List.set_cons_zero, List.set_cons_succ]
  refine wpAnyH_take (i := 10) (v := (.bool true)) rfl (by kernel_rfl) (by kernel_rfl) (by kernel_rfl) (fun _ _ _ h => h) (Or.inl ⟨by rfl, ?_⟩) (by assumption) ?_
  · intro w' hSw
    go_simp
  simp only [List.getElem_toArray, List.getElem_cons_succ, List.getElem_cons_zero, Act.put, List.setIfInBounds_toArray, List.set_cons_zero, List.set_cons_succ]
  refine wpAnyH_take (i := 11) (v := .agg (msgC g (.slice a9 A1.length c9) t1)) rfl (by kernel_rfl) (by kernel_rfl) (by kernel_rfl) (fun _ _ _ h => h) (yields_row (by rfl) 24 _ rfl we.heap.size rfl 24 (msgC g (.slice a9 A1.length c9) t1) _ (fun w' hS => hS.2) Tryd.underlying24 rfl Tryd.infoMsg) (by assumption) ?_
  simp only [List.getElem_toArray, List.getElem_cons_succ, List.getElem_cons_zero, Act.put, List.setIfInBounds_toArray, List.set_cons_zero, List.set_cons_succ]
  refine wpAnyH_take (i := 13) (v := .agg (msgC g (.slice (some ⟨b, 0, none⟩) A1.length c) t1)) rfl (by kernel_rfl) (by kernel_rfl) (by kernel_rfl) (fun _ _ _ h => h) (yields_row (by rfl) 24 _ rfl w.heap.size rfl 24 (msgC g (.slice (some ⟨b, 0, none⟩) A1.length c) t1) _ (fun w' hS => hS.1) Tryd.underlying24 rfl Tryd.infoMsg) (by assumption) ?_
  simp only [List.getElem_toArray, List.getElem_cons_succ, List.getElem_cons_zero, Act.put, List.setIfInBounds_toArray, List.set_cons_zero, List.set_cons_succ]
  refine wpAnyH_ready (rs := [12]) (by kernel_rfl) (by simp) ?_
  refine AllReadyH.cons rfl (fun Kc hKc => ?_) AllReadyH.nil
  simp only [List.getElem_toArray, List.getElem_cons_succ, List.getElem_cons_zero]
  rw [if_pos (by rfl)]
  go_wp2_with fail
  refine (TB _ a9 c9 Qg).mono ?_
  rintro e wl ⟨b5, c5, rfl, Q5, nb5, Bl⟩
  replace Xh := Xh.next Bl
  replace Yh := Yh.next Bl
  replace Dh := below_then Dh Bl
  replace Rg := Rg.below Bl
  go_wp2_with fail
  refine hKc.out _ _ (⟨Xh, Yh⟩) (fun hHeld => ?_)
  clear hKc Kc
  refine wpAnyH_ready (rs := [14]) (by kernel_rfl) (by simp) ?_
  refine AllReadyH.cons rfl (fun Kc hKc => ?_) AllReadyH.nil
  simp only [List.getElem_toArray, List.getElem_cons_succ, List.getElem_cons_zero]
  rw [if_pos (by rfl)]
  go_wp2_with fail
  refine (TA _ b c Rg).mono ?_
  rintro e wm ⟨b7, c7, rfl, Q7, nb7, Bm⟩
  replace Xh := Xh.next Bm
  replace Yh := Yh.next Bm
  replace Dh := below_then Dh Bm
  replace Q5 := Q5.below Bm
  go_wp2_with fail
  refine hKc.out _ _ (⟨Xh, Yh⟩) (fun hHeld => ?_)
  clear hKc Kc
  refine wpAnyH_ready (rs := [15]) (by kernel_rfl) (by simp) ?_
  refine AllReadyH.cons rfl (fun Kc hKc => ?_) AllReadyH.nil
  simp only [List.getElem_toArray, List.getElem_cons_succ, List.getElem_cons_zero]
  rw [if_pos (by rfl)]
  go_wp2_with fail
  refine (SM _ b5 c5 b7 c7 Q5 Q7).mono ?_
  rintro e wn ⟨rfl, Bn⟩
  replace Xh := Xh.next Bn
  replace Yh := Yh.next Bn
  replace Dh := below_then Dh Bn
  go_wp2_with fail
  refine hKc.out _ _ (⟨Xh, Yh⟩) (fun hHeld => ?_)
  clear hKc Kc
  refine wpAnyH_take (i := 16) (v := (.bool true)) rfl (by kernel_rfl) (by kernel_rfl) (by kernel_rfl) (fun _ _ _ h => h) (Or.inl ⟨by rfl, ?_⟩) (by assumption) ?_
  · intro w' hSw
    go_simp
  simp only [List.getElem_toArray, List.getElem_cons_succ, List.getElem_cons_zero, Act.put, List.setIfInBounds_toArray, List.set_cons_zero, List.set_cons_succ]
  refine wpAnyH_take (i := 17) (v := (.bool true)) rfl (by kernel_rfl) (by kernel_rfl) (by kernel_rfl) (fun _ _ _ h => h) (Or.inl ⟨by rfl, ?_⟩) (by assumption) ?_
  · intro w' hSw
    go_simp
  simp only [List.getElem_toArray, List.getElem_cons_succ, List.getElem_cons_zero, Act.put, List.setIfInBounds_toArray, List.set_cons_zero, List.set_cons_succ]
  refine wpAnyH_done (by kernel_rfl) ?_ _
  clear hHeld
  go_wp2
  go_ret
  exact ⟨rfl, Dh⟩
end Go.Proofs.YtmcjcmddijikbaaDoor
