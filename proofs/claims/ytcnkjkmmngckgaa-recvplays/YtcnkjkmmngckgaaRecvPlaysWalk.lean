/- RecvPlays. Written by tools/genrcplays.py. -/
import Derived.Test.YtcnkjkmmngckgaaRcBoth
import Derived.Test.YtcnkjkmmngckgaaRcPView
import Derived.Deep.RegionHeld3
namespace Go.Proofs.Ytcnkjkmmngckgaa
open Go.ChangeShapes Go.WideShapes Go.ChangeAt Go.RowKit
theorem ne_SF : (9 : TypeId) ≠ 33 := by decide
theorem ne_BF : (4 : TypeId) ≠ 33 := by decide
set_option maxRecDepth 100000 in
set_option maxHeartbeats 64000000 in
theorem recvPlays_walk (num I : Int) (ao : Option Addr) (n0 ca : Nat) (Z : Nat → Pt4) (w : World) (_hnum : -9223372036854775808 ≤ num ∧ num ≤ 9223372036854775807) (_hI : -9223372036854775808 ≤ I ∧ I ≤ 9223372036854775807) (hZ : Pt4At w ao n0 Z) :
    Calls Try.prog 3 #[.int .i64 num, .int .i64 I, .slice ao n0 ca] w fun e w' => e = .returned (.bool true) ∧ Below w.heap.size w w' := by
  have AW := rawake_any
  have HZ0 : Hid (Pt4At w ao n0 Z) := hZ
  have hz1 := hZ.max
  clear hZ
  by_cases h1 : I < 1
  · have RB := rbegin_bad num I w (Or.inl h1)
    rw [if_pos h1] at RB
    unfold stV at RB
    go_enter Try.func3, Try.ntmps3
    go_wp2_with (first
      | (go_at_call 4; refine RB.mono ?_; rintro e w2 ⟨rfl, B2⟩; obtain ⟨XA0, XB0, VB0, vz0⟩ := var3 w2 26 #[.int .i64 0, .slice none 0 0, .slice none 0 0] #[.int .i64 0, .slice none 0 0, .slice none 0 0]; generalize hwA0 : w2.alloc (.cells #[.int .i64 0, .slice none 0 0, .slice none 0 0] 26) = wA0 at *; generalize hwB0 : wA0.setRow w2.heap.size #[.int .i64 0, .slice none 0 0, .slice none 0 0] = wB0 at *)
      | (refine wpList_store_row rfl 26 _ _ rfl w2.heap.size _ rfl rfl 26 _ XA0 Try.infoRs rfl (stall _ _ _ _ _ _ _) ?_; rw [hwB0])
      | (go_at_call 5; refine (AW _).mono ?_; rintro e w3 ⟨rfl, B3⟩; have k1 : w3.cell? ⟨w2.heap.size, 1, none⟩ = some (.slice none 0 0) := (XB0.below B3).cell 1 rfl))
    go_ret
    exact ⟨rfl, below_then (below_then B2 VB0) B3⟩
  by_cases h2 : 512 < I
  · have RB := rbegin_bad num I w (Or.inr h2)
    rw [if_neg h1] at RB
    unfold stV at RB
    go_enter Try.func3, Try.ntmps3
    go_wp2_with (first
      | (go_at_call 4; refine RB.mono ?_; rintro e w2 ⟨rfl, B2⟩; obtain ⟨XA0, XB0, VB0, vz0⟩ := var3 w2 26 #[.int .i64 0, .slice none 0 0, .slice none 0 0] #[.int .i64 0, .slice none 0 0, .slice none 0 0]; generalize hwA0 : w2.alloc (.cells #[.int .i64 0, .slice none 0 0, .slice none 0 0] 26) = wA0 at *; generalize hwB0 : wA0.setRow w2.heap.size #[.int .i64 0, .slice none 0 0, .slice none 0 0] = wB0 at *)
      | (refine wpList_store_row rfl 26 _ _ rfl w2.heap.size _ rfl rfl 26 _ XA0 Try.infoRs rfl (stall _ _ _ _ _ _ _) ?_; rw [hwB0])
      | (go_at_call 5; refine (AW _).mono ?_; rintro e w3 ⟨rfl, B3⟩; have k1 : w3.cell? ⟨w2.heap.size, 1, none⟩ = some (.slice none 0 0) := (XB0.below B3).cell 1 rfl))
    go_ret
    exact ⟨rfl, below_then (below_then B2 VB0) B3⟩
  obtain ⟨n, rfl⟩ : ∃ n : Nat, I = (n : Int) := ⟨I.toNat, by omega⟩
  have hn0 : 0 < n := by omega
  have hn : n ≤ 512 := by omega
  have RB := rbegin_ok num n w (by omega) (by omega)
  unfold stV at RB
  go_enter Try.func3, Try.ntmps3
  go_wp2_with (first
      | (go_at_call 4; refine RB.mono ?_; clear RB; rintro e w2 ⟨a, c, a2, c2, rfl, P2, C2, B2⟩; have z2 := B2.size; obtain ⟨XA0, XB0, VB0, vz0⟩ := var3 w2 26 #[.int .i64 0, .slice none 0 0, .slice none 0 0] #[.int .i64 num, .slice a n c, .slice a2 n c2]; generalize hwA0 : w2.alloc (.cells #[.int .i64 0, .slice none 0 0, .slice none 0 0] 26) = wA0 at *; generalize hwB0 : wA0.setRow w2.heap.size #[.int .i64 num, .slice a n c, .slice a2 n c2] = wB0 at *; have P3 := VOwn.below P2 VB0; have C3 := VOwn.below C2 VB0)
      | (refine wpList_store_row rfl 26 _ _ rfl w2.heap.size _ rfl rfl 26 _ XA0 Try.infoRs rfl (stall _ _ _ _ _ _ _) ?_; rw [hwB0])
      | (go_at_call 5; refine (AW _).mono ?_; rintro e w4 ⟨rfl, B4⟩; have z4 := B4.size; obtain ⟨XA1, XB1, VB1, vz1⟩ := var3 w4 33 #[.int .i64 0, .int .i64 0, .slice none 0 0] #[.int .i64 num, .int .i64 (n : Int), .slice none 0 0]; generalize hwA1 : w4.alloc (.cells #[.int .i64 0, .int .i64 0, .slice none 0 0] 33) = wA1 at *; generalize hwB1 : wA1.setRow w4.heap.size #[.int .i64 num, .int .i64 (n : Int), .slice none 0 0] = wB1 at *; have XS := (XB0.below B4).below VB1; have PS := (P3.below B4).below VB1; have CS := (C3.below B4).below VB1)
      | (refine wpList_store_row rfl 33 _ _ rfl w4.heap.size _ rfl rfl 33 _ XA1 Try.infoRf rfl (rfall _ _ _ _ _) ?_; rw [hwB1]))
  have lt0 := XB0.lt
  have BW : Below w.heap.size w wB1 := below_then B2 (below_then VB0 (below_then B4 VB1))
  have hbb : w2.heap.size ≠ w4.heap.size := by omega
  have hbw : w.heap.size ≤ w2.heap.size := by omega
  have hbw2 : w.heap.size ≤ w4.heap.size := by omega
  generalize hbs : w2.heap.size = bs at *
  generalize hbx : w4.heap.size = bx at *
  have PB := VOwn.base PS (Nat.zero_le _)
  have CB := VOwn.base CS (Nat.zero_le _)
  have XX := XB1
  have HBT := both_new n
  have HBB : Hid (bs ≠ bx ∧ w.heap.size ≤ bs ∧ w.heap.size ≤ bx) := ⟨hbb, hbw, hbw2⟩
  clear P2 C2 P3 C3 PS CS B2 B4 VB0 VB1 XA0 XA1 XB0 XB1 hwA0 hwA1 hwB0 hwB1 vz0 vz1 z2 z4 lt0 hbs hbx hbb hbw hbw2 h1 h2
  go_loopg [10] 60 (fun r s10 wr => ∃ (i : Nat) (a : Option Addr) (c : Nat) (a2 : Option Addr) (c2 : Nat) (xo : Option Addr) (m xc : Nat) (S : List ByteArray) (C : List Bool) (R : List (Int × ByteArray)), r = 60 - i ∧ i ≤ 60 ∧ s10 = .int .i64 (i : Int) ∧ Both S C n R ∧ Blk wr bs 26 #[.int .i64 num, .slice a n c, .slice a2 n c2] ∧ VOwn wr 0 9 (.slice a n c) n (strs S) ∧ VOwn wr 0 4 (.slice a2 n c2) n (bools C) ∧ Blk wr bx 33 #[.int .i64 num, .int .i64 (n : Int), .slice xo m xc] ∧ CArg wr xo m xc R ∧ Below w.heap.size w wr)
  case atStart => exact ⟨0, a, c, a2, c2, none, 0, 0, _, _, _, rfl, by omega, rfl, HBT, XS, PB, CB, XX, carg_nil _, BW⟩
  case round =>
  clear XS PB CB XX BW HBT
  obtain ⟨i, a, c, a2, c2, xo, m, xc, S, C, R, rfl, hi, rfl, HB, XS, PS, CS, XX, AX, BW⟩ := hrel
  obtain ⟨hbb, hbw, hbw2⟩ := HBB.out
  by_cases d1 : i < 60 ∧ i < n0
  case neg =>
    by_cases d2 : i < n0
    · have d2' : (i : Int) < (n0 : Int) := by omega
      have d3' : ¬ (i : Int) < 60 := by omega
      go_wp2_with fail
      go_ret
      exact ⟨rfl, BW⟩
    · have d2' : ¬ (i : Int) < (n0 : Int) := by omega
      go_wp2_with fail
      go_ret
      exact ⟨rfl, BW⟩
  obtain ⟨d1a, d1b⟩ := d1
  have d1' : (i : Int) < (n0 : Int) := by omega
  have d2' : (i : Int) < 60 := by omega
  have ZA := HZ0.out.below BW
  obtain ⟨b, o, rfl, kc⟩ := ZA.cells (by omega)
  obtain ⟨y0, y1, y2, y3⟩ := kc i d1b
  clear kc ZA
  generalize (Z i).num = pn at *
  generalize (Z i).at_ = pa at *
  generalize (Z i).of = po at *
  generalize (Z i).tx = ps at *
  have CU := cut_any ps.data.toList 5000
  rw [txt_of] at CU
  generalize txt (ps.data.toList.take 5000) = pt at *
  obtain ⟨fr, rc, S', C', R', HB', TK, RT⟩ := both_step HB hn0 hn num pn pa po pt
  obtain ⟨T, ok, WH, RW⟩ := both_whole HB' hn0 hn num
  have hcnt := HB'.cnt
  have MS : Hid (∀ (W : World) (a : Option Addr) (c : Nat) (a2 : Option Addr) (c2 : Nat), VArg W a2 n c2 (bools C') → _) := fun W a c a2 c2 h2 => missing_any num a a2 n c n c2 C' W h2 (by omega)
  unfold stV at MS
  have HTK : Hid _ := TK
  have HRT : Hid _ := RT
  have HWH : Hid _ := WH
  have HRW : Hid _ := RW
  have HB2 : Hid (Both S' C' n R') := HB'
  clear TK RT WH RW HB HB'
  obtain ⟨XA0, XB0, VB0, vz0⟩ := var3 wr 35 #[.int .i64 0, .int .i64 0, .int .i64 0, .string ⟨#[]⟩] #[.int .i64 pn, .int .i64 pa, .int .i64 po, .string ps]; generalize hwA0 : wr.alloc (.cells #[.int .i64 0, .int .i64 0, .int .i64 0, .string ⟨#[]⟩] 35) = wA0 at *; generalize hwB0 : wA0.setRow wr.heap.size #[.int .i64 pn, .int .i64 pa, .int .i64 po, .string ps] = wB0 at *
  have p3 : wB0.cell? ⟨wr.heap.size, 3, none⟩ = some (.string ps) := XB0.cell 3 rfl
  have f3 := XB0.frozen 3
  have XP := XB0.set 3 (.string pt)
  have XS0 := XS.below VB0
  have XX0 := XX.below VB0
  have PS0 := VOwn.below PS VB0
  have CS0 := VOwn.below CS VB0
  have AX0 := AX.below VB0
  have lts := XS.lt
  have ltx := XX.lt
  have XS1 := XS0.other (a := ⟨wr.heap.size, 3, none⟩) (show bs ≠ wr.heap.size by omega) (.string pt)
  have XX1 := XX0.other (a := ⟨wr.heap.size, 3, none⟩) (show bx ≠ wr.heap.size by omega) (.string pt)
  have hws : ∀ k, k < wr.heap.size → (wB0.setCell ⟨wr.heap.size, 3, none⟩ (.string pt)).heap[k]? = wr.heap[k]? := fun k hk => (Below.heap_setCell _ _ _ _ (show k ≠ wr.heap.size by omega)).trans (VB0.block k hk)
  have PS1 := VOwn.of_block (w' := wB0.setCell ⟨wr.heap.size, 3, none⟩ (.string pt)) PS (fun g _ _ hg => hws g hg)
  have CS1 := VOwn.of_block (w' := wB0.setCell ⟨wr.heap.size, 3, none⟩ (.string pt)) CS (fun g _ _ hg => hws g hg)
  have BB1 : Below wr.heap.size wr (wB0.setCell ⟨wr.heap.size, 3, none⟩ (.string pt)) := belowS VB0 (a := ⟨wr.heap.size, 3, none⟩) (Nat.le_refl _) (.string pt)
  have AX1 := AX.below BB1
  have sz1 : (wB0.setCell ⟨wr.heap.size, 3, none⟩ (.string pt)).heap.size = wr.heap.size + 1 := by rw [show (wB0.setCell ⟨wr.heap.size, 3, none⟩ (.string pt)).heap.size = wB0.heap.size by simp [World.setCell], vz0]
  have BW1 := below_then BW BB1
  generalize hw1 : wB0.setCell ⟨wr.heap.size, 3, none⟩ (.string pt) = w1 at *
  have XP' : Blk w1 wr.heap.size 35 #[.int .i64 pn, .int .i64 pa, .int .i64 po, .string pt] := XP
  have G1 := HTK.out w1 a c a2 c2 PS1.varg CS1.varg
  clear PS CS AX PS0 CS0 AX0 XS0 XX0 XP hws XS XX BB1
  generalize hbp : wr.heap.size = bp at *
  clear hcnt
  go_upto_region 12 with (first
    | (refine wpList_store_row rfl 35 _ _ rfl bp _ rfl rfl 35 _ XA0 Try.infoPt rfl (ptall _ _ _ _) ?_; rw [hwB0])
    | (go_at_call 6; refine (CU _).mono ?_; rintro e wx ⟨rfl, h9⟩; obtain rfl := h9.symm))
  go_upto_region 13 with (first
    | (refine wpList_load_row rfl 26 _ rfl bs rfl 26 _ (0, 0) _ XS1 Try.underlying26 rfl Try.infoRs ?_)
    | (refine wpList_load_row rfl 35 _ rfl bp rfl 35 _ (0, 0) _ XP' Try.underlying35 rfl Try.infoPt ?_)
    | (go_at_call 7; refine G1.mono ?_; clear G1; rintro e w3 ⟨d, dc, d2, dc2, rfl, P3, C3, B3⟩; have z3 := B3.size; obtain ⟨XA2, XB2, VB2, vz2⟩ := var3 w3 26 #[.int .i64 0, .slice none 0 0, .slice none 0 0] #[.int .i64 num, .slice d n dc, .slice d2 n dc2]; generalize hwA2 : w3.alloc (.cells #[.int .i64 0, .slice none 0 0, .slice none 0 0] 26) = wA2 at *; generalize hwB2 : wA2.setRow w3.heap.size #[.int .i64 num, .slice d n dc, .slice d2 n dc2] = wB2 at *; have BB3 := below_then B3 VB2; have XS3 := XS1.below BB3; have XX3 := XX1.below BB3; have XP3 := XP'.below BB3; have AX3 := AX1.below BB3; have P4 := VOwn.below P3 VB2; have C4 := VOwn.below C3 VB2; have BW3 := below_then BW1 BB3; have q0 : wB2.cell? ⟨bp, 0, none⟩ = some (.int .i64 pn) := XP3.cell 0 rfl; have q1 : wB2.cell? ⟨bp, 1, none⟩ = some (.int .i64 pa) := XP3.cell 1 rfl; have q2 : wB2.cell? ⟨bp, 2, none⟩ = some (.int .i64 po) := XP3.cell 2 rfl; have q3 : wB2.cell? ⟨bp, 3, none⟩ = some (.string pt) := XP3.cell 3 rfl; have G2 := HRT.out wB2 xo m xc AX3)
    | (refine wpList_store_row rfl 26 _ _ rfl w3.heap.size _ rfl rfl 26 _ XA2 Try.infoRs rfl (stall _ _ _ _ _ _ _) ?_; rw [hwB2]))
  go_upto_region 14 with (first
    | (refine wpList_load_row rfl 33 _ rfl bx rfl 33 _ (0, 0) _ XX3 Try.underlying33 rfl Try.infoRf ?_)
    | (go_at_call 8; refine G2.mono ?_; clear G2; rintro e w5 ⟨yo, ym, yc, rfl, A5, B5⟩; have z5 := B5.size; obtain ⟨XA3, XB3, VB3, vz3⟩ := var3 w5 33 #[.int .i64 0, .int .i64 0, .slice none 0 0] #[.int .i64 num, .int .i64 (n : Int), .slice yo ym yc]; generalize hwA3 : w5.alloc (.cells #[.int .i64 0, .int .i64 0, .slice none 0 0] 33) = wA3 at *; generalize hwB3 : wA3.setRow w5.heap.size #[.int .i64 num, .int .i64 (n : Int), .slice yo ym yc] = wB3 at *; have BB5 := below_then B5 VB3; have XS5 := XS3.below BB5; have XX5 := XX3.below BB5; have XT5 := XB2.below BB5; have P6 := VOwn.below P4 BB5; have C6 := VOwn.below C4 BB5; have A6 := A5.below VB3; have BW5 := below_then BW3 BB5)
    | (refine wpList_store_row rfl 33 _ _ rfl w5.heap.size _ rfl rfl 33 _ XA3 Try.infoRf rfl (rfall _ _ _ _ _) ?_; rw [hwB3]))
  have lt3 := XB2.lt
  have XS7 := XS5.row #[.int .i64 num, .slice d n dc, .slice d2 n dc2]
  have e7 : ∀ g, g ≠ bs → (wB3.setRow bs #[.int .i64 num, .slice d n dc, .slice d2 n dc2]).heap[g]? = wB3.heap[g]? := fun g hg => setRow_other _ _ _ _ hg
  have XX7 := XX5.of_block (e7 _ (fun h => hbb h.symm))
  have XY7 := XB3.of_block (e7 _ (by have := XS1.lt; omega))
  have P7 := VOwn.of_block P6 (fun g e _ _ => e7 g (VOwn.ne_blk P6 XS5 ne_SR g e))
  have C7 := VOwn.of_block C6 (fun g e _ _ => e7 g (VOwn.ne_blk C6 XS5 ne_BR g e))
  have A7 := A6.off XS5 (fun i t => by match i with | 0 => simp | 1 => simp | 2 => simp | i + 3 => simp) e7
  have BW7 := belowR BW5 hbw #[.int .i64 num, .slice d n dc, .slice d2 n dc2]
  generalize hw7 : wB3.setRow bs #[.int .i64 num, .slice d n dc, .slice d2 n dc2] = w7 at *
  have XX8 := XX7.row #[.int .i64 num, .int .i64 (n : Int), .slice yo ym yc]
  have e8 : ∀ g, g ≠ bx → (w7.setRow bx #[.int .i64 num, .int .i64 (n : Int), .slice yo ym yc]).heap[g]? = w7.heap[g]? := fun g hg => setRow_other _ _ _ _ hg
  have XS8 := XS7.of_block (e8 _ hbb)
  have P8 := VOwn.of_block P7 (fun g e _ _ => e8 g (VOwn.ne_blk P7 XX7 ne_SF g e))
  have C8 := VOwn.of_block C7 (fun g e _ _ => e8 g (VOwn.ne_blk C7 XX7 ne_BF g e))
  have A8 := A7.off XX7 (fun i t => by match i with | 0 => simp | 1 => simp | 2 => simp | i + 3 => simp) e8
  have BW8 := belowR BW7 hbw2 #[.int .i64 num, .int .i64 (n : Int), .slice yo ym yc]
  generalize hw8 : w7.setRow bx #[.int .i64 num, .int .i64 (n : Int), .slice yo ym yc] = w8 at *
  have G3 := HWH.out w8 d dc d2 dc2 P8.varg C8.varg
  clear e7 e8
  go_upto_region 18 with (first
    | (refine wpList_load_row rfl 26 _ rfl w3.heap.size rfl 26 _ (0, 0) _ XT5 Try.underlying26 rfl Try.infoRs ?_)
    | (refine wpList_store_row rfl 26 _ _ rfl bs _ rfl rfl 26 _ XS5 Try.infoRs rfl (stall _ _ _ _ _ _ _) ?_; rw [hw7])
    | (refine wpList_load_row rfl 33 _ rfl w5.heap.size rfl 33 _ (0, 0) _ XY7 Try.underlying33 rfl Try.infoRf ?_)
    | (refine wpList_store_row rfl 33 _ _ rfl bx _ rfl rfl 33 _ XX7 Try.infoRf rfl (rfall _ _ _ _ _) ?_; rw [hw8])
    | (refine wpList_load_row rfl 26 _ rfl bs rfl 26 _ (0, 0) _ XS8 Try.underlying26 rfl Try.infoRs ?_)
    | (go_at_call 9; refine G3.mono ?_; clear G3; rintro e w9 ⟨rfl, B9⟩; have XS9 := XS8.below B9; have XX9 := XX8.below B9; have A9 := A8.below B9; have G4 := HRW.out w9 yo ym yc A9)
    | (refine wpList_load_row rfl 33 _ rfl bx rfl 33 _ (0, 0) _ XX9 Try.underlying33 rfl Try.infoRf ?_)
    | (go_at_call 10; refine G4.mono ?_; clear G4; rintro e w10 ⟨rfl, B10⟩))
  have B810 := below_then B9 B10
  have XSx := XS8.below B810
  have XXx := XX8.below B810
  have PSx := VOwn.base (VOwn.below P8 B810) (Nat.zero_le _)
  have CSx := VOwn.base (VOwn.below C8 B810) (Nat.zero_le _)
  have AXx := A8.below B810
  have BWx := below_then BW8 B810
  have M1 := fun W (h : Below w10.heap.size w10 W) => MS.out W d dc d2 dc2 ((VOwn.varg CSx).below h)
  have HM1 : Hid _ := M1
  have hcnt := HB2.out.cnt
  have hym := AXx.len
  have hM : ((leftL C' n).length : Int) = (n : Int) - (ym : Int) := by omega
  rw [hM] at HM1
  have hym2 : ym ≤ n := by omega
  clear M1 hcnt hym hM
  clear XS8 XX8 P8 C8 A8 BW8 XS9 XX9 A9 hw8 hw7 XS7 XX7 XY7 P7 C7 A7 BW7 XT5 XS5 XX5 P6 C6 A6 hwB3 hwA3 XB3 XA3
  refine wp_region_held_drew (S := fun w' => Blk w' bs 26 #[.int .i64 num, .slice d n dc, .slice d2 n dc2] ∧ Blk w' bx 33 #[.int .i64 num, .int .i64 (n : Int), .slice yo ym yc]) (by kernel_rfl) (⟨XSx, XXx⟩) (fun hHeld => ?_)
  refine wpAnyH_take (i := 0) (v := (.bool fr)) rfl (by kernel_rfl) (by kernel_rfl) (by kernel_rfl) (fun _ _ _ h => h) (Or.inl ⟨by rfl, ?_⟩) (by assumption) ?_
  · intro w' hSw
    go_simp
  simp only [List.getElem_toArray, List.getElem_cons_zero, Act.put, List.setIfInBounds_toArray, List.set_cons_zero, List.set_cons_succ]
  refine wpAnyH_take (i := 1) (v := (.bool fr)) rfl (by kernel_rfl) (by kernel_rfl) (by kernel_rfl) (fun _ _ _ h => h) (Or.inl ⟨by rfl, ?_⟩) (by assumption) ?_
  · intro w' hSw
    go_simp
  simp only [List.getElem_toArray, List.getElem_cons_succ, List.getElem_cons_zero, Act.put, List.setIfInBounds_toArray, List.set_cons_zero, List.set_cons_succ]
  refine wpAnyH_take (i := 2) (v := (.bool false)) rfl (by kernel_rfl) (by kernel_rfl) (by kernel_rfl) (fun _ _ _ h => h) (Or.inl ⟨by rfl, ?_⟩) (by assumption) ?_
  · intro w' hSw
    go_simp
  simp only [List.getElem_toArray, List.getElem_cons_succ, List.getElem_cons_zero, Act.put, List.setIfInBounds_toArray, List.set_cons_zero, List.set_cons_succ]
  refine wpAnyH_take (i := 3) (v := (.bool false)) rfl (by kernel_rfl) (by kernel_rfl) (by kernel_rfl) (fun _ _ _ h => h) (Or.inl ⟨by rfl, ?_⟩) (by assumption) ?_
  · intro w' hSw
    go_simp
  simp only [List.getElem_toArray, List.getElem_cons_succ, List.getElem_cons_zero, Act.put, List.setIfInBounds_toArray, List.set_cons_zero, List.set_cons_succ]
  refine wpAnyH_take (i := 4) (v := (.int .i64 rc)) rfl (by kernel_rfl) (by kernel_rfl) (by kernel_rfl) (fun _ _ _ h => h) (Or.inl ⟨by rfl, ?_⟩) (by assumption) ?_
  · intro w' hSw
    go_simp
  simp only [List.getElem_toArray, List.getElem_cons_succ, List.getElem_cons_zero, Act.put, List.setIfInBounds_toArray, List.set_cons_zero, List.set_cons_succ]
  refine wpAnyH_take (i := 5) (v := (.int .i64 rc)) rfl (by kernel_rfl) (by kernel_rfl) (by kernel_rfl) (fun _ _ _ h => h) (Or.inl ⟨by rfl, ?_⟩) (by assumption) ?_
  · intro w' hSw
    go_simp
  simp only [List.getElem_toArray, List.getElem_cons_succ, List.getElem_cons_zero, Act.put, List.setIfInBounds_toArray, List.set_cons_zero, List.set_cons_succ]
  refine wpAnyH_take (i := 6) (v := (.bool false)) rfl (by kernel_rfl) (by kernel_rfl) (by kernel_rfl) (fun _ _ _ h => h) (Or.inl ⟨by rfl, ?_⟩) (by assumption) ?_
  · intro w' hSw
    go_simp
  simp only [List.getElem_toArray, List.getElem_cons_succ, List.getElem_cons_zero, Act.put, List.setIfInBounds_toArray, List.set_cons_zero, List.set_cons_succ]
  refine wpAnyH_take (i := 7) (v := (.bool false)) rfl (by kernel_rfl) (by kernel_rfl) (by kernel_rfl) (fun _ _ _ h => h) (Or.inl ⟨by rfl, ?_⟩) (by assumption) ?_
  · intro w' hSw
    go_simp
  simp only [List.getElem_toArray, List.getElem_cons_succ, List.getElem_cons_zero, Act.put, List.setIfInBounds_toArray, List.set_cons_zero, List.set_cons_succ]
  refine wpAnyH_take (i := 8) (v := (.bool false)) rfl (by kernel_rfl) (by kernel_rfl) (by kernel_rfl) (fun _ _ _ h => h) (Or.inl ⟨by rfl, ?_⟩) (by assumption) ?_
  · intro w' hSw
    go_simp
  simp only [List.getElem_toArray, List.getElem_cons_succ, List.getElem_cons_zero, Act.put, List.setIfInBounds_toArray, List.set_cons_zero, List.set_cons_succ]
  refine wpAnyH_take (i := 9) (v := (.string T)) rfl (by kernel_rfl) (by kernel_rfl) (by kernel_rfl) (fun _ _ _ h => h) (Or.inl ⟨by rfl, ?_⟩) (by assumption) ?_
  · intro w' hSw
    go_simp
  simp only [List.getElem_toArray, List.getElem_cons_succ, List.getElem_cons_zero, Act.put, List.setIfInBounds_toArray, List.set_cons_zero, List.set_cons_succ]
  refine wpAnyH_take (i := 10) (v := (.string T)) rfl (by kernel_rfl) (by kernel_rfl) (by kernel_rfl) (fun _ _ _ h => h) (Or.inl ⟨by rfl, ?_⟩) (by assumption) ?_
  · intro w' hSw
    go_simp
  simp only [List.getElem_toArray, List.getElem_cons_succ, List.getElem_cons_zero, Act.put, List.setIfInBounds_toArray, List.set_cons_zero, List.set_cons_succ]
  refine wpAnyH_take (i := 11) (v := (.bool false)) rfl (by kernel_rfl) (by kernel_rfl) (by kernel_rfl) (fun _ _ _ h => h) (Or.inl ⟨by rfl, ?_⟩) (by assumption) ?_
  · intro w' hSw
    go_simp
  simp only [List.getElem_toArray, List.getElem_cons_succ, List.getElem_cons_zero, Act.put, List.setIfInBounds_toArray, List.set_cons_zero, List.set_cons_succ]
  refine wpAnyH_take (i := 12) (v := (.bool false)) rfl (by kernel_rfl) (by kernel_rfl) (by kernel_rfl) (fun _ _ _ h => h) (Or.inl ⟨by rfl, ?_⟩) (by assumption) ?_
  · intro w' hSw
    go_simp
  simp only [List.getElem_toArray, List.getElem_cons_succ, List.getElem_cons_zero, Act.put, List.setIfInBounds_toArray, List.set_cons_zero, List.set_cons_succ]
  refine wpAnyH_take (i := 13) (v := (.bool false)) rfl (by kernel_rfl) (by kernel_rfl) (by kernel_rfl) (fun _ _ _ h => h) (Or.inl ⟨by rfl, ?_⟩) (by assumption) ?_
  · intro w' hSw
    go_simp
  simp only [List.getElem_toArray, List.getElem_cons_succ, List.getElem_cons_zero, Act.put, List.setIfInBounds_toArray, List.set_cons_zero, List.set_cons_succ]
  refine wpAnyH_take (i := 14) (v := (.bool ok)) rfl (by kernel_rfl) (by kernel_rfl) (by kernel_rfl) (fun _ _ _ h => h) (Or.inl ⟨by rfl, ?_⟩) (by assumption) ?_
  · intro w' hSw
    go_simp
  simp only [List.getElem_toArray, List.getElem_cons_succ, List.getElem_cons_zero, Act.put, List.setIfInBounds_toArray, List.set_cons_zero, List.set_cons_succ]
  refine wpAnyH_take (i := 15) (v := (.bool ok)) rfl (by kernel_rfl) (by kernel_rfl) (by kernel_rfl) (fun _ _ _ h => h) (Or.inl ⟨by rfl, ?_⟩) (by assumption) ?_
  · intro w' hSw
    go_simp
  simp only [List.getElem_toArray, List.getElem_cons_succ, List.getElem_cons_zero, Act.put, List.setIfInBounds_toArray, List.set_cons_zero, List.set_cons_succ]
  refine wpAnyH_take (i := 16) (v := (.bool false)) rfl (by kernel_rfl) (by kernel_rfl) (by kernel_rfl) (fun _ _ _ h => h) (Or.inl ⟨by rfl, ?_⟩) (by assumption) ?_
  · intro w' hSw
    go_simp
  simp only [List.getElem_toArray, List.getElem_cons_succ, List.getElem_cons_zero, Act.put, List.setIfInBounds_toArray, List.set_cons_zero, List.set_cons_succ]
  refine wpAnyH_take (i := 17) (v := (.bool false)) rfl (by kernel_rfl) (by kernel_rfl) (by kernel_rfl) (fun _ _ _ h => h) (Or.inl ⟨by rfl, ?_⟩) (by assumption) ?_
  · intro w' hSw
    go_simp
  simp only [List.getElem_toArray, List.getElem_cons_succ, List.getElem_cons_zero, Act.put, List.setIfInBounds_toArray, List.set_cons_zero, List.set_cons_succ]
  refine wpAnyH_take (i := 18) (v := (.bool false)) rfl (by kernel_rfl) (by kernel_rfl) (by kernel_rfl) (fun _ _ _ h => h) (Or.inl ⟨by rfl, ?_⟩) (by assumption) ?_
  · intro w' hSw
    go_simp
  simp only [List.getElem_toArray, List.getElem_cons_succ, List.getElem_cons_zero, Act.put, List.setIfInBounds_toArray, List.set_cons_zero, List.set_cons_succ]
  refine wpAnyH_take (i := 19) (v := (.agg #[.int .i64 num, .slice d n dc, .slice d2 n dc2])) rfl (by kernel_rfl) (by kernel_rfl) (by kernel_rfl) (fun _ _ _ h => h) (Or.inl ⟨by rfl, ?_⟩) (by assumption) ?_
  · intro w' hSw
    have y0 : w'.cell? ⟨bs, 0, none⟩ = some (.int .i64 num) := hSw.1.cell 0 rfl
    have y1 : w'.cell? ⟨bs, 1, none⟩ = some (.slice d n dc) := hSw.1.cell 1 rfl
    have y2 : w'.cell? ⟨bs, 2, none⟩ = some (.slice d2 n dc2) := hSw.1.cell 2 rfl
    go_simp
  simp only [List.getElem_toArray, List.getElem_cons_succ, List.getElem_cons_zero, Act.put, List.setIfInBounds_toArray, List.set_cons_zero, List.set_cons_succ]
  refine wpAnyH_take (i := 21) (v := (.int .i64 (n : Int))) rfl (by kernel_rfl) (by kernel_rfl) (by kernel_rfl) (fun _ _ _ h => h) (Or.inl ⟨by rfl, ?_⟩) (by assumption) ?_
  · intro w' hSw
    go_simp
  simp only [List.getElem_toArray, List.getElem_cons_succ, List.getElem_cons_zero, Act.put, List.setIfInBounds_toArray, List.set_cons_zero, List.set_cons_succ]
  refine wpAnyH_take (i := 22) (v := (.pointer (some ⟨bx, 2, none⟩))) rfl (by kernel_rfl) (by kernel_rfl) (by kernel_rfl) (fun _ _ _ h => h) (Or.inl ⟨by rfl, ?_⟩) (by assumption) ?_
  · intro w' hSw
    go_simp
  simp only [List.getElem_toArray, List.getElem_cons_succ, List.getElem_cons_zero, Act.put, List.setIfInBounds_toArray, List.set_cons_zero, List.set_cons_succ]
  refine wpAnyH_take (i := 23) (v := (.slice yo ym yc)) rfl (by kernel_rfl) (by kernel_rfl) (by kernel_rfl) (fun _ _ _ h => h) (Or.inl ⟨by rfl, ?_⟩) (by assumption) ?_
  · intro w' hSw
    have y2 : w'.cell? ⟨bx, 2, none⟩ = some (.slice yo ym yc) := hSw.2.cell 2 rfl
    go_simp
  simp only [List.getElem_toArray, List.getElem_cons_succ, List.getElem_cons_zero, Act.put, List.setIfInBounds_toArray, List.set_cons_zero, List.set_cons_succ]
  refine wpAnyH_take (i := 24) (v := (.int .i64 (ym : Int))) rfl (by kernel_rfl) (by kernel_rfl) (by kernel_rfl) (fun _ _ _ h => h) (Or.inl ⟨by rfl, ?_⟩) (by assumption) ?_
  · intro w' hSw
    go_simp
  simp only [List.getElem_toArray, List.getElem_cons_succ, List.getElem_cons_zero, Act.put, List.setIfInBounds_toArray, List.set_cons_zero, List.set_cons_succ]
  refine wpAnyH_take (i := 25) (v := (.int .i64 ((n : Int) - (ym : Int)))) rfl (by kernel_rfl) (by kernel_rfl) (by kernel_rfl) (fun _ _ _ h => h) (Or.inl ⟨by rfl, ?_⟩) (by assumption) ?_
  · intro w' hSw
    go_simp
    simp [IntKind.wrap, IntKind.bits, IntKind.signed]
    omega
  simp only [List.getElem_toArray, List.getElem_cons_succ, List.getElem_cons_zero, Act.put, List.setIfInBounds_toArray, List.set_cons_zero, List.set_cons_succ]
  refine wpAnyH_ready (rs := [20]) (by kernel_rfl) (by simp) ?_
  refine AllReadyH.cons rfl (fun Kc hKc => ?_) AllReadyH.nil
  simp only [List.getElem_toArray, List.getElem_cons_succ, List.getElem_cons_zero]
  rw [if_pos (by rfl)]
  go_wp2_with fail
  refine (HM1.out _ (Below.refl _ _).drew).mono ?_
  rintro e w11 ⟨rfl, B11⟩
  replace B11 : Below w10.heap.size w10 w11 := below_then (Below.refl w10.heap.size w10).drew B11
  go_wp2_with fail
  refine hKc.out _ _ (⟨XSx.below B11, XXx.below B11⟩) (fun hHeld => ?_)
  clear hKc Kc
  refine wpAnyH_take (i := 26) (v := (.bool false)) rfl (by kernel_rfl) (by kernel_rfl) (by kernel_rfl) (fun _ _ _ h => h) (Or.inl ⟨by rfl, ?_⟩) (by assumption) ?_
  · intro w' hSw
    go_simp
  simp only [List.getElem_toArray, List.getElem_cons_succ, List.getElem_cons_zero, Act.put, List.setIfInBounds_toArray, List.set_cons_zero, List.set_cons_succ]
  refine wpAnyH_take (i := 27) (v := (.bool false)) rfl (by kernel_rfl) (by kernel_rfl) (by kernel_rfl) (fun _ _ _ h => h) (Or.inl ⟨by rfl, ?_⟩) (by assumption) ?_
  · intro w' hSw
    go_simp
  simp only [List.getElem_toArray, List.getElem_cons_succ, List.getElem_cons_zero, Act.put, List.setIfInBounds_toArray, List.set_cons_zero, List.set_cons_succ]
  refine wpAnyH_done (by kernel_rfl) ?_ _
  go_wp2_with fail
  go_roundg (60 - (i + 1))
  case measure => omega
  case rel => exact ⟨i + 1, d, dc, d2, dc2, yo, ym, yc, S', C', R', rfl, by omega, by go_num, HB2.out, XSx.below B11, VOwn.below PSx B11, VOwn.below CSx B11, XXx.below B11, AXx.below B11, below_then BWx B11⟩
end Go.Proofs.Ytcnkjkmmngckgaa
