/- TillerTransfer. Written by tools/gentx.py. -/
import Derived.Test.YtdopcagikcdfcaaDoorTxBase
import Derived.Test.YtdopcagikcdfcaaDoorLast
import Derived.Deep.MidRow
import Derived.Deep.CutBlock
import Derived.Deep.CutRange
namespace Go.Proofs.YtdopcagikcdfcaaDoor
open Go.ChangeShapes Go.WideShapes Go.ChangeAt Go.RowKit
theorem set_self : ∀ (L : List UInt8) (i : Nat), L.set i (L.getD i 0) = L
  | [], _ => rfl
  | _ :: _, 0 => rfl
  | a :: L, i + 1 => by
    show a :: L.set i (L.getD i 0) = a :: L
    rw [set_self L i]
set_option maxRecDepth 100000 in
set_option maxHeartbeats 64000000 in
theorem tillerTransfer_walk (num : Int) (s : ByteArray) (I : Int) (ao2 : Option Addr) (n2 ca2 : Nat) (Y : Nat → Act4) (w : World) (_hnum : -9223372036854775808 ≤ num ∧ num ≤ 9223372036854775807) (_hI : -9223372036854775808 ≤ I ∧ I ≤ 9223372036854775807) (hY : CActsAt w ao2 n2 Y) (hE : Env w) :
    Calls Tryd.prog 3 #[.int .i64 num, .string s, .int .i64 I, .slice ao2 n2 ca2] w fun e w' => e = .returned (.bool true) ∧ Below w.heap.size w w' := by
  have CU := fun W => cutl_any s.data.toList 300 W
  simp only [txt_of] at CU
  have hl : (s.data.toList.take 300).length ≤ 300 := by rw [List.length_take]; omega
  generalize s.data.toList.take 300 = l at *
  have C0 : ∀ W, Calls Tryd.prog 4 #[.string ⟨#[97, 98, 99, 100, 101]⟩, .int .i64 2] W fun e w' => ∃ a c, e = .returned (.tuple #[.slice a 3 c, .int .i64 0]) ∧ VOwn w' W.heap.size 9 (.slice a 3 c) 3 (strs [txt [97, 98], txt [99, 100], txt [101]]) ∧ Below W.heap.size W w' := fun W => scut_ok [97, 98, 99, 100, 101] 2 W rfl (by decide)
  have HY : Hid (∀ W, Below w.heap.size w W → CActsAt W ao2 n2 Y) := fun W h => hY.below h
  have HV : Hid (∀ W, Below w.heap.size w W → Env W) := fun W h => hE.next h
  have mx2 := hY.max
  clear hY hE
  obtain ⟨T, hT⟩ : ∃ T, T = txt l := ⟨_, rfl⟩
  have HT : Hid (T = txt l) := hT
  by_cases hnm : num < 0 ∨ 1099511627776 < num
  · clear hT
    have key : ∀ (P : Prop), (num < 0 → P) → (¬ num < 0 → 1099511627776 < num → P) → P := fun P a b => by
      by_cases q : num < 0
      · exact a q
      · exact b q (by omega)
    refine key _ (fun k1 => ?_) (fun k1 k2 => ?_)
    all_goals
      go_enter Tryd.func3, Tryd.ntmps3
      go_wp2_with (first
        | (go_at_call 4; refine (C0 _).mono ?_; rintro e w1 ⟨a1, c1, rfl, P1, B1⟩; obtain ⟨g1, q1, r1, hv1, _, _, _⟩ := VOwn.block P1 (by decide); injection hv1 with hv1 hv2 hv3; subst hv1; have k1 : w1.cell? ⟨g1, 2, none⟩ = some (.string ⟨#[101]⟩) := (World.ownsRow.cellAt P1 2 (by decide)).trans rfl; have m1 := (VOwn.varg P1).max)
        | (go_at_call 5; refine (CU _).mono ?_; rintro e w2 ⟨rfl, h9⟩; obtain rfl := h9.symm))
      go_ret
      exact ⟨rfl, B1⟩
  have hn0 : ¬ num < 0 := by omega
  have hn1 : ¬ 1099511627776 < num := by omega
  by_cases h : cutN l I = 0
  case neg =>
    as_aux_lemma =>
    have C := fun W => sbegin_bad num l I W h
    unfold stV at C
    rw [← hT] at CU C
    generalize cutN l I = r at *
    clear hT
    go_enter Tryd.func3, Tryd.ntmps3
    go_wp2_with (first
      | (go_at_call 4; refine (C0 _).mono ?_; rintro e w1 ⟨a1, c1, rfl, P1, B1⟩; obtain ⟨g1, q1, r1, hv1, _, _, _⟩ := VOwn.block P1 (by decide); injection hv1 with hv1 hv2 hv3; subst hv1; have k1 : w1.cell? ⟨g1, 2, none⟩ = some (.string ⟨#[101]⟩) := (World.ownsRow.cellAt P1 2 (by decide)).trans rfl; have m1 := (VOwn.varg P1).max)
      | (go_at_call 5; refine (CU _).mono ?_; rintro e w2 ⟨rfl, h9⟩; obtain rfl := h9.symm)
      | (go_at_call 6; refine (C _).mono ?_; rintro e w2 ⟨rfl, B2⟩; obtain ⟨XA0, XB0, VB0, vz0⟩ := var3 w2 30 #[.int .i64 0, .slice none 0 0, .slice none 0 0] #[.int .i64 0, .slice none 0 0, .slice none 0 0]; generalize hwA0 : w2.alloc (.cells #[.int .i64 0, .slice none 0 0, .slice none 0 0] 30) = wA0 at *; generalize hwB0 : wA0.setRow w2.heap.size #[.int .i64 0, .slice none 0 0, .slice none 0 0] = wb at *; have k3 : wb.cell? ⟨w2.heap.size, 1, none⟩ = some (.slice none 0 0) := XB0.cell 1 rfl)
      | (refine wpList_store_row rfl 30 _ _ rfl w2.heap.size _ rfl rfl 30 _ XA0 Tryd.infoSs rfl (stall _ _ _ _ _ _ _) ?_; rw [hwB0]))
    go_ret
    exact ⟨rfl, below_then B1 (below_then B2 VB0)⟩
  obtain ⟨h1, h2, h3⟩ := cutN_parts' h
  obtain ⟨z, rfl⟩ : ∃ z : Nat, I = (z : Int) := ⟨I.toNat, by omega⟩
  have hm := cutS_most l z h3
  have hp := cutS_pos l z
  have hzs := cutS_size l z (by omega) (by omega)
  have hcat := catS_cut l z
  have CT := fun W => sbegin_ok num l z W h (by omega) (by omega)
  unfold stV at CT
  generalize cutS l z = S at *
  generalize hn : S.length = n at *
  have HN : Hid (S.length = n) := hn
  have RB := fun W => rbegin_ok num n W hp hm
  unfold stV at RB
  have hzz : ∀ s ∈ S, s.size ≤ 140737488355328 := fun s hs => by have := hzs s hs; omega
  have hse : ∀ i, (se S i).size ≤ 4096 := fun i => se_size hzs i
  have HZ : Hid (∀ s ∈ S, s.size ≤ 140737488355328) := hzz
  have HSE : Hid (∀ i, (se S i).size ≤ 4096) := hse
  have HCAT : Hid (catS S = l) := hcat
  have HL : Hid (l.length ≤ 300) := hl
  clear h hzs hzz hn h1 h2 h3 hcat hse
  rw [← hT] at CU CT
  clear hT hl hnm
  go_enter Tryd.func3, Tryd.ntmps3
  go_wp2_with (first
      | (go_at_call 4; refine (C0 _).mono ?_; rintro e w1 ⟨a1, c1, rfl, P1, B1⟩; obtain ⟨g1, q1, r1, hv1, _, _, _⟩ := VOwn.block P1 (by decide); injection hv1 with hv1 hv2 hv3; subst hv1; have k1 : w1.cell? ⟨g1, 2, none⟩ = some (.string ⟨#[101]⟩) := (World.ownsRow.cellAt P1 2 (by decide)).trans rfl; have m1 := (VOwn.varg P1).max)
      | (go_at_call 5; refine (CU _).mono ?_; rintro e w2 ⟨rfl, h9⟩; obtain rfl := h9.symm)
      | (go_at_call 6; refine (CT _).mono ?_; clear CT; rintro e w2 ⟨a, c, a2, c2, rfl, P2, C2, B2⟩; have z2 := B2.size; obtain ⟨XA1, XB1, VB1, vz1⟩ := var3 w2 30 #[.int .i64 0, .slice none 0 0, .slice none 0 0] #[.int .i64 num, .slice a n c, .slice a2 n c2]; generalize hwA1 : w2.alloc (.cells #[.int .i64 0, .slice none 0 0, .slice none 0 0] 30) = wA1 at *; generalize hwB1 : wA1.setRow w2.heap.size #[.int .i64 num, .slice a n c, .slice a2 n c2] = wb at *; have P3 := VOwn.below P2 VB1; have C3 := VOwn.below C2 VB1; have k3 : wb.cell? ⟨w2.heap.size, 1, none⟩ = some (.slice a n c) := XB1.cell 1 rfl)
      | (refine wpList_store_row rfl 30 _ _ rfl w2.heap.size _ rfl rfl 30 _ XA1 Tryd.infoSs rfl (stall _ _ _ _ _ _ _) ?_; rw [hwB1])
      | (go_at_call 7; refine (RB _).mono ?_; clear RB; rintro e w4 ⟨b, d, b2, d2, rfl, P4, C4, B4⟩; have z4 := B4.size; obtain ⟨XA2, XB2, VB2, vz2⟩ := var3 w4 33 #[.int .i64 0, .slice none 0 0, .slice none 0 0] #[.int .i64 num, .slice b n d, .slice b2 n d2]; generalize hwA2 : w4.alloc (.cells #[.int .i64 0, .slice none 0 0, .slice none 0 0] 33) = wA2 at *; generalize hwB2 : wA2.setRow w4.heap.size #[.int .i64 num, .slice b n d, .slice b2 n d2] = wd at *; have P5 := VOwn.below P4 VB2; have C5 := VOwn.below C4 VB2; have X5 := (XB1.below B4).below VB2; have P5s := VOwn.below (VOwn.below P3 B4) VB2; have C5s := VOwn.below (VOwn.below C3 B4) VB2)
      | (refine wpList_store_row rfl 33 _ _ rfl w4.heap.size _ rfl rfl 33 _ XA2 Tryd.infoRs rfl (stall _ _ _ _ _ _ _) ?_; rw [hwB2]))
  have lt1 := XB1.lt
  have z1 := B1.size
  have BW : Below w.heap.size w wd := below_then B1 (below_then B2 (below_then VB1 (below_then B4 VB2)))
  have HBB : Hid (w2.heap.size ≠ w4.heap.size ∧ w.heap.size ≤ w2.heap.size ∧ w.heap.size ≤ w4.heap.size) := ⟨by omega, by omega, by omega⟩
  have I0 : TxI w w2.heap.size w4.heap.size num n S wd a c a2 c2 b d b2 d2 _ _ _ := ⟨good_new S n HN.out, fun j _ e => e, X5, VOwn.base P5s (Nat.zero_le _), VOwn.base C5s (Nat.zero_le _), XB2, VOwn.base P5 (Nat.zero_le _), VOwn.base C5 (Nat.zero_le _), BW⟩
  have hlf : (leftL (List.replicate n false) n).length = n := leftL_none n n
  generalize w2.heap.size = bs at *
  generalize w4.heap.size = br at *
  clear P1 P2 C2 P3 C3 P4 C4 P5 C5 P5s C5s X5 B1 B2 B4 VB1 VB2 XA1 XA2 XB1 XB2 hwA1 hwA2 hwB1 hwB2 vz1 vz2 z1 z2 z4 k1 k3 lt1 BW m1 hv2 hv3
  go_loopg [15, 16] 600 (fun r s15 s16 wr => ∃ (rd k : Nat) (a : Option Addr) (c : Nat) (a2 : Option Addr) (c2 : Nat) (b : Option Addr) (d : Nat) (b2 : Option Addr) (d2 : Nat) (S' : List ByteArray) (C' Cs : List Bool), r = 600 - rd ∧ rd ≤ 600 ∧ s15 = .int .i64 (k : Int) ∧ s16 = .int .i64 (rd : Int) ∧ k ≤ 5 * rd ∧ rd + (leftL Cs n).length ≤ min k 60 + n ∧ TxI w bs br num n S wr a c a2 c2 b d b2 d2 S' C' Cs)
  case atStart => exact ⟨0, 0, a, c, a2, c2, b, d, b2, d2, _, _, _, rfl, by omega, rfl, rfl, by omega, by rw [hlf]; omega, I0⟩
  case round =>
  as_aux_lemma =>
  clear I0 hlf
  obtain ⟨rd, k, a, c, a2, c2, b, d, b2, d2, S', C', Cs, rfl, hrd, rfl, rfl, hk5, hpot, TI⟩ := hrel
  have hlt : rd < 600 := by omega
  have hlt' : (rd : Int) < 600 := by omega
  have OV := fun W (hW : Below wr.heap.size wr W) => sover_any num a a2 n c n c2 Cs W (VArg.below (VOwn.varg TI.cs) hW) (by omega)
  unfold stV at OV
  have XS := TI.xs
  have u0 : wr.cell? ⟨bs, 0, none⟩ = some (.int .i64 num) := XS.cell 0 rfl
  have u1 : wr.cell? ⟨bs, 1, none⟩ = some (.slice a n c) := XS.cell 1 rfl
  have u2 : wr.cell? ⟨bs, 2, none⟩ = some (.slice a2 n c2) := XS.cell 2 rfl
  by_cases hov : (leftL Cs n).length = 0
  case pos =>
    as_aux_lemma =>
    have hall : ∀ j, j < n → be C' j = true := fun j hj => TI.sub j hj (leftL_nil n hov j hj)
    have hSS := TI.good.all hall
    have PO := TI.po
    rw [hSS] at PO
    have hlen : (leftL C' n).length = 0 := by rw [leftL_all n hall]; rfl
    have WH := fun W (hW : Below wr.heap.size wr W) => whole_yes num b b2 n d d2 S C' W (VArg.below (VOwn.varg PO) hW) (VArg.below (VOwn.varg TI.co) hW) (by omega) (by omega) hlen (by rw [HCAT.out]; have := HL.out; omega)
    rw [HCAT.out, ← HT.out] at WH
    unfold stV at WH
    have XR := TI.xr
    have BW := TI.old
    have ov : decide (((leftL Cs n).length : Int) = 0) = true := decide_eq_true (by omega)
    rw [ov] at OV
    have ts := txt_same T
    clear hall hSS PO TI hpot hov hlen ov
    go_wp2_with (first
      | (go_at_call 8; refine OV8.mono ?_; rintro e w9 ⟨rfl, B9⟩)
      | (go_at_call 8; refine (OV _ (Below.refl _ _)).mono ?_; rintro e w5 ⟨rfl, B5⟩; have XR5 := XR.below B5; have WH5 := WH _ B5)
      | (go_at_call 14; refine WH5.mono ?_; rintro e w8 ⟨rfl, B8⟩; have XS8 := (XS.below B5).below B8; have OV8 := OV _ (below_then B5 B8))
      | (refine wpList_load_row rfl 33 _ rfl br rfl 33 _ (0, 0) _ XR5 Tryd.underlying33 rfl Tryd.infoRs ?_)
      | (refine wpList_load_row rfl 30 _ rfl bs rfl 30 _ (0, 0) _ XS8 Tryd.underlying30 rfl Tryd.infoSs ?_)
      | (refine wpList_load_row rfl 30 _ rfl bs rfl 30 _ (0, 0) _ XS Tryd.underlying30 rfl Tryd.infoSs ?_))
    go_ret
    exact ⟨rfl, below_then BW (below_then B5 (below_then B8 B9))⟩
  have ov : decide (((leftL Cs n).length : Int) = 0) = false := decide_eq_false (by omega)
  rw [ov] at OV
  obtain ⟨q, hq⟩ : ∃ q, q = min 5 (leftL Cs n).length := ⟨_, rfl⟩
  have hq1 : 1 ≤ q := by omega
  have hq5 : q ≤ 5 := by omega
  have hqL : Hid (q ≤ (leftL Cs n).length) := by show _ ≤ _; omega
  have NX := fun W (hW : Below wr.heap.size wr W) => snext_any num 5 a a2 n c n c2 q S Cs W (VArg.below (VOwn.varg TI.ps) hW) (VArg.below (VOwn.varg TI.cs) hW) (by omega) HZ.out (by rw [hq]; rfl)
  unfold stV at NX
  have HTI : Hid (TxI w bs br num n S wr a c a2 c2 b d b2 d2 S' C' Cs) := TI
  have HPOT : Hid (rd + (leftL Cs n).length ≤ min k 60 + n) := hpot
  obtain ⟨LL, hLL⟩ : ∃ LL, LL = leftL Cs n := ⟨_, rfl⟩
  have HLL : Hid (LL = leftL Cs n) := hLL
  rw [← hLL] at NX
  clear TI hpot hov ov hq hLL
  go_wp2_with (first
    | (go_at_call 8; refine (OV _ (Below.refl _ _)).mono ?_; rintro e w5 ⟨rfl, B5⟩; have XS5 := XS.below B5; have NX5 := NX _ B5)
    | (go_at_call 9; refine NX5.mono ?_; rintro e w6 ⟨an, cn, rfl, R6, B6⟩; have mxn := R6.max)
    | (refine wpList_load_row rfl 30 _ rfl bs rfl 30 _ (0, 0) _ XS5 Tryd.underlying30 rfl Tryd.infoSs ?_)
    | (refine wpList_load_row rfl 30 _ rfl bs rfl 30 _ (0, 0) _ XS Tryd.underlying30 rfl Tryd.infoSs ?_))
  have B56 := below_then B5 B6
  have I6 := HTI.out.below B56
  clear XS XS5 NX NX5 OV B5 B6 B56 u0 u1 u2
  go_loopg [15, 96] q (fun r s15 s96 wq => ∃ (j kk : Nat) (a : Option Addr) (c : Nat) (a2 : Option Addr) (c2 : Nat) (b : Option Addr) (d : Nat) (b2 : Option Addr) (d2 : Nat) (S' : List ByteArray) (C' Cs2 : List Bool), r = q - j ∧ j ≤ q ∧ s96 = .int .i64 (j : Int) ∧ s15 = .int .i64 (kk : Int) ∧ kk ≤ 5 * rd + j ∧ rd + (if j = 0 then 0 else 1) + (leftL Cs2 n).length ≤ min kk 60 + n ∧ (j = 0 → Cs2 = Cs) ∧ PRow wq 0 (.slice an q cn) (partsL num n S (LL.take q)) ∧ TxI w bs br num n S wq a c a2 c2 b d b2 d2 S' C' Cs2)
  case atStart => exact ⟨0, k, a, c, a2, c2, b, d, b2, d2, S', C', Cs, rfl, by omega, rfl, rfl, by omega, by have := HPOT.out; simpa using this, fun _ => rfl, R6.base (Nat.zero_le _), I6⟩
  case round =>
  as_aux_lemma =>
  generalize wr = wq at *
  clear R6 I6
  obtain ⟨j, kk, a, c, a2, c2, b, d, b2, d2, S', C', Cs2, rfl, hj, rfl, rfl, hkk, hpot, hCs, RN, TI⟩ := hrel
  by_cases hjq : j < q
  case neg =>
    obtain rfl : j = q := by omega
    rw [if_neg (by omega)] at hpot
    have hj' : ¬ (j : Int) < (j : Int) := by omega
    go_wp2_with fail
    go_roundg (600 - (rd + 1))
    case measure => omega
    case rel => exact ⟨rd + 1, kk, a, c, a2, c2, b, d, b2, d2, S', C', Cs2, rfl, by omega, rfl, by go_num, by omega, by omega, TI⟩
  have hjq' : (j : Int) < (q : Int) := by omega
  have hjl : j < LL.length := by have h1 := hqL.out; rw [← HLL.out] at h1; omega
  obtain ⟨t, ht, htn, hbe⟩ : ∃ t : Nat, el LL j = (t : Int) ∧ t < n ∧ (j = 0 → be Cs2 t = false) := by
    have hb := leftL_el Cs n j (by rw [← HLL.out]; exact hjl)
    have hc := leftL_be Cs n j (by rw [← HLL.out]; exact hjl)
    rw [← HLL.out] at hb hc
    exact ⟨(el LL j).toNat, by omega, by omega, fun e => by rw [hCs e]; exact hc⟩
  have hR := partsL_get num n S LL q j hjq (by have h1 := hqL.out; rw [← HLL.out] at h1; exact h1)
  rw [ht, Int.toNat_natCast] at hR
  obtain ⟨gn, rfl, RG⟩ := RN.range j hjq num (t : Int) (n : Int) (se S t) hR
  have htz := HSE.out t
  have HRN : Hid (∀ W, Below wq.heap.size wq W → PRow W 0 (.slice (some ⟨gn, 0, none⟩) q cn) (partsL num n S (LL.take q))) := fun W hW => RN.below hW
  have HTI2 : Hid (TxI w bs br num n S wq a c a2 c2 b d b2 d2 S' C' Cs2) := TI
  have HBE : Hid (j = 0 → be Cs2 t = false) := hbe
  have HPOT2 : Hid (rd + (if j = 0 then 0 else 1) + (leftL Cs2 n).length ≤ min kk 60 + n) := hpot
  have BW := TI.old
  generalize hxk : se S t = xk at *
  have HXK : Hid (se S t = xk) := hxk
  clear hxk hR ht RN TI hbe hpot hCs HTI HPOT
  -- what goes on in the next round: the rest is as it was, or further
  have FIN : Hid (∀ (W : World) (a : Option Addr) (c : Nat) (a2 : Option Addr) (c2 : Nat) (b : Option Addr) (d : Nat) (b2 : Option Addr) (d2 : Nat) (S' : List ByteArray) (C' Cs3 : List Bool), TxI w bs br num n S W a c a2 c2 b d b2 d2 S' C' Cs3 → Below wq.heap.size wq W ∨ PRow W 0 (.slice (some ⟨gn, 0, none⟩) q cn) (partsL num n S (LL.take q)) → ((leftL Cs3 n).length ≤ (leftL Cs2 n).length) → (kk < 60 ∨ (j = 0 → (leftL Cs3 n).length + 1 ≤ (leftL Cs2 n).length)) → ∃ (j' kk' : Nat) (a : Option Addr) (c : Nat) (a2 : Option Addr) (c2 : Nat) (b : Option Addr) (d : Nat) (b2 : Option Addr) (d2 : Nat) (S' : List ByteArray) (C' Cs2 : List Bool), q - (j + 1) = q - j' ∧ j' ≤ q ∧ Value.int .i64 ((j + 1 : Nat) : Int) = .int .i64 (j' : Int) ∧ Value.int .i64 ((kk + 1 : Nat) : Int) = .int .i64 (kk' : Int) ∧ kk' ≤ 5 * rd + j' ∧ rd + (if j' = 0 then 0 else 1) + (leftL Cs2 n).length ≤ min kk' 60 + n ∧ (j' = 0 → Cs2 = Cs) ∧ PRow W 0 (.slice (some ⟨gn, 0, none⟩) q cn) (partsL num n S (LL.take q)) ∧ TxI w bs br num n S W a c a2 c2 b d b2 d2 S' C' Cs2) := by
    intro W a c a2 c2 b d b2 d2 S' C' Cs3 h1 h2 h3 h4
    refine ⟨j + 1, kk + 1, a, c, a2, c2, b, d, b2, d2, S', C', Cs3, rfl, by omega, rfl, rfl, by omega, ?_, fun e => by omega, ?_, h1⟩
    · have h5 := HPOT2.out
      rw [if_neg (by omega)]
      by_cases e : j = 0
      · rw [if_pos e] at h5
        rcases h4 with h4 | h4
        · omega
        · have := h4 e; omega
      · rw [if_neg e] at h5; omega
    · rcases h2 with h2 | h2
      · exact HRN.out W h2
      · exact h2
  obtain ⟨XA3, XB3, VB3, vz3⟩ := var3 wq 40 #[.int .i64 0, .int .i64 0, .int .i64 0, .string ⟨#[]⟩] #[.int .i64 num, .int .i64 (t : Int), .int .i64 (n : Int), .string xk]
  generalize hwA3 : wq.alloc (.cells #[.int .i64 0, .int .i64 0, .int .i64 0, .string ⟨#[]⟩] 40) = wA3 at *
  generalize hwB3 : wA3.setRow wq.heap.size #[.int .i64 num, .int .i64 (t : Int), .int .i64 (n : Int), .string xk] = wp at *
  obtain ⟨XA4, XB4, VB4, vz4⟩ := var3 wp 43 #[.int .i64 0, .int .i64 0, .int .i64 0, .int .u32 0] #[.int .i64 0, .int .i64 0, .int .i64 0, .int .u32 0]
  generalize hwA4 : wp.alloc (.cells #[.int .i64 0, .int .i64 0, .int .i64 0, .int .u32 0] 43) = wA4 at *
  generalize hwB4 : wA4.setRow wp.heap.size #[.int .i64 0, .int .i64 0, .int .i64 0, .int .u32 0] = wa at *
  clear vz3 vz4
  have X34 := XB3.below VB4
  have B34 := below_then VB3 VB4
  have VB3' : Hid (Below wq.heap.size wq wp) := VB3
  have VB4' : Hid (Below wp.heap.size wp wa) := VB4
  have XB3' : Hid (Blk wp wq.heap.size 40 #[.int .i64 num, .int .i64 (t : Int), .int .i64 (n : Int), .string xk]) := XB3
  clear VB3 VB4
  go_upto_region 21 with (first
    | (refine wpList_load_mid rfl 40 _ rfl gn (j * 4) rfl [.int .i64 num, .int .i64 (t : Int), .int .i64 (n : Int), .string xk] _ RG Tryd.underlying40 rfl Tryd.infoPt ?_)
    | (refine wpList_store_row rfl 40 _ _ rfl wq.heap.size _ rfl rfl 40 _ XA3 Tryd.infoPt rfl (ptall _ _ _ _) ?_; rw [hwB3])
    | (refine wpList_store_row rfl 43 _ _ rfl wp.heap.size _ rfl rfl 43 _ XA4 Tryd.infoTAct rfl (act_one _ _ _ _) ?_; rw [hwB4]))
  simp only [Act.put]
  clear XA3 XA4 hwA3 hwB3 hwA4 hwB4 RG XB3
  generalize hba : wp.heap.size = ba at *
  generalize hbp : wq.heap.size = bp at X34 B34 XB3' VB3' ⊢
  go_cut [108] from 98 to 238 (fun s108 wc => ∃ bb : Bool, s108 = .bool bb ∧ (bb = true → kk < n2 ∧ kk < 60) ∧ wc = wa)
  case first =>
    as_aux_lemma =>
    have key : ∀ (P : Prop), ((kk : Int) < (n2 : Int) → (kk : Int) < 60 → P) → ((kk : Int) < (n2 : Int) → ¬ (kk : Int) < 60 → P) → (¬ (kk : Int) < (n2 : Int) → P) → P := fun P a b c => by
      by_cases q1 : (kk : Int) < (n2 : Int)
      · by_cases q2 : (kk : Int) < 60
        · exact a q1 q2
        · exact b q1 q2
      · exact c q1
    refine key _ (fun f1 f2 => ?_) (fun f1 f2 => ?_) (fun f1 => ?_)
    · clear key
      go_wp2_with fail
      go_meet
      case rel => exact ⟨true, rfl, fun _ => ⟨by omega, by omega⟩, rfl⟩
    · clear key
      go_wp2_with fail
      go_meet
      case rel => exact ⟨false, rfl, (fun h => absurd h (by decide)), rfl⟩
    · clear key
      go_wp2_with fail
      go_meet
      case rel => exact ⟨false, rfl, (fun h => absurd h (by decide)), rfl⟩
  case rest =>
  as_aux_lemma =>
  obtain ⟨bb, rfl, hbb9, h9⟩ := hcut
  obtain rfl := h9.symm
  go_upto_if 108 with fail
  go_cut [] from 98 to 238 (fun wc => ∃ (kd yi ya yb : Int), (kd = 0 ∨ kk < 60) ∧ (-9223372036854775808 ≤ ya ∧ ya ≤ 9223372036854775807) ∧ (0 ≤ yb ∧ yb ≤ 4294967295) ∧ Blk wc bp 40 #[.int .i64 num, .int .i64 (t : Int), .int .i64 (n : Int), .string xk] ∧ Blk wc ba 43 #[.int .i64 kd, .int .i64 yi, .int .i64 ya, .int .u32 yb] ∧ Below bp wq wc)
  case first =>
    as_aux_lemma =>
    cases bb with
    | false =>
      go_wp2_with fail
      go_meet
      case rel => exact ⟨0, 0, 0, 0, Or.inl rfl, by omega, by omega, X34, XB4, B34⟩
    | true =>
      obtain ⟨f1, f2⟩ := hbb9 rfl
      obtain ⟨by2, oy2, rfl, hcy⟩ := (HY.out wa (below_then BW (hbp ▸ B34))).cells (by omega)
      obtain ⟨hyk, RY0⟩ := hcy kk f1
      have RY : wa.rangeAt by2 (oy2 + kk * 4) [.int .i64 (Y kk).kind, .int .i64 (Y kk).i, .int .i64 (Y kk).at_, .int .u32 (Y kk).bits] := RY0
      have XC5 := XB4.row #[.int .i64 (Y kk).kind, .int .i64 (Y kk).i, .int .i64 (Y kk).at_, .int .u32 (Y kk).bits]
      have B5 : Below ba wp (wa.setRow ba #[.int .i64 (Y kk).kind, .int .i64 (Y kk).i, .int .i64 (Y kk).at_, .int .u32 (Y kk).bits]) := belowR VB4'.out (Nat.le_refl _) _
      have X35 := XB3'.out.of_block (B5.block bp (by have := XB3'.out.lt; rw [hba] at this; exact this))
      have BF := VB3'.out.trans (B5.mono (by have := VB3'.out.size; rw [hbp, hba] at this; exact this))
      have hyt := hyk.t
      have hyb := hyk.b
      have f1' : (kk : Int) < (n2 : Int) := by omega
      clear hcy RY0 hyk
      generalize (Y kk).kind = kd at *
      generalize (Y kk).i = yi at *
      generalize (Y kk).at_ = ya at *
      generalize (Y kk).bits = yb at *
      go_wp2_with (first
        | (refine wpList_load_mid rfl 43 _ rfl by2 (oy2 + kk * 4) rfl [.int .i64 kd, .int .i64 yi, .int .i64 ya, .int .u32 yb] _ RY Tryd.underlying43 rfl Tryd.infoTAct ?_)
        | (refine wpList_store_row rfl 43 _ _ rfl ba _ rfl rfl 43 _ XB4 Tryd.infoTAct rfl (act_one _ _ _ _) ?_))
      go_meet
      case rel => exact ⟨kd, yi, ya, yb, Or.inr f2, hyt, hyb, X35, XC5, BF⟩
  case rest =>
  as_aux_lemma =>
  obtain ⟨kd, yi, ya, yb, hkd, hya, hyb, XP, XA, BC⟩ := hcut
  rw [← hbp] at BC
  clear X34 XB4 B34 hbb9
  have HKD : Hid (kd = 0 ∨ kk < 60) := hkd
  have hck := gM_chk num (t : Int) (n : Int) xk.size (by omega) (by omega) (by omega) (by omega)
  have hgi := gM_in num (t : Int) (n : Int) (by omega) (by omega) (by omega)
  have hml := gM_len num (t : Int) (n : Int) xk hck
  have VC := HV.out wc (below_then BW BC)
  have WR := write_ok (gM num (t : Int) (n : Int)) none 0 0 [] xk wc VC (iarg_nil wc) hgi hck
  have RD := fun W (hW : Env W) => read_ok (gM num (t : Int) (n : Int)) [] xk _ W hW hck rfl
  simp only [gM_v] at WR RD
  obtain ⟨ml, hmlE⟩ : ∃ ml, ml = mL (gM num (t : Int) (n : Int)) [] xk := ⟨_, rfl⟩
  rw [← hmlE] at WR RD hml
  obtain ⟨X, hX⟩ : ∃ X, X = txt (packL ml) := ⟨_, rfl⟩
  rw [← hX] at WR RD
  have HX : Hid (X = txt (packL ml)) := hX
  have zX : X.size = ml.length + 10 := by rw [hX, txt_size, packL_length]
  have p0 : wc.cell? ⟨bp, 0, none⟩ = some (.int .i64 num) := XP.cell 0 rfl
  have p1 : wc.cell? ⟨bp, 1, none⟩ = some (.int .i64 (t : Int)) := XP.cell 1 rfl
  have p2 : wc.cell? ⟨bp, 2, none⟩ = some (.int .i64 (n : Int)) := XP.cell 2 rfl
  have p3 : wc.cell? ⟨bp, 3, none⟩ = some (.string xk) := XP.cell 3 rfl
  clear hX hmlE hck hgi hkd
  go_upto_region 27 with (go_at_call 10; refine WR.mono ?_; rintro e w7 ⟨rfl, B7⟩)
  have XA7 := XA.below B7
  have B07 := below_then BC B7
  have V7 := VC.next B7
  have I7 := HTI2.out.below B07
  have y0 : w7.cell? ⟨ba, 0, none⟩ = some (.int .i64 kd) := XA7.cell 0 rfl
  have y2 : w7.cell? ⟨ba, 2, none⟩ = some (.int .i64 ya) := XA7.cell 2 rfl
  have y3 : w7.cell? ⟨ba, 3, none⟩ = some (.int .u32 yb) := XA7.cell 3 rfl
  clear p0 p1 p2 p3 WR XP XA
  rcases Decidable.em (kd = 1) with rfl | hk1
  · have h60 : kk < 60 := by rcases HKD.out with h | h <;> omega
    go_wp2_with fail
    go_roundg (q - (j + 1))
    case measure => omega
    case rel => exact FIN.out w7 a c a2 c2 b d b2 d2 S' C' Cs2 I7 (Or.inl B07) (Nat.le_refl _) (Or.inl h60)
  have hk1' : (kd == 1) = false := by simpa using hk1
  by_cases hbur : kd = 2 ∧ 0 ≤ ya ∧ ya < 8 * ((ml.length + 10 : Nat) : Int) - 31 ∧ ¬ yb = 0
  case pos =>
    as_aux_lemma =>
    obtain ⟨rfl, c1, c2', c3⟩ := hbur
    have h60 : kk < 60 := by rcases HKD.out with h | h <;> omega
    obtain ⟨tt, rfl⟩ : ∃ tt : Nat, ya = (tt : Int) := ⟨ya.toNat, by omega⟩
    obtain ⟨x, rfl⟩ : ∃ x : Nat, yb = (x : Int) := ⟨yb.toNat, by omega⟩
    have hx32 : x < 4294967296 := by omega
    have hx0 : x ≠ 0 := by omega
    have c8 : (tt : Int) < 8 * (X.size : Int) - 31 := by rw [zX]; exact c2'
    have c6 : ((x : Int) == 0) = false := by simpa using c3
    have CX := conv_bytes X
    have BS := fun W => bytesWorld_size W 5 X
    have hzl : (packL ml).length = ml.length + 10 := packL_length ml
    have zx2 : (X.size : Int) = ((ml.length + 10 : Nat) : Int) := by rw [zX]
    rw [zX] at CX
    have Z1 := B07.size
    have Y1 : Byt (Lib.bytesWorld w7 5 X) w7.heap.size w7.heap.size (ml.length + 10) (packL ml) := by rw [HX.out]; exact bytC w7 (packL ml) _ _ _ rfl hzl (Nat.le_refl _)
    have BX2 : Below w7.heap.size w7 (Lib.bytesWorld w7 5 X) := bytes_below (Below.refl _ _) (Nat.le_refl _) X
    have hnn : (ml.length + 10) ≤ 50310 := by omega
    go_wp2_with fail
    obtain ⟨gb, hgb⟩ : ∃ g, g = w7.heap.size := ⟨_, rfl⟩
    obtain ⟨cg, hcg⟩ : ∃ c, c = grownCap w7 (ml.length + 10) 0 5 := ⟨_, rfl⟩
    obtain ⟨N, hN⟩ : ∃ N, N = ml.length + 10 := ⟨_, rfl⟩
    rw [← hcg, ← hgb, ← hN]
    rw [← hN] at Y1 hnn
    have Y1 : Byt (Lib.bytesWorld w7 5 X) w7.heap.size gb N (packL ml) := by rw [hgb]; exact Y1
    have HN2 : Hid (N = ml.length + 10) := hN
    have htN : tt + 31 < 8 * N := by omega
    have gba : ba ≠ gb := by have := XA7.lt; omega
    clear hN hcg hgb CX BS zX c8 c6 zx2 hzl c2' c3 c1
    go_loopg [23] 32 (fun r s23 wv => ∃ (kb : Nat) (L : List UInt8), kb ≤ 32 ∧ r = 32 - kb ∧ s23 = .int .i64 (kb : Int) ∧ numL L = numL (packL ml) ^^^ 2 ^ tt * (x % 2 ^ kb) ∧ Byt wv w7.heap.size gb N L ∧ Below w7.heap.size w7 wv)
    case atStart => exact ⟨0, packL ml, by omega, by omega, rfl, by simp [Nat.mod_one], Y1, BX2⟩
    case round =>
    as_aux_lemma =>
    generalize wr = wv at *
    clear Y1 BX2
    obtain ⟨kb, L, hkb, rfl, rfl, hn, YL, BB⟩ := hrel
    have hL := YL.len
    have XA8 := XA7.below BB
    have u2 : ∀ p : Nxt wv, p.to.cell? ⟨ba, 2, none⟩ = some (.int .i64 (tt : Int)) := fun p => (XA8.below p.ok).cell 2 rfl
    have u3 : ∀ p : Nxt wv, p.to.cell? ⟨ba, 3, none⟩ = some (.int .u32 (x : Int)) := fun p => (XA8.below p.ok).cell 3 rfl
    by_cases hlt : kb < 32
    · have eq := tmod_x x kb
      have hj : (tt + kb) / 8 < N := by omega
      have cc : ∀ p : Nxt wv, p.to.cell? ⟨gb, (tt + kb) / 8, none⟩ = some (.int .u8 ((L.getD ((tt + kb) / 8) 0).toNat : Int)) := fun p => (YL.below p.ok).cell _ hj
      have ej : ((tt : Int) + (kb : Int)).tdiv 8 = (((tt + kb) / 8 : Nat) : Int) := by rw [Int.tdiv_eq_ediv_of_nonneg (by omega)]; omega
      have er : ((tt : Int) + (kb : Int)).tmod 8 = (((tt + kb) % 8 : Nat) : Int) := by rw [Int.tmod_eq_emod_of_nonneg (by omega)]; omega
      have ej2 : ((tt : Int) + (kb : Int)) / 8 = (((tt + kb) / 8 : Nat) : Int) := by omega
      have er2 : ((tt : Int) + (kb : Int)) % 8 = (((tt + kb) % 8 : Nat) : Int) := by omega
      have hr8 : (tt + kb) % 8 < 8 := by omega
      obtain ⟨qq, hqq⟩ : ∃ qq, qq = x / 2 ^ kb := ⟨_, rfl⟩
      rw [← hqq] at eq
      by_cases c1 : qq % 2 = 1
      · have eb : ((x : Int) / 2 ^ kb).tmod 2 = 1 := by rw [eq, c1]; rfl
        have HF2 : Hid (numL (L.set ((tt + kb) / 8) (L.getD ((tt + kb) / 8) 0 ^^^ oneB ((tt + kb) % 8))) = numL (packL ml) ^^^ 2 ^ tt * (x % 2 ^ (kb + 1))) := flip_on (packL ml) L tt kb _ _ hn (mod_xor x kb (by rw [← hqq]; exact c1)) (by omega)
        have SV : IntKind.u8.wrap ((2 : Int) ^ ((tt + kb) % 8)) = ((oneB ((tt + kb) % 8)).toNat : Int) := wrap_one _ hr8
        have SV2 := shl_1 ((tt + kb) % 8) hr8 _ rfl
        have e1 := bits_xor_u8_nat (L.getD ((tt + kb) / 8) 0) (oneB ((tt + kb) % 8))
        have HS : Hid (∀ w', Byt w' w7.heap.size gb N L → Byt (w'.setCell ⟨gb, (tt + kb) / 8, none⟩ (.int .u8 ((L.getD ((tt + kb) / 8) 0 ^^^ oneB ((tt + kb) % 8)).toNat : Int))) w7.heap.size gb N (L.set ((tt + kb) / 8) (L.getD ((tt + kb) / 8) 0 ^^^ oneB ((tt + kb) % 8)))) := fun w' h => h.set _ hj _
        have HC : Hid (∀ w', Byt w' w7.heap.size gb N L → w'.cell? ⟨gb, (tt + kb) / 8, none⟩ = some (.int .u8 ((L.getD ((tt + kb) / 8) 0).toNat : Int)) ∧ w'.frozen? ⟨gb, (tt + kb) / 8, none⟩ = false) := fun w' h => ⟨h.cell _ hj, h.free _ hj⟩
        clear hn hqq eq
        generalize L.getD ((tt + kb) / 8) 0 = y at *
        generalize oneB ((tt + kb) % 8) = zz at *
        generalize (tt + kb) / 8 = j8 at *
        generalize (tt + kb) % 8 = r8 at *
        have wj : IntKind.i64.wrap (j8 : Int) = (j8 : Int) := wrap_small j8 (by omega)
        go_wp2_with fail
        haveI := nxt_ne wv
        refine wp_region_last_lit (by kernel_rfl) (List.cons_ne_nil _ _) (by kernel_rfl) (by kernel_rfl) (by kernel_rfl) (by kernel_rfl) (by kernel_rfl) ?_
        intro l' z' hl' hz'
        simp only [List.dropLast_cons_cons, List.dropLast_singleton] at hl'
        simp only [List.getLast_cons_cons, List.getLast_singleton] at hz'
        subst hl' hz'
        repeat (first | go_big_quiet_skip | (go_big_quiet_want; go_big_quiet_op; go_big_quiet_on))
        refine wpQuiet_nil ?_
        intro _ hw'
        obtain ⟨⟨w3, B3⟩, hw''⟩ := hw'
        subst hw''
        have Y3 := YL.below B3
        obtain ⟨fc, ff⟩ := HC.out _ Y3
        have Y4 := HS.out _ Y3
        have D4 := (below_then BB B3).setCell (p := ⟨gb, j8, none⟩) YL.base (.int .u8 ((y ^^^ zz).toNat : Int))
        clear cc u2 u3 YL BB B3 Y3 HS HC
        go_wp2_with fail
        go_roundg (32 - (kb + 1))
        case measure => omega
        case rel => exact ⟨kb + 1, L.set j8 (y ^^^ zz), by omega, rfl, by go_num, HF2.out, Y4, D4⟩
      · have HF2 : Hid (numL (L.set ((tt + kb) / 8) (L.getD ((tt + kb) / 8) 0)) = numL (packL ml) ^^^ 2 ^ tt * (x % 2 ^ (kb + 1))) := by
          show _ = _
          rw [mod_same x kb (by rw [← hqq]; exact c1), ← hn]
          rw [set_self]
        have e1 := bits_xor_u8_nat (L.getD ((tt + kb) / 8) 0) 0
        rw [UInt8.xor_zero, show (((0 : UInt8).toNat : Nat) : Int) = 0 from rfl] at e1
        have eb : ((x : Int) / 2 ^ kb).tmod 2 = 0 := by rw [eq, show qq % 2 = 0 by omega]; rfl
        have HS : Hid (∀ w', Byt w' w7.heap.size gb N L → Byt (w'.setCell ⟨gb, (tt + kb) / 8, none⟩ (.int .u8 ((L.getD ((tt + kb) / 8) 0).toNat : Int))) w7.heap.size gb N (L.set ((tt + kb) / 8) (L.getD ((tt + kb) / 8) 0))) := fun w' h => h.set _ hj _
        have HC : Hid (∀ w', Byt w' w7.heap.size gb N L → w'.cell? ⟨gb, (tt + kb) / 8, none⟩ = some (.int .u8 ((L.getD ((tt + kb) / 8) 0).toNat : Int)) ∧ w'.frozen? ⟨gb, (tt + kb) / 8, none⟩ = false) := fun w' h => ⟨h.cell _ hj, h.free _ hj⟩
        clear hn hqq eq
        generalize L.getD ((tt + kb) / 8) 0 = y at *
        generalize (tt + kb) / 8 = j8 at *
        generalize (tt + kb) % 8 = r8 at *
        have wj : IntKind.i64.wrap (j8 : Int) = (j8 : Int) := wrap_small j8 (by omega)
        go_wp2_with fail
        haveI := nxt_ne wv
        refine wp_region_last_lit (by kernel_rfl) (List.cons_ne_nil _ _) (by kernel_rfl) (by kernel_rfl) (by kernel_rfl) (by kernel_rfl) (by kernel_rfl) ?_
        intro l' z' hl' hz'
        simp only [List.dropLast_cons_cons, List.dropLast_singleton] at hl'
        simp only [List.getLast_cons_cons, List.getLast_singleton] at hz'
        subst hl' hz'
        repeat (first | go_big_quiet_skip | (go_big_quiet_want; go_big_quiet_op; go_big_quiet_on))
        refine wpQuiet_nil ?_
        intro _ hw'
        obtain ⟨⟨w3, B3⟩, hw''⟩ := hw'
        subst hw''
        have Y3 := YL.below B3
        obtain ⟨fc, ff⟩ := HC.out _ Y3
        have Y4 := HS.out _ Y3
        have D4 := (below_then BB B3).setCell (p := ⟨gb, j8, none⟩) YL.base (.int .u8 (y.toNat : Int))
        clear cc u2 u3 YL BB B3 Y3 HS HC
        go_wp2_with fail
        go_roundg (32 - (kb + 1))
        case measure => omega
        case rel => exact ⟨kb + 1, L.set j8 y, by omega, rfl, by go_num, HF2.out, Y4, D4⟩
    · obtain rfl : kb = 32 := by omega
      have TX := YL.text cg
      have V3 := V7.next BB
      rw [Nat.mod_eq_of_lt (by omega)] at hn
      have Lb : L.length = (packL ml).length := by rw [hL, HN2.out, packL_length]
      have tl : tt ≤ 8 * (packL ml).length := by rw [packL_length, ← HN2.out]; omega
      obtain ⟨Z, hZ⟩ : ∃ Z, Z = txt L := ⟨_, rfl⟩
      have zZ : Z.size = N := by rw [hZ, txt_size, hL]
      have hb := burst_told (packL ml) L tt _ (flt_pack ml (by have := HN2.out; omega)) Lb hn tl hx32 hx0
      obtain ⟨⟨fp, fn⟩, hf⟩ := Option.ne_none_iff_exists'.1 hb
      have RBD := read_bad Z fp fn wv V3 (by omega) (by rw [hZ, txt_list]; exact hf)
      rw [← hZ] at TX
      have B7v := below_then B07 BB
      clear hn YL Lb tl hL hb hf hZ u2 u3
      go_wp2_with (first
        | (go_at_call 11; refine RBD.mono ?_; rintro e w8 ⟨rfl, B8⟩; obtain ⟨XA9, XB9, VB9, vz9⟩ := var3 w8 50 #[.int .i64 0, .int .i64 0, .int .i64 0, .int .i64 0, .int .i64 0, .int .i64 0, .int .i64 0, .int .i64 0, .int .i64 0, .int .i64 0, .slice none 0 0, .string ⟨#[]⟩] #[.int .i64 0, .int .i64 0, .int .i64 0, .int .i64 0, .int .i64 0, .int .i64 0, .int .i64 0, .int .i64 0, .int .i64 0, .int .i64 0, .slice none 0 0, .string ⟨#[]⟩]; generalize hwA9 : w8.alloc (.cells #[.int .i64 0, .int .i64 0, .int .i64 0, .int .i64 0, .int .i64 0, .int .i64 0, .int .i64 0, .int .i64 0, .int .i64 0, .int .i64 0, .slice none 0 0, .string ⟨#[]⟩] 50) = wA9 at *; generalize hwB9 : wA9.setRow w8.heap.size #[.int .i64 0, .int .i64 0, .int .i64 0, .int .i64 0, .int .i64 0, .int .i64 0, .int .i64 0, .int .i64 0, .int .i64 0, .int .i64 0, .slice none 0 0, .string ⟨#[]⟩] = w9 at *)
        | (refine wpList_store_row rfl 50 _ _ rfl w8.heap.size _ rfl rfl 50 _ XA9 Tryd.infoMsg rfl zero_one ?_; rw [hwB9]))
      have B19 := below_then B7v (below_then B8 VB9)
      go_roundg (q - (j + 1))
      case measure => omega
      case rel => exact FIN.out w9 a c a2 c2 b d b2 d2 S' C' Cs2 (HTI2.out.below B19) (Or.inl B19) (Nat.le_refl _) (Or.inl h60)
  have RDw := RD w7 V7
  obtain ⟨N, hN⟩ : ∃ N, N = ml.length + 10 := ⟨_, rfl⟩
  have zx2 : X.size = N := by rw [zX, hN]
  have hnb : N ≤ 50310 := by omega
  rw [← hN] at hbur
  have key : ∀ (P : Prop), (¬ kd = 2 → P) → (kd = 2 → ¬ 0 ≤ ya → P) → (kd = 2 → 0 ≤ ya → ¬ ya < 8 * (N : Int) - 31 → P) → (kd = 2 → 0 ≤ ya → ya < 8 * (N : Int) - 31 → yb = 0 → P) → P := fun P f1 f2 f3 f4 => by
    by_cases e1 : kd = 2
    · by_cases e2 : 0 ≤ ya
      · by_cases e3 : ya < 8 * (N : Int) - 31
        · by_cases e4 : yb = 0
          · exact f4 e1 e2 e3 e4
          · exact absurd ⟨e1, e2, e3, e4⟩ hbur
        · exact f3 e1 e2 e3
      · exact f2 e1 e2
    · exact f1 e1
  clear hbur HX RD zX hN hml hk1
  go_upto_region 28 with fail
  go_cut [154] from 98 to 238 (fun s154 wc2 => s154 = .bool false ∧ wc2 = w7)
  case first =>
    as_aux_lemma =>
    refine key _ (fun f1 => ?_) (fun f1 f2 => ?_) (fun f1 f2 f3 => ?_) (fun f1 f2 f3 f4 => ?_)
    · clear key
      have f1' : (kd == 2) = false := by simpa using f1
      go_wp2_with fail
      go_meet
      case rel => exact ⟨rfl, rfl⟩
    · clear key
      subst f1
      have f2' : decide (ya ≥ 0) = false := decide_eq_false f2
      go_wp2_with fail
      go_meet
      case rel => exact ⟨rfl, rfl⟩
    · clear key
      subst f1
      have f2' : decide (ya ≥ 0) = true := decide_eq_true f2
      have f3' : decide (ya < 8 * (N : Int) - 31) = false := decide_eq_false f3
      go_wp2_with fail
      go_meet
      case rel => exact ⟨rfl, rfl⟩
    · clear key
      subst f1 f4
      have f2' : decide (ya ≥ 0) = true := decide_eq_true f2
      have f3' : decide (ya < 8 * (N : Int) - 31) = true := decide_eq_true f3
      go_wp2_with fail
      go_meet
      case rel => exact ⟨rfl, rfl⟩
  case rest =>
  as_aux_lemma =>
  obtain ⟨rfl, h9c⟩ := hcut
  obtain rfl := h9c.symm
  go_upto_block 6 with (first
    | (go_at_call 11; refine RDw.mono ?_; rintro e w8 ⟨am, cm, rfl, _, _, B8⟩; obtain ⟨XA9, XB9, VB9, vz9⟩ := var3 w8 50 #[.int .i64 0, .int .i64 0, .int .i64 0, .int .i64 0, .int .i64 0, .int .i64 0, .int .i64 0, .int .i64 0, .int .i64 0, .int .i64 0, .slice none 0 0, .string ⟨#[]⟩] #[.int .i64 2, .int .i64 0, .int .i64 0, .int .i64 0, .int .i64 0, .int .i64 0, .int .i64 num, .int .i64 0, .int .i64 (t : Int), .int .i64 (n : Int), .slice am 0 cm, .string xk]; generalize hwA9 : w8.alloc (.cells #[.int .i64 0, .int .i64 0, .int .i64 0, .int .i64 0, .int .i64 0, .int .i64 0, .int .i64 0, .int .i64 0, .int .i64 0, .int .i64 0, .slice none 0 0, .string ⟨#[]⟩] 50) = wA9 at *; generalize hwB9 : wA9.setRow w8.heap.size #[.int .i64 2, .int .i64 0, .int .i64 0, .int .i64 0, .int .i64 0, .int .i64 0, .int .i64 num, .int .i64 0, .int .i64 (t : Int), .int .i64 (n : Int), .slice am 0 cm, .string xk] = w9 at *)
    | (refine wpList_store_row rfl 50 _ _ rfl w8.heap.size _ rfl rfl 50 _ XA9 Tryd.infoMsg rfl (msg_one' _ _ _ _ _ _ _ _ _ _ _ _ _ _) ?_; rw [hwB9]))
  have B9 := below_then B8 VB9
  have XM := XB9
  generalize w8.heap.size = bm at *
  clear XA9 XB9 VB9 vz9 hwA9 hwB9 B8
  clear key RDw
  have B79 := below_then B07 B9
  have I9 := HTI2.out.below B79
  have XA9 := XA7.below B9
  have HR9 := HRN.out w9 B79
  obtain ⟨hbb, hbs, hbr⟩ := HBB.out
  clear XA7 y0 y2 y3 I7 V7 VC
  -- taken, once or twice
  go_cut [] from 98 to 238 (fun wc3 => ∃ (b : Option Addr) (d : Nat) (b2 : Option Addr) (d2 : Nat) (S' : List ByteArray) (C' : List Bool), be C' t = true ∧ TxI w bs br num n S wc3 a c a2 c2 b d b2 d2 S' C' Cs2 ∧ Blk wc3 bm 50 #[.int .i64 2, .int .i64 0, .int .i64 0, .int .i64 0, .int .i64 0, .int .i64 0, .int .i64 num, .int .i64 0, .int .i64 (t : Int), .int .i64 (n : Int), .slice am 0 cm, .string xk] ∧ Blk wc3 ba 43 #[.int .i64 kd, .int .i64 yi, .int .i64 ya, .int .u32 yb] ∧ PRow wc3 0 (.slice (some ⟨gn, 0, none⟩) q cn) (partsL num n S (LL.take q)))
  case first =>
    as_aux_lemma =>
    go_wp2_with fail
    go_loopg [28] 2 (fun r s28 wv => ∃ (tm : Nat) (b : Option Addr) (d : Nat) (b2 : Option Addr) (d2 : Nat) (S' : List ByteArray) (C' : List Bool), r = 2 - tm ∧ tm ≤ 2 ∧ s28 = .int .i64 (tm : Int) ∧ (0 < tm → be C' t = true) ∧ TxI w bs br num n S wv a c a2 c2 b d b2 d2 S' C' Cs2 ∧ Blk wv bm 50 #[.int .i64 2, .int .i64 0, .int .i64 0, .int .i64 0, .int .i64 0, .int .i64 0, .int .i64 num, .int .i64 0, .int .i64 (t : Int), .int .i64 (n : Int), .slice am 0 cm, .string xk] ∧ Blk wv ba 43 #[.int .i64 kd, .int .i64 yi, .int .i64 ya, .int .u32 yb] ∧ PRow wv 0 (.slice (some ⟨gn, 0, none⟩) q cn) (partsL num n S (LL.take q)))
    case atStart => exact ⟨0, b, d, b2, d2, S', C', rfl, by omega, rfl, fun h => by omega, I9, XM, XA9, HR9⟩
    case round =>
    as_aux_lemma =>
    generalize wr = wv at *
    clear I9 XM XA9 HR9
    obtain ⟨tm, b, d, b2, d2, S', C', rfl, htm, rfl, htt, TI, XM, XA9, HR9⟩ := hrel
    by_cases htm2 : tm < 2
    case neg =>
      obtain rfl : tm = 2 := by omega
      go_wp2_with fail
      go_meet
      case rel => exact ⟨b, d, b2, d2, S', C', htt (by omega), TI, XM, XA9, HR9⟩
    have htm' : (tm : Int) < 2 := by omega
    obtain ⟨is, S2, C2, HG2, hC2, TK⟩ : ∃ (is : Bool) (S2 : List ByteArray) (C2 : List Bool), Good S S2 C2 n ∧ (∀ j, j < n → be C2 j = (decide (j = t) || be C' j)) ∧ ∀ W, Below wv.heap.size wv W → Calls Tryd.prog 12 #[stV num (.slice b n d) (.slice b2 n d2), ptV num (t : Int) (n : Int) xk] W fun e w' => ∃ x y u v, e = .returned (.tuple #[stV num (.slice x n y) (.slice u n v), .bool is, .int .i64 0]) ∧ VOwn w' W.heap.size 9 (.slice x n y) n (strs S2) ∧ VOwn w' W.heap.size 4 (.slice u n v) n (bools C2) ∧ Below W.heap.size W w' := by
      have HG := TI.good
      have hzS : ∀ s ∈ S', s.size ≤ 140737488355328 := fun s hs => by have := HG.size s hs; omega
      rw [← HXK.out]
      have hx := HSE.out t
      cases hb : be C' t with
      | true =>
        refine ⟨false, S', C', HG, fun j _ => ?_, fun W hW => take_known num (se S t) b b2 n d d2 t S' C' W (VArg.below (VOwn.varg TI.po) hW) (VArg.below (VOwn.varg TI.co) hW) (by omega) hzS htn hx hb (HG.same t htn hb)⟩
        by_cases e : j = t
        · rw [e, hb]; simp
        · rw [decide_eq_false e, Bool.false_or]
      | false =>
        exact ⟨true, S'.set t (se S t), C'.set t true, HG.take htn hx, fun j _ => be_set C' t j (by rw [HG.lenC]; exact htn), fun W hW => take_new num (se S t) b b2 n d d2 t S' C' W (VArg.below (VOwn.varg TI.po) hW) (VArg.below (VOwn.varg TI.co) hW) (by omega) hzS htn hx hb⟩
    unfold stV ptV at TK
    have TKw := TK wv (Below.refl _ _)
    have HC2 : Hid (∀ j, j < n → be C2 j = (decide (j = t) || be C' j)) := hC2
    have HG2' : Hid (Good S S2 C2 n) := HG2
    have HTI3 : Hid (TxI w bs br num n S wv a c a2 c2 b d b2 d2 S' C' Cs2) := TI
    have XR := TI.xr
    have m6 : wv.cell? ⟨bm, 6, none⟩ = some (.int .i64 num) := XM.cell 6 rfl
    have m8 : wv.cell? ⟨bm, 8, none⟩ = some (.int .i64 (t : Int)) := XM.cell 8 rfl
    have m9 : wv.cell? ⟨bm, 9, none⟩ = some (.int .i64 (n : Int)) := XM.cell 9 rfl
    have m11 : wv.cell? ⟨bm, 11, none⟩ = some (.string xk) := XM.cell 11 rfl
    clear TK hC2 HG2 TI htt htm2
    go_upto_region 43 with fail
    go_wp2_with (first | (refine wpList_load_row rfl 33 _ rfl br rfl 33 _ (0, 0) _ XR Tryd.underlying33 rfl Tryd.infoRs ?_))
    go_at_call 12
    refine TKw.mono ?_
    clear TKw
    rintro e wt ⟨x, y, u, v, rfl, PQ, CQ, BQ⟩
    obtain ⟨XAt, XBt, VBt, vzt⟩ := var3 wt 33 #[.int .i64 0, .slice none 0 0, .slice none 0 0] #[.int .i64 num, .slice x n y, .slice u n v]; generalize hwAt : wt.alloc (.cells #[.int .i64 0, .slice none 0 0, .slice none 0 0] 33) = wAt at *; generalize hwBt : wAt.setRow wt.heap.size #[.int .i64 num, .slice x n y, .slice u n v] = wx at *
    have BX := below_then BQ VBt
    have XRx := XR.below BX
    clear XR
    go_upto_region 44 with (first | (refine wpList_store_row rfl 33 _ _ rfl wt.heap.size _ rfl rfl 33 _ XAt Tryd.infoRs rfl (stall _ _ _ _ _ _ _) ?_; rw [hwBt]))
    go_upto_region 47 with (first
      | (refine wpList_load_row rfl 33 _ rfl wt.heap.size rfl 33 _ (0, 0) _ XBt Tryd.underlying33 rfl Tryd.infoRs ?_)
      | (refine wpList_store_row rfl 33 _ _ rfl br _ rfl rfl 33 _ XRx Tryd.infoRs rfl (stall _ _ _ _ _ _ _) ?_))
    have IX := (HTI3.out.below BX).recv hbb hbr HG2'.out (fun j hj e => by rw [HC2.out j hj, e]; simp) (VOwn.below PQ VBt) (VOwn.below CQ VBt)
    have beT : be C2 t = true := by rw [HC2.out t htn]; simp
    have XMx := (XM.below BX).of_block (w' := wx.setRow br #[.int .i64 num, .slice x n y, .slice u n v]) (setRow_other _ _ _ _ (Blk.ne_ty (XM.below BX) XRx (by decide)))
    have XAx := (XA9.below BX).of_block (w' := wx.setRow br #[.int .i64 num, .slice x n y, .slice u n v]) (setRow_other _ _ _ _ (Blk.ne_ty (XA9.below BX) XRx (by decide)))
    have HRx := (HR9.below BX).of_block (w' := wx.setRow br #[.int .i64 num, .slice x n y, .slice u n v]) (fun g e _ _ => setRow_other _ _ _ _ (PRow.ne_blk (HR9.below BX) XRx (by decide) g e))
    have y0 := XAx.cell 0 rfl
    generalize wx.setRow br #[.int .i64 num, .slice x n y, .slice u n v] = wy at *
    clear XM XA9 HR9 HTI3 XRx PQ CQ BQ BX XAt XBt VBt hwAt hwBt vzt m6 m8 m9 m11
    rcases Decidable.em (kd = 3) with rfl | h3
    · go_wp2_with fail
      go_roundg (2 - (tm + 1))
      case measure => omega
      case rel => exact ⟨tm + 1, x, y, u, v, S2, C2, rfl, by omega, by go_num, fun _ => beT, IX, XMx, XAx, HRx⟩
    · have h3' : (kd == 3) = false := by simpa using h3
      go_wp2_with fail
      go_meet
      case rel => exact ⟨x, y, u, v, S2, C2, beT, IX, XMx, XAx, HRx⟩
  case rest =>
  as_aux_lemma =>
  obtain ⟨b, d, b2, d2, S2, C2, beT, I10, XM, XA10, HR10⟩ := hcut
  clear I9 XA9 HR9
  generalize wc = w10 at *
  have y0 := XA10.cell 0 rfl
  rcases Decidable.em (kd = 4) with rfl | hk4
  · have h60 : kk < 60 := by rcases HKD.out with h | h <;> omega
    go_wp2_with fail
    go_roundg (q - (j + 1))
    case measure => omega
    case rel => exact FIN.out w10 a c a2 c2 b d b2 d2 S2 C2 Cs2 I10 (Or.inr HR10) (Nat.le_refl _) (Or.inl h60)
  have hk4' : (kd == 4) = false := by simpa using hk4
  have GT := sgot_ok num a a2 n c n c2 t S Cs2 w10 (VOwn.varg I10.ps) (VOwn.varg I10.cs) (by omega) (by omega) HZ.out htn
  unfold stV at GT
  have XS := I10.xs
  have m6 : w10.cell? ⟨bm, 6, none⟩ = some (.int .i64 num) := XM.cell 6 rfl
  have m8 : w10.cell? ⟨bm, 8, none⟩ = some (.int .i64 (t : Int)) := XM.cell 8 rfl
  have HI10 : Hid (TxI w bs br num n S w10 a c a2 c2 b d b2 d2 S2 C2 Cs2) := I10
  clear I10
  go_wp2_with (first
    | (refine wpList_load_row rfl 30 _ rfl bs rfl 30 _ (0, 0) _ XS Tryd.underlying30 rfl Tryd.infoSs ?_)
    | (go_at_call 13; refine GT.mono ?_; clear GT; rintro e wt ⟨x, y, u, v, rfl, PQ, CQ, BQ⟩; obtain ⟨XAt, XBt, VBt, vzt⟩ := var3 wt 30 #[.int .i64 0, .slice none 0 0, .slice none 0 0] #[.int .i64 num, .slice x n y, .slice u n v]; generalize hwAt : wt.alloc (.cells #[.int .i64 0, .slice none 0 0, .slice none 0 0] 30) = wAt at *; generalize hwBt : wAt.setRow wt.heap.size #[.int .i64 num, .slice x n y, .slice u n v] = wx at *; have BX := below_then BQ VBt; have XSx := XS.below BX)
    | (refine wpList_store_row rfl 30 _ _ rfl wt.heap.size _ rfl rfl 30 _ XAt Tryd.infoSs rfl (stall _ _ _ _ _ _ _) ?_; rw [hwBt])
    | (refine wpList_load_row rfl 30 _ rfl wt.heap.size rfl 30 _ (0, 0) _ XBt Tryd.underlying30 rfl Tryd.infoSs ?_)
    | (refine wpList_store_row rfl 30 _ _ rfl bs _ rfl rfl 30 _ XSx Tryd.infoSs rfl (stall _ _ _ _ _ _ _) ?_))
  have IX := (HI10.out.below BX).send hbb hbs (D := gotB Cs2 n t) (fun j hj e => by
    rw [gotB_be Cs2 n t j hj] at e
    by_cases e2 : j = t
    · rw [e2]; exact beT
    · rw [decide_eq_false e2, Bool.false_or] at e
      exact HI10.out.sub j hj e) (VOwn.below PQ VBt) (VOwn.below CQ VBt)
  have HRx := (HR10.below BX).of_block (w' := wx.setRow bs #[.int .i64 num, .slice x n y, .slice u n v]) (fun g e _ _ => setRow_other _ _ _ _ (PRow.ne_blk (HR10.below BX) XSx (by decide) g e))
  go_roundg (q - (j + 1))
  case measure => omega
  case rel => exact FIN.out _ x y u v b d b2 d2 S2 C2 (gotB Cs2 n t) IX (Or.inr HRx) (got_le Cs2 n t) (Or.inr (fun e => Nat.le_of_eq (got_lt Cs2 n t (HBE.out e) htn)))
end Go.Proofs.YtdopcagikcdfcaaDoor
