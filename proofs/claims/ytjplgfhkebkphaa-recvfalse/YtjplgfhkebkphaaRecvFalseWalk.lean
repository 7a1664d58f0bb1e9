/- RecvFalse. Written by tools/genrcfalse.py. -/
import Derived.Test.YtjplgfhkebkphaaRcMath
namespace Go.Proofs.Ytjplgfhkebkphaa
open Go.ChangeShapes Go.WideShapes Go.ChangeAt Go.RowKit
set_option maxRecDepth 100000 in
set_option maxHeartbeats 64000000 in
theorem recvFalse_walk (num : Int) (s : ByteArray) (I at_ : Int) (oth : ByteArray) (w : World) (_hnum : -9223372036854775808 ≤ num ∧ num ≤ 9223372036854775807) (_hI : -9223372036854775808 ≤ I ∧ I ≤ 9223372036854775807) (_ha : -9223372036854775808 ≤ at_ ∧ at_ ≤ 9223372036854775807) :
    Calls Try.prog 6 #[.int .i64 num, .string s, .int .i64 I, .int .i64 at_, .string oth] w fun e w' => e = .returned (.bool true) ∧ Below w.heap.size w w' := by
  have CU := cut_any s.data.toList 300 w
  have CO := cut_any oth.data.toList 300 w
  rw [txt_of] at CU CO
  have hl : (s.data.toList.take 300).length ≤ 300 := by rw [List.length_take]; omega
  have hq : (oth.data.toList.take 300).length ≤ 300 := by rw [List.length_take]; omega
  generalize s.data.toList.take 300 = l at *
  generalize oth.data.toList.take 300 = q at *
  have AW := rawake_any
  have hpq : (txt q).size ≤ 4096 := by rw [txt_size]; omega
  by_cases h : cutN l I = 0
  case neg =>
    have C := sbegin_bad num l I w h
    unfold stV at C
    generalize cutN l I = r at *
    generalize txt l = T at *
    generalize txt q = TQ at *
    go_enter Try.func6, Try.ntmps6
    go_wp2_with (first
      | (go_at_call_of 9 s; refine CU.mono ?_; clear CU; rintro e w1 ⟨rfl, h9⟩; obtain rfl := h9.symm)
      | (go_at_call_of 9 oth; refine CO.mono ?_; clear CO; rintro e w1 ⟨rfl, h9⟩; obtain rfl := h9.symm)
      | (go_at_call 15; refine C.mono ?_; rintro e w2 ⟨rfl, B2⟩; obtain ⟨XA1, XB1, VB1, vz1⟩ := var3 w2 47 #[.int .i64 0, .slice none 0 0, .slice none 0 0] #[.int .i64 0, .slice none 0 0, .slice none 0 0]; generalize hwA1 : w2.alloc (.cells #[.int .i64 0, .slice none 0 0, .slice none 0 0] 47) = wA1 at *; generalize hwB1 : wA1.setRow w2.heap.size #[.int .i64 0, .slice none 0 0, .slice none 0 0] = wb at *; generalize hb1 : w2.heap.size = bs at *)
      | (refine wpList_store_row rfl 47 _ _ rfl bs _ rfl rfl 47 _ XA1 Try.infoSs rfl (stall _ _ _ _ _ _ _) ?_; rw [hwB1])
      | (go_at_call 8; refine (AW _).mono ?_; rintro e w3 ⟨rfl, B3⟩))
    go_ret
    exact ⟨rfl, below_then (below_then B2 (by rw [hb1]; exact VB1)) B3⟩
  obtain ⟨h1, h2, h3⟩ := cutN_parts' h
  obtain ⟨z, rfl⟩ : ∃ z : Nat, I = (z : Int) := ⟨I.toNat, by omega⟩
  have hm := cutS_most l z h3
  have hp := cutS_pos l z
  have hzs := cutS_size l z (by omega) (by omega)
  have hcat := catS_cut l z
  have CT := sbegin_ok num l z w h (by omega) (by omega)
  unfold stV at CT
  generalize cutS l z = S at *
  generalize hn : S.length = n at *
  have HN : Hid (S.length = n) := hn
  have RB := fun W => rbegin_ok num n W hp hm
  unfold stV at RB
  have hzz : ∀ s ∈ S, s.size ≤ 140737488355328 := fun s hs => by have := hzs s hs; omega
  have hse : ∀ i, (se S i).size ≤ 4096 := fun i => se_size hzs i
  have HZ : Hid (∀ s ∈ S, s.size ≤ 140737488355328) := hzz
  have HSE : Hid (∀ i, (se S i).size ≤ 4096) := hse
  have HCAT : Hid (catS S = l) := hcat
  have HL : Hid (l.length ≤ 300) := hl
  have NX : Hid (∀ (W : World) (a : Option Addr) (c : Nat) (a2 : Option Addr) (c2 : Nat), VArg W a n c (strs S) → VArg W a2 n c2 (bools (List.replicate n false)) → _) := fun W a c a2 c2 h1 h2 => snext_any num 600 a a2 n c n c2 n S (List.replicate n false) W h1 h2 (by omega) HZ.out (by rw [leftL_none]; omega)
  unfold stV at NX
  have hA : leftL (List.replicate n false) n = leftL (List.replicate n false) n := rfl
  have HLL := leftL_none n n
  have HEL : Hid (∀ t, t < n → el (leftL (List.replicate n false) n) t = (t : Int)) := fun t ht => leftL_id n n t ht
  have HTK : Hid (∀ i, n ≤ i → (leftL (List.replicate n false) n).take i = leftL (List.replicate n false) n) := fun i hi => List.take_of_length_le (by rw [leftL_none]; exact hi)
  clear h hzs hzz hn h1 h2 h3 hcat hse hA
  obtain ⟨T, hT⟩ : ∃ T, T = txt l := ⟨_, rfl⟩
  have HT : Hid (T = txt l) := hT
  rw [← hT] at CU CT
  clear hT hl
  generalize hTQ : txt q = TQ at *
  clear hTQ hq
  go_enter Try.func6, Try.ntmps6
  go_wp2_with (first
      | (go_at_call_of 9 s; refine CU.mono ?_; clear CU; rintro e w1 ⟨rfl, h9⟩; obtain rfl := h9.symm)
      | (go_at_call_of 9 oth; refine CO.mono ?_; clear CO; rintro e w1 ⟨rfl, h9⟩; obtain rfl := h9.symm)
      | (go_at_call 15; refine CT.mono ?_; rintro e w2 ⟨a, c, a2, c2, rfl, P2, C2, B2⟩; have z2 := B2.size; obtain ⟨XA1, XB1, VB1, vz1⟩ := var3 w2 47 #[.int .i64 0, .slice none 0 0, .slice none 0 0] #[.int .i64 num, .slice a n c, .slice a2 n c2]; generalize hwA1 : w2.alloc (.cells #[.int .i64 0, .slice none 0 0, .slice none 0 0] 47) = wA1 at *; generalize hwB1 : wA1.setRow w2.heap.size #[.int .i64 num, .slice a n c, .slice a2 n c2] = wb at *; generalize hb1 : w2.heap.size = bs at *; have P3 := VOwn.below P2 (by rw [hb1]; exact VB1); have C3 := VOwn.below C2 (by rw [hb1]; exact VB1); have k1 : wb.cell? ⟨bs, 1, none⟩ = some (.slice a n c) := XB1.cell 1 rfl)
      | (refine wpList_store_row rfl 47 _ _ rfl bs _ rfl rfl 47 _ XA1 Try.infoSs rfl (stall _ _ _ _ _ _ _) ?_; rw [hwB1])
      | (go_at_call 7; refine (RB _).mono ?_; rintro e w4 ⟨b, d, b2, d2, rfl, P4, C4, B4⟩; have z4 := B4.size; obtain ⟨XA2, XB2, VB2, vz2⟩ := var3 w4 26 #[.int .i64 0, .slice none 0 0, .slice none 0 0] #[.int .i64 num, .slice b n d, .slice b2 n d2]; generalize hwA2 : w4.alloc (.cells #[.int .i64 0, .slice none 0 0, .slice none 0 0] 26) = wA2 at *; generalize hwB2 : wA2.setRow w4.heap.size #[.int .i64 num, .slice b n d, .slice b2 n d2] = wd at *; generalize hb2 : w4.heap.size = br at *; have P5 := VOwn.below P4 (by rw [hb2]; exact VB2); have C5 := VOwn.below C4 (by rw [hb2]; exact VB2); have X5 := (XB1.below B4).below (by rw [hb2]; exact VB2); have P5s := (VOwn.below P3 B4).below (by rw [hb2]; exact VB2); have C5s := (VOwn.below C3 B4).below (by rw [hb2]; exact VB2); have NN := NX.out wd a c a2 c2 (VOwn.varg P5s) (VOwn.varg C5s))
      | (refine wpList_store_row rfl 26 _ _ rfl br _ rfl rfl 26 _ XA2 Try.infoRs rfl (stall _ _ _ _ _ _ _) ?_; rw [hwB2])
      | (refine wpList_load_row rfl 47 _ rfl bs rfl 47 _ (0, 0) _ X5 Try.underlying47 rfl Try.infoSs ?_)
      | (go_at_call 19; refine NN.mono ?_; clear NN; rintro e w6 ⟨x, xc, rfl, R6, B6⟩))
  have X6 := X5.below B6
  have XR6 := XB2.below B6
  have PS6 := VOwn.below P5s B6
  have P6 := VOwn.below P5 B6
  have C6 := VOwn.below C5 B6
  have lbr := XB2.lt
  have zb6 := B6.size
  have nbs : bs ≠ br := by have := XB1.lt; omega
  have BW6 : Below w.heap.size w w6 := below_then B2 (below_then (by rw [hb1]; exact VB1) (below_then B4 (below_then (by rw [hb2]; exact VB2) B6)))
  have hbw : w.heap.size ≤ br := by omega
  have hxm := R6.max
  obtain ⟨g, rfl, hg0, hg6, kc⟩ := R6.cells (by omega)
  have KC : Hid (∀ t j, t < n → j < 4 → w6.cell? ⟨g, t * 4 + j, none⟩ = _) := kc
  have nbg : g ≠ br := by omega
  have HG0 := good_new S n HN.out
  clear kc P2 C2 P3 C3 k1 B2 B4 hwA1 hwA2 hwB1 hwB2 XA1 XA2 XB1 X5 P5s C5s P4 C4 P5 C5 B6 VB1 VB2 CT RB NX z2 z4 vz1 vz2
  go_loopg [61] n (fun r s61 wr => ∃ (t : Nat) (b : Option Addr) (d : Nat) (b2 : Option Addr) (d2 : Nat) (S' : List ByteArray) (C' : List Bool), r = n - t ∧ t ≤ n ∧ s61 = .int .i64 (t : Int) ∧ Good S S' C' n ∧ (∀ i, i < t → be C' i = true) ∧ (∀ i, t ≤ i → be C' i = false) ∧ Blk wr br 26 #[.int .i64 num, .slice b n d, .slice b2 n d2] ∧ VOwn wr 0 9 (.slice b n d) n (strs S') ∧ VOwn wr 0 4 (.slice b2 n d2) n (bools C') ∧ But br w6 wr)
  case atStart => exact ⟨0, b, d, b2, d2, _, _, rfl, by omega, rfl, HG0, fun i hi => by omega, fun i _ => be_none n i, XR6, P6.base (Nat.zero_le _), C6.base (Nat.zero_le _), But.refl _ _⟩
  case round =>
  clear P6 C6 XB2 HG0
  obtain ⟨t, b, d, b2, d2, S', C', rfl, ht, rfl, HG, hc1, hc2, XR, PO, CO', BT⟩ := hrel
  have zr := BT.size
  have XSr := X6.but BT nbs
  by_cases d1 : t < n
  case pos =>
    have d1' : (t : Int) < (n : Int) := by omega
    have hx := HSE.out t
    have TK : Hid (∀ W, Below wr.heap.size wr W → _) := fun W hW => take_new num (se S t) b b2 n d d2 t S' C' W (PO.varg.below hW) (CO'.varg.below hW) (by omega) (fun s hs => by have := HG.size s hs; omega) d1 hx (hc2 t (Nat.le_refl _))
    have HG2 : Hid (Good S (S'.set t (se S t)) (C'.set t true) n) := HG.take d1 hx
    have hpg := partsL_get num n S (leftL (List.replicate n false) n) n t d1 (by rw [leftL_none]; omega)
    rw [HEL.out t d1, Int.toNat_natCast] at hpg
    have kk : ∀ j, j < 4 → wr.cell? ⟨g, t * 4 + j, none⟩ = (partR num (t : Int) n (se S t))[j]? := fun j hj => by
      rw [← hpg, ← KC.out t j d1 hj]
      unfold World.cell?
      rw [BT.block g hg6 nbg]
    have q0 : wr.cell? ⟨g, t * 4, none⟩ = some (.int .i64 num) := kk 0 (by omega)
    have q1 : wr.cell? ⟨g, t * 4 + 1, none⟩ = some (.int .i64 (t : Int)) := kk 1 (by omega)
    have q2 : wr.cell? ⟨g, t * 4 + 2, none⟩ = some (.int .i64 (n : Int)) := kk 2 (by omega)
    have q3 : wr.cell? ⟨g, t * 4 + 3, none⟩ = some (.string (se S t)) := kk 3 (by omega)
    have HCB : Hid ((∀ i, i < t + 1 → be (C'.set t true) i = true) ∧ (∀ i, t + 1 ≤ i → be (C'.set t true) i = false)) := ⟨fun i hi => by
        rw [be_set _ _ _ (by rw [HG.lenC]; exact d1)]
        by_cases e : i = t
        · rw [decide_eq_true e, Bool.true_or]
        · rw [decide_eq_false e, Bool.false_or]; exact hc1 i (by omega), fun i hi => by
        rw [be_set _ _ _ (by rw [HG.lenC]; exact d1), decide_eq_false (by omega), Bool.false_or]
        exact hc2 i (by omega)⟩
    unfold stV ptV at TK
    clear kk hpg hx HG hc1 hc2
    generalize S'.set t (se S t) = S2 at *
    generalize C'.set t true = C2 at *
    generalize se S t = xs at *
    obtain ⟨XA3, XB3, VB3, vz3⟩ := var3 wr 35 #[.int .i64 0, .int .i64 0, .int .i64 0, .string ⟨#[]⟩] #[.int .i64 num, .int .i64 (t : Int), .int .i64 (n : Int), .string xs]
    generalize hwA3 : wr.alloc (.cells #[.int .i64 0, .int .i64 0, .int .i64 0, .string ⟨#[]⟩] 35) = wA3 at *
    generalize hwB3 : wA3.setRow wr.heap.size #[.int .i64 num, .int .i64 (t : Int), .int .i64 (n : Int), .string xs] = we at *
    generalize hb3 : wr.heap.size = bp at *
    have TKw := TK.out we (by first | exact VB3 | (rw [hb3]; exact VB3))
    have XRe := XR.below (by rw [hb3]; exact VB3)
    go_wp2_with (first
      | (go_at_call 10; refine TKw.mono ?_; clear TKw; rintro e w7 ⟨u, v, u2, v2, rfl, P7, C7, B7⟩; have XR7 := XRe.below B7; have z7 := B7.size; obtain ⟨XA4, XB4, VB4, vz4⟩ := var3 w7 26 #[.int .i64 0, .slice none 0 0, .slice none 0 0] #[.int .i64 num, .slice u n v, .slice u2 n v2]; generalize hwA4 : w7.alloc (.cells #[.int .i64 0, .slice none 0 0, .slice none 0 0] 26) = wA4 at *; generalize hwB4 : wA4.setRow w7.heap.size #[.int .i64 num, .slice u n v, .slice u2 n v2] = wx at *; generalize hb4 : w7.heap.size = bx at *; have P8 := VOwn.below P7 (by rw [hb4]; exact VB4); have C8 := VOwn.below C7 (by rw [hb4]; exact VB4); have XR8 := XR7.below (by rw [hb4]; exact VB4); have BT8 := ((BT.then (by rw [hb3]; exact VB3)).then B7).then (by rw [hb4]; exact VB4))
      | (refine wpList_store_row rfl 35 _ _ rfl bp _ rfl rfl 35 _ XA3 Try.infoPt rfl (ptall _ _ _ _) ?_; rw [hwB3])
      | (refine wpList_load_row rfl 26 _ rfl br rfl 26 _ (0, 0) _ XRe Try.underlying26 rfl Try.infoRs ?_)
      | (refine wpList_load_row rfl 35 _ rfl bp rfl 35 _ (0, 0) _ XB3 Try.underlying35 rfl Try.infoPt ?_)
      | (refine wpList_store_row rfl 26 _ _ rfl bx _ rfl rfl 26 _ XA4 Try.infoRs rfl (stall _ _ _ _ _ _ _) ?_; rw [hwB4])
      | (refine wpList_load_row rfl 26 _ rfl bx rfl 26 _ (0, 0) _ XB4 Try.underlying26 rfl Try.infoRs ?_)
      | (refine wpList_store_row rfl 26 _ _ rfl br _ rfl rfl 26 _ XR8 Try.infoRs rfl (stall _ _ _ _ _ _ _) ?_))
    go_roundg (n - (t + 1))
    case measure => omega
    case rel => exact ⟨t + 1, u, v, u2, v2, S2, C2, rfl, by omega, by go_num, HG2.out, HCB.out.1, HCB.out.2, XR8.row _, VOwn.base (VOwn.of_block P8 (fun g' h _ _ => setRow_other _ _ _ _ (VOwn.ne_blk P8 XR8 ne_SR g' h))) (Nat.zero_le _), VOwn.base (VOwn.of_block C8 (fun g' h _ _ => setRow_other _ _ _ _ (VOwn.ne_blk C8 XR8 ne_BR g' h))) (Nat.zero_le _), BT8.row _⟩
  case neg =>
  obtain rfl : n = t := by omega
  have hSS := HG.all hc1
  rw [hSS] at PO
  have hlen : (leftL C' n).length = 0 := by rw [leftL_all n hc1]; rfl
  have s1 : wr.cell? ⟨bs, 1, none⟩ = some (.slice a n c) := XSr.cell 1 rfl
  have BWr : Below w.heap.size w wr := BW6.trans (BT.below (B := w.heap.size) (by have := BW6.size; omega) hbw)
  have hzS : ∀ s ∈ S, s.size ≤ 140737488355328 := HZ.out
  clear hSS HG hc2
  by_cases e1 : at_ < 0
  · go_wp2_with (go_at_call 8; refine (AW _).mono ?_; rintro e w9 ⟨rfl, B9⟩)
    go_ret
    exact ⟨rfl, below_then BWr B9⟩
  by_cases e2 : (n : Int) ≤ at_
  · go_wp2_with (go_at_call 8; refine (AW _).mono ?_; rintro e w9 ⟨rfl, B9⟩)
    go_ret
    exact ⟨rfl, below_then BWr B9⟩
  obtain ⟨k, rfl⟩ : ∃ k : Nat, at_ = (k : Int) := ⟨at_.toNat, by omega⟩
  have hk : k < n := by omega
  have hbk := hc1 k hk
  obtain ⟨nx, hnx⟩ : ∃ nx, nx = bits .xor .i64 num 1 := ⟨_, rfl⟩
  have hne : nx ≠ num := by rw [hnx]; exact xor_ne num
  have hnx' := hnx.symm
  have tB : takeN num n n S C' nx (k : Int) (n : Int) TQ = 14 := by
    unfold takeN
    rw [if_neg (by omega), if_pos hne]
  have tC : takeN num n n S C' num (k : Int) ((n : Int) + 1) TQ = 1 := by
    unfold takeN
    rw [if_neg (by omega), if_neg (by simp), if_pos (Or.inl (by omega))]
  obtain ⟨eA, hA1, hA2⟩ : ∃ eA : Int, (eA = 0 ∧ se S k = TQ ∨ eA = 9 ∧ ¬ se S k = TQ) ∧ ∀ W, Below wr.heap.size wr W → Calls Try.prog 10 #[stV num (.slice b n d) (.slice b2 n d2), ptV num (k : Int) (n : Int) TQ] W fun e w' => ∃ a c a2 c2, e = .returned (.tuple #[stV num (.slice a n c) (.slice a2 n c2), .bool false, .int .i64 eA]) ∧ VOwn w' W.heap.size 9 (.slice a n c) n (strs S) ∧ VOwn w' W.heap.size 4 (.slice a2 n c2) n (bools C') ∧ Below W.heap.size W w' := by
    by_cases e3 : se S k = TQ
    · exact ⟨0, Or.inl ⟨rfl, e3⟩, fun W hW => take_known num TQ b b2 n d d2 k S C' W (PO.varg.below hW) (CO'.varg.below hW) (by omega) hzS hk hpq hbk e3⟩
    · have tA : takeN num n n S C' num (k : Int) (n : Int) TQ = 9 := by
        unfold takeN
        rw [if_neg (by omega), if_neg (by simp), if_neg (by omega), if_neg (by omega), if_pos ⟨by rw [Int.toNat_natCast]; exact hbk, by rw [Int.toNat_natCast]; exact e3⟩]
      refine ⟨9, Or.inr ⟨rfl, e3⟩, fun W hW => ?_⟩
      have := take_bad num num (k : Int) (n : Int) TQ b b2 n d n d2 S C' W (PO.varg.below hW) (CO'.varg.below hW) (by omega) (by omega) hzS (by rw [tA]; decide)
      rw [tA] at this
      exact this
  have hB2 : ∀ W, Below wr.heap.size wr W → _ := fun W hW => take_bad num nx (k : Int) (n : Int) TQ b b2 n d n d2 S C' W (PO.varg.below hW) (CO'.varg.below hW) (by omega) (by omega) hzS (by rw [tB]; decide)
  have hC2 : ∀ W, Below wr.heap.size wr W → _ := fun W hW => take_bad num num (k : Int) ((n : Int) + 1) TQ b b2 n d n d2 S C' W (PO.varg.below hW) (CO'.varg.below hW) (by omega) (by omega) hzS (by rw [tC]; decide)
  rw [tB] at hB2
  rw [tC] at hC2
  have WH : Hid (∀ (W : World) (a : Option Addr) (c : Nat) (a2 : Option Addr) (c2 : Nat), VArg W a n c (strs S) → VArg W a2 n c2 (bools C') → _) := fun W a c a2 c2 h1 h2 => whole_yes num a a2 n c c2 S C' W h1 h2 (by omega) (by omega) hlen (by rw [HCAT.out]; have := HL.out; omega)
  rw [HCAT.out, ← HT.out] at WH
  unfold stV ptV at hA2 hB2 hC2
  unfold stV at WH
  have TA : Hid _ := hA2
  have TB : Hid _ := hB2
  have TC : Hid _ := hC2
  have PSr := PS6.of_block (fun g' h _ hl => BT.block g' hl (VOwn.ne_blk PS6 XR6 ne_SR g' h))
  obtain ⟨gp, cpp, curp, hvp, _, _, hltp⟩ := PSr.block (by omega)
  injection hvp with hvp1 hvp2 hvp3
  subst hvp1
  have kS : wr.cell? ⟨gp, k, none⟩ = some (.string (se S k)) := by
    rw [World.ownsRow.cellAt PSr k (by omega), strs_get (by rw [HN.out]; exact hk)]
  have HA1 : Hid _ := hA1
  clear hA2 hB2 hC2 tB tC hne hnx hbk hc1 hlen hzS hvp2 hvp3 hA1
  have XR' := XR
  generalize se S k = xk at *
  have hTQ : Hid (True) := trivial
  have K0 : Hid _ := kS
  go_upto_region 20 with (first
    | (go_at_call 10; refine (TA.out _ (Below.refl _ _)).mono ?_; clear TA; rintro e wq1 ⟨x1, y1, u1, v1, rfl, PQ1, CQ1, BQ1⟩; obtain ⟨XA5, XB5, VB5, vz5⟩ := var3 wq1 26 #[.int .i64 0, .slice none 0 0, .slice none 0 0] #[.int .i64 num, .slice x1 n y1, .slice u1 n v1]; generalize hwA5 : wq1.alloc (.cells #[.int .i64 0, .slice none 0 0, .slice none 0 0] 26) = wA5 at *; generalize hwB5 : wA5.setRow wq1.heap.size #[.int .i64 num, .slice x1 n y1, .slice u1 n v1] = wv1 at *; have BX1 := below_then BQ1 VB5; have XR1 := XR.below BX1)
    | (refine wpList_store_row rfl 26 _ _ rfl wq1.heap.size _ rfl rfl 26 _ XA5 Try.infoRs rfl (stall _ _ _ _ _ _ _) ?_; rw [hwB5])
    | (refine wpList_load_row rfl 26 _ rfl br rfl 26 _ (0, 0) _ XR Try.underlying26 rfl Try.infoRs ?_))
  go_upto_region 21 with (first
    | (go_at_call 10; refine (TB.out _ BX1).mono ?_; clear TB; rintro e wq2 ⟨x2, y2, u2, v2, rfl, PQ2, CQ2, BQ2⟩; obtain ⟨XA6, XB6, VB6, vz6⟩ := var3 wq2 26 #[.int .i64 0, .slice none 0 0, .slice none 0 0] #[.int .i64 num, .slice x2 n y2, .slice u2 n v2]; generalize hwA6 : wq2.alloc (.cells #[.int .i64 0, .slice none 0 0, .slice none 0 0] 26) = wA6 at *; generalize hwB6 : wA6.setRow wq2.heap.size #[.int .i64 num, .slice x2 n y2, .slice u2 n v2] = wv2 at *; have BX2 := below_then BX1 (below_then BQ2 VB6); have XR2 := XR.below BX2)
    | (refine wpList_store_row rfl 26 _ _ rfl wq2.heap.size _ rfl rfl 26 _ XA6 Try.infoRs rfl (stall _ _ _ _ _ _ _) ?_; rw [hwB6])
    | (refine wpList_load_row rfl 26 _ rfl br rfl 26 _ (0, 0) _ XR1 Try.underlying26 rfl Try.infoRs ?_))
  go_upto_region 22 with (first
    | (go_at_call 10; refine (TC.out _ BX2).mono ?_; clear TC; rintro e wq3 ⟨x3, y3, u3, v3, rfl, PQ3, CQ3, BQ3⟩; obtain ⟨XA7, XB7, VB7, vz7⟩ := var3 wq3 26 #[.int .i64 0, .slice none 0 0, .slice none 0 0] #[.int .i64 num, .slice x3 n y3, .slice u3 n v3]; generalize hwA7 : wq3.alloc (.cells #[.int .i64 0, .slice none 0 0, .slice none 0 0] 26) = wA7 at *; generalize hwB7 : wA7.setRow wq3.heap.size #[.int .i64 num, .slice x3 n y3, .slice u3 n v3] = wv3 at *; have BX3 := below_then BX2 (below_then BQ3 VB7); have XR3 := XR.below BX3)
    | (refine wpList_store_row rfl 26 _ _ rfl wq3.heap.size _ rfl rfl 26 _ XA7 Try.infoRs rfl (stall _ _ _ _ _ _ _) ?_; rw [hwB7])
    | (refine wpList_load_row rfl 26 _ rfl br rfl 26 _ (0, 0) _ XR2 Try.underlying26 rfl Try.infoRs ?_))
  have s13 : wv3.cell? ⟨bs, 1, none⟩ = some (.slice (some ⟨gp, 0, none⟩) n c) := (XSr.below BX3).cell 1 rfl
  have k13 : wv3.cell? ⟨gp, k, none⟩ = some (.string xk) := (BX3.cell (by exact hltp)).trans kS
  have BY2 := below_then VB5 (below_then BQ2 VB6)
  have XC1 := XB5.below (below_then BQ2 (below_then VB6 (below_then BQ3 VB7)))
  have XC2 := XB6.below (below_then BQ3 VB7)
  have PV1 := (VOwn.varg PQ1).below (below_then VB5 (below_then BQ2 (below_then VB6 (below_then BQ3 VB7))))
  have CV1 := (VOwn.varg CQ1).below (below_then VB5 (below_then BQ2 (below_then VB6 (below_then BQ3 VB7))))
  have PV2 := (VOwn.varg PQ2).below (below_then VB6 (below_then BQ3 VB7))
  have CV2 := (VOwn.varg CQ2).below (below_then VB6 (below_then BQ3 VB7))
  have PV3 := (VOwn.varg PQ3).below VB7
  have CV3 := (VOwn.varg CQ3).below VB7
  have PV4 := PO.varg.below BX3
  have CV4 := CO'.varg.below BX3
  have YL := blk_new wv3 26 #[.int .i64 num, .slice x1 n y1, .slice u1 n v1, .int .i64 num, .slice x2 n y2, .slice u2 n v2, .int .i64 num, .slice x3 n y3, .slice u3 n v3, .int .i64 num, .slice b n d, .slice b2 n d2]
  have BL := belowA wv3 (.cells #[.int .i64 num, .slice x1 n y1, .slice u1 n v1, .int .i64 num, .slice x2 n y2, .slice u2 n v2, .int .i64 num, .slice x3 n y3, .slice u3 n v3, .int .i64 num, .slice b n d, .slice b2 n d2] 26)
  have BWL := below_then BWr (below_then BX3 BL)
  have PL1 := PV1.below BL
  have CL1 := CV1.below BL
  have PL2 := PV2.below BL
  have CL2 := CV2.below BL
  have PL3 := PV3.below BL
  have CL3 := CV3.below BL
  have PL4 := PV4.below BL
  have CL4 := CV4.below BL
  generalize hwL : wv3.alloc (.cells #[.int .i64 num, .slice x1 n y1, .slice u1 n v1, .int .i64 num, .slice x2 n y2, .slice u2 n v2, .int .i64 num, .slice x3 n y3, .slice u3 n v3, .int .i64 num, .slice b n d, .slice b2 n d2] 26) = wL at *
  have QJ : Hid (∀ j, j < 4 → ∃ (x : Option Addr) (y : Nat) (u : Option Addr) (v : Nat), wL.cell? ⟨wv3.heap.size, j * 3, none⟩ = some (.int .i64 num) ∧ wL.cell? ⟨wv3.heap.size, j * 3 + 1, none⟩ = some (.slice x n y) ∧ wL.cell? ⟨wv3.heap.size, j * 3 + 2, none⟩ = some (.slice u n v) ∧ VArg wL x n y (strs S) ∧ VArg wL u n v (bools C')) := fun j hj => by
    match j, hj with
    | 0, _ => exact ⟨x1, y1, u1, v1, YL.cell 0 rfl, YL.cell 1 rfl, YL.cell 2 rfl, PL1, CL1⟩
    | 1, _ => exact ⟨x2, y2, u2, v2, YL.cell 3 rfl, YL.cell 4 rfl, YL.cell 5 rfl, PL2, CL2⟩
    | 2, _ => exact ⟨x3, y3, u3, v3, YL.cell 6 rfl, YL.cell 7 rfl, YL.cell 8 rfl, PL3, CL3⟩
    | 3, _ => exact ⟨b, d, b2, d2, YL.cell 9 rfl, YL.cell 10 rfl, YL.cell 11 rfl, PL4, CL4⟩
  have ltL := YL.lt
  have tq : ∃ bq : Bool, (TQ.toList == xk.toList) = bq ∧ (eA = 0 ∧ bq = true ∨ eA = 9 ∧ bq = false) := by
    rcases HA1.out with ⟨h1, h2⟩ | ⟨h1, h2⟩
    · exact ⟨true, by rw [h2]; simp, Or.inl ⟨h1, rfl⟩⟩
    · exact ⟨false, txt_ne (fun e => h2 e.symm), Or.inr ⟨h1, rfl⟩⟩
  obtain ⟨bq, hbq, hq2⟩ := tq
  clear PL1 CL1 PL2 CL2 PL3 CL3 PL4 CL4 PV1 CV1 PV2 CV2 PV3 CV3 PV4 CV4 PQ1 CQ1 PQ2 CQ2 PQ3 CQ3 BQ1 BQ2 BQ3 VB5 VB6 VB7 XA5 XA6 XA7 hwA5 hwA6 hwA7 hwB5 hwB6 hwB7 BX1 BX2 XB5 XB6 XR1 XR2 HA1 BY2 BL YL
  go_cut [153] from 34 (fun s153 wc => s153 = .bool false ∧ wc = wv3)
  case first =>
    rcases hq2 with ⟨rfl, rfl⟩ | ⟨rfl, rfl⟩
    · go_wp2_with fail
      go_meet
      case rel => exact ⟨rfl, rfl⟩
    · go_wp2_with fail
      go_meet
      case rel => exact ⟨rfl, rfl⟩
  case rest =>
  obtain ⟨rfl, h8⟩ := hcut
  obtain rfl := h8.symm
  clear hq2 hbq s13 k13 hnx' kS K0 X6 XSr PS6 PSr KC HEL HTK HSE
  go_wp2_with (first
    | (refine wpList_load_row rfl 26 _ rfl wq1.heap.size rfl 26 _ (0, 0) _ XC1 Try.underlying26 rfl Try.infoRs ?_)
    | (refine wpList_load_row rfl 26 _ rfl wq2.heap.size rfl 26 _ (0, 0) _ XC2 Try.underlying26 rfl Try.infoRs ?_)
    | (refine wpList_load_row rfl 26 _ rfl wq3.heap.size rfl 26 _ (0, 0) _ XB7 Try.underlying26 rfl Try.infoRs ?_)
    | (refine wpList_load_row rfl 26 _ rfl br rfl 26 _ (0, 0) _ XR3 Try.underlying26 rfl Try.infoRs ?_))
  clear XC1 XC2 XB7 XR3 XR XR' PO CO' hwL
  go_loopg [160] 4 (fun r s160 wt => ∃ j : Nat, r = 4 - j ∧ j ≤ 4 ∧ s160 = .int .i64 (j : Int) ∧ Below wL.heap.size wL wt)
  case atStart => exact ⟨0, rfl, by omega, rfl, Below.refl _ _⟩
  case round =>
  obtain ⟨j, rfl, hj, rfl, BJ⟩ := hrel
  by_cases dj : j < 4
  case neg =>
    obtain rfl : j = 4 := by omega
    go_wp2_with (go_at_call 8; refine (AW _).mono ?_; rintro e w9 ⟨rfl, B9⟩)
    go_ret
    exact ⟨rfl, below_then BWL (below_then BJ B9)⟩
  have dj' : (j : Int) < 4 := by omega
  obtain ⟨x, y, u, v, r0, r1, r2, PX, CX⟩ := QJ.out j dj
  have t0 : wr.cell? ⟨wv3.heap.size, j * 3, none⟩ = some (.int .i64 num) := (BJ.cell (by exact ltL)).trans r0
  have t1 : wr.cell? ⟨wv3.heap.size, j * 3 + 1, none⟩ = some (.slice x n y) := (BJ.cell (by exact ltL)).trans r1
  have t2 : wr.cell? ⟨wv3.heap.size, j * 3 + 2, none⟩ = some (.slice u n v) := (BJ.cell (by exact ltL)).trans r2
  rw [vz7] at t0 t1 t2
  obtain ⟨XA8, XB8, VB8, vz8⟩ := var3 wr 26 #[.int .i64 0, .slice none 0 0, .slice none 0 0] #[.int .i64 num, .slice x n y, .slice u n v]
  generalize hwA8 : wr.alloc (.cells #[.int .i64 0, .slice none 0 0, .slice none 0 0] 26) = wA8 at *
  generalize hwB8 : wA8.setRow wr.heap.size #[.int .i64 num, .slice x n y, .slice u n v] = wv8 at *
  have WW := WH.out wv8 x y u v ((PX.below BJ).below VB8) ((CX.below BJ).below VB8)
  clear r0 r1 r2 PX CX
  go_wp2_with (first
    | (go_at_call 12; refine WW.mono ?_; rintro e w9 ⟨rfl, B9⟩)
    | (refine wpList_store_row rfl 26 _ _ rfl wr.heap.size _ rfl rfl 26 _ XA8 Try.infoRs rfl (stall _ _ _ _ _ _ _) ?_; rw [hwB8])
    | (refine wpList_load_row rfl 26 _ rfl wr.heap.size rfl 26 _ (0, 0) _ XB8 Try.underlying26 rfl Try.infoRs ?_))
  go_roundg (4 - (j + 1))
  case measure => omega
  case rel => exact ⟨j + 1, rfl, by omega, by go_num, below_then BJ (below_then VB8 B9)⟩
end Go.Proofs.Ytjplgfhkebkphaa
