/- RecvWhole. Written by tools/genrcwh.py. -/
import Derived.Test.YtjplgfhkebkphaaRcMath
import Derived.Deep.RegionHeld3
namespace Go.Proofs.Ytjplgfhkebkphaa
open Go.ChangeShapes Go.WideShapes Go.ChangeAt Go.RowKit
theorem leftL_congr {C D : List Bool} : ∀ n, (∀ i, i < n → be C i = be D i) → leftL C n = leftL D n
  | 0, _ => rfl
  | n + 1, h => by
    have ih := leftL_congr n (fun i hi => h i (by omega))
    have h1 := h n (by omega)
    cases hb : be C n with
    | true => rw [leftL_come hb, leftL_come (by rw [← h1]; exact hb), ih]
    | false => rw [leftL_not hb, leftL_not (by rw [← h1]; exact hb), ih]
set_option maxRecDepth 100000 in
set_option maxHeartbeats 64000000 in
theorem recvWhole_walk (num : Int) (s : ByteArray) (I : Int) (ao : Option Addr) (n0 ca : Nat) (Z : List Int) (w : World) (_hnum : -9223372036854775808 ≤ num ∧ num ≤ 9223372036854775807) (_hI : -9223372036854775808 ≤ I ∧ I ≤ 9223372036854775807) (hZ : IArg w ao n0 ca Z) :
    Calls Try.prog 4 #[.int .i64 num, .string s, .int .i64 I, .slice ao n0 ca] w fun e w' => e = .returned (.bool true) ∧ Below w.heap.size w w' := by
  have CU := cut_any s.data.toList 300 w
  rw [txt_of] at CU
  have hl : (s.data.toList.take 300).length ≤ 300 := by rw [List.length_take]; omega
  generalize s.data.toList.take 300 = l at *
  have AW := rawake_any
  have hz1 := hZ.fit
  have hz2 := hZ.max
  have HZ0 : Hid (IArg w ao n0 ca Z) := hZ
  clear hZ
  by_cases h : cutN l I = 0
  case neg =>
    have C := sbegin_bad num l I w h
    unfold stV at C
    generalize cutN l I = r at *
    generalize txt l = T at *
    go_enter Try.func4, Try.ntmps4
    go_wp2_with (first
      | (go_at_call 9; refine CU.mono ?_; rintro e w1 ⟨rfl, h9⟩; obtain rfl := h9.symm)
      | (go_at_call 15; refine C.mono ?_; rintro e w2 ⟨rfl, B2⟩; obtain ⟨XA0, XB0, VB0, vz0⟩ := var3 w2 47 #[.int .i64 0, .slice none 0 0, .slice none 0 0] #[.int .i64 0, .slice none 0 0, .slice none 0 0]; generalize hwA0 : w2.alloc (.cells #[.int .i64 0, .slice none 0 0, .slice none 0 0] 47) = wA0 at *; generalize hwB0 : wA0.setRow w2.heap.size #[.int .i64 0, .slice none 0 0, .slice none 0 0] = wb at *)
      | (refine wpList_store_row rfl 47 _ _ rfl w2.heap.size _ rfl rfl 47 _ XA0 Try.infoSs rfl (stall _ _ _ _ _ _ _) ?_; rw [hwB0])
      | (go_at_call 8; refine (AW _).mono ?_; rintro e w3 ⟨rfl, B3⟩; have k1 : w3.cell? ⟨w2.heap.size, 1, none⟩ = some (.slice none 0 0) := (XB0.below B3).cell 1 rfl))
    go_ret
    exact ⟨rfl, below_then (below_then B2 VB0) B3⟩
  obtain ⟨h1, h2, h3⟩ := cutN_parts' h
  obtain ⟨z, rfl⟩ : ∃ z : Nat, I = (z : Int) := ⟨I.toNat, by omega⟩
  have hm := cutS_most l z h3
  have hp := cutS_pos l z
  have hzs := cutS_size l z (by omega) (by omega)
  have hcat := catS_cut l z
  have CT := sbegin_ok num l z w h (by omega) (by omega)
  unfold stV at CT
  generalize cutS l z = S at *
  generalize hn : S.length = n at *
  have HN : Hid (S.length = n) := hn
  have RB := fun W => rbegin_ok num n W hp hm
  unfold stV at RB
  have hzz : ∀ s ∈ S, s.size ≤ 140737488355328 := fun s hs => by have := hzs s hs; omega
  have hse : ∀ i, (se S i).size ≤ 4096 := fun i => se_size hzs i
  have HZ : Hid (∀ s ∈ S, s.size ≤ 140737488355328) := hzz
  have HSE : Hid (∀ i, (se S i).size ≤ 4096) := hse
  have HCAT : Hid (catS S = l) := hcat
  have HL : Hid (l.length ≤ 300) := hl
  clear h hzs hzz hn h1 h2 h3 hcat hse
  obtain ⟨T, hT⟩ : ∃ T, T = txt l := ⟨_, rfl⟩
  have HT : Hid (T = txt l) := hT
  rw [← hT] at CU CT
  clear hT hl
  go_enter Try.func4, Try.ntmps4
  go_upto_if 55 with (first
      | (go_at_call 9; refine CU.mono ?_; clear CU; rintro e w1 ⟨rfl, h9⟩; obtain rfl := h9.symm)
      | (go_at_call 15; refine CT.mono ?_; clear CT; rintro e w2 ⟨a, c, a2, c2, rfl, P2, C2, B2⟩; have z2 := B2.size; obtain ⟨XA1, XB1, VB1, vz1⟩ := var3 w2 47 #[.int .i64 0, .slice none 0 0, .slice none 0 0] #[.int .i64 num, .slice a n c, .slice a2 n c2]; generalize hwA1 : w2.alloc (.cells #[.int .i64 0, .slice none 0 0, .slice none 0 0] 47) = wA1 at *; generalize hwB1 : wA1.setRow w2.heap.size #[.int .i64 num, .slice a n c, .slice a2 n c2] = wb at *; have P3 := VOwn.below P2 VB1; have C3 := VOwn.below C2 VB1; have k1 : wb.cell? ⟨w2.heap.size, 1, none⟩ = some (.slice a n c) := XB1.cell 1 rfl)
      | (refine wpList_store_row rfl 47 _ _ rfl w2.heap.size _ rfl rfl 47 _ XA1 Try.infoSs rfl (stall _ _ _ _ _ _ _) ?_; rw [hwB1])
      | (go_at_call 7; refine (RB _).mono ?_; clear RB; rintro e w4 ⟨b, d, b2, d2, rfl, P4, C4, B4⟩; have z4 := B4.size; obtain ⟨XA2, XB2, VB2, vz2⟩ := var3 w4 26 #[.int .i64 0, .slice none 0 0, .slice none 0 0] #[.int .i64 num, .slice b n d, .slice b2 n d2]; generalize hwA2 : w4.alloc (.cells #[.int .i64 0, .slice none 0 0, .slice none 0 0] 26) = wA2 at *; generalize hwB2 : wA2.setRow w4.heap.size #[.int .i64 num, .slice b n d, .slice b2 n d2] = wd at *; have P5 := VOwn.below P4 VB2; have C5 := VOwn.below C4 VB2; have X5 := (XB1.below B4).below VB2; have P5s := (VOwn.below P3 B4).below VB2; have C5s := (VOwn.below C3 B4).below VB2)
      | (refine wpList_store_row rfl 26 _ _ rfl w4.heap.size _ rfl rfl 26 _ XA2 Try.infoRs rfl (stall _ _ _ _ _ _ _) ?_; rw [hwB2]))
  have lt1 := XB1.lt
  have BW : Below w.heap.size w wd := below_then B2 (below_then VB1 (below_then B4 VB2))
  have hbb : w2.heap.size ≠ w4.heap.size := by omega
  have hbw : w.heap.size ≤ w2.heap.size := by omega
  have hbw2 : w.heap.size ≤ w4.heap.size := by omega
  generalize hbs : w2.heap.size = bs at *
  generalize hbr : w4.heap.size = br at *
  have HG0 := good_new S n HN.out
  have PB := VOwn.base P5s (Nat.zero_le _)
  have CB := VOwn.base C5s (Nat.zero_le _)
  have PR := VOwn.base P5 (Nat.zero_le _)
  have CR := VOwn.base C5 (Nat.zero_le _)
  have HBB : Hid (bs ≠ br ∧ w.heap.size ≤ bs ∧ w.heap.size ≤ br) := ⟨hbb, hbw, hbw2⟩
  have XRb := XB2
  clear P2 C2 P3 C3 P4 C4 P5 C5 P5s C5s B2 B4 VB1 VB2 XA1 XA2 XB1 XB2 hwA1 hwA2 hwB1 hwB2 vz1 vz2 z2 z4 k1 lt1 hbs hbr hbb hbw hbw2
  go_cut [3] from 25 (fun s3 wc => ∃ L : Nat, L ≤ 100 ∧ L ≤ n0 ∧ s3 = .slice ao L ca ∧ wc = wd)
  case first =>
    by_cases e1 : 100 < n0
    · have e1' : (100 : Int) < (n0 : Int) := by omega
      have e2' : (100 : Int) ≤ (ca : Int) := by omega
      go_wp2_with fail
      go_meet
      case rel => exact ⟨100, by omega, by omega, rfl, rfl⟩
    · have e1' : ¬ (100 : Int) < (n0 : Int) := by omega
      go_wp2_with fail
      go_meet
      case rel => exact ⟨n0, by omega, by omega, rfl, rfl⟩
  case rest =>
  obtain ⟨L, hL, hLn, rfl, h8⟩ := hcut
  obtain rfl := h8.symm
  have hLZ : Z.length = n0 := HZ0.out.row.len
  go_wp2_with fail
  go_loopg [13] (L + n) (fun r s13 wr => ∃ (i : Nat) (a : Option Addr) (c : Nat) (a2 : Option Addr) (c2 : Nat) (b : Option Addr) (d : Nat) (b2 : Option Addr) (d2 : Nat) (S' : List ByteArray) (C' Cs : List Bool), r = L + n - i ∧ i ≤ L + n ∧ s13 = .int .i64 (i : Int) ∧ Good S S' C' n ∧ (∀ j, j < n → be Cs j = be C' j) ∧ (∀ j, L + j < i → j < n → be C' j = true) ∧ Blk wr bs 47 #[.int .i64 num, .slice a n c, .slice a2 n c2] ∧ VOwn wr 0 9 (.slice a n c) n (strs S) ∧ VOwn wr 0 4 (.slice a2 n c2) n (bools Cs) ∧ Blk wr br 26 #[.int .i64 num, .slice b n d, .slice b2 n d2] ∧ VOwn wr 0 9 (.slice b n d) n (strs S') ∧ VOwn wr 0 4 (.slice b2 n d2) n (bools C') ∧ Below w.heap.size w wr)
  case atStart => exact ⟨0, a, c, a2, c2, b, d, b2, d2, _, _, _, rfl, by omega, rfl, HG0, fun _ _ => rfl, fun j hj _ => by omega, X5, PB, CB, XRb, PR, CR, BW⟩
  case round =>
  clear X5 PB CB XRb PR CR BW HG0
  obtain ⟨i, a, c, a2, c2, b, d, b2, d2, S', C', Cs, rfl, hi, rfl, HG, hcs, hdone, XS, PS, CS, XR, PO, CO, BW⟩ := hrel
  have s1 : wr.cell? ⟨bs, 1, none⟩ = some (.slice a n c) := XS.cell 1 rfl
  obtain ⟨hbb, hbw, hbw2⟩ := HBB.out
  by_cases d1 : i < L + n
  case neg =>
    obtain rfl : i = L + n := by omega
    have hall : ∀ j, j < n → be C' j = true := fun j hj => hdone j (by omega) hj
    have hSS := HG.all hall
    rw [hSS] at PO
    have hlen : (leftL C' n).length = 0 := by rw [leftL_all n hall]; rfl
    have WH := whole_yes num b b2 n d d2 S C' wr PO.varg CO.varg (by omega) (by omega) hlen (by rw [HCAT.out]; have := HL.out; omega)
    rw [HCAT.out, ← HT.out] at WH
    unfold stV at WH
    have e9 : ¬ ((L + n : Nat) : Int) < (L : Int) + (n : Int) := by omega
    clear hall hSS hdone
    go_wp2_with (first
      | (go_at_call 12; refine WH.mono ?_; rintro e w8 ⟨rfl, B8⟩)
      | (go_at_call 8; refine (AW _).mono ?_; rintro e w9 ⟨rfl, B9⟩)
      | (refine wpList_load_row rfl 26 _ rfl br rfl 26 _ (0, 0) _ XR Try.underlying26 rfl Try.infoRs ?_))
    go_ret
    exact ⟨rfl, below_then BW (below_then B8 B9)⟩
  have d1' : (i : Int) < (L : Int) + (n : Int) := by omega
  obtain ⟨X, hX, hXe⟩ : ∃ X : Int, (i < L ∧ X = el Z i ∨ L ≤ i ∧ X = (i : Int) - (L : Int)) ∧ True := by
    by_cases e : i < L
    · exact ⟨_, Or.inl ⟨e, rfl⟩, trivial⟩
    · exact ⟨_, Or.inr ⟨by omega, rfl⟩, trivial⟩
  have HX : Hid _ := hX
  have ZA := HZ0.out.below BW
  go_upto_if 75 with fail
  go_cut [14] from 58 to 154 (fun s14 wc => s14 = .int .i64 X ∧ wc = wr)
  case first =>
    rcases hX with ⟨e1, e2⟩ | ⟨e1, e2⟩
    · have e1' : (i : Int) < (L : Int) := by omega
      obtain ⟨bz, oz, rfl, kz⟩ := ZA.row.cells (by omega)
      have tz := kz i (by omega)
      rw [← e2] at tz
      clear kz ZA e2
      go_wp2_with fail
      go_meet
      case rel => exact ⟨rfl, rfl⟩
    · have e1' : ¬ (i : Int) < (L : Int) := by omega
      have e2' := e2.symm
      clear e2
      go_wp2_with fail
      go_meet
      case rel => exact ⟨by rw [← e2'], rfl⟩
  case rest =>
  obtain ⟨rfl, h8⟩ := hcut
  obtain rfl := h8.symm
  clear ZA hX hXe
  by_cases e1 : X < 0
  · go_wp2_with fail
    go_roundg (L + n - (i + 1))
    case measure => omega
    case rel => exact ⟨i + 1, a, c, a2, c2, b, d, b2, d2, S', C', Cs, rfl, by omega, by go_num, HG, hcs, fun j hj hjn => by
      by_cases e : L + j < i
      · exact hdone j e hjn
      · have := HX.out; omega, XS, PS, CS, XR, PO, CO, BW⟩
  by_cases e2 : (n : Int) ≤ X
  · go_wp2_with fail
    go_roundg (L + n - (i + 1))
    case measure => omega
    case rel => exact ⟨i + 1, a, c, a2, c2, b, d, b2, d2, S', C', Cs, rfl, by omega, by go_num, HG, hcs, fun j hj hjn => by
      by_cases e : L + j < i
      · exact hdone j e hjn
      · have := HX.out; omega, XS, PS, CS, XR, PO, CO, BW⟩
  obtain ⟨k, rfl⟩ : ∃ k : Nat, X = (k : Int) := ⟨X.toNat, by omega⟩
  have hk : k < n := by omega
  obtain ⟨gp, cq, cur, hv, _, _, hltp⟩ := PS.block (by omega)
  injection hv with hv1 hv2 hv3
  subst hv1
  have tk : wr.cell? ⟨gp, k, none⟩ = some (.string (se S k)) := by
    rw [World.ownsRow.cellAt PS k (by omega), strs_get (by rw [HN.out]; exact hk)]
  have hx := HSE.out k
  obtain ⟨is, S2, C2, HG2, hC2, hcount, TK⟩ : ∃ (is : Bool) (S2 : List ByteArray) (C2 : List Bool), Good S S2 C2 n ∧ (∀ j, j < n → be C2 j = (decide (j = k) || be C' j)) ∧ ((is = true ∧ (leftL C2 n).length + 1 = (leftL C' n).length) ∨ (is = false ∧ (leftL C2 n).length = (leftL C' n).length)) ∧ ∀ W, Below wr.heap.size wr W → Calls Try.prog 10 #[stV num (.slice b n d) (.slice b2 n d2), ptV num (k : Int) (n : Int) (se S k)] W fun e w' => ∃ x y u v, e = .returned (.tuple #[stV num (.slice x n y) (.slice u n v), .bool is, .int .i64 0]) ∧ VOwn w' W.heap.size 9 (.slice x n y) n (strs S2) ∧ VOwn w' W.heap.size 4 (.slice u n v) n (bools C2) ∧ Below W.heap.size W w' := by
    have hzS : ∀ s ∈ S', s.size ≤ 140737488355328 := fun s hs => by have := HG.size s hs; omega
    cases hb : be C' k with
    | true =>
      refine ⟨false, S', C', HG, fun j _ => ?_, Or.inr ⟨rfl, rfl⟩, fun W hW => take_known num (se S k) b b2 n d d2 k S' C' W (PO.varg.below hW) (CO.varg.below hW) (by omega) hzS hk hx hb (HG.same k hk hb)⟩
      by_cases e : j = k
      · rw [e, hb]; simp
      · rw [decide_eq_false e, Bool.false_or]
    | false =>
      have hset : ∀ j, j < n → be (C'.set k true) j = (decide (j = k) || be C' j) := fun j _ => be_set C' k j (by rw [HG.lenC]; exact hk)
      have hcg : leftL (C'.set k true) n = leftL (gotB C' n k) n := leftL_congr n (fun j hj => by rw [hset j hj, gotB_be C' n k j hj])
      have hls := leftL_less C' n k hb n (Nat.le_refl _)
      rw [if_pos hk] at hls
      exact ⟨true, S'.set k (se S k), C'.set k true, HG.take hk hx, hset, Or.inl ⟨rfl, by rw [hcg]; exact hls⟩, fun W hW => take_new num (se S k) b b2 n d d2 k S' C' W (PO.varg.below hW) (CO.varg.below hW) (by omega) hzS hk hx hb⟩
  have TK' : Hid _ := TK
  have HG2' : Hid _ := HG2
  have HC2 : Hid _ := hC2
  have HX2 : Hid _ := HX.out
  have M1a := fun W (hW : Below wr.heap.size wr W) => missing_any num b b2 n d n d2 C' W (CO.varg.below hW) (by omega)
  unfold stV ptV at TK'
  unfold stV at M1a
  obtain ⟨p1, hp1⟩ : ∃ p1, p1 = (leftL C' n).length := ⟨_, rfl⟩
  obtain ⟨p2, hp2⟩ : ∃ p2, p2 = (leftL C2 n).length := ⟨_, rfl⟩
  rw [← hp1] at M1a
  rw [← hp1, ← hp2] at hcount
  have HP2 : Hid (p2 = (leftL C2 n).length) := hp2
  have M1' : Hid _ := M1a
  have hpb := leftL_len C2 n
  have hpb2 := leftL_len C' n
  rw [← hp2] at hpb
  rw [← hp1] at hpb2
  have HCO : Hid _ := hcount
  clear TK M1a hp1 hp2 HG hC2 HG2 hcount e1 e2 hx hv2 hv3
  generalize hxk : se S k = xk at *
  clear hxk
  go_upto_region 17 with fail
  go_cut [15] from 58 to 154 (fun s15 wc => ∃ bp : Nat, s15 = .pointer (some ⟨bp, 0, none⟩) ∧ Blk wc bp 35 #[.int .i64 num, .int .i64 (k : Int), .int .i64 (n : Int), .string xk] ∧ Below wr.heap.size wr wc)
  case first =>
    refine wp_region_held_drew (S := fun w' => Blk w' bs 47 #[.int .i64 num, .slice (some ⟨gp, 0, none⟩) n c, .slice a2 n c2] ∧ w'.cell? ⟨gp, k, none⟩ = some (.string xk)) (by kernel_rfl) (⟨XS, tk⟩) (fun hHeld => ?_)
    refine wpAnyH_take (i := 0) (v := (.int .i64 num)) rfl (by kernel_rfl) (by kernel_rfl) (by kernel_rfl) (fun _ _ _ h => h) (Or.inl ⟨by rfl, ?_⟩) (by assumption) ?_
    · intro w' hSw
      go_simp
    simp only [List.getElem_toArray, List.getElem_cons_zero, Act.put, List.setIfInBounds_toArray, List.set_cons_zero, List.set_cons_succ]
    refine wpAnyH_take (i := 1) (v := (.int .i64 (k : Int))) rfl (by kernel_rfl) (by kernel_rfl) (by kernel_rfl) (fun _ _ _ h => h) (Or.inl ⟨by rfl, ?_⟩) (by assumption) ?_
    · intro w' hSw
      go_simp
    simp only [List.getElem_toArray, List.getElem_cons_succ, List.getElem_cons_zero, Act.put, List.setIfInBounds_toArray, List.set_cons_zero, List.set_cons_succ]
    refine wpAnyH_take (i := 2) (v := (.pointer (some ⟨bs, 1, none⟩))) rfl (by kernel_rfl) (by kernel_rfl) (by kernel_rfl) (fun _ _ _ h => h) (Or.inl ⟨by rfl, ?_⟩) (by assumption) ?_
    · intro w' hSw
      go_simp
    simp only [List.getElem_toArray, List.getElem_cons_succ, List.getElem_cons_zero, Act.put, List.setIfInBounds_toArray, List.set_cons_zero, List.set_cons_succ]
    refine wpAnyH_take (i := 3) (v := (.slice (some ⟨gp, 0, none⟩) n c)) rfl (by kernel_rfl) (by kernel_rfl) (by kernel_rfl) (fun _ _ _ h => h) (Or.inl ⟨by rfl, ?_⟩) (by assumption) ?_
    · intro w' hSw
      have y1 : w'.cell? ⟨bs, 1, none⟩ = some (.slice (some ⟨gp, 0, none⟩) n c) := hSw.1.cell 1 rfl
      go_simp
    simp only [List.getElem_toArray, List.getElem_cons_succ, List.getElem_cons_zero, Act.put, List.setIfInBounds_toArray, List.set_cons_zero, List.set_cons_succ]
    refine wpAnyH_take (i := 4) (v := (.int .i64 (n : Int))) rfl (by kernel_rfl) (by kernel_rfl) (by kernel_rfl) (fun _ _ _ h => h) (Or.inl ⟨by rfl, ?_⟩) (by assumption) ?_
    · intro w' hSw
      go_simp
    simp only [List.getElem_toArray, List.getElem_cons_succ, List.getElem_cons_zero, Act.put, List.setIfInBounds_toArray, List.set_cons_zero, List.set_cons_succ]
    refine wpAnyH_take (i := 5) (v := (.pointer (some ⟨bs, 1, none⟩))) rfl (by kernel_rfl) (by kernel_rfl) (by kernel_rfl) (fun _ _ _ h => h) (Or.inl ⟨by rfl, ?_⟩) (by assumption) ?_
    · intro w' hSw
      go_simp
    simp only [List.getElem_toArray, List.getElem_cons_succ, List.getElem_cons_zero, Act.put, List.setIfInBounds_toArray, List.set_cons_zero, List.set_cons_succ]
    refine wpAnyH_take (i := 6) (v := (.slice (some ⟨gp, 0, none⟩) n c)) rfl (by kernel_rfl) (by kernel_rfl) (by kernel_rfl) (fun _ _ _ h => h) (Or.inl ⟨by rfl, ?_⟩) (by assumption) ?_
    · intro w' hSw
      have y1 : w'.cell? ⟨bs, 1, none⟩ = some (.slice (some ⟨gp, 0, none⟩) n c) := hSw.1.cell 1 rfl
      go_simp
    simp only [List.getElem_toArray, List.getElem_cons_succ, List.getElem_cons_zero, Act.put, List.setIfInBounds_toArray, List.set_cons_zero, List.set_cons_succ]
    refine wpAnyH_take (i := 7) (v := (.int .i64 (k : Int))) rfl (by kernel_rfl) (by kernel_rfl) (by kernel_rfl) (fun _ _ _ h => h) (Or.inl ⟨by rfl, ?_⟩) (by assumption) ?_
    · intro w' hSw
      go_simp
    simp only [List.getElem_toArray, List.getElem_cons_succ, List.getElem_cons_zero, Act.put, List.setIfInBounds_toArray, List.set_cons_zero, List.set_cons_succ]
    refine wpAnyH_take (i := 8) (v := (.pointer (some ⟨gp, k, none⟩))) rfl (by kernel_rfl) (by kernel_rfl) (by kernel_rfl) (fun _ _ _ h => h) (Or.inl ⟨by rfl, ?_⟩) (by assumption) ?_
    · intro w' hSw
      go_simp
    simp only [List.getElem_toArray, List.getElem_cons_succ, List.getElem_cons_zero, Act.put, List.setIfInBounds_toArray, List.set_cons_zero, List.set_cons_succ]
    refine wpAnyH_take (i := 9) (v := (.string xk)) rfl (by kernel_rfl) (by kernel_rfl) (by kernel_rfl) (fun _ _ _ h => h) (Or.inl ⟨by rfl, ?_⟩) (by assumption) ?_
    · intro w' hSw
      have y9 := hSw.2
      go_simp
    simp only [List.getElem_toArray, List.getElem_cons_succ, List.getElem_cons_zero, Act.put, List.setIfInBounds_toArray, List.set_cons_zero, List.set_cons_succ]
    refine wpAnyH_take (i := 10) (v := (.agg #[.int .i64 num, .int .i64 (k : Int), .int .i64 (n : Int), .string xk])) rfl (by kernel_rfl) (by kernel_rfl) (by kernel_rfl) (fun _ _ _ h => h) (Or.inl ⟨by rfl, ?_⟩) (by assumption) ?_
    · intro w' hSw
      go_simp
    simp only [List.getElem_toArray, List.getElem_cons_succ, List.getElem_cons_zero, Act.put, List.setIfInBounds_toArray, List.set_cons_zero, List.set_cons_succ]
    have YA := blk_new wr.drew 35 #[.int .i64 0, .int .i64 0, .int .i64 0, .string ⟨#[]⟩]
    have BA : Below wr.heap.size wr (wr.drew.alloc (.cells #[.int .i64 0, .int .i64 0, .int .i64 0, .string ⟨#[]⟩] 35)) := below_then (Below.refl wr.heap.size wr).drew (belowA wr.drew (.cells #[.int .i64 0, .int .i64 0, .int .i64 0, .string ⟨#[]⟩] 35))
    have XS7 := XS.below BA
    have tk7 : (wr.drew.alloc (.cells #[.int .i64 0, .int .i64 0, .int .i64 0, .string ⟨#[]⟩] 35)).cell? ⟨gp, k, none⟩ = some (.string xk) := (BA.cell (by exact hltp)).trans tk
    have zd : wr.drew.heap.size = wr.heap.size := rfl
    rw [zd] at YA
    generalize hw7 : wr.drew.alloc (.cells #[.int .i64 0, .int .i64 0, .int .i64 0, .string ⟨#[]⟩] 35) = w7 at *
    refine wpAnyH_ready (rs := [11]) (by kernel_rfl) (by simp) ?_
    refine AllReadyH.cons rfl (fun Kc hKc => ?_) AllReadyH.nil
    simp only [List.getElem_toArray, List.getElem_cons_succ, List.getElem_cons_zero]
    rw [if_pos (by rfl)]
    go_wp2_with fail
    refine hKc.out _ _ (⟨XS7, tk7⟩) (fun hHeld => ?_)
    clear hKc Kc
    have i0 : w7.cell? ⟨wr.heap.size, 0, none⟩ = some (.int .i64 0) := YA.cell 0 rfl
    have i1 : w7.cell? ⟨wr.heap.size, 1, none⟩ = some (.int .i64 0) := YA.cell 1 rfl
    have i2 : w7.cell? ⟨wr.heap.size, 2, none⟩ = some (.int .i64 0) := YA.cell 2 rfl
    have i3 : w7.cell? ⟨wr.heap.size, 3, none⟩ = some (.string ⟨#[]⟩) := YA.cell 3 rfl
    have f0 := YA.frozen 0
    have f1 := YA.frozen 1
    have f2 := YA.frozen 2
    have f3 := YA.frozen 3
    have Q8 := (((YA.set 0 (.int .i64 num)).set 1 (.int .i64 (k : Int))).set 2 (.int .i64 (n : Int))).set 3 (.string xk)
    have B8 := belowS (belowS (belowS (belowS BA (a := ⟨wr.heap.size, 0, none⟩) (Nat.le_refl _) (.int .i64 num)) (a := ⟨wr.heap.size, 1, none⟩) (Nat.le_refl _) (.int .i64 (k : Int))) (a := ⟨wr.heap.size, 2, none⟩) (Nat.le_refl _) (.int .i64 (n : Int))) (a := ⟨wr.heap.size, 3, none⟩) (Nat.le_refl _) (.string xk)
    have XS8 := XS.below B8
    have tk8 := (B8.cell (p := ⟨gp, k, none⟩) (by exact hltp)).trans tk
    refine wpAnyH_ready (rs := [12]) (by kernel_rfl) (by simp) ?_
    refine AllReadyH.cons rfl (fun Kc hKc => ?_) AllReadyH.nil
    simp only [List.getElem_toArray, List.getElem_cons_succ, List.getElem_cons_zero]
    rw [if_pos (by rfl)]
    go_wp2_with fail
    refine hKc.out _ _ (⟨XS8, tk8⟩) (fun hHeld => ?_)
    clear hKc Kc
    refine wpAnyH_done (by kernel_rfl) ?_ _
    go_wp2_with fail
    go_meet
    case rel => exact ⟨_, rfl, Q8, B8⟩
  case rest =>
  obtain ⟨bp, rfl, XP, BP⟩ := hcut
  generalize wc = w3 at *
  have XR3 := XR.below BP
  have TKw := TK'.out w3 BP
  clear TK' tk
  go_upto_region 19 with (first
    | (go_at_call 10; refine TKw.mono ?_; clear TKw; rintro e wq ⟨x, y, u, v, rfl, PQ, CQ, BQ⟩; obtain ⟨XAx, XBx, VBx, vzx⟩ := var3 wq 26 #[.int .i64 0, .slice none 0 0, .slice none 0 0] #[.int .i64 num, .slice x n y, .slice u n v]; generalize hwAx : wq.alloc (.cells #[.int .i64 0, .slice none 0 0, .slice none 0 0] 26) = wAx at *; generalize hwBx : wAx.setRow wq.heap.size #[.int .i64 num, .slice x n y, .slice u n v] = wx at *; have BX := below_then BP (below_then BQ VBx); have XRx := XR.below BX; have PX := VOwn.below PQ VBx; have CX := VOwn.below CQ VBx)
    | (refine wpList_store_row rfl 26 _ _ rfl wq.heap.size _ rfl rfl 26 _ XAx Try.infoRs rfl (stall _ _ _ _ _ _ _) ?_; rw [hwBx])
    | (refine wpList_load_row rfl 26 _ rfl br rfl 26 _ (0, 0) _ XR3 Try.underlying26 rfl Try.infoRs ?_)
    | (refine wpList_load_row rfl 35 _ rfl bp rfl 35 _ (0, 0) _ XP Try.underlying35 rfl Try.infoPt ?_))
  have M2 : Hid (∀ W, Below wx.heap.size wx W → _) := fun W hW => missing_any num x u n y n v C2 W ((VOwn.varg CX).below hW) (by omega)
  rw [← HP2.out] at M2
  unfold stV at M2
  have M1 : Hid (∀ W, Below wx.heap.size wx W → _) := fun W hW => M1'.out W (below_then BX hW)
  clear M1'
  go_cut [118] from 58 to 154 (fun s118 wc => s118 = .bool false ∧ Below wx.heap.size wx wc)
  case first =>
    rcases HCO.out with ⟨rfl, h9⟩ | ⟨rfl, h9⟩
    · have e9 : (p2 : Int) = (p1 : Int) - 1 := by omega
      refine wp_region_held_drew (S := fun w' => Blk w' wq.heap.size 26 #[.int .i64 num, .slice x n y, .slice u n v] ∧ Blk w' br 26 #[.int .i64 num, .slice b n d, .slice b2 n d2]) (by kernel_rfl) (⟨XBx, XRx⟩) (fun hHeld => ?_)
      refine wpAnyH_take (i := 0) (v := (.int .i64 0)) rfl (by kernel_rfl) (by kernel_rfl) (by kernel_rfl) (fun _ _ _ h => h) (Or.inl ⟨by rfl, ?_⟩) (by assumption) ?_
      · intro w' hSw
        go_simp
      simp only [List.getElem_toArray, List.getElem_cons_zero, Act.put, List.setIfInBounds_toArray, List.set_cons_zero, List.set_cons_succ]
      refine wpAnyH_take (i := 1) (v := (.bool false)) rfl (by kernel_rfl) (by kernel_rfl) (by kernel_rfl) (fun _ _ _ h => h) (Or.inl ⟨by rfl, ?_⟩) (by assumption) ?_
      · intro w' hSw
        go_simp
      simp only [List.getElem_toArray, List.getElem_cons_succ, List.getElem_cons_zero, Act.put, List.setIfInBounds_toArray, List.set_cons_zero, List.set_cons_succ]
      refine wpAnyH_take (i := 2) (v := (.bool false)) rfl (by kernel_rfl) (by kernel_rfl) (by kernel_rfl) (fun _ _ _ h => h) (Or.inl ⟨by rfl, ?_⟩) (by assumption) ?_
      · intro w' hSw
        go_simp
      simp only [List.getElem_toArray, List.getElem_cons_succ, List.getElem_cons_zero, Act.put, List.setIfInBounds_toArray, List.set_cons_zero, List.set_cons_succ]
      refine wpAnyH_take (i := 3) (v := (.bool true)) rfl (by kernel_rfl) (by kernel_rfl) (by kernel_rfl) (fun _ _ _ h => h) (Or.inl ⟨by rfl, ?_⟩) (by assumption) ?_
      · intro w' hSw
        go_simp
      simp only [List.getElem_toArray, List.getElem_cons_succ, List.getElem_cons_zero, Act.put, List.setIfInBounds_toArray, List.set_cons_zero, List.set_cons_succ]
      refine wpAnyH_take (i := 4) (v := (.agg #[.int .i64 num, .slice x n y, .slice u n v])) rfl (by kernel_rfl) (by kernel_rfl) (by kernel_rfl) (fun _ _ _ h => h) (Or.inl ⟨by rfl, ?_⟩) (by assumption) ?_
      · intro w' hSw
        have y0 : w'.cell? ⟨wq.heap.size, 0, none⟩ = some (.int .i64 num) := hSw.1.cell 0 rfl
        have y1 : w'.cell? ⟨wq.heap.size, 1, none⟩ = some (.slice x n y) := hSw.1.cell 1 rfl
        have y2 : w'.cell? ⟨wq.heap.size, 2, none⟩ = some (.slice u n v) := hSw.1.cell 2 rfl
        go_simp
      simp only [List.getElem_toArray, List.getElem_cons_succ, List.getElem_cons_zero, Act.put, List.setIfInBounds_toArray, List.set_cons_zero, List.set_cons_succ]
      refine wpAnyH_take (i := 6) (v := (.agg #[.int .i64 num, .slice b n d, .slice b2 n d2])) rfl (by kernel_rfl) (by kernel_rfl) (by kernel_rfl) (fun _ _ _ h => h) (Or.inl ⟨by rfl, ?_⟩) (by assumption) ?_
      · intro w' hSw
        have y0 : w'.cell? ⟨br, 0, none⟩ = some (.int .i64 num) := hSw.2.cell 0 rfl
        have y1 : w'.cell? ⟨br, 1, none⟩ = some (.slice b n d) := hSw.2.cell 1 rfl
        have y2 : w'.cell? ⟨br, 2, none⟩ = some (.slice b2 n d2) := hSw.2.cell 2 rfl
        go_simp
      simp only [List.getElem_toArray, List.getElem_cons_succ, List.getElem_cons_zero, Act.put, List.setIfInBounds_toArray, List.set_cons_zero, List.set_cons_succ]
      refine wpAnyH_ready (rs := [5]) (by kernel_rfl) (by simp) ?_
      refine AllReadyH.cons rfl (fun Kc hKc => ?_) AllReadyH.nil
      simp only [List.getElem_toArray, List.getElem_cons_succ, List.getElem_cons_zero]
      rw [if_pos (by rfl)]
      go_wp2_with fail
      refine (M2.out _ (Below.refl _ _).drew).mono ?_
      rintro e w9 ⟨rfl, B9⟩
      replace B9 : Below wx.heap.size wx w9 := below_then (Below.refl wx.heap.size wx).drew B9
      go_wp2_with fail
      refine hKc.out _ _ (⟨XBx.below B9, XRx.below B9⟩) (fun hHeld => ?_)
      clear hKc Kc
      refine wpAnyH_ready (rs := [7]) (by kernel_rfl) (by simp) ?_
      refine AllReadyH.cons rfl (fun Kc hKc => ?_) AllReadyH.nil
      simp only [List.getElem_toArray, List.getElem_cons_succ, List.getElem_cons_zero]
      rw [if_pos (by rfl)]
      go_wp2_with fail
      refine (M1.out _ B9).mono ?_
      rintro e w10 ⟨rfl, B10⟩
      have B910 := below_then B9 B10
      go_wp2_with fail
      refine hKc.out _ _ (⟨XBx.below B910, XRx.below B910⟩) (fun hHeld => ?_)
      clear hKc Kc
      refine wpAnyH_take (i := 8) (v := (.int .i64 ((p1 : Int) - 1))) rfl (by kernel_rfl) (by kernel_rfl) (by kernel_rfl) (fun _ _ _ h => h) (Or.inl ⟨by rfl, ?_⟩) (by assumption) ?_
      · intro w' hSw
        go_simp
        simp [IntKind.wrap, IntKind.bits, IntKind.signed]
        omega
      simp only [List.getElem_toArray, List.getElem_cons_succ, List.getElem_cons_zero, Act.put, List.setIfInBounds_toArray, List.set_cons_zero, List.set_cons_succ]
      refine wpAnyH_take (i := 9) (v := (.bool true)) rfl (by kernel_rfl) (by kernel_rfl) (by kernel_rfl) (fun _ _ _ h => h) (Or.inl ⟨by rfl, ?_⟩) (by assumption) ?_
      · intro w' hSw
        go_simp
      simp only [List.getElem_toArray, List.getElem_cons_succ, List.getElem_cons_zero, Act.put, List.setIfInBounds_toArray, List.set_cons_zero, List.set_cons_succ]
      refine wpAnyH_take (i := 10) (v := (.bool false)) rfl (by kernel_rfl) (by kernel_rfl) (by kernel_rfl) (fun _ _ _ h => h) (Or.inl ⟨by rfl, ?_⟩) (by assumption) ?_
      · intro w' hSw
        go_simp
      simp only [List.getElem_toArray, List.getElem_cons_succ, List.getElem_cons_zero, Act.put, List.setIfInBounds_toArray, List.set_cons_zero, List.set_cons_succ]
      refine wpAnyH_take (i := 11) (v := (.bool false)) rfl (by kernel_rfl) (by kernel_rfl) (by kernel_rfl) (fun _ _ _ h => h) (Or.inl ⟨by rfl, ?_⟩) (by assumption) ?_
      · intro w' hSw
        go_simp
      simp only [List.getElem_toArray, List.getElem_cons_succ, List.getElem_cons_zero, Act.put, List.setIfInBounds_toArray, List.set_cons_zero, List.set_cons_succ]
      refine wpAnyH_done (by kernel_rfl) ?_ _
      go_wp2_with fail
      go_meet
      case rel => exact ⟨rfl, B910⟩
    · have e9 : ¬ (p2 : Int) = (p1 : Int) - 1 := by omega
      refine wp_region_held_drew (S := fun w' => Blk w' wq.heap.size 26 #[.int .i64 num, .slice x n y, .slice u n v] ∧ Blk w' br 26 #[.int .i64 num, .slice b n d, .slice b2 n d2]) (by kernel_rfl) (⟨XBx, XRx⟩) (fun hHeld => ?_)
      refine wpAnyH_take (i := 0) (v := (.int .i64 0)) rfl (by kernel_rfl) (by kernel_rfl) (by kernel_rfl) (fun _ _ _ h => h) (Or.inl ⟨by rfl, ?_⟩) (by assumption) ?_
      · intro w' hSw
        go_simp
      simp only [List.getElem_toArray, List.getElem_cons_zero, Act.put, List.setIfInBounds_toArray, List.set_cons_zero, List.set_cons_succ]
      refine wpAnyH_take (i := 1) (v := (.bool false)) rfl (by kernel_rfl) (by kernel_rfl) (by kernel_rfl) (fun _ _ _ h => h) (Or.inl ⟨by rfl, ?_⟩) (by assumption) ?_
      · intro w' hSw
        go_simp
      simp only [List.getElem_toArray, List.getElem_cons_succ, List.getElem_cons_zero, Act.put, List.setIfInBounds_toArray, List.set_cons_zero, List.set_cons_succ]
      refine wpAnyH_take (i := 2) (v := (.bool false)) rfl (by kernel_rfl) (by kernel_rfl) (by kernel_rfl) (fun _ _ _ h => h) (Or.inl ⟨by rfl, ?_⟩) (by assumption) ?_
      · intro w' hSw
        go_simp
      simp only [List.getElem_toArray, List.getElem_cons_succ, List.getElem_cons_zero, Act.put, List.setIfInBounds_toArray, List.set_cons_zero, List.set_cons_succ]
      refine wpAnyH_take (i := 3) (v := (.bool false)) rfl (by kernel_rfl) (by kernel_rfl) (by kernel_rfl) (fun _ _ _ h => h) (Or.inl ⟨by rfl, ?_⟩) (by assumption) ?_
      · intro w' hSw
        go_simp
      simp only [List.getElem_toArray, List.getElem_cons_succ, List.getElem_cons_zero, Act.put, List.setIfInBounds_toArray, List.set_cons_zero, List.set_cons_succ]
      refine wpAnyH_take (i := 4) (v := (.agg #[.int .i64 num, .slice x n y, .slice u n v])) rfl (by kernel_rfl) (by kernel_rfl) (by kernel_rfl) (fun _ _ _ h => h) (Or.inl ⟨by rfl, ?_⟩) (by assumption) ?_
      · intro w' hSw
        have y0 : w'.cell? ⟨wq.heap.size, 0, none⟩ = some (.int .i64 num) := hSw.1.cell 0 rfl
        have y1 : w'.cell? ⟨wq.heap.size, 1, none⟩ = some (.slice x n y) := hSw.1.cell 1 rfl
        have y2 : w'.cell? ⟨wq.heap.size, 2, none⟩ = some (.slice u n v) := hSw.1.cell 2 rfl
        go_simp
      simp only [List.getElem_toArray, List.getElem_cons_succ, List.getElem_cons_zero, Act.put, List.setIfInBounds_toArray, List.set_cons_zero, List.set_cons_succ]
      refine wpAnyH_take (i := 6) (v := (.agg #[.int .i64 num, .slice b n d, .slice b2 n d2])) rfl (by kernel_rfl) (by kernel_rfl) (by kernel_rfl) (fun _ _ _ h => h) (Or.inl ⟨by rfl, ?_⟩) (by assumption) ?_
      · intro w' hSw
        have y0 : w'.cell? ⟨br, 0, none⟩ = some (.int .i64 num) := hSw.2.cell 0 rfl
        have y1 : w'.cell? ⟨br, 1, none⟩ = some (.slice b n d) := hSw.2.cell 1 rfl
        have y2 : w'.cell? ⟨br, 2, none⟩ = some (.slice b2 n d2) := hSw.2.cell 2 rfl
        go_simp
      simp only [List.getElem_toArray, List.getElem_cons_succ, List.getElem_cons_zero, Act.put, List.setIfInBounds_toArray, List.set_cons_zero, List.set_cons_succ]
      refine wpAnyH_ready (rs := [5]) (by kernel_rfl) (by simp) ?_
      refine AllReadyH.cons rfl (fun Kc hKc => ?_) AllReadyH.nil
      simp only [List.getElem_toArray, List.getElem_cons_succ, List.getElem_cons_zero]
      rw [if_pos (by rfl)]
      go_wp2_with fail
      refine (M2.out _ (Below.refl _ _).drew).mono ?_
      rintro e w9 ⟨rfl, B9⟩
      replace B9 : Below wx.heap.size wx w9 := below_then (Below.refl wx.heap.size wx).drew B9
      go_wp2_with fail
      refine hKc.out _ _ (⟨XBx.below B9, XRx.below B9⟩) (fun hHeld => ?_)
      clear hKc Kc
      refine wpAnyH_ready (rs := [7]) (by kernel_rfl) (by simp) ?_
      refine AllReadyH.cons rfl (fun Kc hKc => ?_) AllReadyH.nil
      simp only [List.getElem_toArray, List.getElem_cons_succ, List.getElem_cons_zero]
      rw [if_pos (by rfl)]
      go_wp2_with fail
      refine (M1.out _ B9).mono ?_
      rintro e w10 ⟨rfl, B10⟩
      have B910 := below_then B9 B10
      go_wp2_with fail
      refine hKc.out _ _ (⟨XBx.below B910, XRx.below B910⟩) (fun hHeld => ?_)
      clear hKc Kc
      refine wpAnyH_take (i := 8) (v := (.int .i64 ((p1 : Int) - 1))) rfl (by kernel_rfl) (by kernel_rfl) (by kernel_rfl) (fun _ _ _ h => h) (Or.inl ⟨by rfl, ?_⟩) (by assumption) ?_
      · intro w' hSw
        go_simp
        simp [IntKind.wrap, IntKind.bits, IntKind.signed]
        omega
      simp only [List.getElem_toArray, List.getElem_cons_succ, List.getElem_cons_zero, Act.put, List.setIfInBounds_toArray, List.set_cons_zero, List.set_cons_succ]
      refine wpAnyH_take (i := 9) (v := (.bool false)) rfl (by kernel_rfl) (by kernel_rfl) (by kernel_rfl) (fun _ _ _ h => h) (Or.inl ⟨by rfl, ?_⟩) (by assumption) ?_
      · intro w' hSw
        go_simp
        omega
      simp only [List.getElem_toArray, List.getElem_cons_succ, List.getElem_cons_zero, Act.put, List.setIfInBounds_toArray, List.set_cons_zero, List.set_cons_succ]
      refine wpAnyH_take (i := 10) (v := (.bool false)) rfl (by kernel_rfl) (by kernel_rfl) (by kernel_rfl) (fun _ _ _ h => h) (Or.inl ⟨by rfl, ?_⟩) (by assumption) ?_
      · intro w' hSw
        go_simp
      simp only [List.getElem_toArray, List.getElem_cons_succ, List.getElem_cons_zero, Act.put, List.setIfInBounds_toArray, List.set_cons_zero, List.set_cons_succ]
      refine wpAnyH_take (i := 11) (v := (.bool false)) rfl (by kernel_rfl) (by kernel_rfl) (by kernel_rfl) (fun _ _ _ h => h) (Or.inl ⟨by rfl, ?_⟩) (by assumption) ?_
      · intro w' hSw
        go_simp
      simp only [List.getElem_toArray, List.getElem_cons_succ, List.getElem_cons_zero, Act.put, List.setIfInBounds_toArray, List.set_cons_zero, List.set_cons_succ]
      refine wpAnyH_done (by kernel_rfl) ?_ _
      go_wp2_with fail
      go_meet
      case rel => exact ⟨rfl, B910⟩
  case rest =>
  obtain ⟨rfl, BF⟩ := hcut
  generalize wc = w4 at *
  have XB4 := XBx.below BF
  have XR4 := XRx.below BF
  have BX4 := below_then BX BF
  have XS4 := XS.below BX4
  have PX4 := VOwn.below PX BF
  have CX4 := VOwn.below CX BF
  have PS4 := VOwn.below PS BX4
  have CS4 := VOwn.below CS BX4
  have XR5 := XR4.row #[.int .i64 num, .slice x n y, .slice u n v]
  have o5 : ∀ g, g ≠ br → (w4.setRow br #[.int .i64 num, .slice x n y, .slice u n v]).heap[g]? = w4.heap[g]? := fun g hg => setRow_other _ _ _ _ hg
  have XS5 := XS4.of_block (o5 bs hbb)
  have PX5 := VOwn.base (VOwn.of_block PX4 (fun g h _ _ => o5 g (VOwn.ne_blk PX4 XR4 ne_SR g h))) (Nat.zero_le _)
  have CX5 := VOwn.base (VOwn.of_block CX4 (fun g h _ _ => o5 g (VOwn.ne_blk CX4 XR4 ne_BR g h))) (Nat.zero_le _)
  have PS5 := VOwn.of_block PS4 (fun g h _ _ => o5 g (VOwn.ne_blk PS4 XR4 ne_SR g h))
  have CS5 := VOwn.of_block CS4 (fun g h _ _ => o5 g (VOwn.ne_blk CS4 XR4 ne_BR g h))
  have BW5 := belowR (below_then BW BX4) hbw2 #[.int .i64 num, .slice x n y, .slice u n v]
  generalize hw5 : w4.setRow br #[.int .i64 num, .slice x n y, .slice u n v] = w5 at *
  have GT := sgot_ok num _ a2 n c n c2 k S Cs w5 PS5.varg CS5.varg (by omega) (by omega) HZ.out hk
  unfold stV at GT
  clear M1 M2 BX XRx XBx PX CX PS CS XS XR PO CO BW BF XR3 XP
  go_upto_region 26 with (first
    | (go_at_call 16; refine GT.mono ?_; clear GT; rintro e w6 ⟨x5, y5, u5, v5, rfl, P6, C6, B6⟩; obtain ⟨XAt, XBt, VBt, vzt⟩ := var3 w6 47 #[.int .i64 0, .slice none 0 0, .slice none 0 0] #[.int .i64 num, .slice x5 n y5, .slice u5 n v5]; generalize hwAt : w6.alloc (.cells #[.int .i64 0, .slice none 0 0, .slice none 0 0] 47) = wAt at *; generalize hwBt : wAt.setRow w6.heap.size #[.int .i64 num, .slice x5 n y5, .slice u5 n v5] = w7 at *; have B67 := below_then B6 VBt; have XS7 := XS5.below B67; have XR7 := XR5.below B67; have P7 := VOwn.below P6 VBt; have C7 := VOwn.below C6 VBt; have PX7 := VOwn.below PX5 B67; have CX7 := VOwn.below CX5 B67; have XS8 := XS7.row #[.int .i64 num, .slice x5 n y5, .slice u5 n v5]; have o8 : ∀ g, g ≠ bs → (w7.setRow bs #[.int .i64 num, .slice x5 n y5, .slice u5 n v5]).heap[g]? = w7.heap[g]? := (fun g hg => setRow_other _ _ _ _ hg); have XR8 := XR7.of_block (o8 br (fun e => hbb e.symm)); have P8 := VOwn.base (VOwn.of_block P7 (fun g h _ _ => o8 g (VOwn.ne_blk P7 XS7 ne_SS g h))) (Nat.zero_le _); have C8 := VOwn.base (VOwn.of_block C7 (fun g h _ _ => o8 g (VOwn.ne_blk C7 XS7 ne_BS g h))) (Nat.zero_le _); have PX8 := VOwn.of_block PX7 (fun g h _ _ => o8 g (VOwn.ne_blk PX7 XS7 ne_SS g h)); have CX8 := VOwn.of_block CX7 (fun g h _ _ => o8 g (VOwn.ne_blk CX7 XS7 ne_BS g h)); have BW8 := belowR (below_then BW5 B67) hbw #[.int .i64 num, .slice x5 n y5, .slice u5 n v5]; generalize hw8 : w7.setRow bs #[.int .i64 num, .slice x5 n y5, .slice u5 n v5] = w8 at *)
    | (refine wpList_load_row rfl 26 _ rfl wq.heap.size rfl 26 _ (0, 0) _ XB4 Try.underlying26 rfl Try.infoRs ?_)
    | (refine wpList_store_row rfl 26 _ _ rfl br _ rfl rfl 26 _ XR4 Try.infoRs rfl (stall _ _ _ _ _ _ _) ?_; rw [hw5])
    | (refine wpList_load_row rfl 47 _ rfl bs rfl 47 _ (0, 0) _ XS5 Try.underlying47 rfl Try.infoSs ?_)
    | (refine wpList_store_row rfl 47 _ _ rfl w6.heap.size _ rfl rfl 47 _ XAt Try.infoSs rfl (stall _ _ _ _ _ _ _) ?_; rw [hwBt])
    | (refine wpList_load_row rfl 47 _ rfl w6.heap.size rfl 47 _ (0, 0) _ XBt Try.underlying47 rfl Try.infoSs ?_)
    | (refine wpList_store_row rfl 47 _ _ rfl bs _ rfl rfl 47 _ XS7 Try.infoSs rfl (stall _ _ _ _ _ _ _) ?_; rw [hw8]))
  have hgb : ∀ j, j < n → be (gotB Cs n k) j = be C2 j := fun j hj => by rw [gotB_be Cs n k j hj, HC2.out j hj, hcs j hj]
  have hlg : leftL (gotB Cs n k) n = leftL C2 n := leftL_congr n hgb
  obtain ⟨TT, ok, hok, hokT, WHc⟩ : ∃ (TT : ByteArray) (ok : Bool), ok = decide ((p2 : Int) = 0) ∧ (ok = true → TT = T) ∧ Calls Try.prog 12 #[stV num (.slice x n y) (.slice u n v)] w8 fun e w' => e = .returned (.tuple #[.string TT, .bool ok]) ∧ Below w8.heap.size w8 w' := by
    by_cases e : p2 = 0
    · have hall := leftL_nil n (by rw [← HP2.out]; exact e)
      have hSS := HG2'.out.all hall
      have PX9 := PX8
      rw [hSS] at PX9
      have h9 := whole_yes num x u n y v S C2 w8 PX9.varg CX8.varg (by omega) (by omega) (by rw [← HP2.out]; exact e) (by rw [HCAT.out]; have := HL.out; omega)
      rw [HCAT.out, ← HT.out] at h9
      exact ⟨T, true, by rw [e]; rfl, fun _ => rfl, h9⟩
    · exact ⟨⟨#[]⟩, false, by rw [decide_eq_false (by omega)], (fun h => by cases h), whole_no num x u n y n v C2 w8 CX8.varg (by omega) (Or.inr (by rw [← HP2.out]; omega))⟩
  unfold stV at WHc
  have HOK : Hid (ok = decide ((p2 : Int) = 0)) := hok
  clear hok
  clear XB4 XR4 XS4 PX4 CX4 PS4 CS4 XR5 XS5 PX5 CX5 PS5 CS5 hw5 o5 hcs BX4
  go_upto_region 27 with (first
    | (go_at_call 12; refine WHc.mono ?_; clear WHc; rintro e w9 ⟨rfl, B9⟩; have XS9 := XS8.below B9; have XR9 := XR8.below B9)
    | (refine wpList_load_row rfl 26 _ rfl br rfl 26 _ (0, 0) _ XR8 Try.underlying26 rfl Try.infoRs ?_))
  have OV : Hid (∀ W, Below w9.heap.size w9 W → _) := fun W hW => sover_any num x5 u5 n y5 n v5 (gotB Cs n k) W (((VOwn.varg C8).below B9).below hW) (by omega)
  have LF : Hid (∀ W, Below w9.heap.size w9 W → _) := fun W hW => sleft_any num x5 u5 n y5 n v5 (gotB Cs n k) W (((VOwn.varg C8).below B9).below hW) (by omega)
  have M3 : Hid (∀ W, Below w9.heap.size w9 W → _) := fun W hW => missing_any num x u n y n v C2 W (((VOwn.varg CX8).below B9).below hW) (by omega)
  rw [hlg, ← HP2.out, ← HOK.out] at OV
  rw [hlg, ← HP2.out] at LF
  rw [← HP2.out] at M3
  unfold stV at OV LF M3
  have HGB : Hid _ := hgb
  clear hlg hgb
  go_cut [154] from 58 to 154 (fun s154 wc => s154 = .bool false ∧ Below w9.heap.size w9 wc)
  case first =>
    clear HOK
    cases ok with
    | true =>
      have hTT := (hokT rfl).symm
      subst hTT
      refine wp_region_held_drew (S := fun w' => Blk w' bs 47 #[.int .i64 num, .slice x5 n y5, .slice u5 n v5] ∧ Blk w' br 26 #[.int .i64 num, .slice x n y, .slice u n v]) (by kernel_rfl) (⟨XS9, XR9⟩) (fun hHeld => ?_)
      refine wpAnyH_take (i := 0) (v := (.bool true)) rfl (by kernel_rfl) (by kernel_rfl) (by kernel_rfl) (fun _ _ _ h => h) (Or.inl ⟨by rfl, ?_⟩) (by assumption) ?_
      · intro w' hSw
        go_simp
      simp only [List.getElem_toArray, List.getElem_cons_zero, Act.put, List.setIfInBounds_toArray, List.set_cons_zero, List.set_cons_succ]
      refine wpAnyH_take (i := 1) (v := (.agg #[.int .i64 num, .slice x5 n y5, .slice u5 n v5])) rfl (by kernel_rfl) (by kernel_rfl) (by kernel_rfl) (fun _ _ _ h => h) (Or.inl ⟨by rfl, ?_⟩) (by assumption) ?_
      · intro w' hSw
        have y0 : w'.cell? ⟨bs, 0, none⟩ = some (.int .i64 num) := hSw.1.cell 0 rfl
        have y1 : w'.cell? ⟨bs, 1, none⟩ = some (.slice x5 n y5) := hSw.1.cell 1 rfl
        have y2 : w'.cell? ⟨bs, 2, none⟩ = some (.slice u5 n v5) := hSw.1.cell 2 rfl
        go_simp
      simp only [List.getElem_toArray, List.getElem_cons_succ, List.getElem_cons_zero, Act.put, List.setIfInBounds_toArray, List.set_cons_zero, List.set_cons_succ]
      refine wpAnyH_ready (rs := [2]) (by kernel_rfl) (by simp) ?_
      refine AllReadyH.cons rfl (fun Kc hKc => ?_) AllReadyH.nil
      simp only [List.getElem_toArray, List.getElem_cons_succ, List.getElem_cons_zero]
      rw [if_pos (by rfl)]
      go_wp2_with fail
      refine (OV.out _ (Below.refl _ _).drew).mono ?_
      rintro e wa ⟨rfl, Ba⟩
      replace Ba : Below w9.heap.size w9 wa := below_then (Below.refl w9.heap.size w9).drew Ba
      go_wp2_with fail
      refine hKc.out _ _ (⟨XS9.below Ba, XR9.below Ba⟩) (fun hHeld => ?_)
      clear hKc Kc
      refine wpAnyH_take (i := 3) (v := (.bool false)) rfl (by kernel_rfl) (by kernel_rfl) (by kernel_rfl) (fun _ _ _ h => h) (Or.inl ⟨by rfl, ?_⟩) (by assumption) ?_
      · intro w' hSw
        go_simp
      simp only [List.getElem_toArray, List.getElem_cons_succ, List.getElem_cons_zero, Act.put, List.setIfInBounds_toArray, List.set_cons_zero, List.set_cons_succ]
      refine wpAnyH_take (i := 4) (v := (.bool false)) rfl (by kernel_rfl) (by kernel_rfl) (by kernel_rfl) (fun _ _ _ h => h) (Or.inl ⟨by rfl, ?_⟩) (by assumption) ?_
      · intro w' hSw
        go_simp
      simp only [List.getElem_toArray, List.getElem_cons_succ, List.getElem_cons_zero, Act.put, List.setIfInBounds_toArray, List.set_cons_zero, List.set_cons_succ]
      refine wpAnyH_take (i := 5) (v := (.bool true)) rfl (by kernel_rfl) (by kernel_rfl) (by kernel_rfl) (fun _ _ _ h => h) (Or.inl ⟨by rfl, ?_⟩) (by assumption) ?_
      · intro w' hSw
        go_simp
      simp only [List.getElem_toArray, List.getElem_cons_succ, List.getElem_cons_zero, Act.put, List.setIfInBounds_toArray, List.set_cons_zero, List.set_cons_succ]
      refine wpAnyH_take (i := 6) (v := (.bool true)) rfl (by kernel_rfl) (by kernel_rfl) (by kernel_rfl) (fun _ _ _ h => h) (Or.inl ⟨by rfl, ?_⟩) (by assumption) ?_
      · intro w' hSw
        go_simp
      simp only [List.getElem_toArray, List.getElem_cons_succ, List.getElem_cons_zero, Act.put, List.setIfInBounds_toArray, List.set_cons_zero, List.set_cons_succ]
      refine wpAnyH_take (i := 7) (v := (.string T)) rfl (by kernel_rfl) (by kernel_rfl) (by kernel_rfl) (fun _ _ _ h => h) (Or.inl ⟨by rfl, ?_⟩) (by assumption) ?_
      · intro w' hSw
        go_simp
      simp only [List.getElem_toArray, List.getElem_cons_succ, List.getElem_cons_zero, Act.put, List.setIfInBounds_toArray, List.set_cons_zero, List.set_cons_succ]
      refine wpAnyH_take (i := 8) (v := (.string T)) rfl (by kernel_rfl) (by kernel_rfl) (by kernel_rfl) (fun _ _ _ h => h) (Or.inl ⟨by rfl, ?_⟩) (by assumption) ?_
      · intro w' hSw
        go_simp
      simp only [List.getElem_toArray, List.getElem_cons_succ, List.getElem_cons_zero, Act.put, List.setIfInBounds_toArray, List.set_cons_zero, List.set_cons_succ]
      refine wpAnyH_take (i := 9) (v := (.bool false)) rfl (by kernel_rfl) (by kernel_rfl) (by kernel_rfl) (fun _ _ _ h => h) (Or.inl ⟨by rfl, ?_⟩) (by assumption) ?_
      · intro w' hSw
        go_simp
      simp only [List.getElem_toArray, List.getElem_cons_succ, List.getElem_cons_zero, Act.put, List.setIfInBounds_toArray, List.set_cons_zero, List.set_cons_succ]
      refine wpAnyH_take (i := 10) (v := (.bool false)) rfl (by kernel_rfl) (by kernel_rfl) (by kernel_rfl) (fun _ _ _ h => h) (Or.inl ⟨by rfl, ?_⟩) (by assumption) ?_
      · intro w' hSw
        go_simp
      simp only [List.getElem_toArray, List.getElem_cons_succ, List.getElem_cons_zero, Act.put, List.setIfInBounds_toArray, List.set_cons_zero, List.set_cons_succ]
      refine wpAnyH_take (i := 11) (v := (.bool false)) rfl (by kernel_rfl) (by kernel_rfl) (by kernel_rfl) (fun _ _ _ h => h) (Or.inl ⟨by rfl, ?_⟩) (by assumption) ?_
      · intro w' hSw
        go_simp
      simp only [List.getElem_toArray, List.getElem_cons_succ, List.getElem_cons_zero, Act.put, List.setIfInBounds_toArray, List.set_cons_zero, List.set_cons_succ]
      refine wpAnyH_take (i := 12) (v := (.bool false)) rfl (by kernel_rfl) (by kernel_rfl) (by kernel_rfl) (fun _ _ _ h => h) (Or.inl ⟨by rfl, ?_⟩) (by assumption) ?_
      · intro w' hSw
        go_simp
      simp only [List.getElem_toArray, List.getElem_cons_succ, List.getElem_cons_zero, Act.put, List.setIfInBounds_toArray, List.set_cons_zero, List.set_cons_succ]
      refine wpAnyH_take (i := 13) (v := (.agg #[.int .i64 num, .slice x5 n y5, .slice u5 n v5])) rfl (by kernel_rfl) (by kernel_rfl) (by kernel_rfl) (fun _ _ _ h => h) (Or.inl ⟨by rfl, ?_⟩) (by assumption) ?_
      · intro w' hSw
        have y0 : w'.cell? ⟨bs, 0, none⟩ = some (.int .i64 num) := hSw.1.cell 0 rfl
        have y1 : w'.cell? ⟨bs, 1, none⟩ = some (.slice x5 n y5) := hSw.1.cell 1 rfl
        have y2 : w'.cell? ⟨bs, 2, none⟩ = some (.slice u5 n v5) := hSw.1.cell 2 rfl
        go_simp
      simp only [List.getElem_toArray, List.getElem_cons_succ, List.getElem_cons_zero, Act.put, List.setIfInBounds_toArray, List.set_cons_zero, List.set_cons_succ]
      refine wpAnyH_take (i := 16) (v := (.agg #[.int .i64 num, .slice x n y, .slice u n v])) rfl (by kernel_rfl) (by kernel_rfl) (by kernel_rfl) (fun _ _ _ h => h) (Or.inl ⟨by rfl, ?_⟩) (by assumption) ?_
      · intro w' hSw
        have y0 : w'.cell? ⟨br, 0, none⟩ = some (.int .i64 num) := hSw.2.cell 0 rfl
        have y1 : w'.cell? ⟨br, 1, none⟩ = some (.slice x n y) := hSw.2.cell 1 rfl
        have y2 : w'.cell? ⟨br, 2, none⟩ = some (.slice u n v) := hSw.2.cell 2 rfl
        go_simp
      simp only [List.getElem_toArray, List.getElem_cons_succ, List.getElem_cons_zero, Act.put, List.setIfInBounds_toArray, List.set_cons_zero, List.set_cons_succ]
      refine wpAnyH_ready (rs := [14]) (by kernel_rfl) (by simp) ?_
      refine AllReadyH.cons rfl (fun Kc hKc => ?_) AllReadyH.nil
      simp only [List.getElem_toArray, List.getElem_cons_succ, List.getElem_cons_zero]
      rw [if_pos (by rfl)]
      go_wp2_with fail
      refine (LF.out _ Ba).mono ?_
      rintro e wb' ⟨al, cl, rfl, _, Bb⟩
      have Bab := below_then Ba Bb
      go_wp2_with fail
      refine hKc.out _ _ (⟨XS9.below Bab, XR9.below Bab⟩) (fun hHeld => ?_)
      clear hKc Kc
      refine wpAnyH_take (i := 15) (v := (.int .i64 (p2 : Int))) rfl (by kernel_rfl) (by kernel_rfl) (by kernel_rfl) (fun _ _ _ h => h) (Or.inl ⟨by rfl, ?_⟩) (by assumption) ?_
      · intro w' hSw
        go_simp
      simp only [List.getElem_toArray, List.getElem_cons_succ, List.getElem_cons_zero, Act.put, List.setIfInBounds_toArray, List.set_cons_zero, List.set_cons_succ]
      refine wpAnyH_ready (rs := [17]) (by kernel_rfl) (by simp) ?_
      refine AllReadyH.cons rfl (fun Kc hKc => ?_) AllReadyH.nil
      simp only [List.getElem_toArray, List.getElem_cons_succ, List.getElem_cons_zero]
      rw [if_pos (by rfl)]
      go_wp2_with fail
      refine (M3.out _ Bab).mono ?_
      rintro e wc' ⟨rfl, Bc⟩
      have Babc := below_then Bab Bc
      go_wp2_with fail
      refine hKc.out _ _ (⟨XS9.below Babc, XR9.below Babc⟩) (fun hHeld => ?_)
      clear hKc Kc
      refine wpAnyH_take (i := 18) (v := (.bool false)) rfl (by kernel_rfl) (by kernel_rfl) (by kernel_rfl) (fun _ _ _ h => h) (Or.inl ⟨by rfl, ?_⟩) (by assumption) ?_
      · intro w' hSw
        go_simp
      simp only [List.getElem_toArray, List.getElem_cons_succ, List.getElem_cons_zero, Act.put, List.setIfInBounds_toArray, List.set_cons_zero, List.set_cons_succ]
      refine wpAnyH_take (i := 19) (v := (.bool false)) rfl (by kernel_rfl) (by kernel_rfl) (by kernel_rfl) (fun _ _ _ h => h) (Or.inl ⟨by rfl, ?_⟩) (by assumption) ?_
      · intro w' hSw
        go_simp
      simp only [List.getElem_toArray, List.getElem_cons_succ, List.getElem_cons_zero, Act.put, List.setIfInBounds_toArray, List.set_cons_zero, List.set_cons_succ]
      refine wpAnyH_done (by kernel_rfl) ?_ _
      go_wp2_with fail
      go_meet
      case rel => exact ⟨rfl, Babc⟩
    | false =>
      refine wp_region_held_drew (S := fun w' => Blk w' bs 47 #[.int .i64 num, .slice x5 n y5, .slice u5 n v5] ∧ Blk w' br 26 #[.int .i64 num, .slice x n y, .slice u n v]) (by kernel_rfl) (⟨XS9, XR9⟩) (fun hHeld => ?_)
      refine wpAnyH_take (i := 0) (v := (.bool false)) rfl (by kernel_rfl) (by kernel_rfl) (by kernel_rfl) (fun _ _ _ h => h) (Or.inl ⟨by rfl, ?_⟩) (by assumption) ?_
      · intro w' hSw
        go_simp
      simp only [List.getElem_toArray, List.getElem_cons_zero, Act.put, List.setIfInBounds_toArray, List.set_cons_zero, List.set_cons_succ]
      refine wpAnyH_take (i := 1) (v := (.agg #[.int .i64 num, .slice x5 n y5, .slice u5 n v5])) rfl (by kernel_rfl) (by kernel_rfl) (by kernel_rfl) (fun _ _ _ h => h) (Or.inl ⟨by rfl, ?_⟩) (by assumption) ?_
      · intro w' hSw
        have y0 : w'.cell? ⟨bs, 0, none⟩ = some (.int .i64 num) := hSw.1.cell 0 rfl
        have y1 : w'.cell? ⟨bs, 1, none⟩ = some (.slice x5 n y5) := hSw.1.cell 1 rfl
        have y2 : w'.cell? ⟨bs, 2, none⟩ = some (.slice u5 n v5) := hSw.1.cell 2 rfl
        go_simp
      simp only [List.getElem_toArray, List.getElem_cons_succ, List.getElem_cons_zero, Act.put, List.setIfInBounds_toArray, List.set_cons_zero, List.set_cons_succ]
      refine wpAnyH_ready (rs := [2]) (by kernel_rfl) (by simp) ?_
      refine AllReadyH.cons rfl (fun Kc hKc => ?_) AllReadyH.nil
      simp only [List.getElem_toArray, List.getElem_cons_succ, List.getElem_cons_zero]
      rw [if_pos (by rfl)]
      go_wp2_with fail
      refine (OV.out _ (Below.refl _ _).drew).mono ?_
      rintro e wa ⟨rfl, Ba⟩
      replace Ba : Below w9.heap.size w9 wa := below_then (Below.refl w9.heap.size w9).drew Ba
      go_wp2_with fail
      refine hKc.out _ _ (⟨XS9.below Ba, XR9.below Ba⟩) (fun hHeld => ?_)
      clear hKc Kc
      refine wpAnyH_take (i := 3) (v := (.bool false)) rfl (by kernel_rfl) (by kernel_rfl) (by kernel_rfl) (fun _ _ _ h => h) (Or.inl ⟨by rfl, ?_⟩) (by assumption) ?_
      · intro w' hSw
        go_simp
      simp only [List.getElem_toArray, List.getElem_cons_succ, List.getElem_cons_zero, Act.put, List.setIfInBounds_toArray, List.set_cons_zero, List.set_cons_succ]
      refine wpAnyH_take (i := 4) (v := (.bool false)) rfl (by kernel_rfl) (by kernel_rfl) (by kernel_rfl) (fun _ _ _ h => h) (Or.inl ⟨by rfl, ?_⟩) (by assumption) ?_
      · intro w' hSw
        go_simp
      simp only [List.getElem_toArray, List.getElem_cons_succ, List.getElem_cons_zero, Act.put, List.setIfInBounds_toArray, List.set_cons_zero, List.set_cons_succ]
      refine wpAnyH_take (i := 5) (v := (.bool false)) rfl (by kernel_rfl) (by kernel_rfl) (by kernel_rfl) (fun _ _ _ h => h) (Or.inl ⟨by rfl, ?_⟩) (by assumption) ?_
      · intro w' hSw
        go_simp
      simp only [List.getElem_toArray, List.getElem_cons_succ, List.getElem_cons_zero, Act.put, List.setIfInBounds_toArray, List.set_cons_zero, List.set_cons_succ]
      refine wpAnyH_take (i := 6) (v := (.bool false)) rfl (by kernel_rfl) (by kernel_rfl) (by kernel_rfl) (fun _ _ _ h => h) (Or.inl ⟨by rfl, ?_⟩) (by assumption) ?_
      · intro w' hSw
        go_simp
      simp only [List.getElem_toArray, List.getElem_cons_succ, List.getElem_cons_zero, Act.put, List.setIfInBounds_toArray, List.set_cons_zero, List.set_cons_succ]
      refine wpAnyH_take (i := 7) (v := undef) rfl (by kernel_rfl) (by kernel_rfl) (by kernel_rfl) (fun _ _ _ h => h) (Or.inr ⟨by rfl, rfl⟩) (by assumption) ?_
      simp only [List.getElem_toArray, List.getElem_cons_succ, List.getElem_cons_zero, Act.put, List.setIfInBounds_toArray, List.set_cons_zero, List.set_cons_succ]
      refine wpAnyH_take (i := 8) (v := undef) rfl (by kernel_rfl) (by kernel_rfl) (by kernel_rfl) (fun _ _ _ h => h) (Or.inr ⟨by rfl, rfl⟩) (by assumption) ?_
      simp only [List.getElem_toArray, List.getElem_cons_succ, List.getElem_cons_zero, Act.put, List.setIfInBounds_toArray, List.set_cons_zero, List.set_cons_succ]
      refine wpAnyH_take (i := 9) (v := undef) rfl (by kernel_rfl) (by kernel_rfl) (by kernel_rfl) (fun _ _ _ h => h) (Or.inr ⟨by rfl, rfl⟩) (by assumption) ?_
      simp only [List.getElem_toArray, List.getElem_cons_succ, List.getElem_cons_zero, Act.put, List.setIfInBounds_toArray, List.set_cons_zero, List.set_cons_succ]
      refine wpAnyH_take (i := 10) (v := (.bool false)) rfl (by kernel_rfl) (by kernel_rfl) (by kernel_rfl) (fun _ _ _ h => h) (Or.inl ⟨by rfl, ?_⟩) (by assumption) ?_
      · intro w' hSw
        go_simp
      simp only [List.getElem_toArray, List.getElem_cons_succ, List.getElem_cons_zero, Act.put, List.setIfInBounds_toArray, List.set_cons_zero, List.set_cons_succ]
      refine wpAnyH_take (i := 11) (v := (.bool false)) rfl (by kernel_rfl) (by kernel_rfl) (by kernel_rfl) (fun _ _ _ h => h) (Or.inl ⟨by rfl, ?_⟩) (by assumption) ?_
      · intro w' hSw
        go_simp
      simp only [List.getElem_toArray, List.getElem_cons_succ, List.getElem_cons_zero, Act.put, List.setIfInBounds_toArray, List.set_cons_zero, List.set_cons_succ]
      refine wpAnyH_take (i := 12) (v := (.bool false)) rfl (by kernel_rfl) (by kernel_rfl) (by kernel_rfl) (fun _ _ _ h => h) (Or.inl ⟨by rfl, ?_⟩) (by assumption) ?_
      · intro w' hSw
        go_simp
      simp only [List.getElem_toArray, List.getElem_cons_succ, List.getElem_cons_zero, Act.put, List.setIfInBounds_toArray, List.set_cons_zero, List.set_cons_succ]
      refine wpAnyH_take (i := 13) (v := (.agg #[.int .i64 num, .slice x5 n y5, .slice u5 n v5])) rfl (by kernel_rfl) (by kernel_rfl) (by kernel_rfl) (fun _ _ _ h => h) (Or.inl ⟨by rfl, ?_⟩) (by assumption) ?_
      · intro w' hSw
        have y0 : w'.cell? ⟨bs, 0, none⟩ = some (.int .i64 num) := hSw.1.cell 0 rfl
        have y1 : w'.cell? ⟨bs, 1, none⟩ = some (.slice x5 n y5) := hSw.1.cell 1 rfl
        have y2 : w'.cell? ⟨bs, 2, none⟩ = some (.slice u5 n v5) := hSw.1.cell 2 rfl
        go_simp
      simp only [List.getElem_toArray, List.getElem_cons_succ, List.getElem_cons_zero, Act.put, List.setIfInBounds_toArray, List.set_cons_zero, List.set_cons_succ]
      refine wpAnyH_take (i := 16) (v := (.agg #[.int .i64 num, .slice x n y, .slice u n v])) rfl (by kernel_rfl) (by kernel_rfl) (by kernel_rfl) (fun _ _ _ h => h) (Or.inl ⟨by rfl, ?_⟩) (by assumption) ?_
      · intro w' hSw
        have y0 : w'.cell? ⟨br, 0, none⟩ = some (.int .i64 num) := hSw.2.cell 0 rfl
        have y1 : w'.cell? ⟨br, 1, none⟩ = some (.slice x n y) := hSw.2.cell 1 rfl
        have y2 : w'.cell? ⟨br, 2, none⟩ = some (.slice u n v) := hSw.2.cell 2 rfl
        go_simp
      simp only [List.getElem_toArray, List.getElem_cons_succ, List.getElem_cons_zero, Act.put, List.setIfInBounds_toArray, List.set_cons_zero, List.set_cons_succ]
      refine wpAnyH_ready (rs := [14]) (by kernel_rfl) (by simp) ?_
      refine AllReadyH.cons rfl (fun Kc hKc => ?_) AllReadyH.nil
      simp only [List.getElem_toArray, List.getElem_cons_succ, List.getElem_cons_zero]
      rw [if_pos (by rfl)]
      go_wp2_with fail
      refine (LF.out _ Ba).mono ?_
      rintro e wb' ⟨al, cl, rfl, _, Bb⟩
      have Bab := below_then Ba Bb
      go_wp2_with fail
      refine hKc.out _ _ (⟨XS9.below Bab, XR9.below Bab⟩) (fun hHeld => ?_)
      clear hKc Kc
      refine wpAnyH_take (i := 15) (v := (.int .i64 (p2 : Int))) rfl (by kernel_rfl) (by kernel_rfl) (by kernel_rfl) (fun _ _ _ h => h) (Or.inl ⟨by rfl, ?_⟩) (by assumption) ?_
      · intro w' hSw
        go_simp
      simp only [List.getElem_toArray, List.getElem_cons_succ, List.getElem_cons_zero, Act.put, List.setIfInBounds_toArray, List.set_cons_zero, List.set_cons_succ]
      refine wpAnyH_ready (rs := [17]) (by kernel_rfl) (by simp) ?_
      refine AllReadyH.cons rfl (fun Kc hKc => ?_) AllReadyH.nil
      simp only [List.getElem_toArray, List.getElem_cons_succ, List.getElem_cons_zero]
      rw [if_pos (by rfl)]
      go_wp2_with fail
      refine (M3.out _ Bab).mono ?_
      rintro e wc' ⟨rfl, Bc⟩
      have Babc := below_then Bab Bc
      go_wp2_with fail
      refine hKc.out _ _ (⟨XS9.below Babc, XR9.below Babc⟩) (fun hHeld => ?_)
      clear hKc Kc
      refine wpAnyH_take (i := 18) (v := (.bool false)) rfl (by kernel_rfl) (by kernel_rfl) (by kernel_rfl) (fun _ _ _ h => h) (Or.inl ⟨by rfl, ?_⟩) (by assumption) ?_
      · intro w' hSw
        go_simp
      simp only [List.getElem_toArray, List.getElem_cons_succ, List.getElem_cons_zero, Act.put, List.setIfInBounds_toArray, List.set_cons_zero, List.set_cons_succ]
      refine wpAnyH_take (i := 19) (v := (.bool false)) rfl (by kernel_rfl) (by kernel_rfl) (by kernel_rfl) (fun _ _ _ h => h) (Or.inl ⟨by rfl, ?_⟩) (by assumption) ?_
      · intro w' hSw
        go_simp
      simp only [List.getElem_toArray, List.getElem_cons_succ, List.getElem_cons_zero, Act.put, List.setIfInBounds_toArray, List.set_cons_zero, List.set_cons_succ]
      refine wpAnyH_done (by kernel_rfl) ?_ _
      go_wp2_with fail
      go_meet
      case rel => exact ⟨rfl, Babc⟩
  case rest =>
  obtain ⟨rfl, BZ⟩ := hcut
  go_wp2_with fail
  go_roundg (L + n - (i + 1))
  case measure => omega
  case rel => exact ⟨i + 1, x5, y5, u5, v5, x, y, u, v, S2, C2, gotB Cs n k, rfl, by omega, by go_num, HG2'.out, HGB.out, fun j hj hjn => by
      rw [HC2.out j hjn]
      by_cases e : j = k
      · rw [decide_eq_true e, Bool.true_or]
      · rw [decide_eq_false e, Bool.false_or]
        refine hdone j ?_ hjn
        have := HX2.out
        omega, XS9.below BZ, (VOwn.below P8 B9).below BZ, (VOwn.below C8 B9).below BZ, XR9.below BZ, (VOwn.below PX8 B9).below BZ, (VOwn.below CX8 B9).below BZ, below_then BW8 (below_then B9 BZ)⟩
end Go.Proofs.Ytjplgfhkebkphaa
