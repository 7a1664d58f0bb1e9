/- SendPlays. Written by tools/gensdplays.py. -/
import Derived.Test.YtmblaigiipjmfaaSendRawWalk
import Derived.Test.YtmblaigiipjmfaaSendEndsWalk
import Derived.Deep.RegionHeld3
import Derived.Deep.CutBlock
namespace Go.Proofs.Ytmblaigiipjmfaa
open Go.ChangeShapes Go.WideShapes Go.ChangeAt Go.RowKit
theorem Try.infoPt : (Try.prog.info? 45).map (·.size) = some 4 := by kernel_rfl
theorem ptall (pn pa po : Int) (pt : ByteArray) : Array.all (#[.int .i64 pn, .int .i64 pa, .int .i64 po, .string pt] : Array Value) (fun v => v.oneCell') = true := by simp [Value.oneCell']
theorem be_set (C : List Bool) (k i : Nat) (h : k < C.length) : be (C.set k true) i = (decide (i = k) || be C i) := by
  unfold be
  rw [List.getD_eq_getElem?_getD, List.getD_eq_getElem?_getD, List.getElem?_set]
  by_cases e : k = i
  · subst e; simp [h]
  · have e2 : ¬ i = k := fun h => e h.symm
    simp [e, e2]
theorem leftL_congr {C D : List Bool} : ∀ n, (∀ i, i < n → be C i = be D i) → leftL C n = leftL D n
  | 0, _ => rfl
  | n + 1, h => by
    have ih := leftL_congr n (fun i hi => h i (by omega))
    have h1 := h n (by omega)
    cases hb : be C n with
    | true => rw [leftL_come hb, leftL_come (by rw [← h1]; exact hb), ih]
    | false => rw [leftL_not hb, leftL_not (by rw [← h1]; exact hb), ih]
set_option maxRecDepth 100000 in
set_option maxHeartbeats 64000000 in
theorem sendPlays_walk (num : Int) (s : ByteArray) (I : Int) (an : Option Addr) (n1 cn : Nat) (NU : List Int) (aa : Option Addr) (n2 ct : Nat) (AT : List Int) (M : Int) (w : World) (_hnum : -9223372036854775808 ≤ num ∧ num ≤ 9223372036854775807) (_hI : -9223372036854775808 ≤ I ∧ I ≤ 9223372036854775807) (hN : IArg w an n1 cn NU) (hA : IArg w aa n2 ct AT) (_hM : -9223372036854775808 ≤ M ∧ M ≤ 9223372036854775807) :
    Calls Try.prog 3 #[.int .i64 num, .string s, .int .i64 I, .slice an n1 cn, .slice aa n2 ct, .int .i64 M] w fun e w' => e = .returned (.bool true) ∧ Below w.heap.size w w' := by
  have CU := cut_any s.data.toList 3000 w
  rw [txt_of] at CU
  have hl : (s.data.toList.take 3000).length ≤ 3000 := by rw [List.length_take]; omega
  generalize s.data.toList.take 3000 = l at *
  have AW := sawake_any
  have HN1 : Hid (IArg w an n1 cn NU) := hN
  have HA1 : Hid (IArg w aa n2 ct AT) := hA
  have hx1 := hN.max
  have hx2 := hA.max
  have hf1 := hN.fit
  have hf2 := hA.fit
  clear hN hA
  by_cases h : cutN l I = 0
  case neg =>
    have C1 := fun W => scut_bad l I W h
    have C2 := fun W => sbegin_bad num l I W h
    have C3 := fun W => rcut_bad l I W h
    have TX := fun W => texts_yes 0 0 0 none none [] W (varg_nil W) (varg_nil W)
    unfold stV at C2
    have hr : ¬ cutN l I = 0 := h
    generalize cutN l I = r at *
    generalize txt l = T at *
    clear h
    go_enter Try.func3, Try.ntmps3
    go_wp2_with (first
      | (go_at_call 7; refine CU.mono ?_; rintro e w1 ⟨rfl, h9⟩; obtain rfl := h9.symm)
      | (go_at_call 8; refine (C1 _).mono ?_; rintro e w1 ⟨rfl, h9⟩; obtain rfl := h9.symm)
      | (go_at_call 9; refine (C2 _).mono ?_; rintro e w2 ⟨rfl, B2⟩; obtain ⟨XA0, XB0, VB0, vz0⟩ := var3 w2 30 #[.int .i64 0, .slice none 0 0, .slice none 0 0] #[.int .i64 0, .slice none 0 0, .slice none 0 0]; generalize hwA0 : w2.alloc (.cells #[.int .i64 0, .slice none 0 0, .slice none 0 0] 30) = wA0 at *; generalize hwB0 : wA0.setRow w2.heap.size #[.int .i64 0, .slice none 0 0, .slice none 0 0] = wb at *)
      | (refine wpList_store_row rfl 30 _ _ rfl w2.heap.size _ rfl rfl 30 _ XA0 Try.infoSs rfl (stall _ _ _ _ _ _ _) ?_; rw [hwB0])
      | (go_at_call 10; refine (C3 _).mono ?_; rintro e w3 ⟨rfl, h9⟩; obtain rfl := h9.symm)
      | (go_at_call 11; refine (AW _).mono ?_; rintro e w4 ⟨rfl, B4⟩)
      | (go_at_call 12; refine (TX _).mono ?_; rintro e w5 ⟨rfl, B5⟩; have X5 := (XB0.below B4).below B5; have k0 : w5.cell? ⟨w2.heap.size, 0, none⟩ = some (.int .i64 0) := X5.cell 0 rfl; have k1 : w5.cell? ⟨w2.heap.size, 1, none⟩ = some (.slice none 0 0) := X5.cell 1 rfl))
    go_ret
    exact ⟨rfl, below_then (below_then B2 VB0) (below_then B4 B5)⟩
  obtain ⟨h1, h2, h3⟩ := cutN_parts h
  obtain ⟨z, rfl⟩ : ∃ z : Nat, I = (z : Int) := ⟨I.toNat, by omega⟩
  have hm := cutS_most l z h3
  have hp := cutS_pos l z
  have hzs := cutS_size l z (by omega) (by omega)
  have C1 := fun W => scut_ok l z W h (by omega)
  have C2 := fun W => sbegin_ok num l z W h (by omega) (by omega)
  have C3 := fun W => rcut_ok l z W h (by omega)
  unfold stV at C2
  generalize cutS l z = S at *
  generalize hn : S.length = n at *
  have HN : Hid (S.length = n) := hn
  have hzz : ∀ s ∈ S, s.size ≤ 140737488355328 := fun s hs => by have := hzs s hs; omega
  have HZ : Hid (∀ s ∈ S, s.size ≤ 140737488355328) := hzz
  have hmk := fun W => run_make_row' (P := Try.prog) 28 4 (.bool false) 1 Try.underlying28 Try.infoBool rfl .i64 .i64 n (by omega) (by omega) W
  have TX : Hid (∀ (W : World) (a1 : Option Addr) (c1 : Nat) (a2 : Option Addr) (c2 : Nat), VArg W a1 n c1 (strs S) → VArg W a2 n c2 (strs S) → _) := fun W a1 c1 a2 c2 h1 h2 => texts_yes n c1 c2 a1 a2 S W h1 h2
  clear h hzs hzz hn h1 h2 h3
  generalize txt l = T at *
  go_enter Try.func3, Try.ntmps3
  go_wp2_with (first
      | (go_at_call 7; refine CU.mono ?_; clear CU; rintro e w1 ⟨rfl, h9⟩; obtain rfl := h9.symm)
      | (go_at_call 8; refine (C1 _).mono ?_; clear C1; rintro e w1 ⟨ap, cp, rfl, P1, B1⟩)
      | (go_at_call 9; refine (C2 _).mono ?_; clear C2; rintro e w2 ⟨a, c, a2, c2, rfl, P2, D2, B2⟩; obtain ⟨XA1, XB1, VB1, vz1⟩ := var3 w2 30 #[.int .i64 0, .slice none 0 0, .slice none 0 0] #[.int .i64 num, .slice a n c, .slice a2 n c2]; generalize hwA1 : w2.alloc (.cells #[.int .i64 0, .slice none 0 0, .slice none 0 0] 30) = wA1 at *; generalize hwB1 : wA1.setRow w2.heap.size #[.int .i64 num, .slice a n c, .slice a2 n c2] = wb at *)
      | (refine wpList_store_row rfl 30 _ _ rfl w2.heap.size _ rfl rfl 30 _ XA1 Try.infoSs rfl (stall _ _ _ _ _ _ _) ?_; rw [hwB1])
      | (go_at_call 10; refine (C3 _).mono ?_; clear C3; rintro e w3 ⟨aw, cw, rfl, P3, B3⟩)
      | (go_at_call 11; refine (AW _).mono ?_; rintro e w4 ⟨rfl, B4⟩; have TXw := TX.out w4 ap cp aw cw ((VOwn.varg P1).below (below_then B2 (below_then VB1 (below_then B3 B4)))) ((VOwn.varg P3).below B4))
      | (go_at_call 12; refine TXw.mono ?_; clear TXw; rintro e w5 ⟨rfl, B5⟩; have BM := belowA w5 (.cells (madeCells #[.bool false] n) 4); have OM := vown_made w5 n (by omega); generalize hwM : w5.alloc (.cells (madeCells #[.bool false] n) 4) = wM at *))
  have B3M := below_then B3 (below_then B4 (below_then B5 BM))
  have XM := XB1.below B3M
  have BWM := below_then B1 (below_then B2 (below_then VB1 B3M))
  have PM := VOwn.base (VOwn.below P2 (below_then VB1 B3M)) (Nat.zero_le _)
  have DM := VOwn.base (VOwn.below D2 (below_then VB1 B3M)) (Nat.zero_le _)
  have WM := VOwn.base (VOwn.below P3 (below_then B4 (below_then B5 BM))) (Nat.zero_le _)
  have OM0 := VOwn.base OM (Nat.zero_le _)
  have zz1 := B1.size
  have zz2 := B2.size
  have hbw : w.heap.size ≤ w2.heap.size := by omega
  have hgw : w.heap.size ≤ w5.heap.size := by have := (below_then B1 (below_then B2 (below_then VB1 (below_then B3 (below_then B4 B5))))).size; omega
  clear P1 P2 D2 P3 B1 B2 B3 B4 B5 BM VB1 XA1 XB1 hwA1 hwB1 vz1 B3M OM hmk TX zz1 zz2 hwM
  generalize hbs : w2.heap.size = bs at *
  generalize hgC : w5.heap.size = gC at *
  clear hbs hgC
  go_loopg [20] 40 (fun r s20 wr => ∃ (i : Nat) (a : Option Addr) (c : Nat) (a2 : Option Addr) (c2 : Nat) (Cs D : List Bool), r = 40 - i ∧ i ≤ 40 ∧ s20 = .int .i64 (i : Int) ∧ (∀ j, j < n → be Cs j = be D j) ∧ Blk wr bs 30 #[.int .i64 num, .slice a n c, .slice a2 n c2] ∧ VOwn wr 0 9 (.slice a n c) n (strs S) ∧ VOwn wr 0 4 (.slice a2 n c2) n (bools Cs) ∧ VOwn wr 0 4 (.slice (some ⟨gC, 0, none⟩) n n) n (bools D) ∧ VOwn wr 0 9 (.slice aw n cw) n (strs S) ∧ Below w.heap.size w wr)
  case atStart => exact ⟨0, a, c, a2, c2, _, _, rfl, by omega, rfl, fun _ _ => rfl, XM, PM, DM, OM0, WM, BWM⟩
  case round =>
  clear XM PM DM OM0 WM BWM
  obtain ⟨i, a, c, a2, c2, Cs, D, rfl, hi, rfl, hcs, XS, PS, CS, CD, PW, BW⟩ := hrel
  by_cases q1 : i < n1
  case neg =>
    have q1' : ¬ (i : Int) < (n1 : Int) := by omega
    go_wp2_with fail
    go_ret
    exact ⟨rfl, BW⟩
  have q1' : (i : Int) < (n1 : Int) := by omega
  by_cases q2 : i < n2
  case neg =>
    have q2' : ¬ (i : Int) < (n2 : Int) := by omega
    go_wp2_with fail
    go_ret
    exact ⟨rfl, BW⟩
  have q2' : (i : Int) < (n2 : Int) := by omega
  by_cases q3 : i < 40
  case neg =>
    have q3' : ¬ (i : Int) < 40 := by omega
    go_wp2_with fail
    go_ret
    exact ⟨rfl, BW⟩
  have q3' : (i : Int) < 40 := by omega
  obtain ⟨bn, on, rfl, kn⟩ := (HN1.out.below BW).row.cells (by omega)
  obtain ⟨bt0, ot, rfl, kt⟩ := (HA1.out.below BW).row.cells (by omega)
  have tn := kn i q1
  have ta := kt i q2
  have ltn : bn < wr.heap.size := by simpa using World.block_lt_of_cell? wr _ tn
  have lta : bt0 < wr.heap.size := by simpa using World.block_lt_of_cell? wr _ ta
  clear kn kt
  generalize el NU i = nu at *
  generalize el AT i = at_ at *
  obtain ⟨r, C2, hr, hC2, GT⟩ : ∃ (r : Int) (C2 : List Bool), r = gotN num nu at_ n ∧ (∀ j, j < n → be C2 j = (decide (r = 0 ∧ (j : Int) = at_) || be Cs j)) ∧ ∀ W, Below wr.heap.size wr W → Calls Try.prog 13 #[stV num (.slice a n c) (.slice a2 n c2), .int .i64 nu, .int .i64 at_] W fun e w' => ∃ b d b2 d2, e = .returned (.tuple #[stV num (.slice b n d) (.slice b2 n d2), .int .i64 r]) ∧ VOwn w' W.heap.size 9 (.slice b n d) n (strs S) ∧ VOwn w' W.heap.size 4 (.slice b2 n d2) n (bools C2) ∧ Below W.heap.size W w' := by
    by_cases hg : gotN num nu at_ n = 0
    · have hnum : nu = num ∧ 0 ≤ at_ ∧ at_ < (n : Int) := by
        unfold gotN at hg
        by_cases q1 : nu = num
        · rw [if_neg (not_not_intro q1)] at hg
          by_cases q2 : at_ < 0 ∨ (n : Int) ≤ at_
          · rw [if_pos q2] at hg; omega
          · omega
        · rw [if_pos q1] at hg; omega
      obtain ⟨h1, h2, h3⟩ := hnum
      obtain ⟨k, rfl⟩ : ∃ k : Nat, at_ = (k : Int) := ⟨at_.toNat, by omega⟩
      subst h1
      refine ⟨0, gotB Cs n k, hg.symm, fun j hj => ?_, fun W hW => sgot_ok nu a a2 n c n c2 k S Cs W (PS.varg.below hW) (CS.varg.below hW) (by omega) (by omega) HZ.out (by omega)⟩
      rw [gotB_be Cs n k j hj]
      have e9 : decide (j = k) = decide ((0 : Int) = 0 ∧ (j : Int) = (k : Int)) := by
        rw [decide_eq_decide]
        constructor
        · intro h; exact ⟨rfl, by omega⟩
        · intro h; omega
      rw [e9]
    · refine ⟨gotN num nu at_ n, Cs, rfl, fun j _ => ?_, fun W hW => sgot_bad num nu at_ a a2 n c n c2 S Cs W (PS.varg.below hW) (CS.varg.below hW) (by omega) (by omega) HZ.out hg⟩
      rw [decide_eq_false (fun h => hg h.1), Bool.false_or]
  have GK : Hid _ := GT
  unfold stV at GK
  have HR : Hid (r = gotN num nu at_ n) := hr
  have HC2 : Hid _ := hC2
  clear GT hr hC2
  go_upto_region 13 with fail
  go_cut [21, 22] from 81 to 196 (fun s21 s22 wc => ∃ (bt : Nat) (b : Option Addr) (d : Nat) (b2 : Option Addr) (d2 : Nat), s21 = .pointer (some ⟨bt, 0, none⟩) ∧ s22 = .int .i64 r ∧ wr.heap.size ≤ bt ∧ Blk wc bt 30 #[.int .i64 num, .slice b n d, .slice b2 n d2] ∧ VOwn wc wr.heap.size 9 (.slice b n d) n (strs S) ∧ VOwn wc wr.heap.size 4 (.slice b2 n d2) n (bools C2) ∧ Below wr.heap.size wr wc)
  case first =>
    refine wp_region_held_drew (S := fun w' => Blk w' bs 30 #[.int .i64 num, .slice a n c, .slice a2 n c2] ∧ w'.cell? ⟨bn, on + i, none⟩ = some (.int .i64 nu) ∧ w'.cell? ⟨bt0, ot + i, none⟩ = some (.int .i64 at_)) (by kernel_rfl) (⟨XS, tn, ta⟩) (fun hHeld => ?_)
    refine wpAnyH_take (i := 0) (v := (.agg #[.int .i64 num, .slice a n c, .slice a2 n c2])) rfl (by kernel_rfl) (by kernel_rfl) (by kernel_rfl) (fun _ _ _ h => h) (Or.inl ⟨by rfl, ?_⟩) (by assumption) ?_
    · intro w' hSw
      have y0 : w'.cell? ⟨bs, 0, none⟩ = some (.int .i64 num) := hSw.1.cell 0 rfl
      have y1 : w'.cell? ⟨bs, 1, none⟩ = some (.slice a n c) := hSw.1.cell 1 rfl
      have y2 : w'.cell? ⟨bs, 2, none⟩ = some (.slice a2 n c2) := hSw.1.cell 2 rfl
      go_simp
    simp only [List.getElem_toArray, List.getElem_cons_zero, Act.put, List.setIfInBounds_toArray, List.set_cons_zero, List.set_cons_succ]
    refine wpAnyH_take (i := 1) (v := (.slice (some ⟨bn, on, none⟩) n1 cn)) rfl (by kernel_rfl) (by kernel_rfl) (by kernel_rfl) (fun _ _ _ h => h) (Or.inl ⟨by rfl, ?_⟩) (by assumption) ?_
    · intro w' hSw
      go_simp
    simp only [List.getElem_toArray, List.getElem_cons_succ, List.getElem_cons_zero, Act.put, List.setIfInBounds_toArray, List.set_cons_zero, List.set_cons_succ]
    refine wpAnyH_take (i := 2) (v := (.int .i64 (i : Int))) rfl (by kernel_rfl) (by kernel_rfl) (by kernel_rfl) (fun _ _ _ h => h) (Or.inl ⟨by rfl, ?_⟩) (by assumption) ?_
    · intro w' hSw
      go_simp
    simp only [List.getElem_toArray, List.getElem_cons_succ, List.getElem_cons_zero, Act.put, List.setIfInBounds_toArray, List.set_cons_zero, List.set_cons_succ]
    refine wpAnyH_take (i := 3) (v := (.pointer (some ⟨bn, on + i, none⟩))) rfl (by kernel_rfl) (by kernel_rfl) (by kernel_rfl) (fun _ _ _ h => h) (Or.inl ⟨by rfl, ?_⟩) (by assumption) ?_
    · intro w' hSw
      go_simp
    simp only [List.getElem_toArray, List.getElem_cons_succ, List.getElem_cons_zero, Act.put, List.setIfInBounds_toArray, List.set_cons_zero, List.set_cons_succ]
    refine wpAnyH_take (i := 4) (v := (.int .i64 nu)) rfl (by kernel_rfl) (by kernel_rfl) (by kernel_rfl) (fun _ _ _ h => h) (Or.inl ⟨by rfl, ?_⟩) (by assumption) ?_
    · intro w' hSw
      have y4 := hSw.2.1
      go_simp
    simp only [List.getElem_toArray, List.getElem_cons_succ, List.getElem_cons_zero, Act.put, List.setIfInBounds_toArray, List.set_cons_zero, List.set_cons_succ]
    refine wpAnyH_take (i := 5) (v := (.slice (some ⟨bt0, ot, none⟩) n2 ct)) rfl (by kernel_rfl) (by kernel_rfl) (by kernel_rfl) (fun _ _ _ h => h) (Or.inl ⟨by rfl, ?_⟩) (by assumption) ?_
    · intro w' hSw
      go_simp
    simp only [List.getElem_toArray, List.getElem_cons_succ, List.getElem_cons_zero, Act.put, List.setIfInBounds_toArray, List.set_cons_zero, List.set_cons_succ]
    refine wpAnyH_take (i := 6) (v := (.int .i64 (i : Int))) rfl (by kernel_rfl) (by kernel_rfl) (by kernel_rfl) (fun _ _ _ h => h) (Or.inl ⟨by rfl, ?_⟩) (by assumption) ?_
    · intro w' hSw
      go_simp
    simp only [List.getElem_toArray, List.getElem_cons_succ, List.getElem_cons_zero, Act.put, List.setIfInBounds_toArray, List.set_cons_zero, List.set_cons_succ]
    refine wpAnyH_take (i := 7) (v := (.pointer (some ⟨bt0, ot + i, none⟩))) rfl (by kernel_rfl) (by kernel_rfl) (by kernel_rfl) (fun _ _ _ h => h) (Or.inl ⟨by rfl, ?_⟩) (by assumption) ?_
    · intro w' hSw
      go_simp
    simp only [List.getElem_toArray, List.getElem_cons_succ, List.getElem_cons_zero, Act.put, List.setIfInBounds_toArray, List.set_cons_zero, List.set_cons_succ]
    refine wpAnyH_take (i := 8) (v := (.int .i64 at_)) rfl (by kernel_rfl) (by kernel_rfl) (by kernel_rfl) (fun _ _ _ h => h) (Or.inl ⟨by rfl, ?_⟩) (by assumption) ?_
    · intro w' hSw
      have y8 := hSw.2.2
      go_simp
    simp only [List.getElem_toArray, List.getElem_cons_succ, List.getElem_cons_zero, Act.put, List.setIfInBounds_toArray, List.set_cons_zero, List.set_cons_succ]
    refine wpAnyH_ready (rs := [9, 13]) (by kernel_rfl) (by simp) ?_
    refine AllReadyH.cons rfl (fun Kc hKc => ?_) (AllReadyH.cons rfl (fun Kc hKc => ?_) AllReadyH.nil)
    · simp only [List.getElem_toArray, List.getElem_cons_succ, List.getElem_cons_zero]
      rw [if_pos (by rfl)]
      go_wp2_with fail
      refine (GK.out _ (Below.refl _ _).drew).mono ?_
      rintro e w6 ⟨b, d, b2, d2, rfl, P6, C6, B6⟩
      replace B6 : Below wr.heap.size wr w6 := below_then (Below.refl wr.heap.size wr).drew B6
      have z6 := B6.size
      have zd : wr.drew.heap.size = wr.heap.size := rfl
      have XS6 := XS.below B6
      go_wp2_with fail
      refine hKc.out _ _ (⟨XS6, ((B6).cell (p := ⟨bn, on + i, none⟩) (by exact ltn)).trans tn, ((B6).cell (p := ⟨bt0, ot + i, none⟩) (by exact lta)).trans ta⟩) (fun hHeld => ?_)
      clear hKc Kc
      refine wpAnyH_take (i := 10) (v := (.tuple #[.agg #[.int .i64 num, .slice b n d, .slice b2 n d2], .int .i64 r])) rfl (by kernel_rfl) (by kernel_rfl) (by kernel_rfl) (fun _ _ _ h => h) (Or.inl ⟨by rfl, ?_⟩) (by assumption) ?_
      · intro w' hSw
        go_simp
      simp only [List.getElem_toArray, List.getElem_cons_succ, List.getElem_cons_zero, Act.put, List.setIfInBounds_toArray, List.set_cons_zero, List.set_cons_succ]
      refine wpAnyH_take (i := 11) (v := (.agg #[.int .i64 num, .slice b n d, .slice b2 n d2])) rfl (by kernel_rfl) (by kernel_rfl) (by kernel_rfl) (fun _ _ _ h => h) (Or.inl ⟨by rfl, ?_⟩) (by assumption) ?_
      · intro w' hSw
        go_simp
      simp only [List.getElem_toArray, List.getElem_cons_succ, List.getElem_cons_zero, Act.put, List.setIfInBounds_toArray, List.set_cons_zero, List.set_cons_succ]
      refine wpAnyH_take (i := 12) (v := (.int .i64 r)) rfl (by kernel_rfl) (by kernel_rfl) (by kernel_rfl) (fun _ _ _ h => h) (Or.inl ⟨by rfl, ?_⟩) (by assumption) ?_
      · intro w' hSw
        go_simp
      simp only [List.getElem_toArray, List.getElem_cons_succ, List.getElem_cons_zero, Act.put, List.setIfInBounds_toArray, List.set_cons_zero, List.set_cons_succ]
      have YA := blk_new w6 30 #[.int .i64 0, .slice none 0 0, .slice none 0 0]
      have BA := below_then B6 (belowA w6 (.cells #[.int .i64 0, .slice none 0 0, .slice none 0 0] 30))
      have XS7 := XS.below BA
      have P7 := VOwn.below P6 (belowA w6 (.cells #[.int .i64 0, .slice none 0 0, .slice none 0 0] 30))
      have C7 := VOwn.below C6 (belowA w6 (.cells #[.int .i64 0, .slice none 0 0, .slice none 0 0] 30))
      generalize hw7 : w6.alloc (.cells #[.int .i64 0, .slice none 0 0, .slice none 0 0] 30) = w7 at *
      refine wpAnyH_ready (rs := [13]) (by kernel_rfl) (by simp) ?_
      refine AllReadyH.cons rfl (fun Kc hKc => ?_) AllReadyH.nil
      simp only [List.getElem_toArray, List.getElem_cons_succ, List.getElem_cons_zero]
      rw [if_pos (by rfl)]
      go_wp2_with fail
      refine hKc.out _ _ (⟨XS7, ((BA).cell (p := ⟨bn, on + i, none⟩) (by exact ltn)).trans tn, ((BA).cell (p := ⟨bt0, ot + i, none⟩) (by exact lta)).trans ta⟩) (fun hHeld => ?_)
      clear hKc Kc
      have i0 : w7.cell? ⟨w6.heap.size, 0, none⟩ = some (.int .i64 0) := YA.cell 0 rfl
      have i1 : w7.cell? ⟨w6.heap.size, 1, none⟩ = some (.slice none 0 0) := YA.cell 1 rfl
      have i2 : w7.cell? ⟨w6.heap.size, 2, none⟩ = some (.slice none 0 0) := YA.cell 2 rfl
      have f0 := YA.frozen 0
      have f1 := YA.frozen 1
      have f2 := YA.frozen 2
      have Q8 := set3_blk YA (.int .i64 num) (.slice b n d) (.slice b2 n d2)
      have o8 : ∀ g', g' ≠ w6.heap.size → (set3 w7 w6.heap.size (.int .i64 num) (.slice b n d) (.slice b2 n d2)).heap[g']? = w7.heap[g']? := fun g' hg' => set3_other _ _ _ _ _ _ hg'
      have P8 := VOwn.of_block P7 (fun g' h h2 h3 => o8 g' (by have := (World.ownsRow.lt P6 g' h).2; have := (World.ownsRow.lt P6 g' h).1; omega))
      have C8 := VOwn.of_block C7 (fun g' h h2 h3 => o8 g' (by have := (World.ownsRow.lt C6 g' h).2; have := (World.ownsRow.lt C6 g' h).1; omega))
      have B8 := set3_below BA (show wr.heap.size ≤ w6.heap.size by omega) (.int .i64 num) (.slice b n d) (.slice b2 n d2)
      have XS8 := XS.below B8
      unfold set3 at *
      refine wpAnyH_ready (rs := [14]) (by kernel_rfl) (by simp) ?_
      refine AllReadyH.cons rfl (fun Kc hKc => ?_) AllReadyH.nil
      simp only [List.getElem_toArray, List.getElem_cons_succ, List.getElem_cons_zero]
      rw [if_pos (by rfl)]
      go_wp2_with fail
      refine hKc.out _ _ (⟨XS8, ((B8).cell (p := ⟨bn, on + i, none⟩) (by exact ltn)).trans tn, ((B8).cell (p := ⟨bt0, ot + i, none⟩) (by exact lta)).trans ta⟩) (fun hHeld => ?_)
      clear hKc Kc
      refine wpAnyH_take (i := 15) (v := (.int .i64 r)) rfl (by kernel_rfl) (by kernel_rfl) (by kernel_rfl) (fun _ _ _ h => h) (Or.inl ⟨by rfl, ?_⟩) (by assumption) ?_
      · intro w' hSw
        go_simp
      simp only [List.getElem_toArray, List.getElem_cons_succ, List.getElem_cons_zero, Act.put, List.setIfInBounds_toArray, List.set_cons_zero, List.set_cons_succ]
      refine wpAnyH_done (by kernel_rfl) ?_ _
      go_wp2_with fail
      go_meet
      case rel => exact ⟨_, b, d, b2, d2, rfl, rfl, (by omega), Q8, P8.base (by omega), C8.base (by omega), B8⟩
    · have YA := blk_new wr.drew 30 #[.int .i64 0, .slice none 0 0, .slice none 0 0]
      have BA : Below wr.heap.size wr (wr.drew.alloc (.cells #[.int .i64 0, .slice none 0 0, .slice none 0 0] 30)) := below_then (Below.refl wr.heap.size wr).drew (belowA wr.drew (.cells #[.int .i64 0, .slice none 0 0, .slice none 0 0] 30))
      have z7 : (wr.drew.alloc (.cells #[.int .i64 0, .slice none 0 0, .slice none 0 0] 30)).heap.size = wr.heap.size + 1 := by simp
      have XS7 := XS.below BA
      have zd : wr.drew.heap.size = wr.heap.size := rfl
      rw [zd] at YA
      generalize hw7 : wr.drew.alloc (.cells #[.int .i64 0, .slice none 0 0, .slice none 0 0] 30) = w7 at *
      simp only [List.getElem_toArray, List.getElem_cons_succ, List.getElem_cons_zero]
      rw [if_pos (by rfl)]
      go_wp2_with fail
      refine hKc.out _ _ (⟨XS7, ((BA).cell (p := ⟨bn, on + i, none⟩) (by exact ltn)).trans tn, ((BA).cell (p := ⟨bt0, ot + i, none⟩) (by exact lta)).trans ta⟩) (fun hHeld => ?_)
      clear hKc Kc
      refine wpAnyH_ready (rs := [9]) (by kernel_rfl) (by simp) ?_
      refine AllReadyH.cons rfl (fun Kc hKc => ?_) AllReadyH.nil
      simp only [List.getElem_toArray, List.getElem_cons_succ, List.getElem_cons_zero]
      rw [if_pos (by rfl)]
      go_wp2_with fail
      refine (GK.out _ BA).mono ?_
      rintro e w6 ⟨b, d, b2, d2, rfl, P6, C6, B6⟩
      have z6 := B6.size
      have BA6 := below_then BA B6
      have XS6 := XS.below BA6
      have YB := YA.below B6
      go_wp2_with fail
      refine hKc.out _ _ (⟨XS6, ((BA6).cell (p := ⟨bn, on + i, none⟩) (by exact ltn)).trans tn, ((BA6).cell (p := ⟨bt0, ot + i, none⟩) (by exact lta)).trans ta⟩) (fun hHeld => ?_)
      clear hKc Kc
      refine wpAnyH_take (i := 10) (v := (.tuple #[.agg #[.int .i64 num, .slice b n d, .slice b2 n d2], .int .i64 r])) rfl (by kernel_rfl) (by kernel_rfl) (by kernel_rfl) (fun _ _ _ h => h) (Or.inl ⟨by rfl, ?_⟩) (by assumption) ?_
      · intro w' hSw
        go_simp
      simp only [List.getElem_toArray, List.getElem_cons_succ, List.getElem_cons_zero, Act.put, List.setIfInBounds_toArray, List.set_cons_zero, List.set_cons_succ]
      refine wpAnyH_take (i := 11) (v := (.agg #[.int .i64 num, .slice b n d, .slice b2 n d2])) rfl (by kernel_rfl) (by kernel_rfl) (by kernel_rfl) (fun _ _ _ h => h) (Or.inl ⟨by rfl, ?_⟩) (by assumption) ?_
      · intro w' hSw
        go_simp
      simp only [List.getElem_toArray, List.getElem_cons_succ, List.getElem_cons_zero, Act.put, List.setIfInBounds_toArray, List.set_cons_zero, List.set_cons_succ]
      refine wpAnyH_take (i := 12) (v := (.int .i64 r)) rfl (by kernel_rfl) (by kernel_rfl) (by kernel_rfl) (fun _ _ _ h => h) (Or.inl ⟨by rfl, ?_⟩) (by assumption) ?_
      · intro w' hSw
        go_simp
      simp only [List.getElem_toArray, List.getElem_cons_succ, List.getElem_cons_zero, Act.put, List.setIfInBounds_toArray, List.set_cons_zero, List.set_cons_succ]
      have i0 : w6.cell? ⟨wr.heap.size, 0, none⟩ = some (.int .i64 0) := YB.cell 0 rfl
      have i1 : w6.cell? ⟨wr.heap.size, 1, none⟩ = some (.slice none 0 0) := YB.cell 1 rfl
      have i2 : w6.cell? ⟨wr.heap.size, 2, none⟩ = some (.slice none 0 0) := YB.cell 2 rfl
      have f0 := YB.frozen 0
      have f1 := YB.frozen 1
      have f2 := YB.frozen 2
      have Q8 := set3_blk YB (.int .i64 num) (.slice b n d) (.slice b2 n d2)
      have o8 : ∀ g', g' ≠ wr.heap.size → (set3 w6 wr.heap.size (.int .i64 num) (.slice b n d) (.slice b2 n d2)).heap[g']? = w6.heap[g']? := fun g' hg' => set3_other _ _ _ _ _ _ hg'
      have P8 := VOwn.of_block P6 (fun g' h h2 h3 => o8 g' (by have := (World.ownsRow.lt P6 g' h).2; have := (World.ownsRow.lt P6 g' h).1; omega))
      have C8 := VOwn.of_block C6 (fun g' h h2 h3 => o8 g' (by have := (World.ownsRow.lt C6 g' h).2; have := (World.ownsRow.lt C6 g' h).1; omega))
      have B8 := set3_below BA6 (show wr.heap.size ≤ wr.heap.size by omega) (.int .i64 num) (.slice b n d) (.slice b2 n d2)
      have XS8 := XS.below B8
      unfold set3 at *
      refine wpAnyH_ready (rs := [14]) (by kernel_rfl) (by simp) ?_
      refine AllReadyH.cons rfl (fun Kc hKc => ?_) AllReadyH.nil
      simp only [List.getElem_toArray, List.getElem_cons_succ, List.getElem_cons_zero]
      rw [if_pos (by rfl)]
      go_wp2_with fail
      refine hKc.out _ _ (⟨XS8, ((B8).cell (p := ⟨bn, on + i, none⟩) (by exact ltn)).trans tn, ((B8).cell (p := ⟨bt0, ot + i, none⟩) (by exact lta)).trans ta⟩) (fun hHeld => ?_)
      clear hKc Kc
      refine wpAnyH_take (i := 15) (v := (.int .i64 r)) rfl (by kernel_rfl) (by kernel_rfl) (by kernel_rfl) (fun _ _ _ h => h) (Or.inl ⟨by rfl, ?_⟩) (by assumption) ?_
      · intro w' hSw
        go_simp
      simp only [List.getElem_toArray, List.getElem_cons_succ, List.getElem_cons_zero, Act.put, List.setIfInBounds_toArray, List.set_cons_zero, List.set_cons_succ]
      refine wpAnyH_done (by kernel_rfl) ?_ _
      go_wp2_with fail
      go_meet
      case rel => exact ⟨_, b, d, b2, d2, rfl, rfl, (by omega), Q8, P8.base (by omega), C8.base (by omega), B8⟩
  case rest =>
  obtain ⟨bt, b, d, b2, d2, rfl, rfl, hbt, XT, PT, CT, BT⟩ := hcut
  generalize wc = w3 at *
  have gCl : gC < wr.heap.size := (World.ownsRow.lt CD gC rfl).2
  have ngb : gC ≠ bs := VOwn.ne_blk CD XS ne_BS gC rfl
  have XS3 := XS.below BT
  have PW3 := VOwn.below PW BT
  have CD3 := VOwn.below CD BT
  have tn3 : w3.cell? ⟨bn, on + i, none⟩ = some (.int .i64 nu) := (BT.cell (by exact ltn)).trans tn
  have ta3 : w3.cell? ⟨bt0, ot + i, none⟩ = some (.int .i64 at_) := (BT.cell (by exact lta)).trans ta
  have hlD : D.length = n := by rw [← bools_len]; exact CD.len
  clear tn ta GK
  go_upto_block 2 with fail
  go_cut [23] from 81 to 196 (fun s23 wc => s23 = .int .i64 r ∧ ∃ D2, (∀ j, j < n → be C2 j = be D2 j) ∧ VOwn wc 0 4 (.slice (some ⟨gC, 0, none⟩) n n) n (bools D2) ∧ But gC w3 wc)
  case first =>
    have hr := HR.out
    unfold gotN at hr
    by_cases e1 : nu = num
    case neg =>
      rw [if_pos e1] at hr
      have hD : ∀ j, j < n → be C2 j = be D j := fun j hj => by rw [HC2.out j hj, decide_eq_false (fun h => by omega), Bool.false_or]; exact hcs j hj
      have HD : Hid _ := hD
      clear hD
      subst hr
      go_wp2_with fail
      go_meet
      case rel => exact ⟨rfl, D, HD.out, CD3, But.refl _ _⟩
    rw [if_neg (not_not_intro e1)] at hr
    have e1s := e1.symm
    subst e1s
    clear e1
    by_cases e2 : at_ < 0
    · rw [if_pos (Or.inl e2)] at hr
      have hD : ∀ j, j < n → be C2 j = be D j := fun j hj => by rw [HC2.out j hj, decide_eq_false (fun h => by omega), Bool.false_or]; exact hcs j hj
      have HD : Hid _ := hD
      clear hD
      subst hr
      go_wp2_with fail
      go_meet
      case rel => exact ⟨rfl, D, HD.out, CD3, But.refl _ _⟩
    by_cases e3 : (n : Int) ≤ at_
    · rw [if_pos (Or.inr e3)] at hr
      have hD : ∀ j, j < n → be C2 j = be D j := fun j hj => by rw [HC2.out j hj, decide_eq_false (fun h => by omega), Bool.false_or]; exact hcs j hj
      have HD : Hid _ := hD
      clear hD
      subst hr
      go_wp2_with fail
      go_meet
      case rel => exact ⟨rfl, D, HD.out, CD3, But.refl _ _⟩
    rw [if_neg (by omega)] at hr
    obtain ⟨k, rfl⟩ : ∃ k : Nat, at_ = (k : Int) := ⟨at_.toNat, by omega⟩
    have hk : k < n := by omega
    have hD : ∀ j, j < n → be C2 j = be (D.set k true) j := fun j hj => by
      rw [HC2.out j hj, be_set D k j (by omega), hcs j hj]
      congr 1
      rw [decide_eq_decide]
      constructor
      · intro h; omega
      · intro h; exact ⟨hr, by omega⟩
    have HD : Hid _ := hD
    have kC : w3.cell? ⟨gC, k, none⟩ = some (.bool (be D k)) := by rw [World.ownsRow.cellAt CD3 k (by omega), bools_get (by omega)]
    have fC : w3.frozen? ⟨gC, k, none⟩ = false := VOwn.frozen CD3 k
    have CD4 := VOwn.set CD3 k (.bool true)
    rw [bools_set] at CD4
    clear hD
    subst hr
    go_wp2_with fail
    go_meet
    case rel => exact ⟨rfl, _, HD.out, CD4, (But.refl _ _).set _ _⟩
  case rest =>
  obtain ⟨rfl, D2, hD2, CD4, BU⟩ := hcut
  generalize wc = w4 at *
  have XS4 := XS3.but BU (fun e => ngb e.symm)
  have XT4 := XT.but BU (by omega)
  have PW4 := VOwn.of_block PW3 (fun g h _ hl => BU.block g hl (fun e => VOwn.apart PW3 CD3 ne_SB g h (by rw [e]; rfl)))
  have PT4 := VOwn.of_block PT (fun g h h2 hl => BU.block g hl (by omega))
  have CT4 := VOwn.of_block CT (fun g h h2 hl => BU.block g hl (by omega))
  have BW4 : Below w.heap.size w w4 := (below_then BW BT).trans (BU.below (B := w.heap.size) (by have := (below_then BW BT).size; omega) hgw)
  have hld := leftL_congr n hD2
  have RL := rleft_any n n n (some ⟨gC, 0, none⟩) D2 w4 CD4.varg (by omega)
  rw [← hld] at RL
  have hkl := leftL_len C2 n
  have hel := leftL_el C2 n
  obtain ⟨A, hA⟩ : ∃ A, A = leftL C2 n := ⟨_, rfl⟩
  obtain ⟨q, hq⟩ : ∃ q, q = A.length := ⟨_, rfl⟩
  have HA : Hid (A = leftL C2 n) := hA
  have HQ : Hid (q = A.length) := hq
  have HD2 : Hid _ := hD2
  rw [← hA, ← hq] at RL hkl
  rw [← hA] at hel
  have HEL : Hid _ := hel
  clear hA hq hld hD2 XS3 PW3 CD3 tn3 ta3 CD PW XS PS CS BU hel
  go_upto_region 21 with (go_at_call 14; refine RL.mono ?_; clear RL; rintro e w5 ⟨a5, c5, rfl, O5, B5⟩)
  have XT5 := XT4.below B5
  have CT5 := VOwn.below CT4 B5
  have u0 : w5.cell? ⟨bt, 0, none⟩ = some (.int .i64 num) := XT5.cell 0 rfl
  have u1 : w5.cell? ⟨bt, 1, none⟩ = some (.slice b n d) := XT5.cell 1 rfl
  have u2 : w5.cell? ⟨bt, 2, none⟩ = some (.slice b2 n d2) := XT5.cell 2 rfl
  have SLw := sleft_any num b b2 n d n d2 C2 w5 (VOwn.varg CT5) (by omega)
  have OV : Hid (∀ W, VArg W b2 n d2 (bools C2) → _) := fun W h => sover_any num b b2 n d n d2 C2 W h (by omega)
  rw [← HA.out, ← HQ.out] at SLw OV
  unfold stV at SLw OV
  go_cut [159] from 81 to 196 (fun s159 wc => s159 = .bool false ∧ Below w5.heap.size w5 wc)
  case first =>
    by_cases e1 : q = 0
    · subst e1
      rw [show decide (((0 : Nat) : Int) = 0) = true from rfl] at OV
      go_wp2_with (first
        | (go_at_call 16; refine SLw.mono ?_; clear SLw; rintro e w8 ⟨a8, c8, rfl, O8, B8⟩; have SMw := same_yes 0 c8 c5 a8 a5 A w8 (VOwn.varg O8) ((VOwn.varg O5).below B8))
        | (go_at_call 15; refine SMw.mono ?_; clear SMw; rintro e w9 ⟨rfl, B9⟩; have B59 := below_then B8 B9; have X9 := XT5.below B59; have v0 : w9.cell? ⟨bt, 0, none⟩ = some (.int .i64 num) := X9.cell 0 rfl; have v1 : w9.cell? ⟨bt, 1, none⟩ = some (.slice b n d) := X9.cell 1 rfl; have v2 : w9.cell? ⟨bt, 2, none⟩ = some (.slice b2 n d2) := X9.cell 2 rfl; have OVw := OV.out w9 ((VOwn.varg CT5).below B59))
        | (go_at_call 17; refine OVw.mono ?_; clear OVw; rintro e wA ⟨rfl, BA⟩; have BF := below_then B59 BA))
      go_meet
      case rel => exact ⟨by simp, BF⟩
    · have e1' : ¬ (q : Int) = 0 := by omega
      rw [decide_eq_false e1'] at OV
      clear e1
      go_wp2_with (first
        | (go_at_call 16; refine SLw.mono ?_; clear SLw; rintro e w8 ⟨a8, c8, rfl, O8, B8⟩; have SMw := same_yes q c8 c5 a8 a5 A w8 (VOwn.varg O8) ((VOwn.varg O5).below B8))
        | (go_at_call 15; refine SMw.mono ?_; clear SMw; rintro e w9 ⟨rfl, B9⟩; have B59 := below_then B8 B9; have X9 := XT5.below B59; have v0 : w9.cell? ⟨bt, 0, none⟩ = some (.int .i64 num) := X9.cell 0 rfl; have v1 : w9.cell? ⟨bt, 1, none⟩ = some (.slice b n d) := X9.cell 1 rfl; have v2 : w9.cell? ⟨bt, 2, none⟩ = some (.slice b2 n d2) := X9.cell 2 rfl; have OVw := OV.out w9 ((VOwn.varg CT5).below B59))
        | (go_at_call 17; refine OVw.mono ?_; clear OVw; rintro e wA ⟨rfl, BA⟩; have BF := below_then B59 BA))
      go_meet
      case rel => exact ⟨by simp; omega, BF⟩
  case rest =>
  obtain ⟨rfl, BG⟩ := hcut
  generalize wc = w6 at *
  have B56 := below_then B5 BG
  have XT6 := XT4.below B56
  have PT6 := VOwn.below PT4 B56
  have CT6 := VOwn.below CT4 B56
  obtain ⟨q', hq'⟩ : ∃ q', q' = min M.toNat q := ⟨_, rfl⟩
  have NX := snext_any num M b b2 n d n d2 q' S C2 w6 (VOwn.varg PT6) (VOwn.varg CT6) (by omega) HZ.out (by rw [← HA.out, ← HQ.out]; exact hq')
  rw [← HA.out] at NX
  unfold stV at NX
  have hQ : max 0 (min M (q : Int)) = (q' : Int) := by omega
  have hqq : q' ≤ q := by omega
  clear SLw OV hq' u0 u1 u2
  go_upto_region 26 with (first
    | (go_at_call 18; refine NX.mono ?_; clear NX; rintro e w7 ⟨x7, xc7, rfl, R7, B7⟩)
    | (refine wpList_load_row rfl 30 _ rfl bt rfl 30 _ (0, 0) _ XT6 Try.underlying30 rfl Try.infoSs ?_))
  have hxm := R7.max
  have B47 := below_then B56 B7
  have OL := (VOwn.varg O5).below (below_then BG B7)
  have hfo := OL.fit
  have hmo := OL.max
  have PW7 := VOwn.below PW4 B47
  have hfw := (VOwn.varg PW7).fit
  have hmw := (VOwn.varg PW7).max
  go_wp2_with fail
  go_loopg [173] q' (fun r s173 wr => ∃ t : Nat, r = q' - t ∧ t ≤ q' ∧ s173 = .int .i64 (t : Int) ∧ Below w7.heap.size w7 wr)
  case atStart => exact ⟨0, rfl, by omega, rfl, Below.refl _ _⟩
  case round =>
  obtain ⟨t, rfl, ht, rfl, BJ⟩ := hrel
  have B4J := below_then B47 BJ
  by_cases d1 : t < q'
  case neg =>
    obtain rfl : q' = t := by omega
    have XTj := XT4.below B4J
    have XSj := XS4.below B4J
    have PTj := VOwn.base (VOwn.below PT4 B4J) (Nat.zero_le _)
    have CTj := VOwn.base (VOwn.below CT4 B4J) (Nat.zero_le _)
    have CDj := VOwn.below CD4 B4J
    have PWj := VOwn.below PW4 B4J
    go_wp2_with (first
      | (refine wpList_load_row rfl 30 _ rfl bt rfl 30 _ (0, 0) _ XTj Try.underlying30 rfl Try.infoSs ?_)
      | (refine wpList_store_row rfl 30 _ _ rfl bs _ rfl rfl 30 _ XSj Try.infoSs rfl (stall _ _ _ _ _ _ _) ?_))
    go_roundg (40 - (i + 1))
    case measure => omega
    case rel => exact ⟨i + 1, b, d, b2, d2, C2, D2, rfl, by omega, by go_num, HD2.out, XSj.row _, PTj.of_block (fun g h _ _ => setRow_other _ _ _ _ (PTj.ne_blk XSj ne_SS g h)), CTj.of_block (fun g h _ _ => setRow_other _ _ _ _ (CTj.ne_blk XSj ne_BS g h)), CDj.of_block (fun g h _ _ => setRow_other _ _ _ _ (CDj.ne_blk XSj ne_BS g h)), PWj.of_block (fun g h _ _ => setRow_other _ _ _ _ (PWj.ne_blk XSj ne_SS g h)), belowR (below_then BW4 B4J) hbw _⟩
  have d1' : (t : Int) < (q' : Int) := by omega
  have d1Q : (t : Int) < (q : Int) := by omega
  have d1q : t < A.length := by have := HQ.out; omega
  have hpg := partsL_get num n S A q' t d1 (by have := HQ.out; omega)
  have hel := HEL.out t d1q
  obtain ⟨ke, hke⟩ : ∃ ke : Nat, (ke : Int) = el A t := ⟨(el A t).toNat, by omega⟩
  have hken : ke < n := by omega
  have hken' : (ke : Int) < (n : Int) := by omega
  rw [← hke, Int.toNat_natCast] at hpg
  obtain ⟨g7, rfl, _, hg7, kc⟩ := R7.cells (by omega)
  have kk : ∀ j, j < 4 → wr.cell? ⟨g7, t * 4 + j, none⟩ = (partR num (ke : Int) n (se S ke))[j]? := fun j hj => by
    rw [← hpg, ← kc t j d1 hj]
    exact BJ.cell (by exact hg7)
  have p0 : wr.cell? ⟨g7, t * 4, none⟩ = some (.int .i64 num) := kk 0 (by omega)
  have p1 : wr.cell? ⟨g7, t * 4 + 1, none⟩ = some (.int .i64 (ke : Int)) := kk 1 (by omega)
  have p2 : wr.cell? ⟨g7, t * 4 + 2, none⟩ = some (.int .i64 (n : Int)) := kk 2 (by omega)
  have p3 : wr.cell? ⟨g7, t * 4 + 3, none⟩ = some (.string (se S ke)) := kk 3 (by omega)
  obtain ⟨XA8, XB8, VB8, vz8⟩ := var3 wr 45 #[.int .i64 0, .int .i64 0, .int .i64 0, .string ⟨#[]⟩] #[.int .i64 num, .int .i64 (ke : Int), .int .i64 (n : Int), .string (se S ke)]
  generalize hwA8 : wr.alloc (.cells #[.int .i64 0, .int .i64 0, .int .i64 0, .string ⟨#[]⟩] 45) = wA8 at *
  generalize hwB8 : wA8.setRow wr.heap.size #[.int .i64 num, .int .i64 (ke : Int), .int .i64 (n : Int), .string (se S ke)] = w8 at *
  have B78 := below_then BJ VB8
  obtain ⟨b5, o5, rfl, k5⟩ := (OL.below B78).cells (by omega)
  have t5 := k5 t (by omega)
  rw [ints_get d1q, ← hke] at t5
  obtain ⟨bw, ow, rfl, kw⟩ := ((VOwn.varg PW7).below B78).cells (by omega)
  have tw := kw ke hken
  rw [strs_get (by rw [HN.out]; exact hken)] at tw
  have x0 : w8.cell? ⟨wr.heap.size, 0, none⟩ = some (.int .i64 num) := XB8.cell 0 rfl
  have x1 : w8.cell? ⟨wr.heap.size, 1, none⟩ = some (.int .i64 (ke : Int)) := XB8.cell 1 rfl
  have x2 : w8.cell? ⟨wr.heap.size, 2, none⟩ = some (.int .i64 (n : Int)) := XB8.cell 2 rfl
  have x3 : w8.cell? ⟨wr.heap.size, 3, none⟩ = some (.string (se S ke)) := XB8.cell 3 rfl
  clear kk kc k5 kw hpg hel hke
  generalize se S ke = xe at *
  go_upto_region 29 with (refine wpList_store_row rfl 45 _ _ rfl wr.heap.size _ rfl rfl 45 _ XA8 Try.infoPt rfl (ptall _ _ _ _) ?_; rw [hwB8])
  go_quiet (fail)
  go_wp2_with fail
  go_roundg (q' - (t + 1))
  case measure => omega
  case rel => exact ⟨t + 1, rfl, by omega, by go_num, below_drewN B78 _⟩
end Go.Proofs.Ytmblaigiipjmfaa
