/- HolderPlays. Written by tools/genhplays.py. -/
import Derived.Test.YtifbnnffejamaaaHpKind
import Derived.Test.YtifbnnffejamaaaHpView
import Derived.Test.YtifbnnffejamaaaHdAwake
import Derived.Deep.RegionHeld3
import Derived.Deep.DeepCutAuto
import Derived.Deep.CutBlock
namespace Go.Proofs.Ytifbnnffejamaaa
open Go.ChangeShapes Go.WideShapes Go.ChangeAt Go.RowKit Go.Maps
theorem IOwn.base {w : World} {B B' : Nat} {v : Value} {n : Nat} {A : List Int} (h : IOwn w B v n A) (hB : B' ≤ B) : IOwn w B' v n A := by
  refine ⟨h.1, ?_⟩
  rcases h.2 with h2 | ⟨g', cap, cur, h3, h4, h5⟩
  · exact Or.inl h2
  · exact Or.inr ⟨g', cap, cur, h3, by omega, h5⟩
theorem Try.infoAc : (Try.prog.info? 34).map (·.size) = some 8 := by kernel_rfl
theorem call8 (a b c d e f g h : Int) : Array.all (#[.int .i64 a, .int .i64 b, .int .i64 c, .int .i64 d, .int .i64 e, .int .i64 f, .int .i64 g, .int .i64 h] : Array Value) (fun v => v.oneCell') = true := by simp [Value.oneCell']
set_option maxRecDepth 100000 in
set_option maxHeartbeats 64000000 in
theorem holderPlays_walk (li0 cn0 : Int) (aa : Option Addr) (n ca : Nat) (Z : Nat → Ac) (w : World) (hli0 : -9223372036854775808 ≤ li0 ∧ li0 ≤ 9223372036854775807) (_hcn0 : -9223372036854775808 ≤ cn0 ∧ cn0 ≤ 9223372036854775807) (hA : AcAt w aa n Z) :
    Calls Try.prog 3 #[.int .i64 li0, .int .i64 cn0, .slice aa n ca] w fun e w' => e = .returned (.bool true) ∧ Below w.heap.size w w' := by
  have HA : Hid (AcAt w aa n Z) := hA
  have hmax := hA.max
  clear hA
  obtain ⟨XA1, XB1, VB1, z1⟩ := varR w 26 #[.int .i64 0, .int .i64 0, .map none, .map none] #[.int .i64 li0, .int .i64 cn0, .map none, .map none]
  generalize hwA1 : w.alloc (.cells #[.int .i64 0, .int .i64 0, .map none, .map none] 26) = wA1 at *
  generalize hwB1 : wA1.setRow w.heap.size #[.int .i64 li0, .int .i64 cn0, .map none, .map none] = wB1 at *
  obtain ⟨XA2, XB2, VB2, z2⟩ := varR wB1 30 #[.int .i64 0, .int .i64 0, .slice none 0 0, .slice none 0 0] #[.int .i64 li0, .int .i64 cn0, .slice none 0 0, .slice none 0 0]
  have XB12 := XB1.below VB2
  generalize hwA2 : wB1.alloc (.cells #[.int .i64 0, .int .i64 0, .slice none 0 0, .slice none 0 0] 30) = wA2 at *
  generalize hwB2 : wA2.setRow wB1.heap.size #[.int .i64 li0, .int .i64 cn0, .slice none 0 0, .slice none 0 0] = wB2 at *
  have O3 := iown_new wB2
  have B3 := belowA wB2 (.cells #[] 3)
  have z3 : wB2.heap.size + 1 ≤ (wB2.alloc (.cells #[] 3)).heap.size := by simp
  have XB13 := XB12.below B3
  have XB23 := XB2.below B3
  generalize hw3 : wB2.alloc (.cells #[] 3) = w3 at *
  have O4 := iown_new w3
  have B4 := belowA w3 (.cells #[] 3)
  have O34 := O3.below B4
  have XB14 := XB13.below B4
  have XB24 := XB23.below B4
  generalize hw4 : w3.alloc (.cells #[] 3) = w4 at *
  have HBW : Hid (Below w.heap.size w w4) := below_then VB1 (below_then VB2 (below_then B3 B4))
  have AW := hawake_any w4
  go_enter Try.func3, Try.ntmps3
  go_wp2_with (first
    | (refine wpList_store_row rfl 26 _ _ rfl w.heap.size _ rfl rfl 26 _ XA1 Try.infoHs rfl (sall _ _ _ _) ?_; rw [hwB1])
    | (refine wpList_store_row rfl 30 _ _ rfl wB1.heap.size _ rfl rfl 30 _ XA2 Try.infoRsH rfl (rall _ _ _ _ _ _ _ _) ?_; rw [hwB2])
    | (go_at_call 5; refine AW.mono ?_; rintro e w5 ⟨rfl, B5⟩))
  have S5 : Sd w5 w.heap.size wB1.heap.size li0 cn0 none none none none 0 0 [] [] := ⟨XB14.below B5, XB24.below B5, WnM.nil _, HvM.nil _, ⟨KRow.nil _ _ _ _, KRow.nil _ _ _ _⟩⟩
  have RW5 : Rws w5 w.heap.size (.slice (some ⟨wB2.heap.size, 0, none⟩) 0 0) 0 [] (.slice (some ⟨w3.heap.size, 0, none⟩) 0 0) 0 [] := ⟨(O34.below B5).base (by omega), (O4.below B5).base (by omega), fun g h1 h2 => by
    have h1' : wB2.heap.size = g := by injection h1
    have h2' : w3.heap.size = g := by injection h2
    omega⟩
  have BB5 := below_then HBW.out B5
  generalize hbx : wB1.heap.size = bx at *
  generalize wB2.heap.size = gp at *
  generalize w3.heap.size = gn at *
  have hbsx : w.heap.size < bx := by omega
  clear XA1 XB1 VB1 z1 hwA1 hwB1 XA2 XB2 VB2 z2 XB12 hwA2 hwB2 O3 B3 z3 XB13 XB23 hw3 O4 B4 O34 XB14 XB24 hw4 HBW AW B5 hbx
  go_loopg [9, 10, 11] 30 (fun r s9 s10 s11 wr => ∃ (j np cp nn cq : Nat) (ap an : Option Addr) (P N : List Int) (li cn : Int) (mw mh : Option Nat) (ao bo : Option Addr) (c d : Nat) (W : List (Int × Wn)) (H : List (Int × Hv)), j ≤ 30 ∧ r = 30 - j ∧ s9 = .slice ap np cp ∧ s10 = .slice an nn cq ∧ s11 = .int .i64 (j : Int) ∧ Sd wr w.heap.size bx li cn mw mh ao bo c d W H ∧ Rws wr w.heap.size (.slice ap np cp) np P (.slice an nn cq) nn N ∧ np ≤ j ∧ nn ≤ j ∧ Fit P ∧ Fit N ∧ W.length ≤ j ∧ H.length ≤ j ∧ (-9223372036854775808 ≤ li ∧ li ≤ 9223372036854775807) ∧ Below w.heap.size w wr)
  case atStart => exact ⟨0, 0, 0, 0, 0, _, _, [], [], li0, cn0, none, none, none, none, 0, 0, [], [], by omega, by omega, rfl, rfl, rfl, S5, RW5, by omega, by omega, Fit.nil, Fit.nil, by simp, by simp, hli0, BB5⟩
  case round =>
  obtain ⟨j, np, cp, nn, cq, ap, an, P, N, li, cn, mw, mh, ao, bo, c, d, W, H, hj, rfl, rfl, rfl, rfl, S0, RW0, hnp, hnn, hFP, hFN, hWl, hHl, hli, BB0⟩ := hrel
  clear S5 RW5 BB5
  by_cases d1 : j < n
  case neg =>
    have d1' : ¬ (j : Int) < (n : Int) := by omega
    go_wp2_with fail
    go_ret
    exact ⟨rfl, BB0⟩
  have d1' : (j : Int) < (n : Int) := by omega
  by_cases d2 : j < 30
  case neg =>
    have d2' : ¬ (j : Int) < 30 := by omega
    go_wp2_with fail
    go_ret
    exact ⟨rfl, BB0⟩
  have d2' : (j : Int) < 30 := by omega
  have AR := HA.out.below BB0
  have hsm := AR.small j
  obtain ⟨bz, oz, rfl, hz⟩ := AR.cells (by omega)
  obtain ⟨c0, c1, c2, c3, c4, c5, c6, c7⟩ := hz j d1
  generalize Z j = zz at *
  obtain ⟨ki, nw, te, ma, x, nu, bk, ep⟩ := zz
  simp only at c0 c1 c2 c3 c4 c5 c6 c7 hsm
  obtain ⟨h_ki, h_nw, h_te, h_ma, hx, h_nu, h_bk, hep⟩ := hsm
  obtain ⟨XA0, XB0, VB0, zB0⟩ := varR wr 34 #[.int .i64 0, .int .i64 0, .int .i64 0, .int .i64 0, .int .i64 0, .int .i64 0, .int .i64 0, .int .i64 0] #[.int .i64 ki, .int .i64 nw, .int .i64 te, .int .i64 ma, .int .i64 x, .int .i64 nu, .int .i64 bk, .int .i64 ep]
  have S1 := S0.below VB0
  have RW1 := RW0.below VB0
  have BB1 := below_then BB0 VB0
  generalize hwA0 : wr.alloc (.cells #[.int .i64 0, .int .i64 0, .int .i64 0, .int .i64 0, .int .i64 0, .int .i64 0, .int .i64 0, .int .i64 0] 34) = wA0 at *
  generalize hwB0 : wA0.setRow wr.heap.size #[.int .i64 ki, .int .i64 nw, .int .i64 te, .int .i64 ma, .int .i64 x, .int .i64 nu, .int .i64 bk, .int .i64 ep] = w1 at *
  have hbsl := S0.xs.lt
  have hbxl := S0.xx.lt
  obtain ⟨ba, hba⟩ : ∃ b, b = wr.heap.size := ⟨_, rfl⟩
  have hba1 : w.heap.size ≠ ba ∧ bx ≠ ba ∧ w.heap.size ≤ ba := by omega
  have BE := belowA w1 (.cells #[.int .i64 x] 3)
  have S2 := S1.below BE
  have RW2 := RW1.below BE
  have BB2 := below_then BB1 BE
  have XA2 := XB0.below BE
  have hcE : (w1.alloc (.cells #[.int .i64 x] 3)).cell? ⟨w1.heap.size, 0, none⟩ = some (.int .i64 x) := (blk_new w1 3 #[.int .i64 x]).cell 0 rfl
  have a4 : w1.cell? ⟨wr.heap.size, 4, none⟩ = some (.int .i64 x) := XB0.cell 4 rfl
  generalize hw2 : w1.alloc (.cells #[.int .i64 x] 3) = w2 at *
  have z2 := BB2.size
  clear hz AR
  go_upto_region 11 with (first
    | (refine wpList_store_row rfl 34 _ _ rfl wr.heap.size _ rfl rfl 34 _ XA0 Try.infoAc rfl (call8 _ _ _ _ _ _ _ _) ?_; rw [hwB0])
    | (at_builtin; refine wpList_append_int3 rfl _ _ rfl w.heap.size _ np P rfl RW2.op w1.heap.size x rfl hcE (by omega) (by omega) ?_; intro ap6 cp6 w6 O6 B6 G6 h6))
  have S6 := S2.grown RW2.op G6
  have XA6 := blk_grown XA2 (by decide) RW2.op G6
  have RW6 := RW2.putP O6 G6 h6
  have BB6 := BB2.trans B6
  have hFP6 := hFP.snoc hx
  rw [← hba] at XA6
  have HBA : Hid (wr.heap.size = ba) := hba.symm
  rw [← hba]
  clear S0 S1 S2 RW0 RW1 RW2 XA0 XB0 XA2 BB0 BB1 BB2 VB0 BE hwA0 hwB0 hw2 hcE a4 O6 B6 G6 h6 c0 c1 c2 c3 c4 c5 c6 c7 hba z2 zB0 HBA hbsl hbxl
  generalize P ++ [x] = P6 at *
  have a5 : w6.cell? ⟨ba, 5, none⟩ = some (.int .i64 nu) := XA6.cell 5 rfl; have a6 : w6.cell? ⟨ba, 6, none⟩ = some (.int .i64 bk) := XA6.cell 6 rfl
  go_upto_region 12 with fail
  obtain ⟨bb, hbb⟩ : ∃ bb : Bool, bb = decide (0 ≤ bk ∧ bk < (nn : Int)) := ⟨_, rfl⟩
  go_cut [62] (fun s62 wc => s62 = .bool bb ∧ wc = w6)
  case first =>
    by_cases g1 : 0 ≤ bk
    · by_cases g2 : bk < (nn : Int)
      · have e : bb = true := by rw [hbb]; exact decide_eq_true ⟨g1, g2⟩
        subst e
        clear hbb
        go_wp2_with fail
        go_meet
        case rel => exact ⟨rfl, rfl⟩
      · have e : bb = false := by rw [hbb]; exact decide_eq_false (fun h => g2 h.2)
        subst e
        clear hbb
        go_wp2_with fail
        go_meet
        case rel => exact ⟨rfl, rfl⟩
    · have e : bb = false := by rw [hbb]; exact decide_eq_false (fun h => g1 h.1)
      subst e
      clear hbb
      go_wp2_with fail
      go_meet
      case rel => exact ⟨rfl, rfl⟩
  case rest =>
  obtain ⟨rfl, hcw⟩ := hcut
  obtain rfl := hcw.symm
  have HBBB : Hid (bb = decide (0 ≤ bk ∧ bk < (nn : Int))) := hbb
  clear hbb
  go_upto_if 62 with fail
  go_cut [13] (fun s13 wc => ∃ num : Int, s13 = .int .i64 num ∧ wc = w6)
  case first =>
    cases bb with
    | true =>
      obtain ⟨g1, g2⟩ := of_decide_eq_true HBBB.out.symm
      have IR := iown_row RW6.on hFN
      obtain ⟨bn, on, hbn, hc⟩ := IR.cells (by omega)
      subst hbn
      obtain ⟨tt, htt⟩ : ∃ t : Nat, (nn : Int) - 1 - bk = (t : Int) := ⟨((nn : Int) - 1 - bk).toNat, by omega⟩
      have htl : tt < nn := by omega
      have cN := hc tt htl
      have q1 : (tt : Int) < (nn : Int) := by omega
      clear hc IR
      go_wp2_with fail
      go_meet
      case rel => exact ⟨el N tt, rfl, rfl⟩
    | false =>
      go_wp2_with fail
      go_meet
      case rel => exact ⟨nu, rfl, rfl⟩
  case rest =>
  obtain ⟨num, rfl, hcw⟩ := hcut
  obtain rfl := hcw.symm
  clear HBBB a5 a6
  have XS := S6.xs
  have XX := S6.xx
  have hbl := XA6.lt
  go_upto_region 14 with fail
  go_cut [14, 15] (fun s14 s15 wc => ∃ (bt bw : Nat), s14 = .pointer (some ⟨bt, 0, none⟩) ∧ s15 = .pointer (some ⟨bw, 0, none⟩) ∧ bt ≠ bw ∧ w6.heap.size ≤ bt ∧ w6.heap.size ≤ bw ∧ Blk wc bt 26 #[.int .i64 li, .int .i64 cn, .map mw, .map mh] ∧ Blk wc bw 30 #[.int .i64 li, .int .i64 cn, .slice ao W.length c, .slice bo H.length d] ∧ Below w6.heap.size w6 wc)
  case first =>
    as_aux_lemma =>
      refine wp_region_held_drew (S := fun w' => Blk w' w.heap.size 26 #[.int .i64 li, .int .i64 cn, .map mw, .map mh] ∧ Blk w' bx 30 #[.int .i64 li, .int .i64 cn, .slice ao W.length c, .slice bo H.length d]) (by kernel_rfl) (⟨XS, XX⟩) (fun hHeld => ?_)
      have Bwd : Below w6.heap.size w6 w6.drew := (Below.refl w6.heap.size w6).drew
      generalize hwd : w6.drew = wd at *
      refine wpAnyH_take (i := 0) (v := (.agg #[.int .i64 li, .int .i64 cn, .map mw, .map mh])) rfl (by kernel_rfl) (by kernel_rfl) (by kernel_rfl) (fun _ _ _ h => h) (Or.inl ⟨by rfl, ?_⟩) (by assumption) ?_
      · intro w' hSw
        have y0 : w'.cell? ⟨w.heap.size, 0, none⟩ = some (.int .i64 li) := hSw.1.cell 0 rfl
        have y1 : w'.cell? ⟨w.heap.size, 1, none⟩ = some (.int .i64 cn) := hSw.1.cell 1 rfl
        have y2 : w'.cell? ⟨w.heap.size, 2, none⟩ = some (.map mw) := hSw.1.cell 2 rfl
        have y3 : w'.cell? ⟨w.heap.size, 3, none⟩ = some (.map mh) := hSw.1.cell 3 rfl
        go_simp
      simp only [List.getElem_toArray, List.getElem_cons_zero, Act.put, List.setIfInBounds_toArray, List.set_cons_zero, List.set_cons_succ]
      refine wpAnyH_take (i := 1) (v := (.agg #[.int .i64 li, .int .i64 cn, .slice ao W.length c, .slice bo H.length d])) rfl (by kernel_rfl) (by kernel_rfl) (by kernel_rfl) (fun _ _ _ h => h) (Or.inl ⟨by rfl, ?_⟩) (by assumption) ?_
      · intro w' hSw
        have y0 : w'.cell? ⟨bx, 0, none⟩ = some (.int .i64 li) := hSw.2.cell 0 rfl
        have y1 : w'.cell? ⟨bx, 1, none⟩ = some (.int .i64 cn) := hSw.2.cell 1 rfl
        have y2 : w'.cell? ⟨bx, 2, none⟩ = some (.slice ao W.length c) := hSw.2.cell 2 rfl
        have y3 : w'.cell? ⟨bx, 3, none⟩ = some (.slice bo H.length d) := hSw.2.cell 3 rfl
        go_simp
      simp only [List.getElem_toArray, List.getElem_cons_succ, List.getElem_cons_zero, Act.put, List.setIfInBounds_toArray, List.set_cons_zero, List.set_cons_succ]
      refine wpAnyH_ready (rs := [2, 3]) (by kernel_rfl) (by simp) ?_
      refine AllReadyH.cons rfl (fun Kc hKc => ?_) (AllReadyH.cons rfl (fun Kc hKc => ?_) AllReadyH.nil)
      · have Ybt := blk_new wd 26 #[.int .i64 0, .int .i64 0, .map none, .map none]
        have BAbt := belowA wd (.cells #[.int .i64 0, .int .i64 0, .map none, .map none] 26)
        have BwG := below_then Bwd BAbt
        have sbt : wd.heap.size < (wd.alloc (.cells #[.int .i64 0, .int .i64 0, .map none, .map none] 26)).heap.size := by simp
        have zbt := Bwd.size
        simp only [List.getElem_toArray, List.getElem_cons_succ, List.getElem_cons_zero]
        rw [if_pos (by rfl)]
        go_wp2_with fail
        generalize hwwG : wd.alloc (.cells #[.int .i64 0, .int .i64 0, .map none, .map none] 26) = wG at *
        generalize hybt : wd.heap.size = bt at *
        refine hKc.out _ _ (⟨XS.below BwG, XX.below BwG⟩) (fun hHeld => ?_)
        clear hKc Kc
        refine wpAnyH_ready (rs := [3]) (by kernel_rfl) (by simp) ?_
        refine AllReadyH.cons rfl (fun Kc hKc => ?_) AllReadyH.nil
        have Ybw := blk_new wG 30 #[.int .i64 0, .int .i64 0, .slice none 0 0, .slice none 0 0]
        have BAbw := belowA wG (.cells #[.int .i64 0, .int .i64 0, .slice none 0 0, .slice none 0 0] 30)
        have BwI := below_then BwG BAbw
        have sbw : wG.heap.size < (wG.alloc (.cells #[.int .i64 0, .int .i64 0, .slice none 0 0, .slice none 0 0] 30)).heap.size := by simp
        have zbw := BwG.size
        have Ybt2 := Ybt.below BAbw
        simp only [List.getElem_toArray, List.getElem_cons_succ, List.getElem_cons_zero]
        rw [if_pos (by rfl)]
        go_wp2_with fail
        generalize hwwI : wG.alloc (.cells #[.int .i64 0, .int .i64 0, .slice none 0 0, .slice none 0 0] 30) = wI at *
        generalize hybw : wG.heap.size = bw at *
        refine hKc.out _ _ (⟨XS.below BwI, XX.below BwI⟩) (fun hHeld => ?_)
        clear hKc Kc
        refine wpAnyH_ready (rs := [4]) (by kernel_rfl) (by simp) ?_
        refine AllReadyH.cons rfl (fun Kc hKc => ?_) AllReadyH.nil
        have owJ : ∀ k, k ≠ bt → (wI.setRow bt #[.int .i64 li, .int .i64 cn, .map mw, .map mh]).heap[k]? = wI.heap[k]? := fun k hk => setRow_other _ _ _ _ hk
        have XwJ := Ybt2.row #[.int .i64 li, .int .i64 cn, .map mw, .map mh]
        have BwJ := belowR BwI (show w6.heap.size ≤ bt by omega) #[.int .i64 li, .int .i64 cn, .map mw, .map mh]
        have Ybw2 := Ybw.of_block (owJ _ (by omega))
        generalize hwwJ : wI.setRow bt #[.int .i64 li, .int .i64 cn, .map mw, .map mh] = wJ at *
        simp only [List.getElem_toArray, List.getElem_cons_succ, List.getElem_cons_zero]
        rw [if_pos (by rfl)]
        refine wp_store_row 26 _ _ rfl bt #[.int .i64 li, .int .i64 cn, .map mw, .map mh] rfl rfl 26 _ Ybt2 Try.infoHs rfl (sall _ _ _ _) ?_
        rw [hwwJ]
        refine hKc.out _ _ (⟨XS.below BwJ, XX.below BwJ⟩) (fun hHeld => ?_)
        clear hKc Kc
        simp only [Act.put]
        refine wpAnyH_ready (rs := [5]) (by kernel_rfl) (by simp) ?_
        refine AllReadyH.cons rfl (fun Kc hKc => ?_) AllReadyH.nil
        have owK : ∀ k, k ≠ bw → (wJ.setRow bw #[.int .i64 li, .int .i64 cn, .slice ao W.length c, .slice bo H.length d]).heap[k]? = wJ.heap[k]? := fun k hk => setRow_other _ _ _ _ hk
        have XwK := Ybw2.row #[.int .i64 li, .int .i64 cn, .slice ao W.length c, .slice bo H.length d]
        have BwK := belowR BwJ (show w6.heap.size ≤ bw by omega) #[.int .i64 li, .int .i64 cn, .slice ao W.length c, .slice bo H.length d]
        have YT := XwJ.of_block (owK _ (by omega))
        generalize hwwK : wJ.setRow bw #[.int .i64 li, .int .i64 cn, .slice ao W.length c, .slice bo H.length d] = wK at *
        simp only [List.getElem_toArray, List.getElem_cons_succ, List.getElem_cons_zero]
        rw [if_pos (by rfl)]
        refine wp_store_row 30 _ _ rfl bw #[.int .i64 li, .int .i64 cn, .slice ao W.length c, .slice bo H.length d] rfl rfl 30 _ Ybw2 Try.infoRsH rfl (rall _ _ _ _ _ _ _ _) ?_
        rw [hwwK]
        refine hKc.out _ _ (⟨XS.below BwK, XX.below BwK⟩) (fun hHeld => ?_)
        clear hKc Kc
        simp only [Act.put]
        refine wpAnyH_done (by kernel_rfl) ?_ _
        go_wp2_with fail
        go_meet
        case rel => exact ⟨bt, bw, rfl, rfl, by omega, by omega, by omega, YT, XwK, BwK⟩
      · have Ybw := blk_new wd 30 #[.int .i64 0, .int .i64 0, .slice none 0 0, .slice none 0 0]
        have BAbw := belowA wd (.cells #[.int .i64 0, .int .i64 0, .slice none 0 0, .slice none 0 0] 30)
        have BwG := below_then Bwd BAbw
        have sbw : wd.heap.size < (wd.alloc (.cells #[.int .i64 0, .int .i64 0, .slice none 0 0, .slice none 0 0] 30)).heap.size := by simp
        have zbw := Bwd.size
        simp only [List.getElem_toArray, List.getElem_cons_succ, List.getElem_cons_zero]
        rw [if_pos (by rfl)]
        go_wp2_with fail
        generalize hwwG : wd.alloc (.cells #[.int .i64 0, .int .i64 0, .slice none 0 0, .slice none 0 0] 30) = wG at *
        generalize hybw : wd.heap.size = bw at *
        refine hKc.out _ _ (⟨XS.below BwG, XX.below BwG⟩) (fun hHeld => ?_)
        clear hKc Kc
        refine wpAnyH_ready (rs := [2]) (by kernel_rfl) (by simp) ?_
        refine AllReadyH.cons rfl (fun Kc hKc => ?_) AllReadyH.nil
        have Ybt := blk_new wG 26 #[.int .i64 0, .int .i64 0, .map none, .map none]
        have BAbt := belowA wG (.cells #[.int .i64 0, .int .i64 0, .map none, .map none] 26)
        have BwI := below_then BwG BAbt
        have sbt : wG.heap.size < (wG.alloc (.cells #[.int .i64 0, .int .i64 0, .map none, .map none] 26)).heap.size := by simp
        have zbt := BwG.size
        have Ybw1 := Ybw.below BAbt
        simp only [List.getElem_toArray, List.getElem_cons_succ, List.getElem_cons_zero]
        rw [if_pos (by rfl)]
        go_wp2_with fail
        generalize hwwI : wG.alloc (.cells #[.int .i64 0, .int .i64 0, .map none, .map none] 26) = wI at *
        generalize hybt : wG.heap.size = bt at *
        refine hKc.out _ _ (⟨XS.below BwI, XX.below BwI⟩) (fun hHeld => ?_)
        clear hKc Kc
        refine wpAnyH_ready (rs := [4]) (by kernel_rfl) (by simp) ?_
        refine AllReadyH.cons rfl (fun Kc hKc => ?_) AllReadyH.nil
        have owJ : ∀ k, k ≠ bt → (wI.setRow bt #[.int .i64 li, .int .i64 cn, .map mw, .map mh]).heap[k]? = wI.heap[k]? := fun k hk => setRow_other _ _ _ _ hk
        have XwJ := Ybt.row #[.int .i64 li, .int .i64 cn, .map mw, .map mh]
        have BwJ := belowR BwI (show w6.heap.size ≤ bt by omega) #[.int .i64 li, .int .i64 cn, .map mw, .map mh]
        have Ybw2 := Ybw1.of_block (owJ _ (by omega))
        generalize hwwJ : wI.setRow bt #[.int .i64 li, .int .i64 cn, .map mw, .map mh] = wJ at *
        simp only [List.getElem_toArray, List.getElem_cons_succ, List.getElem_cons_zero]
        rw [if_pos (by rfl)]
        refine wp_store_row 26 _ _ rfl bt #[.int .i64 li, .int .i64 cn, .map mw, .map mh] rfl rfl 26 _ Ybt Try.infoHs rfl (sall _ _ _ _) ?_
        rw [hwwJ]
        refine hKc.out _ _ (⟨XS.below BwJ, XX.below BwJ⟩) (fun hHeld => ?_)
        clear hKc Kc
        simp only [Act.put]
        refine wpAnyH_ready (rs := [5]) (by kernel_rfl) (by simp) ?_
        refine AllReadyH.cons rfl (fun Kc hKc => ?_) AllReadyH.nil
        have owK : ∀ k, k ≠ bw → (wJ.setRow bw #[.int .i64 li, .int .i64 cn, .slice ao W.length c, .slice bo H.length d]).heap[k]? = wJ.heap[k]? := fun k hk => setRow_other _ _ _ _ hk
        have XwK := Ybw2.row #[.int .i64 li, .int .i64 cn, .slice ao W.length c, .slice bo H.length d]
        have BwK := belowR BwJ (show w6.heap.size ≤ bw by omega) #[.int .i64 li, .int .i64 cn, .slice ao W.length c, .slice bo H.length d]
        have YT := XwJ.of_block (owK _ (by omega))
        generalize hwwK : wJ.setRow bw #[.int .i64 li, .int .i64 cn, .slice ao W.length c, .slice bo H.length d] = wK at *
        simp only [List.getElem_toArray, List.getElem_cons_succ, List.getElem_cons_zero]
        rw [if_pos (by rfl)]
        refine wp_store_row 30 _ _ rfl bw #[.int .i64 li, .int .i64 cn, .slice ao W.length c, .slice bo H.length d] rfl rfl 30 _ Ybw2 Try.infoRsH rfl (rall _ _ _ _ _ _ _ _) ?_
        rw [hwwK]
        refine hKc.out _ _ (⟨XS.below BwK, XX.below BwK⟩) (fun hHeld => ?_)
        clear hKc Kc
        simp only [Act.put]
        refine wpAnyH_done (by kernel_rfl) ?_ _
        go_wp2_with fail
        go_meet
        case rel => exact ⟨bt, bw, rfl, rfl, by omega, by omega, by omega, YT, XwK, BwK⟩
  case rest =>
  obtain ⟨bt, bw, rfl, rfl, hne, hbt, hbw, XT7, XY7, B7⟩ := hcut
  obtain ⟨w7, hw7⟩ : ∃ x, x = wc := ⟨_, rfl⟩
  subst hw7
  have S7 := S6.below B7
  have RW7 := RW6.below B7
  have XA7 := XA6.below B7
  have BB7 := below_then BB6 B7
  have hl1 := S6.xs.lt
  have hl2 := S6.xx.lt
  have n1 : w.heap.size ≠ bt ∧ w.heap.size ≠ bw ∧ bx ≠ bt ∧ bx ≠ bw ∧ ba ≠ bt ∧ ba ≠ bw ∧ w.heap.size ≤ bt ∧ w.heap.size ≤ bw := by omega
  clear S6 RW6 XA6 BB6 B7 XS XX hbt hbw hl1 hl2 hbl
  have a0 : w7.cell? ⟨ba, 0, none⟩ = some (.int .i64 ki) := XA7.cell 0 rfl
  go_upto_block 2 with fail
  go_cut [10, 16, 17] (fun s10 s16 s17 wc => ∃ (code li' cn' : Int) (mw' mh' : Option Nat) (a' b' : Option Addr) (c' d' : Nat) (W' : List (Int × Wn)) (H' : List (Int × Hv)) (an' : Option Addr) (nn' cq' : Nat) (N' : List Int), s10 = .slice an' nn' cq' ∧ s16 = .int .i64 code ∧ s17 = .int .i64 code ∧ Sd wc w.heap.size bx li cn mw mh ao bo c d W H ∧ Sd wc bt bw li' cn' mw' mh' a' b' c' d' W' H' ∧ Rws wc w.heap.size (.slice ap6 (np + 1) cp6) (np + 1) P6 (.slice an' nn' cq') nn' N' ∧ Blk wc ba 34 #[.int .i64 ki, .int .i64 nw, .int .i64 te, .int .i64 ma, .int .i64 x, .int .i64 nu, .int .i64 bk, .int .i64 ep] ∧ Below w.heap.size w wc ∧ Fit N' ∧ nn' ≤ j + 1 ∧ (-9223372036854775808 ≤ li' ∧ li' ≤ 9223372036854775807) ∧ W'.length ≤ j + 1 ∧ H'.length ≤ j + 1)
  case first =>
    have S7s := S7.xs
    have S7x := S7.xx
    have T7 := S7.copy XT7 XY7
    by_cases k1 : ki = 1
    · subst k1
      obtain ⟨cn', m, code, W', hm, hW', K1', K2'⟩ := kd_ask li cn nw x W H hx (by omega) (by omega)
      have K1 : Hid _ := K1'
      have K2 : Hid _ := K2'
      clear K1' K2'
      have f1 : w7.cell? ⟨ba, 1, none⟩ = some (.int .i64 nw) := XA7.cell 1 rfl
      have f4 : w7.cell? ⟨ba, 4, none⟩ = some (.int .i64 x) := XA7.cell 4 rfl
      as_aux_lemma =>
      go_wp2_with (first
        | (refine wpList_load_row rfl 26 _ rfl w.heap.size rfl 26 _ (0, 0) _ S7s Try.underlying26 rfl Try.infoHs ?_)
        | (go_at_call 6; refine (K1.out w7 mw mh S7.mW S7.mH).mono ?_; rintro e w8 ⟨mw', mh', rfl, MW8, MH8, B8⟩; have S8 := S7.below B8; have XT8 := XT7.below B8; have XY8 := XY7.below B8; have XA8 := XA7.below B8; have RW8 := RW7.below B8; have BB8 := below_then BB7 B8; have S9 := S8.set XT8 (by decide) (by decide) n1.1 n1.2.2.1 #[.int .i64 li, .int .i64 cn', .map mw', .map mh']; have XT9 := XT8.row #[.int .i64 li, .int .i64 cn', .map mw', .map mh']; have XY9 := XY8.of_block (setRow_other w8 bt bw #[.int .i64 li, .int .i64 cn', .map mw', .map mh'] (Ne.symm hne)); have XA9 := XA8.of_block (setRow_other w8 bt ba #[.int .i64 li, .int .i64 cn', .map mw', .map mh'] n1.2.2.2.2.1); have RW9 := RW8.set XT8 (by decide) #[.int .i64 li, .int .i64 cn', .map mw', .map mh']; have MW9 := wnm_part MW8 (set_part XT8 (by decide) (by decide) #[.int .i64 li, .int .i64 cn', .map mw', .map mh']); have MH9 := hvm_part MH8 (set_part XT8 (by decide) (by decide) #[.int .i64 li, .int .i64 cn', .map mw', .map mh']); have BB9 := belowR BB8 n1.2.2.2.2.2.2.1 #[.int .i64 li, .int .i64 cn', .map mw', .map mh']; generalize hw9 : w8.setRow bt #[.int .i64 li, .int .i64 cn', .map mw', .map mh'] = w9 at *; have S9x := S9.xx; have g1 : w9.cell? ⟨ba, 1, none⟩ = some (.int .i64 nw) := XA9.cell 1 rfl; have g4 : w9.cell? ⟨ba, 4, none⟩ = some (.int .i64 x) := XA9.cell 4 rfl)
        | (refine wpList_store_row rfl 26 _ _ rfl bt _ rfl rfl 26 _ XT8 Try.infoHs rfl (sall _ _ _ _) ?_; rw [hw9])
        | (refine wpList_load_row rfl 30 _ rfl bx rfl 30 _ (0, 0) _ S9x Try.underlying30 rfl Try.infoRsH ?_)
        | (go_at_call 7; refine (K2.out w9 ao bo c d S9.rf).mono ?_; rintro e w10 ⟨a', c', b', d', rfl, RF10, B10⟩; have S10 := S9.below B10; have XT10 := XT9.below B10; have XY10 := XY9.below B10; have XA10 := XA9.below B10; have RW10 := RW9.below B10; have MW10 := MW9.below B10; have MH10 := MH9.below B10; have BB10 := below_then BB9 B10; have S11 := S10.set XY10 (by decide) (by decide) n1.2.1 n1.2.2.2.1 #[.int .i64 li, .int .i64 cn', .slice a' W'.length c', .slice b' H.length d']; have XT11 := XT10.of_block (setRow_other w10 bw bt #[.int .i64 li, .int .i64 cn', .slice a' W'.length c', .slice b' H.length d'] hne); have XY11 := XY10.row #[.int .i64 li, .int .i64 cn', .slice a' W'.length c', .slice b' H.length d']; have XA11 := XA10.of_block (setRow_other w10 bw ba #[.int .i64 li, .int .i64 cn', .slice a' W'.length c', .slice b' H.length d'] n1.2.2.2.2.2.1); have RW11 := RW10.set XY10 (by decide) #[.int .i64 li, .int .i64 cn', .slice a' W'.length c', .slice b' H.length d']; have MW11 := wnm_part MW10 (set_part XY10 (by decide) (by decide) #[.int .i64 li, .int .i64 cn', .slice a' W'.length c', .slice b' H.length d']); have MH11 := hvm_part MH10 (set_part XY10 (by decide) (by decide) #[.int .i64 li, .int .i64 cn', .slice a' W'.length c', .slice b' H.length d']); have RF11 := ref_part RF10 (set_part XY10 (by decide) (by decide) #[.int .i64 li, .int .i64 cn', .slice a' W'.length c', .slice b' H.length d']); have BB11 := belowR BB10 n1.2.2.2.2.2.2.2 #[.int .i64 li, .int .i64 cn', .slice a' W'.length c', .slice b' H.length d']; generalize hw11 : w10.setRow bw #[.int .i64 li, .int .i64 cn', .slice a' W'.length c', .slice b' H.length d'] = w11 at *; have T11 : Sd w11 bt bw li cn' mw' mh' a' b' c' d' W' H := ⟨XT11, XY11, MW11, MH11, RF11⟩; have BE := belowA w11 (.cells #[.int .i64 m] 3); have S12 := S11.below BE; have T12 := T11.below BE; have XA12 := XA11.below BE; have RW12 := RW11.below BE; have BB12 := below_then BB11 BE; have hcE : (w11.alloc (.cells #[.int .i64 m] 3)).cell? ⟨w11.heap.size, 0, none⟩ = some (.int .i64 m) := (blk_new w11 3 #[.int .i64 m]).cell 0 rfl; have zE := BB12.size; generalize hwE : w11.alloc (.cells #[.int .i64 m] 3) = wE at *)
        | (refine wpList_store_row rfl 30 _ _ rfl bw _ rfl rfl 30 _ XY10 Try.infoRsH rfl (rall _ _ _ _ _ _ _ _) ?_; rw [hw11])
        | (at_builtin; refine wpList_append_int3 rfl _ _ rfl w.heap.size _ nn N rfl RW12.on w11.heap.size m rfl hcE (by omega) zE ?_; intro an' cq' w13 O13 B13 G13 h13))
      go_meet
      case rel => exact ⟨code, li, cn', _, _, _, _, _, _, W', H, an', (nn + 1), cq', (N ++ [m]), rfl, rfl, rfl, (S12.grown RW12.on G13), (T12.grown RW12.on G13), (RW12.putN O13 G13 h13), (blk_grown XA12 (by decide) RW12.on G13), (BB12.trans B13), (hFN.snoc hm), by omega, by omega, by omega, by omega⟩
    by_cases k2 : ki = 2
    · subst k2
      obtain ⟨code, W', H', hW', hH', K1', K2'⟩ := kd_gr li cn nw te ma x num ep W H hx hep (by omega) (by omega)
      have K1 : Hid _ := K1'
      have K2 : Hid _ := K2'
      clear K1' K2'
      have f1 : w7.cell? ⟨ba, 1, none⟩ = some (.int .i64 nw) := XA7.cell 1 rfl
      have f2 : w7.cell? ⟨ba, 2, none⟩ = some (.int .i64 te) := XA7.cell 2 rfl
      have f3 : w7.cell? ⟨ba, 3, none⟩ = some (.int .i64 ma) := XA7.cell 3 rfl
      have f4 : w7.cell? ⟨ba, 4, none⟩ = some (.int .i64 x) := XA7.cell 4 rfl
      have f7 : w7.cell? ⟨ba, 7, none⟩ = some (.int .i64 ep) := XA7.cell 7 rfl
      as_aux_lemma =>
      go_wp2_with (first
        | (refine wpList_load_row rfl 26 _ rfl w.heap.size rfl 26 _ (0, 0) _ S7s Try.underlying26 rfl Try.infoHs ?_)
        | (go_at_call 8; refine (K1.out w7 mw mh S7.mW S7.mH).mono ?_; rintro e w8 ⟨mw', mh', rfl, MW8, MH8, B8⟩; have S8 := S7.below B8; have XT8 := XT7.below B8; have XY8 := XY7.below B8; have XA8 := XA7.below B8; have RW8 := RW7.below B8; have BB8 := below_then BB7 B8; have S9 := S8.set XT8 (by decide) (by decide) n1.1 n1.2.2.1 #[.int .i64 li, .int .i64 cn, .map mw', .map mh']; have XT9 := XT8.row #[.int .i64 li, .int .i64 cn, .map mw', .map mh']; have XY9 := XY8.of_block (setRow_other w8 bt bw #[.int .i64 li, .int .i64 cn, .map mw', .map mh'] (Ne.symm hne)); have XA9 := XA8.of_block (setRow_other w8 bt ba #[.int .i64 li, .int .i64 cn, .map mw', .map mh'] n1.2.2.2.2.1); have RW9 := RW8.set XT8 (by decide) #[.int .i64 li, .int .i64 cn, .map mw', .map mh']; have MW9 := wnm_part MW8 (set_part XT8 (by decide) (by decide) #[.int .i64 li, .int .i64 cn, .map mw', .map mh']); have MH9 := hvm_part MH8 (set_part XT8 (by decide) (by decide) #[.int .i64 li, .int .i64 cn, .map mw', .map mh']); have BB9 := belowR BB8 n1.2.2.2.2.2.2.1 #[.int .i64 li, .int .i64 cn, .map mw', .map mh']; generalize hw9 : w8.setRow bt #[.int .i64 li, .int .i64 cn, .map mw', .map mh'] = w9 at *; have S9x := S9.xx; have g1 : w9.cell? ⟨ba, 1, none⟩ = some (.int .i64 nw) := XA9.cell 1 rfl; have g2 : w9.cell? ⟨ba, 2, none⟩ = some (.int .i64 te) := XA9.cell 2 rfl; have g3 : w9.cell? ⟨ba, 3, none⟩ = some (.int .i64 ma) := XA9.cell 3 rfl; have g4 : w9.cell? ⟨ba, 4, none⟩ = some (.int .i64 x) := XA9.cell 4 rfl; have g7 : w9.cell? ⟨ba, 7, none⟩ = some (.int .i64 ep) := XA9.cell 7 rfl)
        | (refine wpList_store_row rfl 26 _ _ rfl bt _ rfl rfl 26 _ XT8 Try.infoHs rfl (sall _ _ _ _) ?_; rw [hw9])
        | (refine wpList_load_row rfl 30 _ rfl bx rfl 30 _ (0, 0) _ S9x Try.underlying30 rfl Try.infoRsH ?_)
        | (go_at_call 9; refine (K2.out w9 ao bo c d S9.rf).mono ?_; rintro e w10 ⟨a', c', b', d', rfl, RF10, B10⟩; have S10 := S9.below B10; have XT10 := XT9.below B10; have XY10 := XY9.below B10; have XA10 := XA9.below B10; have RW10 := RW9.below B10; have MW10 := MW9.below B10; have MH10 := MH9.below B10; have BB10 := below_then BB9 B10; have S11 := S10.set XY10 (by decide) (by decide) n1.2.1 n1.2.2.2.1 #[.int .i64 li, .int .i64 cn, .slice a' W'.length c', .slice b' H'.length d']; have XT11 := XT10.of_block (setRow_other w10 bw bt #[.int .i64 li, .int .i64 cn, .slice a' W'.length c', .slice b' H'.length d'] hne); have XY11 := XY10.row #[.int .i64 li, .int .i64 cn, .slice a' W'.length c', .slice b' H'.length d']; have XA11 := XA10.of_block (setRow_other w10 bw ba #[.int .i64 li, .int .i64 cn, .slice a' W'.length c', .slice b' H'.length d'] n1.2.2.2.2.2.1); have RW11 := RW10.set XY10 (by decide) #[.int .i64 li, .int .i64 cn, .slice a' W'.length c', .slice b' H'.length d']; have MW11 := wnm_part MW10 (set_part XY10 (by decide) (by decide) #[.int .i64 li, .int .i64 cn, .slice a' W'.length c', .slice b' H'.length d']); have MH11 := hvm_part MH10 (set_part XY10 (by decide) (by decide) #[.int .i64 li, .int .i64 cn, .slice a' W'.length c', .slice b' H'.length d']); have RF11 := ref_part RF10 (set_part XY10 (by decide) (by decide) #[.int .i64 li, .int .i64 cn, .slice a' W'.length c', .slice b' H'.length d']); have BB11 := belowR BB10 n1.2.2.2.2.2.2.2 #[.int .i64 li, .int .i64 cn, .slice a' W'.length c', .slice b' H'.length d']; generalize hw11 : w10.setRow bw #[.int .i64 li, .int .i64 cn, .slice a' W'.length c', .slice b' H'.length d'] = w11 at *; have T11 : Sd w11 bt bw li cn mw' mh' a' b' c' d' W' H' := ⟨XT11, XY11, MW11, MH11, RF11⟩)
        | (refine wpList_store_row rfl 30 _ _ rfl bw _ rfl rfl 30 _ XY10 Try.infoRsH rfl (rall _ _ _ _ _ _ _ _) ?_; rw [hw11]))
      go_meet
      case rel => exact ⟨code, li, cn, _, _, _, _, _, _, W', H', an, nn, cq, N, rfl, rfl, rfl, S11, T11, RW11, XA11, BB11, hFN, by omega, by omega, by omega, by omega⟩
    by_cases k3 : ki = 3
    · subst k3
      obtain ⟨code, W', hW', K1', K2'⟩ := kd_den li cn x num W H hx (by omega) (by omega)
      have K1 : Hid _ := K1'
      have K2 : Hid _ := K2'
      clear K1' K2'
      have f4 : w7.cell? ⟨ba, 4, none⟩ = some (.int .i64 x) := XA7.cell 4 rfl
      as_aux_lemma =>
      go_wp2_with (first
        | (refine wpList_load_row rfl 26 _ rfl w.heap.size rfl 26 _ (0, 0) _ S7s Try.underlying26 rfl Try.infoHs ?_)
        | (go_at_call 10; refine (K1.out w7 mw mh S7.mW S7.mH).mono ?_; rintro e w8 ⟨mw', mh', rfl, MW8, MH8, B8⟩; have S8 := S7.below B8; have XT8 := XT7.below B8; have XY8 := XY7.below B8; have XA8 := XA7.below B8; have RW8 := RW7.below B8; have BB8 := below_then BB7 B8; have S9 := S8.set XT8 (by decide) (by decide) n1.1 n1.2.2.1 #[.int .i64 li, .int .i64 cn, .map mw', .map mh']; have XT9 := XT8.row #[.int .i64 li, .int .i64 cn, .map mw', .map mh']; have XY9 := XY8.of_block (setRow_other w8 bt bw #[.int .i64 li, .int .i64 cn, .map mw', .map mh'] (Ne.symm hne)); have XA9 := XA8.of_block (setRow_other w8 bt ba #[.int .i64 li, .int .i64 cn, .map mw', .map mh'] n1.2.2.2.2.1); have RW9 := RW8.set XT8 (by decide) #[.int .i64 li, .int .i64 cn, .map mw', .map mh']; have MW9 := wnm_part MW8 (set_part XT8 (by decide) (by decide) #[.int .i64 li, .int .i64 cn, .map mw', .map mh']); have MH9 := hvm_part MH8 (set_part XT8 (by decide) (by decide) #[.int .i64 li, .int .i64 cn, .map mw', .map mh']); have BB9 := belowR BB8 n1.2.2.2.2.2.2.1 #[.int .i64 li, .int .i64 cn, .map mw', .map mh']; generalize hw9 : w8.setRow bt #[.int .i64 li, .int .i64 cn, .map mw', .map mh'] = w9 at *; have S9x := S9.xx; have g4 : w9.cell? ⟨ba, 4, none⟩ = some (.int .i64 x) := XA9.cell 4 rfl)
        | (refine wpList_store_row rfl 26 _ _ rfl bt _ rfl rfl 26 _ XT8 Try.infoHs rfl (sall _ _ _ _) ?_; rw [hw9])
        | (refine wpList_load_row rfl 30 _ rfl bx rfl 30 _ (0, 0) _ S9x Try.underlying30 rfl Try.infoRsH ?_)
        | (go_at_call 11; refine (K2.out w9 ao bo c d S9.rf).mono ?_; rintro e w10 ⟨a', c', b', d', rfl, RF10, B10⟩; have S10 := S9.below B10; have XT10 := XT9.below B10; have XY10 := XY9.below B10; have XA10 := XA9.below B10; have RW10 := RW9.below B10; have MW10 := MW9.below B10; have MH10 := MH9.below B10; have BB10 := below_then BB9 B10; have S11 := S10.set XY10 (by decide) (by decide) n1.2.1 n1.2.2.2.1 #[.int .i64 li, .int .i64 cn, .slice a' W'.length c', .slice b' H.length d']; have XT11 := XT10.of_block (setRow_other w10 bw bt #[.int .i64 li, .int .i64 cn, .slice a' W'.length c', .slice b' H.length d'] hne); have XY11 := XY10.row #[.int .i64 li, .int .i64 cn, .slice a' W'.length c', .slice b' H.length d']; have XA11 := XA10.of_block (setRow_other w10 bw ba #[.int .i64 li, .int .i64 cn, .slice a' W'.length c', .slice b' H.length d'] n1.2.2.2.2.2.1); have RW11 := RW10.set XY10 (by decide) #[.int .i64 li, .int .i64 cn, .slice a' W'.length c', .slice b' H.length d']; have MW11 := wnm_part MW10 (set_part XY10 (by decide) (by decide) #[.int .i64 li, .int .i64 cn, .slice a' W'.length c', .slice b' H.length d']); have MH11 := hvm_part MH10 (set_part XY10 (by decide) (by decide) #[.int .i64 li, .int .i64 cn, .slice a' W'.length c', .slice b' H.length d']); have RF11 := ref_part RF10 (set_part XY10 (by decide) (by decide) #[.int .i64 li, .int .i64 cn, .slice a' W'.length c', .slice b' H.length d']); have BB11 := belowR BB10 n1.2.2.2.2.2.2.2 #[.int .i64 li, .int .i64 cn, .slice a' W'.length c', .slice b' H.length d']; generalize hw11 : w10.setRow bw #[.int .i64 li, .int .i64 cn, .slice a' W'.length c', .slice b' H.length d'] = w11 at *; have T11 : Sd w11 bt bw li cn mw' mh' a' b' c' d' W' H := ⟨XT11, XY11, MW11, MH11, RF11⟩)
        | (refine wpList_store_row rfl 30 _ _ rfl bw _ rfl rfl 30 _ XY10 Try.infoRsH rfl (rall _ _ _ _ _ _ _ _) ?_; rw [hw11]))
      go_meet
      case rel => exact ⟨code, li, cn, _, _, _, _, _, _, W', H, an, nn, cq, N, rfl, rfl, rfl, S11, T11, RW11, XA11, BB11, hFN, by omega, by omega, by omega, by omega⟩
    by_cases k4 : ki = 4
    · subst k4
      obtain ⟨le, code, H', hH', K1', K2'⟩ := kd_let li cn x W H hx (by omega) (by omega)
      have K1 : Hid _ := K1'
      have K2 : Hid _ := K2'
      clear K1' K2'
      have f4 : w7.cell? ⟨ba, 4, none⟩ = some (.int .i64 x) := XA7.cell 4 rfl
      as_aux_lemma =>
      go_wp2_with (first
        | (refine wpList_load_row rfl 26 _ rfl w.heap.size rfl 26 _ (0, 0) _ S7s Try.underlying26 rfl Try.infoHs ?_)
        | (go_at_call 12; refine (K1.out w7 mw mh S7.mW S7.mH).mono ?_; rintro e w8 ⟨mw', mh', rfl, MW8, MH8, B8⟩; have S8 := S7.below B8; have XT8 := XT7.below B8; have XY8 := XY7.below B8; have XA8 := XA7.below B8; have RW8 := RW7.below B8; have BB8 := below_then BB7 B8; have S9 := S8.set XT8 (by decide) (by decide) n1.1 n1.2.2.1 #[.int .i64 li, .int .i64 cn, .map mw', .map mh']; have XT9 := XT8.row #[.int .i64 li, .int .i64 cn, .map mw', .map mh']; have XY9 := XY8.of_block (setRow_other w8 bt bw #[.int .i64 li, .int .i64 cn, .map mw', .map mh'] (Ne.symm hne)); have XA9 := XA8.of_block (setRow_other w8 bt ba #[.int .i64 li, .int .i64 cn, .map mw', .map mh'] n1.2.2.2.2.1); have RW9 := RW8.set XT8 (by decide) #[.int .i64 li, .int .i64 cn, .map mw', .map mh']; have MW9 := wnm_part MW8 (set_part XT8 (by decide) (by decide) #[.int .i64 li, .int .i64 cn, .map mw', .map mh']); have MH9 := hvm_part MH8 (set_part XT8 (by decide) (by decide) #[.int .i64 li, .int .i64 cn, .map mw', .map mh']); have BB9 := belowR BB8 n1.2.2.2.2.2.2.1 #[.int .i64 li, .int .i64 cn, .map mw', .map mh']; generalize hw9 : w8.setRow bt #[.int .i64 li, .int .i64 cn, .map mw', .map mh'] = w9 at *; have S9x := S9.xx; have g4 : w9.cell? ⟨ba, 4, none⟩ = some (.int .i64 x) := XA9.cell 4 rfl)
        | (refine wpList_store_row rfl 26 _ _ rfl bt _ rfl rfl 26 _ XT8 Try.infoHs rfl (sall _ _ _ _) ?_; rw [hw9])
        | (refine wpList_load_row rfl 30 _ rfl bx rfl 30 _ (0, 0) _ S9x Try.underlying30 rfl Try.infoRsH ?_)
        | (go_at_call 13; refine (K2.out w9 ao bo c d S9.rf).mono ?_; rintro e w10 ⟨a', c', b', d', rfl, RF10, B10⟩; have S10 := S9.below B10; have XT10 := XT9.below B10; have XY10 := XY9.below B10; have XA10 := XA9.below B10; have RW10 := RW9.below B10; have MW10 := MW9.below B10; have MH10 := MH9.below B10; have BB10 := below_then BB9 B10; have S11 := S10.set XY10 (by decide) (by decide) n1.2.1 n1.2.2.2.1 #[.int .i64 li, .int .i64 cn, .slice a' W.length c', .slice b' H'.length d']; have XT11 := XT10.of_block (setRow_other w10 bw bt #[.int .i64 li, .int .i64 cn, .slice a' W.length c', .slice b' H'.length d'] hne); have XY11 := XY10.row #[.int .i64 li, .int .i64 cn, .slice a' W.length c', .slice b' H'.length d']; have XA11 := XA10.of_block (setRow_other w10 bw ba #[.int .i64 li, .int .i64 cn, .slice a' W.length c', .slice b' H'.length d'] n1.2.2.2.2.2.1); have RW11 := RW10.set XY10 (by decide) #[.int .i64 li, .int .i64 cn, .slice a' W.length c', .slice b' H'.length d']; have MW11 := wnm_part MW10 (set_part XY10 (by decide) (by decide) #[.int .i64 li, .int .i64 cn, .slice a' W.length c', .slice b' H'.length d']); have MH11 := hvm_part MH10 (set_part XY10 (by decide) (by decide) #[.int .i64 li, .int .i64 cn, .slice a' W.length c', .slice b' H'.length d']); have RF11 := ref_part RF10 (set_part XY10 (by decide) (by decide) #[.int .i64 li, .int .i64 cn, .slice a' W.length c', .slice b' H'.length d']); have BB11 := belowR BB10 n1.2.2.2.2.2.2.2 #[.int .i64 li, .int .i64 cn, .slice a' W.length c', .slice b' H'.length d']; generalize hw11 : w10.setRow bw #[.int .i64 li, .int .i64 cn, .slice a' W.length c', .slice b' H'.length d'] = w11 at *; have T11 : Sd w11 bt bw li cn mw' mh' a' b' c' d' W H' := ⟨XT11, XY11, MW11, MH11, RF11⟩)
        | (refine wpList_store_row rfl 30 _ _ rfl bw _ rfl rfl 30 _ XY10 Try.infoRsH rfl (rall _ _ _ _ _ _ _ _) ?_; rw [hw11]))
      go_meet
      case rel => exact ⟨code, li, cn, _, _, _, _, _, _, W, H', an, nn, cq, N, rfl, rfl, rfl, S11, T11, RW11, XA11, BB11, hFN, by omega, by omega, by omega, by omega⟩
    by_cases k5 : ki = 5
    · subst k5
      obtain ⟨li', W', H', hl', hW', hH', K1', K2'⟩ := kd_crash li cn W H hli
      have K1 : Hid _ := K1'
      have K2 : Hid _ := K2'
      clear K1' K2'
      as_aux_lemma =>
      go_wp2_with (first
        | (refine wpList_load_row rfl 26 _ rfl w.heap.size rfl 26 _ (0, 0) _ S7s Try.underlying26 rfl Try.infoHs ?_)
        | (go_at_call 14; refine (K1.out w7 mw mh S7.mW S7.mH).mono ?_; rintro e w8 ⟨mw', mh', rfl, MW8, MH8, B8⟩; have S8 := S7.below B8; have XT8 := XT7.below B8; have XY8 := XY7.below B8; have XA8 := XA7.below B8; have RW8 := RW7.below B8; have BB8 := below_then BB7 B8; have S9 := S8.set XT8 (by decide) (by decide) n1.1 n1.2.2.1 #[.int .i64 li', .int .i64 0, .map mw', .map mh']; have XT9 := XT8.row #[.int .i64 li', .int .i64 0, .map mw', .map mh']; have XY9 := XY8.of_block (setRow_other w8 bt bw #[.int .i64 li', .int .i64 0, .map mw', .map mh'] (Ne.symm hne)); have XA9 := XA8.of_block (setRow_other w8 bt ba #[.int .i64 li', .int .i64 0, .map mw', .map mh'] n1.2.2.2.2.1); have RW9 := RW8.set XT8 (by decide) #[.int .i64 li', .int .i64 0, .map mw', .map mh']; have MW9 := wnm_part MW8 (set_part XT8 (by decide) (by decide) #[.int .i64 li', .int .i64 0, .map mw', .map mh']); have MH9 := hvm_part MH8 (set_part XT8 (by decide) (by decide) #[.int .i64 li', .int .i64 0, .map mw', .map mh']); have BB9 := belowR BB8 n1.2.2.2.2.2.2.1 #[.int .i64 li', .int .i64 0, .map mw', .map mh']; generalize hw9 : w8.setRow bt #[.int .i64 li', .int .i64 0, .map mw', .map mh'] = w9 at *; have S9x := S9.xx)
        | (refine wpList_store_row rfl 26 _ _ rfl bt _ rfl rfl 26 _ XT8 Try.infoHs rfl (sall _ _ _ _) ?_; rw [hw9])
        | (refine wpList_load_row rfl 30 _ rfl bx rfl 30 _ (0, 0) _ S9x Try.underlying30 rfl Try.infoRsH ?_)
        | (go_at_call 15; refine (K2.out w9 ao bo c d S9.rf).mono ?_; rintro e w10 ⟨a', c', b', d', rfl, RF10, B10⟩; have S10 := S9.below B10; have XT10 := XT9.below B10; have XY10 := XY9.below B10; have XA10 := XA9.below B10; have RW10 := RW9.below B10; have MW10 := MW9.below B10; have MH10 := MH9.below B10; have BB10 := below_then BB9 B10; have S11 := S10.set XY10 (by decide) (by decide) n1.2.1 n1.2.2.2.1 #[.int .i64 li', .int .i64 0, .slice a' W'.length c', .slice b' H'.length d']; have XT11 := XT10.of_block (setRow_other w10 bw bt #[.int .i64 li', .int .i64 0, .slice a' W'.length c', .slice b' H'.length d'] hne); have XY11 := XY10.row #[.int .i64 li', .int .i64 0, .slice a' W'.length c', .slice b' H'.length d']; have XA11 := XA10.of_block (setRow_other w10 bw ba #[.int .i64 li', .int .i64 0, .slice a' W'.length c', .slice b' H'.length d'] n1.2.2.2.2.2.1); have RW11 := RW10.set XY10 (by decide) #[.int .i64 li', .int .i64 0, .slice a' W'.length c', .slice b' H'.length d']; have MW11 := wnm_part MW10 (set_part XY10 (by decide) (by decide) #[.int .i64 li', .int .i64 0, .slice a' W'.length c', .slice b' H'.length d']); have MH11 := hvm_part MH10 (set_part XY10 (by decide) (by decide) #[.int .i64 li', .int .i64 0, .slice a' W'.length c', .slice b' H'.length d']); have RF11 := ref_part RF10 (set_part XY10 (by decide) (by decide) #[.int .i64 li', .int .i64 0, .slice a' W'.length c', .slice b' H'.length d']); have BB11 := belowR BB10 n1.2.2.2.2.2.2.2 #[.int .i64 li', .int .i64 0, .slice a' W'.length c', .slice b' H'.length d']; generalize hw11 : w10.setRow bw #[.int .i64 li', .int .i64 0, .slice a' W'.length c', .slice b' H'.length d'] = w11 at *; have T11 : Sd w11 bt bw li' 0 mw' mh' a' b' c' d' W' H' := ⟨XT11, XY11, MW11, MH11, RF11⟩)
        | (refine wpList_store_row rfl 30 _ _ rfl bw _ rfl rfl 30 _ XY10 Try.infoRsH rfl (rall _ _ _ _ _ _ _ _) ?_; rw [hw11]))
      go_meet
      case rel => exact ⟨0, li', 0, _, _, _, _, _, _, W', H', an, nn, cq, N, rfl, rfl, rfl, S11, T11, RW11, XA11, BB11, hFN, by omega, by omega, by omega, by omega⟩
    go_wp2_with fail
    go_meet
    case rel => exact ⟨0, li, cn, _, _, _, _, _, _, W, H, an, nn, cq, N, rfl, rfl, rfl, S7, T7, RW7, XA7, BB7, hFN, by omega, hli, by omega, by omega⟩
  case rest =>
  obtain ⟨code, li', cn', mw', mh', a', b', c', d', W', H', an', nn', cq', N', rfl, rfl, rfl, S14, T14, RW14, XA14, BB14, hFN', hnn', hli', hW', hH'⟩ := hcut
  obtain ⟨w14, hw14⟩ : ∃ x, x = wc := ⟨_, rfl⟩
  subst hw14
  have AL1 := alike_any li cn nw mw mh ao bo ap6 c d cp6 (np + 1) W H P6 w14 S14.mW S14.mH S14.rf (iown_row RW14.op hFP6) (by omega) (by omega) (by omega)
  have AL2 : Hid (∀ wv, Below w14.heap.size w14 wv → _) := fun wv hb => alike_any li' cn' nw mw' mh' a' b' ap6 c' d' cp6 (np + 1) W' H' P6 wv (T14.below hb).mW (T14.below hb).mH (T14.below hb).rf (iown_row (RW14.below hb).op hFP6) (by omega) (by omega) (by omega)
  unfold hsV rsV at AL1 AL2
  have S14s := S14.xs
  have S14x := S14.xx
  have s0c : w14.cell? ⟨w.heap.size, 0, none⟩ = some (.int .i64 li) := S14s.cell 0 rfl; have s1c : w14.cell? ⟨w.heap.size, 1, none⟩ = some (.int .i64 cn) := S14s.cell 1 rfl; have s2c : w14.cell? ⟨w.heap.size, 2, none⟩ = some (.map mw) := S14s.cell 2 rfl; have s3c : w14.cell? ⟨w.heap.size, 3, none⟩ = some (.map mh) := S14s.cell 3 rfl
  have x0c : w14.cell? ⟨bx, 0, none⟩ = some (.int .i64 li) := S14x.cell 0 rfl; have x1c : w14.cell? ⟨bx, 1, none⟩ = some (.int .i64 cn) := S14x.cell 1 rfl; have x2c : w14.cell? ⟨bx, 2, none⟩ = some (.slice ao W.length c) := S14x.cell 2 rfl; have x3c : w14.cell? ⟨bx, 3, none⟩ = some (.slice bo H.length d) := S14x.cell 3 rfl
  have a1 : w14.cell? ⟨ba, 1, none⟩ = some (.int .i64 nw) := XA14.cell 1 rfl
  clear S7 RW7 XA7 BB7 XT7 XY7
  go_upto_region 41 with (first
    | (go_at_call_of 16 cn; refine AL1.mono ?_; rintro e w15 ⟨rfl, B15⟩; have T15s := (T14.below B15).xs; have T15x := (T14.below B15).xx; have XA15 := XA14.below B15; have AL3 := AL2.out w15 B15; clear AL1; clear s0c s1c s2c s3c x0c x1c x2c x3c a1; have s0c : w15.cell? ⟨bt, 0, none⟩ = some (.int .i64 li') := T15s.cell 0 rfl; have s1c : w15.cell? ⟨bt, 1, none⟩ = some (.int .i64 cn') := T15s.cell 1 rfl; have s2c : w15.cell? ⟨bt, 2, none⟩ = some (.map mw') := T15s.cell 2 rfl; have s3c : w15.cell? ⟨bt, 3, none⟩ = some (.map mh') := T15s.cell 3 rfl; have x0c : w15.cell? ⟨bw, 0, none⟩ = some (.int .i64 li') := T15x.cell 0 rfl; have x1c : w15.cell? ⟨bw, 1, none⟩ = some (.int .i64 cn') := T15x.cell 1 rfl; have x2c : w15.cell? ⟨bw, 2, none⟩ = some (.slice a' W'.length c') := T15x.cell 2 rfl; have x3c : w15.cell? ⟨bw, 3, none⟩ = some (.slice b' H'.length d') := T15x.cell 3 rfl; have g1 : w15.cell? ⟨ba, 1, none⟩ = some (.int .i64 nw) := XA15.cell 1 rfl)
    | (go_at_call_of 16 cn'; refine AL3.mono ?_; rintro e w16 ⟨rfl, B16⟩))
  have BT := below_then B15 B16
  have T16 := T14.below BT
  have S16 := S14.below BT
  have RW16 := RW14.below BT
  have BB16 := below_then BB14 BT
  have T16s := T16.xs
  have S16s := S16.xs
  have T17 := T16.set S16s (by decide) (by decide) (Ne.symm n1.1) (Ne.symm n1.2.1) #[.int .i64 li', .int .i64 cn', .map mw', .map mh']
  have X17 := S16s.row #[.int .i64 li', .int .i64 cn', .map mw', .map mh']
  have Y17 := S16.xx.of_block (setRow_other w16 w.heap.size bx #[.int .i64 li', .int .i64 cn', .map mw', .map mh'] (by omega))
  have RW17 := RW16.set S16s (by decide) #[.int .i64 li', .int .i64 cn', .map mw', .map mh']
  have BB17 := belowR BB16 (Nat.le_refl _) #[.int .i64 li', .int .i64 cn', .map mw', .map mh']
  generalize hw17 : w16.setRow w.heap.size #[.int .i64 li', .int .i64 cn', .map mw', .map mh'] = w17 at *
  have T17x := T17.xx
  have X18 := X17.of_block (setRow_other w17 bx w.heap.size #[.int .i64 li', .int .i64 cn', .slice a' W'.length c', .slice b' H'.length d'] (by omega))
  have Y18 := Y17.row #[.int .i64 li', .int .i64 cn', .slice a' W'.length c', .slice b' H'.length d']
  have MW18 := wnm_part T17.mW (set_part Y17 (by decide) (by decide) #[.int .i64 li', .int .i64 cn', .slice a' W'.length c', .slice b' H'.length d'])
  have MH18 := hvm_part T17.mH (set_part Y17 (by decide) (by decide) #[.int .i64 li', .int .i64 cn', .slice a' W'.length c', .slice b' H'.length d'])
  have RF18 := ref_part T17.rf (set_part Y17 (by decide) (by decide) #[.int .i64 li', .int .i64 cn', .slice a' W'.length c', .slice b' H'.length d'])
  have RW18 := RW17.set Y17 (by decide) #[.int .i64 li', .int .i64 cn', .slice a' W'.length c', .slice b' H'.length d']
  have BB18 := belowR BB17 (show w.heap.size ≤ bx by omega) #[.int .i64 li', .int .i64 cn', .slice a' W'.length c', .slice b' H'.length d']
  generalize hw18 : w17.setRow bx #[.int .i64 li', .int .i64 cn', .slice a' W'.length c', .slice b' H'.length d'] = w18 at *
  clear AL2 AL3 S14s S14x T15s T15x g1 s0c s1c s2c s3c x0c x1c x2c x3c
  go_wp2_with (first
    | (refine wpList_load_row rfl 26 _ rfl bt rfl 26 _ (0, 0) _ T16s Try.underlying26 rfl Try.infoHs ?_)
    | (refine wpList_store_row rfl 26 _ _ rfl w.heap.size _ rfl rfl 26 _ S16s Try.infoHs rfl (sall _ _ _ _) ?_; rw [hw17])
    | (refine wpList_load_row rfl 30 _ rfl bw rfl 30 _ (0, 0) _ T17x Try.underlying30 rfl Try.infoRsH ?_)
    | (refine wpList_store_row rfl 30 _ _ rfl bx _ rfl rfl 30 _ Y17 Try.infoRsH rfl (rall _ _ _ _ _ _ _ _) ?_; rw [hw18]))
  go_roundg (30 - (j + 1))
  case measure => omega
  case rel => exact ⟨j + 1, np + 1, cp6, nn', cq', ap6, an', P6, N', li', cn', mw', mh', a', b', c', d', W', H', by omega, rfl, rfl, rfl, by go_num, ⟨X18, Y18, MW18, MH18, RF18⟩, RW18, by omega, hnn', hFP6, hFN', hW', hH', hli', BB18⟩
end Go.Proofs.Ytifbnnffejamaaa
