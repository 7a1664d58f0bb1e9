/- LeasePlays. Written by tools/genlwalk.py. -/
import Derived.Test.YtacmphckmjangaaLpKind
import Derived.Test.YtacmphckmjangaaLsAwake
import Derived.Deep.DeepCutAuto
import Derived.Deep.CutBlock
namespace Go.Proofs.Ytacmphckmjangaa
open Go.ChangeShapes Go.WideShapes Go.ChangeAt Go.RowKit Go.Maps
theorem Try.infoLa : (Try.prog.info? 36).map (·.size) = some 6 := by kernel_rfl
theorem hall6 (a b c d e f : Int) : Array.all (#[.int .i64 a, .int .i64 b, .int .i64 c, .int .i64 d, .int .i64 e, .int .i64 f] : Array Value) (fun v => v.oneCell') = true := by simp [Value.oneCell']
set_option maxRecDepth 100000 in
set_option maxHeartbeats 64000000 in
theorem leasePlays_walk (ep0 q0 : Int) (al : Option Addr) (nl cl : Nat) (ZL : Nat → Rh) (aa : Option Addr) (n ca : Nat) (Z : Nat → La) (w : World) (hep0 : -9223372036854775808 ≤ ep0 ∧ ep0 ≤ 9223372036854775807) (_hq0 : -9223372036854775808 ≤ q0 ∧ q0 ≤ 9223372036854775807) (hL : RhAt w al nl ZL) (hA : LaAt w aa n Z) :
    Calls Try.prog 3 #[.int .i64 ep0, .int .i64 q0, .slice al nl cl, .slice aa n ca] w fun e w' => e = .returned (.bool true) ∧ Below w.heap.size w w' := by
  have HA : Hid (LaAt w aa n Z) := hA
  have hmax := hA.max
  have BG := lbegin_any ep0 q0 al nl cl ZL w hL
  unfold lsV at BG
  clear hA hL
  go_enter Try.func3, Try.ntmps3
  go_wp2_with (first
    | (go_at_call 4; refine BG.mono ?_; rintro e w1 ⟨bm, v1, R, rfl, M1, O1, hR10, hin, hbm, B1⟩; obtain ⟨ao, c, ev1⟩ := HRow.shape O1; subst ev1; obtain ⟨wA, hwA⟩ : ∃ x, x = w1.alloc (.cells #[.int .i64 0, .int .i64 0, .map none] 26) := ⟨_, rfl⟩; have XA1 := blk_new w1 26 #[.int .i64 0, .int .i64 0, .map none]; have BA1 := belowA w1 (.cells #[.int .i64 0, .int .i64 0, .map none] 26); rw [← hwA] at XA1 BA1; have sA : w1.heap.size + 1 ≤ wA.heap.size := (by rw [hwA]; simp); have XA2 := blk_new wA 28 #[.int .i64 0, .int .i64 0, .slice none 0 0]; have BA2 := belowA wA (.cells #[.int .i64 0, .int .i64 0, .slice none 0 0] 28); have XA12 := XA1.below BA2; have sB : wA.heap.size + 1 ≤ (wA.alloc (.cells #[.int .i64 0, .int .i64 0, .slice none 0 0] 28)).heap.size := (by simp); have hwA' := hwA.symm; clear hwA; generalize hwB : wA.alloc (.cells #[.int .i64 0, .int .i64 0, .slice none 0 0] 28) = wB at *; have XC1 := XA12.row #[.int .i64 ep0, .int .i64 q0, .map (some bm)]; have XC2 := XA2.of_block (setRow_other wB w1.heap.size wA.heap.size #[.int .i64 ep0, .int .i64 q0, .map (some bm)] (by omega)); have BC := belowR (below_then BA1 BA2) (Nat.le_refl _) #[.int .i64 ep0, .int .i64 q0, .map (some bm)]; have sC : wB.heap.size ≤ (wB.setRow w1.heap.size #[.int .i64 ep0, .int .i64 q0, .map (some bm)]).heap.size := (by rw [setRow_size]; exact Nat.le_refl _); generalize hwC : wB.setRow w1.heap.size #[.int .i64 ep0, .int .i64 q0, .map (some bm)] = wC at *; have XD1 := XC1.of_block (setRow_other wC wA.heap.size w1.heap.size #[.int .i64 ep0, .int .i64 q0, .slice ao R.length c] (by omega)); have XD2 := XC2.row #[.int .i64 ep0, .int .i64 q0, .slice ao R.length c]; have BD := belowR BC (show w1.heap.size ≤ wA.heap.size by omega) #[.int .i64 ep0, .int .i64 q0, .slice ao R.length c]; have sD : wC.heap.size ≤ (wC.setRow wA.heap.size #[.int .i64 ep0, .int .i64 q0, .slice ao R.length c]).heap.size := (by rw [setRow_size]; exact Nat.le_refl _); generalize hwD : wC.setRow wA.heap.size #[.int .i64 ep0, .int .i64 q0, .slice ao R.length c] = wD at *; have O5 := iown_new wD; have B5 := belowA wD (.cells #[] 3); have XD15 := XD1.below B5; have XD25 := XD2.below B5; generalize hw5 : wD.alloc (.cells #[] 3) = w5 at *; have x2c : w5.cell? ⟨wA.heap.size, 2, none⟩ = some (.slice ao R.length c) := XD25.cell 2 rfl)
    | (refine wpList_store_row rfl 26 _ _ rfl w1.heap.size _ rfl rfl 26 _ XA12 Try.infoLs rfl (lall _ _ _) ?_; rw [hwC])
    | (refine wpList_store_row rfl 28 _ _ rfl wA.heap.size _ rfl rfl 28 _ XC2 Try.infoRs rfl (rallL _ _ _ _ _) ?_; rw [hwD]))
  have BW5 : Below w.heap.size w w5 := below_then B1 (below_then BD B5)
  have S5 : Sl w5 w1.heap.size wA.heap.size ep0 q0 (some bm) ao c R := ⟨XD15, XD25, Or.inr ⟨bm, rfl, M1.below (below_then BD B5)⟩, KRow.base (KRow.below (KRow.below O1 BD) B5) (Nat.zero_le _)⟩
  have z1 := B1.size
  have O5b : IOwn w5 w.heap.size (.slice (some ⟨wD.heap.size, 0, none⟩) 0 0) 0 [] := O5.base (by omega)
  have hap : Apt R := M1.apart
  generalize hbs : w1.heap.size = bs at *
  generalize hbx : wA.heap.size = bx at *
  have hsx : bs < bx ∧ w.heap.size ≤ bs := by omega
  generalize wD.heap.size = gp at *
  clear BG XA1 BA1 hwA' XA2 BA2 XA12 hwB XC1 XC2 BC hwC XD1 XD2 BD hwD O5 B5 XD15 XD25 hw5 M1 O1 B1 sA sB sC sD hbm hbs hbx x2c z1
  go_loopg [11, 37] R.length (fun r s11 s37 wr => ∃ (j cp : Nat) (ap : Option Addr) (P : List Int), j ≤ R.length ∧ r = R.length - j ∧ s37 = .int .i64 (j : Int) ∧ s11 = .slice ap j cp ∧ Sl wr bs bx ep0 q0 (some bm) ao c R ∧ IOwn wr w.heap.size (.slice ap j cp) j P ∧ Fit P ∧ Below w.heap.size w wr)
  case atStart => exact ⟨0, 0, _, [], by omega, by omega, rfl, rfl, S5, O5b, Fit.nil, BW5⟩
  case round =>
  clear S5 O5b BW5
  obtain ⟨j, cp, ap, P, hj, rfl, rfl, rfl, S0, O0, hFP, BB0⟩ := hrel
  rcases Nat.lt_or_ge j R.length with hlt | hge
  · have d5 : (j : Int) < (R.length : Int) := by omega
    obtain ⟨g, rfl, hg, y0, y1, y2, y3⟩ := HRow.cells S0.rw hlt
    have hyi := hin R[j] (List.getElem_mem hlt)
    obtain ⟨⟨yp, yh, ye, yu⟩, hy⟩ : ∃ y : Int × Hg, y = R[j] := ⟨_, rfl⟩
    rw [← hy] at y0 y1 y2 y3 hyi
    simp only at y0 y1 y2 y3 hyi
    obtain ⟨XAy, XBy, BBy, sy⟩ := varR wr 33 #[.int .i64 0, .int .i64 0, .int .i64 0, .int .i64 0] #[.int .i64 yp, .int .i64 yh, .int .i64 ye, .int .i64 yu]
    generalize hwC : wr.alloc (.cells #[.int .i64 0, .int .i64 0, .int .i64 0, .int .i64 0] 33) = wC at *
    generalize hwD : wC.setRow wr.heap.size #[.int .i64 yp, .int .i64 yh, .int .i64 ye, .int .i64 yu] = wD at *
    have v0 : wD.cell? ⟨wr.heap.size, 0, none⟩ = some (.int .i64 yp) := XBy.cell 0 rfl
    have BE := belowA wD (.cells #[.int .i64 yp] 3)
    have SE := (S0.below BBy).below BE
    have OE := (O0.below BBy).below BE
    have BBE := below_then BB0 (below_then BBy BE)
    have hcE : (wD.alloc (.cells #[.int .i64 yp] 3)).cell? ⟨wD.heap.size, 0, none⟩ = some (.int .i64 yp) := (blk_new wD 3 #[.int .i64 yp]).cell 0 rfl
    generalize hwE : wD.alloc (.cells #[.int .i64 yp] 3) = wE at *
    have zE := BBE.size
    clear hy hg
    go_wp2_with (first
      | (refine wpList_store_row rfl 33 _ _ rfl wr.heap.size _ rfl rfl 33 _ XAy Try.infoRhS rfl (hall4 _ _ _ _) ?_; rw [hwD])
      | (at_builtin; refine wpList_append_int3 rfl _ _ rfl w.heap.size _ j P rfl OE wD.heap.size yp rfl hcE (by omega) (by omega) ?_; intro ap6 cp6 w6 O6 B6 G6 h6))
    go_roundg (R.length - (j + 1))
    case measure => omega
    case rel => exact ⟨j + 1, cp6, ap6, P ++ [yp], by omega, rfl, by go_num, rfl, SE.grown OE G6, O6, hFP.snoc hyi.1, BBE.trans B6⟩
  obtain rfl : j = R.length := by omega
  have AW := lawake_any wr
  obtain ⟨wo, hwo⟩ : ∃ wo, wo = wr := ⟨_, rfl⟩
  subst hwo
  go_wp2_with (go_at_call 5; refine AW.mono ?_; rintro e wk ⟨rfl, BK⟩)
  have BBk := below_then BB0 BK
  have Sk := S0.below BK
  have Ok := O0.below BK
  go_loopg [11, 14] 30 (fun r s11 s14 wr => ∃ (i np cp : Nat) (ap : Option Addr) (P : List Int) (ep q : Int) (mo : Option Nat) (ao : Option Addr) (c : Nat) (R : List (Int × Hg)), i ≤ 30 ∧ r = 30 - i ∧ s14 = .int .i64 (i : Int) ∧ s11 = .slice ap np cp ∧ Sl wr bs bx ep q mo ao c R ∧ Apt R ∧ IOwn wr w.heap.size (.slice ap np cp) np P ∧ Fit P ∧ np ≤ 10 + i ∧ R.length ≤ 10 + i ∧ -9223372036854775808 ≤ ep ∧ Below w.heap.size w wr)
  case atStart => exact ⟨0, R.length, cp, ap, P, ep0, q0, some bm, ao, c, R, by omega, by omega, rfl, rfl, Sk, hap, Ok, hFP, by omega, by omega, hep0.1, BBk⟩
  case round =>
  clear S0 O0 BB0 Sk Ok BBk AW BK hFP hap hin hR10 hj
  obtain ⟨i, np, cp, ap, P, ep, q, mo, ao, c, R, hi, rfl, rfl, rfl, S0, hap, O0, hFP, hnp, hRl, hep, BB0⟩ := hrel
  by_cases d1 : i < n
  case neg =>
    have d1' : ¬ (i : Int) < (n : Int) := by omega
    go_wp2_with fail
    go_ret
    exact ⟨rfl, BB0⟩
  have d1' : (i : Int) < (n : Int) := by omega
  by_cases d2 : i < 30
  case neg =>
    have d2' : ¬ (i : Int) < 30 := by omega
    go_wp2_with fail
    go_ret
    exact ⟨rfl, BB0⟩
  have d2' : (i : Int) < 30 := by omega
  have AR := HA.out.below BB0
  have hsm := AR.small i
  obtain ⟨bz, oz, rfl, hz⟩ := AR.cells (by omega)
  obtain ⟨c0, c1, c2, c3, c4, c5⟩ := hz i d1
  generalize Z i = zz at *
  obtain ⟨ki, nw, te, x, ho, e2⟩ := zz
  simp only at c0 c1 c2 c3 c4 c5 hsm
  obtain ⟨h_ki, h_nw, h_te, hx, h_ho, h_e2⟩ := hsm
  obtain ⟨XA0, XB0, VB0, zB0⟩ := varR wr 36 #[.int .i64 0, .int .i64 0, .int .i64 0, .int .i64 0, .int .i64 0, .int .i64 0] #[.int .i64 ki, .int .i64 nw, .int .i64 te, .int .i64 x, .int .i64 ho, .int .i64 e2]
  have S1 := S0.below VB0
  have O1 := O0.below VB0
  have BB1 := below_then BB0 VB0
  generalize hwA0 : wr.alloc (.cells #[.int .i64 0, .int .i64 0, .int .i64 0, .int .i64 0, .int .i64 0, .int .i64 0] 36) = wA0 at *
  generalize hwB0 : wA0.setRow wr.heap.size #[.int .i64 ki, .int .i64 nw, .int .i64 te, .int .i64 x, .int .i64 ho, .int .i64 e2] = w1 at *
  have hbsl := S0.xs.lt
  have hbxl := S0.xx.lt
  obtain ⟨ba, hba⟩ : ∃ b, b = wr.heap.size := ⟨_, rfl⟩
  have hba1 : bs ≠ ba ∧ bx ≠ ba ∧ w.heap.size ≤ ba := by omega
  have BE := belowA w1 (.cells #[.int .i64 x] 3)
  have S2 := S1.below BE
  have O2 := O1.below BE
  have BB2 := below_then BB1 BE
  have XA2 := XB0.below BE
  have hcE : (w1.alloc (.cells #[.int .i64 x] 3)).cell? ⟨w1.heap.size, 0, none⟩ = some (.int .i64 x) := (blk_new w1 3 #[.int .i64 x]).cell 0 rfl
  have a3 : w1.cell? ⟨wr.heap.size, 3, none⟩ = some (.int .i64 x) := XB0.cell 3 rfl
  generalize hw2 : w1.alloc (.cells #[.int .i64 x] 3) = w2 at *
  have z2 := BB2.size
  clear hz AR
  go_upto_region 15 with (first
    | (refine wpList_store_row rfl 36 _ _ rfl wr.heap.size _ rfl rfl 36 _ XA0 Try.infoLa rfl (hall6 _ _ _ _ _ _) ?_; rw [hwB0])
    | (at_builtin; refine wpList_append_int3 rfl _ _ rfl w.heap.size _ np P rfl O2 w1.heap.size x rfl hcE (by omega) (by omega) ?_; intro ap6 cp6 w6 O6 B6 G6 h6))
  have S6 := S2.grown O2 G6
  have XA6 := blk_grown XA2 (by decide) O2 G6
  have BB6 := BB2.trans B6
  have hFP6 := hFP.snoc hx
  rw [← hba] at XA6
  rw [← hba]
  clear S0 S1 S2 O0 O1 O2 XA0 XB0 XA2 BB0 BB1 BB2 VB0 BE hwA0 hwB0 hw2 hcE a3 B6 G6 h6 c0 c1 c2 c3 c4 c5 hba z2 zB0 hbsl hbxl
  generalize P ++ [x] = P6 at *
  have a0 : w6.cell? ⟨ba, 0, none⟩ = some (.int .i64 ki) := XA6.cell 0 rfl
  have AL : Hid (∀ (wv : World) (ep q : Int) (mo : Option Nat) (ao : Option Addr) (c : Nat) (R : List (Int × Hg)), HgM wv mo R → HRow wv 0 (.slice ao R.length c) R → IOwn wv w.heap.size (.slice ap6 (np + 1) cp6) (np + 1) P6 → Apt R → R.length ≤ 100 → _) := fun wv ep q mo ao c R h1 h2 h3 h4 h5 => lalike_any ep q nw mo ao ap6 c cp6 (np + 1) R P6 wv h1 h2 h4 (iown_row h3 hFP6) (by omega) (by omega)
  go_upto_block 4 with fail
  go_cut [14] (fun s14 wc => ∃ (ep' q' : Int) (mo' : Option Nat) (a' : Option Addr) (c' : Nat) (R' : List (Int × Hg)), s14 = .int .i64 (i : Int) ∧ Sl wc bs bx ep' q' mo' a' c' R' ∧ Apt R' ∧ IOwn wc w.heap.size (.slice ap6 (np + 1) cp6) (np + 1) P6 ∧ Blk wc ba 36 #[.int .i64 ki, .int .i64 nw, .int .i64 te, .int .i64 x, .int .i64 ho, .int .i64 e2] ∧ R'.length ≤ 10 + (i + 1) ∧ -9223372036854775808 ≤ ep' ∧ Below w.heap.size w wc)
  case first =>
    have S6s := S6.xs
    have S6x := S6.xx
    by_cases k1 : ki = 1
    · subst k1
      obtain ⟨ep', num, code, R', hap', hep', hRl', K1', K2'⟩ := lk_grant ep q nw te x ho R hap (by omega) hx hep
      have K1 : Hid _ := K1'
      have K2 : Hid _ := K2'
      clear K1' K2'
      have f1 : w6.cell? ⟨ba, 1, none⟩ = some (.int .i64 nw) := XA6.cell 1 rfl; have f2 : w6.cell? ⟨ba, 2, none⟩ = some (.int .i64 te) := XA6.cell 2 rfl; have f3 : w6.cell? ⟨ba, 3, none⟩ = some (.int .i64 x) := XA6.cell 3 rfl; have f4 : w6.cell? ⟨ba, 4, none⟩ = some (.int .i64 ho) := XA6.cell 4 rfl
      as_aux_lemma =>
      go_wp2_with (first
        | (refine wpList_load_row rfl 26 _ rfl bs rfl 26 _ (0, 0) _ S6s Try.underlying26 rfl Try.infoLs ?_)
        | (go_at_call 6; refine (K1.out w6 mo S6.m).mono ?_; rintro e w8 ⟨mo', rfl, M8, B8⟩; obtain ⟨XT8, XT9, VB9, z9⟩ := varR w8 26 #[.int .i64 0, .int .i64 0, .map none] #[.int .i64 ep', .int .i64 q, .map mo']; have B89 := below_then B8 VB9; have S9 := S6.below B89; have XA9 := XA6.below B89; have O9 := O6.below B89; have M9 := M8.below VB9; have BB9 := below_then BB6 B89; have z8 := B8.size; generalize hwT : w8.alloc (.cells #[.int .i64 0, .int .i64 0, .map none] 26) = wT at *; generalize hw9 : wT.setRow w8.heap.size #[.int .i64 ep', .int .i64 q, .map mo'] = w9 at *; have S9x := S9.xx; have g1 : w9.cell? ⟨ba, 1, none⟩ = some (.int .i64 nw) := XA9.cell 1 rfl; have g2 : w9.cell? ⟨ba, 2, none⟩ = some (.int .i64 te) := XA9.cell 2 rfl; have g3 : w9.cell? ⟨ba, 3, none⟩ = some (.int .i64 x) := XA9.cell 3 rfl; have g4 : w9.cell? ⟨ba, 4, none⟩ = some (.int .i64 ho) := XA9.cell 4 rfl)
        | (refine wpList_store_row rfl 26 _ _ rfl w8.heap.size _ rfl rfl 26 _ XT8 Try.infoLs rfl (lall _ _ _) ?_; rw [hw9])
        | (refine wpList_load_row rfl 28 _ rfl bx rfl 28 _ (0, 0) _ S9x Try.underlying28 rfl Try.infoRs ?_)
        | (go_at_call 7; refine (K2.out w9 ao c S9.rw).mono ?_; rintro e w10 ⟨a', c', rfl, H10, B10⟩; obtain ⟨XY10, XY11, VB11, z11⟩ := varR w10 28 #[.int .i64 0, .int .i64 0, .slice none 0 0] #[.int .i64 ep', .int .i64 q, .slice a' R'.length c']; have B11 := below_then B10 VB11; have S11 := S9.below B11; have XA11 := XA9.below B11; have O11 := O9.below B11; have M11 := M9.below B11; have H11 : HRow _ 0 (.slice a' R'.length c') R' := KRow.below H10 VB11; have XT11 := XT9.below B11; have BB11 := below_then BB9 B11; have z10 := B10.size; generalize hwY : w10.alloc (.cells #[.int .i64 0, .int .i64 0, .slice none 0 0] 28) = wY at *; generalize hw11 : wY.setRow w10.heap.size #[.int .i64 ep', .int .i64 q, .slice a' R'.length c'] = w11 at *; have S11s := S11.xs; have S11x := S11.xx; have AL1 := AL.out w11 ep q mo ao c R S11.m S11.rw O11 hap (by omega); have s0c : w11.cell? ⟨bs, 0, none⟩ = some (.int .i64 ep) := S11s.cell 0 rfl; have s1c : w11.cell? ⟨bs, 1, none⟩ = some (.int .i64 q) := S11s.cell 1 rfl; have s2c : w11.cell? ⟨bs, 2, none⟩ = some (.map mo) := S11s.cell 2 rfl; have x0c : w11.cell? ⟨bx, 0, none⟩ = some (.int .i64 ep) := S11x.cell 0 rfl; have x1c : w11.cell? ⟨bx, 1, none⟩ = some (.int .i64 q) := S11x.cell 1 rfl; have x2c : w11.cell? ⟨bx, 2, none⟩ = some (.slice ao R.length c) := S11x.cell 2 rfl; have h1 : w11.cell? ⟨ba, 1, none⟩ = some (.int .i64 nw) := XA11.cell 1 rfl)
        | (refine wpList_store_row rfl 28 _ _ rfl w10.heap.size _ rfl rfl 28 _ XY10 Try.infoRs rfl (rallL _ _ _ _ _) ?_; rw [hw11])
        | (go_at_call 8; refine AL1.mono ?_; rintro e w12 ⟨rfl, B12⟩; have S12 := S11.below B12; have XA12 := XA11.below B12; have O12 := O11.below B12; have M12 := M11.below B12; have H12 : HRow w12 0 (.slice a' R'.length c') R' := KRow.below H11 B12; have XT12 := XT11.below B12; have XY12 := XY11.below B12; have BB12 := below_then BB11 B12; have S12s := S12.xs; have S12x := S12.xx; have n8 : bs ≠ w8.heap.size := (by have := S6.xs.lt; omega); have hl8 := S6.xx.lt; have X13 := S12s.row #[.int .i64 ep', .int .i64 q, .map mo']; have Y13 := S12x.of_block (setRow_other w12 bs bx #[.int .i64 ep', .int .i64 q, .map mo'] (by omega)); have XA13 := XA12.of_block (setRow_other w12 bs ba #[.int .i64 ep', .int .i64 q, .map mo'] (by omega)); have XY13 := XY12.of_block (setRow_other w12 bs w10.heap.size #[.int .i64 ep', .int .i64 q, .map mo'] (by have := S9.xs.lt; omega)); have O13 := O12.set S12s (by decide) #[.int .i64 ep', .int .i64 q, .map mo']; have M13 := hgm_part M12 (set_part S12s (by decide) #[.int .i64 ep', .int .i64 q, .map mo']); have H13 := hrow_part H12 (set_part S12s (by decide) #[.int .i64 ep', .int .i64 q, .map mo']); have BB13 := belowR BB12 hsx.2 #[.int .i64 ep', .int .i64 q, .map mo']; generalize hw13 : w12.setRow bs #[.int .i64 ep', .int .i64 q, .map mo'] = w13 at *; have X14 := X13.of_block (setRow_other w13 bx bs #[.int .i64 ep', .int .i64 q, .slice a' R'.length c'] (by omega)); have Y14 := Y13.row #[.int .i64 ep', .int .i64 q, .slice a' R'.length c']; have XA14 := XA13.of_block (setRow_other w13 bx ba #[.int .i64 ep', .int .i64 q, .slice a' R'.length c'] (by omega)); have O14 := O13.set Y13 (by decide) #[.int .i64 ep', .int .i64 q, .slice a' R'.length c']; have M14 := hgm_part M13 (set_part Y13 (by decide) #[.int .i64 ep', .int .i64 q, .slice a' R'.length c']); have H14 := hrow_part H13 (set_part Y13 (by decide) #[.int .i64 ep', .int .i64 q, .slice a' R'.length c']); have BB14 := belowR BB13 (show w.heap.size ≤ bx by omega) #[.int .i64 ep', .int .i64 q, .slice a' R'.length c']; generalize hw14 : w13.setRow bx #[.int .i64 ep', .int .i64 q, .slice a' R'.length c'] = w14 at *)
        | (refine wpList_load_row rfl 26 _ rfl w8.heap.size rfl 26 _ (0, 0) _ XT12 Try.underlying26 rfl Try.infoLs ?_)
        | (refine wpList_store_row rfl 26 _ _ rfl bs _ rfl rfl 26 _ S12s Try.infoLs rfl (lall _ _ _) ?_; rw [hw13])
        | (refine wpList_load_row rfl 28 _ rfl w10.heap.size rfl 28 _ (0, 0) _ XY13 Try.underlying28 rfl Try.infoRs ?_)
        | (refine wpList_store_row rfl 28 _ _ rfl bx _ rfl rfl 28 _ Y13 Try.infoRs rfl (rallL _ _ _ _ _) ?_; rw [hw14]))
      go_meet
      case rel => exact ⟨ep', q, mo', a', c', R', rfl, ⟨X14, Y14, M14, H14⟩, hap', O14, XA14, by omega, hep', BB14⟩
    by_cases k2 : ki = 2
    · subst k2
      obtain ⟨code, R', hap', hRl', K1', K2'⟩ := lk_let ep q nw x ho e2 R hap (by omega) hx
      have K1 : Hid _ := K1'
      have K2 : Hid _ := K2'
      clear K1' K2'
      have f1 : w6.cell? ⟨ba, 1, none⟩ = some (.int .i64 nw) := XA6.cell 1 rfl; have f3 : w6.cell? ⟨ba, 3, none⟩ = some (.int .i64 x) := XA6.cell 3 rfl; have f4 : w6.cell? ⟨ba, 4, none⟩ = some (.int .i64 ho) := XA6.cell 4 rfl; have f5 : w6.cell? ⟨ba, 5, none⟩ = some (.int .i64 e2) := XA6.cell 5 rfl
      as_aux_lemma =>
      go_wp2_with (first
        | (refine wpList_load_row rfl 26 _ rfl bs rfl 26 _ (0, 0) _ S6s Try.underlying26 rfl Try.infoLs ?_)
        | (go_at_call 9; refine (K1.out w6 mo S6.m).mono ?_; rintro e w8 ⟨mo', rfl, M8, B8⟩; obtain ⟨XT8, XT9, VB9, z9⟩ := varR w8 26 #[.int .i64 0, .int .i64 0, .map none] #[.int .i64 ep, .int .i64 q, .map mo']; have B89 := below_then B8 VB9; have S9 := S6.below B89; have XA9 := XA6.below B89; have O9 := O6.below B89; have M9 := M8.below VB9; have BB9 := below_then BB6 B89; have z8 := B8.size; generalize hwT : w8.alloc (.cells #[.int .i64 0, .int .i64 0, .map none] 26) = wT at *; generalize hw9 : wT.setRow w8.heap.size #[.int .i64 ep, .int .i64 q, .map mo'] = w9 at *; have S9x := S9.xx; have g1 : w9.cell? ⟨ba, 1, none⟩ = some (.int .i64 nw) := XA9.cell 1 rfl; have g3 : w9.cell? ⟨ba, 3, none⟩ = some (.int .i64 x) := XA9.cell 3 rfl; have g4 : w9.cell? ⟨ba, 4, none⟩ = some (.int .i64 ho) := XA9.cell 4 rfl; have g5 : w9.cell? ⟨ba, 5, none⟩ = some (.int .i64 e2) := XA9.cell 5 rfl)
        | (refine wpList_store_row rfl 26 _ _ rfl w8.heap.size _ rfl rfl 26 _ XT8 Try.infoLs rfl (lall _ _ _) ?_; rw [hw9])
        | (refine wpList_load_row rfl 28 _ rfl bx rfl 28 _ (0, 0) _ S9x Try.underlying28 rfl Try.infoRs ?_)
        | (go_at_call 10; refine (K2.out w9 ao c S9.rw).mono ?_; rintro e w10 ⟨a', c', rfl, H10, B10⟩; obtain ⟨XY10, XY11, VB11, z11⟩ := varR w10 28 #[.int .i64 0, .int .i64 0, .slice none 0 0] #[.int .i64 ep, .int .i64 q, .slice a' R'.length c']; have B11 := below_then B10 VB11; have S11 := S9.below B11; have XA11 := XA9.below B11; have O11 := O9.below B11; have M11 := M9.below B11; have H11 : HRow _ 0 (.slice a' R'.length c') R' := KRow.below H10 VB11; have XT11 := XT9.below B11; have BB11 := below_then BB9 B11; have z10 := B10.size; generalize hwY : w10.alloc (.cells #[.int .i64 0, .int .i64 0, .slice none 0 0] 28) = wY at *; generalize hw11 : wY.setRow w10.heap.size #[.int .i64 ep, .int .i64 q, .slice a' R'.length c'] = w11 at *; have S11s := S11.xs; have S11x := S11.xx; have AL1 := AL.out w11 ep q mo ao c R S11.m S11.rw O11 hap (by omega); have s0c : w11.cell? ⟨bs, 0, none⟩ = some (.int .i64 ep) := S11s.cell 0 rfl; have s1c : w11.cell? ⟨bs, 1, none⟩ = some (.int .i64 q) := S11s.cell 1 rfl; have s2c : w11.cell? ⟨bs, 2, none⟩ = some (.map mo) := S11s.cell 2 rfl; have x0c : w11.cell? ⟨bx, 0, none⟩ = some (.int .i64 ep) := S11x.cell 0 rfl; have x1c : w11.cell? ⟨bx, 1, none⟩ = some (.int .i64 q) := S11x.cell 1 rfl; have x2c : w11.cell? ⟨bx, 2, none⟩ = some (.slice ao R.length c) := S11x.cell 2 rfl; have h1 : w11.cell? ⟨ba, 1, none⟩ = some (.int .i64 nw) := XA11.cell 1 rfl)
        | (refine wpList_store_row rfl 28 _ _ rfl w10.heap.size _ rfl rfl 28 _ XY10 Try.infoRs rfl (rallL _ _ _ _ _) ?_; rw [hw11])
        | (go_at_call 8; refine AL1.mono ?_; rintro e w12 ⟨rfl, B12⟩; have S12 := S11.below B12; have XA12 := XA11.below B12; have O12 := O11.below B12; have M12 := M11.below B12; have H12 : HRow w12 0 (.slice a' R'.length c') R' := KRow.below H11 B12; have XT12 := XT11.below B12; have XY12 := XY11.below B12; have BB12 := below_then BB11 B12; have S12s := S12.xs; have S12x := S12.xx; have n8 : bs ≠ w8.heap.size := (by have := S6.xs.lt; omega); have hl8 := S6.xx.lt; have X13 := S12s.row #[.int .i64 ep, .int .i64 q, .map mo']; have Y13 := S12x.of_block (setRow_other w12 bs bx #[.int .i64 ep, .int .i64 q, .map mo'] (by omega)); have XA13 := XA12.of_block (setRow_other w12 bs ba #[.int .i64 ep, .int .i64 q, .map mo'] (by omega)); have XY13 := XY12.of_block (setRow_other w12 bs w10.heap.size #[.int .i64 ep, .int .i64 q, .map mo'] (by have := S9.xs.lt; omega)); have O13 := O12.set S12s (by decide) #[.int .i64 ep, .int .i64 q, .map mo']; have M13 := hgm_part M12 (set_part S12s (by decide) #[.int .i64 ep, .int .i64 q, .map mo']); have H13 := hrow_part H12 (set_part S12s (by decide) #[.int .i64 ep, .int .i64 q, .map mo']); have BB13 := belowR BB12 hsx.2 #[.int .i64 ep, .int .i64 q, .map mo']; generalize hw13 : w12.setRow bs #[.int .i64 ep, .int .i64 q, .map mo'] = w13 at *; have X14 := X13.of_block (setRow_other w13 bx bs #[.int .i64 ep, .int .i64 q, .slice a' R'.length c'] (by omega)); have Y14 := Y13.row #[.int .i64 ep, .int .i64 q, .slice a' R'.length c']; have XA14 := XA13.of_block (setRow_other w13 bx ba #[.int .i64 ep, .int .i64 q, .slice a' R'.length c'] (by omega)); have O14 := O13.set Y13 (by decide) #[.int .i64 ep, .int .i64 q, .slice a' R'.length c']; have M14 := hgm_part M13 (set_part Y13 (by decide) #[.int .i64 ep, .int .i64 q, .slice a' R'.length c']); have H14 := hrow_part H13 (set_part Y13 (by decide) #[.int .i64 ep, .int .i64 q, .slice a' R'.length c']); have BB14 := belowR BB13 (show w.heap.size ≤ bx by omega) #[.int .i64 ep, .int .i64 q, .slice a' R'.length c']; generalize hw14 : w13.setRow bx #[.int .i64 ep, .int .i64 q, .slice a' R'.length c'] = w14 at *)
        | (refine wpList_load_row rfl 26 _ rfl w8.heap.size rfl 26 _ (0, 0) _ XT12 Try.underlying26 rfl Try.infoLs ?_)
        | (refine wpList_store_row rfl 26 _ _ rfl bs _ rfl rfl 26 _ S12s Try.infoLs rfl (lall _ _ _) ?_; rw [hw13])
        | (refine wpList_load_row rfl 28 _ rfl w10.heap.size rfl 28 _ (0, 0) _ XY13 Try.underlying28 rfl Try.infoRs ?_)
        | (refine wpList_store_row rfl 28 _ _ rfl bx _ rfl rfl 28 _ Y13 Try.infoRs rfl (rallL _ _ _ _ _) ?_; rw [hw14]))
      go_meet
      case rel => exact ⟨ep, q, mo', a', c', R', rfl, ⟨X14, Y14, M14, H14⟩, hap', O14, XA14, by omega, hep, BB14⟩
    by_cases k3 : ki = 3
    · subst k3
      obtain ⟨q', R', hap', hRl', K1', K2'⟩ := lk_restart ep q nw te R
      have K1 : Hid _ := K1'
      have K2 : Hid _ := K2'
      clear K1' K2'
      have f1 : w6.cell? ⟨ba, 1, none⟩ = some (.int .i64 nw) := XA6.cell 1 rfl; have f2 : w6.cell? ⟨ba, 2, none⟩ = some (.int .i64 te) := XA6.cell 2 rfl
      as_aux_lemma =>
      go_wp2_with (first
        | (refine wpList_load_row rfl 26 _ rfl bs rfl 26 _ (0, 0) _ S6s Try.underlying26 rfl Try.infoLs ?_)
        | (go_at_call 11; refine (K1.out w6 mo S6.m).mono ?_; rintro e w8 ⟨mo', rfl, M8, B8⟩; have S8 := S6.below B8; have XA8 := XA6.below B8; have O8 := O6.below B8; have BB8 := below_then BB6 B8; have S8s := S8.xs; have X9 := S8s.row #[.int .i64 ep, .int .i64 q', .map mo']; have Y9 := S8.xx.of_block (setRow_other w8 bs bx #[.int .i64 ep, .int .i64 q', .map mo'] (by omega)); have XA9 := XA8.of_block (setRow_other w8 bs ba #[.int .i64 ep, .int .i64 q', .map mo'] (by omega)); have O9 := O8.set S8s (by decide) #[.int .i64 ep, .int .i64 q', .map mo']; have M9 := hgm_part M8 (set_part S8s (by decide) #[.int .i64 ep, .int .i64 q', .map mo']); have H9 := hrow_part S8.rw (set_part S8s (by decide) #[.int .i64 ep, .int .i64 q', .map mo']); have BB9 := belowR BB8 hsx.2 #[.int .i64 ep, .int .i64 q', .map mo']; generalize hw9 : w8.setRow bs #[.int .i64 ep, .int .i64 q', .map mo'] = w9 at *; have g1 : w9.cell? ⟨ba, 1, none⟩ = some (.int .i64 nw) := XA9.cell 1 rfl; have g2 : w9.cell? ⟨ba, 2, none⟩ = some (.int .i64 te) := XA9.cell 2 rfl)
        | (refine wpList_store_row rfl 26 _ _ rfl bs _ rfl rfl 26 _ S8s Try.infoLs rfl (lall _ _ _) ?_; rw [hw9])
        | (refine wpList_load_row rfl 28 _ rfl bx rfl 28 _ (0, 0) _ Y9 Try.underlying28 rfl Try.infoRs ?_)
        | (go_at_call 12; refine (K2.out w9 ao c H9).mono ?_; rintro e w10 ⟨a', c', rfl, H10, B10⟩; have X10 := X9.below B10; have Y10 := Y9.below B10; have XA10 := XA9.below B10; have O10 := O9.below B10; have M10 := M9.below B10; have BB10 := below_then BB9 B10; have X14 := X10.of_block (setRow_other w10 bx bs #[.int .i64 ep, .int .i64 q', .slice a' R'.length c'] (by omega)); have Y14 := Y10.row #[.int .i64 ep, .int .i64 q', .slice a' R'.length c']; have XA14 := XA10.of_block (setRow_other w10 bx ba #[.int .i64 ep, .int .i64 q', .slice a' R'.length c'] (by omega)); have O14 := O10.set Y10 (by decide) #[.int .i64 ep, .int .i64 q', .slice a' R'.length c']; have M14 := hgm_part M10 (set_part Y10 (by decide) #[.int .i64 ep, .int .i64 q', .slice a' R'.length c']); have H14 := hrow_part H10 (set_part Y10 (by decide) #[.int .i64 ep, .int .i64 q', .slice a' R'.length c']); have BB14 := belowR BB10 (show w.heap.size ≤ bx by omega) #[.int .i64 ep, .int .i64 q', .slice a' R'.length c']; generalize hw14 : w10.setRow bx #[.int .i64 ep, .int .i64 q', .slice a' R'.length c'] = w14 at *)
        | (refine wpList_store_row rfl 28 _ _ rfl bx _ rfl rfl 28 _ Y10 Try.infoRs rfl (rallL _ _ _ _ _) ?_; rw [hw14]))
      go_meet
      case rel => exact ⟨ep, q', mo', a', c', R', rfl, ⟨X14, Y14, M14, H14⟩, hap', O14, XA14, by omega, hep, BB14⟩
    go_wp2_with fail
    go_meet
    case rel => exact ⟨ep, q, mo, ao, c, R, rfl, S6, hap, O6, XA6, by omega, hep, BB6⟩
  case rest =>
  obtain ⟨ep', q', mo', a', c', R', rfl, S14, hap', O14, XA14, hRl', hep', BB14⟩ := hcut
  obtain ⟨w14, hw14⟩ : ∃ x, x = wc := ⟨_, rfl⟩
  subst hw14
  have S14s := S14.xs
  have S14x := S14.xx
  have AL1 := AL.out w14 ep' q' mo' a' c' R' S14.m S14.rw O14 hap' (by omega)
  have a1 : w14.cell? ⟨ba, 1, none⟩ = some (.int .i64 nw) := XA14.cell 1 rfl
  clear S6 XA6 BB6 O6 AL
  go_wp2_with (first
    | (refine wpList_load_row rfl 26 _ rfl bs rfl 26 _ (0, 0) _ S14s Try.underlying26 rfl Try.infoLs ?_)
    | (refine wpList_load_row rfl 28 _ rfl bx rfl 28 _ (0, 0) _ S14x Try.underlying28 rfl Try.infoRs ?_)
    | (go_at_call 8; refine AL1.mono ?_; rintro e w15 ⟨rfl, B15⟩))
  go_roundg (30 - (i + 1))
  case measure => omega
  case rel => exact ⟨i + 1, np + 1, cp6, ap6, P6, ep', q', mo', a', c', R', by omega, rfl, by go_num, rfl, S14.below B15, hap', O14.below B15, hFP6, by omega, by omega, hep', below_then BB14 B15⟩
end Go.Proofs.Ytacmphckmjangaa
