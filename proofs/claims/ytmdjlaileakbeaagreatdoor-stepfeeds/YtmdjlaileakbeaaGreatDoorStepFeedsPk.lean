/- The given statement on StepFeeds: at every input the law returns true and its arguments read as before; the listed table lies as the program's text lays it (the card ties it). -/
import Derived.Test.YtmdjlaileakbeaaGreatDoorPk12
import Derived.Test.YtmdjlaileakbeaaGreatDoorPk17
import Derived.Test.YtmdjlaileakbeaaGreatDoorPk18
import Derived.Test.YtmdjlaileakbeaaGreatDoorPk19
import Derived.Test.YtmdjlaileakbeaaGreatDoorRows
import Derived.Test.YtmdjlaileakbeaaGreatDoorCards
import Derived.Test.YtmdjlaileakbeaaGreatDoorTie
import Derived.Test.YtmdjlaileakbeaaGreatDoorPk4
import Derived.ProofKit
import Derived.Carry
import Derived.LaidMore
import Derived.OpenShut
import Derived.Stop.Joined
import Derived.SevenTiedAt
/- A token more, of any numbers, any view, any token: the walk. Laid by tools/gensfeeds.py. -/
namespace Go.Proofs.YtmdjlaileakbeaaGreatDoor
open Go.ChangeShapes Go.WideShapes Go.ChangeAt Go.RowKit Go.Deep
theorem cut_feed9 {V D Hd H L tok : Nat} {M : Mdl} {X : Vw} (hf : VwFit (V : Int) D L X) (ht : tok < V) (hl : X.T.length ≤ 127) (hD : D ≤ 32) (hL : L ≤ 4) : cutVw (feedV M D H Hd L X tok) = feedV M D H Hd L X tok := by
  have hF := fit_feed (M := M) (H := H) (Hd := Hd) hf ht hl
  obtain ⟨e1, e2⟩ := fit_whole hF (by omega)
  have m := hF.most
  have k1 := hF.k
  have k2 := hF.v
  have g : ∀ Cc : List (List (List Int)), Cc.length ≤ 5 → (∀ R ∈ Cc, rowsN R 130 = R) → cutC Cc 130 = Cc := fun Cc h5 hr => by
    unfold cutC
    rw [List.take_of_length_le h5]
    exact (List.map_congr_left (fun R hR => hr R hR)).trans (List.map_id _)
  unfold cutVw
  rw [List.take_of_length_le (by omega), g _ (by rw [k1]; split <;> omega) e1, g _ (by rw [k2]; split <;> omega) e2]
theorem err_congr {V D Hd H L : Int} {W W' : Wt} {bs bs' : List Bk} (h : checkN V D Hd H L W bs = checkN V D Hd H L W' bs') (X : Vw) (tok : Int) : errN9 V D Hd H L W bs X tok = errN9 V D Hd H L W' bs' X tok := by
  unfold errN9
  rw [h]
set_option maxRecDepth 100000 in
set_option maxHeartbeats 32000000 in
theorem stepFeeds_walk (C : Cfg) (VV : Wt) (X : List Bk × Mdl) (vv : VwV) (Y : Vw) (tok : Int) (w : World) (h0 : C.Ok) (hV : WtR w VV X.1 X.2) (hv : VwR w vv Y) (_btk : -9223372036854775808 ≤ tok ∧ tok ≤ 9223372036854775807) (hT : Tab w) :
    Calls Tryz.prog 3 #[C.val, .agg VV.cells, .agg vv.cells, .int .i64 tok] w fun e w' => e = .returned (.bool true) ∧ Below w.heap.size w w' := by
  obtain ⟨bs, MM⟩ := X
  simp only at hV
  have hVok := hV.ok
  obtain ⟨YC, hYC⟩ : ∃ YC, YC = cutVw Y := ⟨_, rfl⟩
  have HYC : Hid (cutVw Y = YC) := hYC.symm
  have HYY : Hid (cutVw YC = YC) := by show _ = _; rw [hYC]; exact cutVw_twice Y
  clear hYC
  have HT : Hid (∀ wv, Below w.heap.size w wv → Tab wv) := fun wv hb => hT.next hb
  have CW := fun (wv : World) (hb : Below w.heap.size w wv) => sawake_any wv (HT.out wv hb)
  have SF := fun (v : VwV) (wv : World) (hv : VwAt wv v YC) => sfitsG_any C.V C.D C.Hd C.H C.L v YC wv hv
  have RF9 := fun (t k v : Sl) (wv : World) (h : ToldAt wv t k v YC) => rfits9_any C.V C.D C.Hd C.H C.L t k v YC wv h HYY.out
  have RE := fun (W : Wt) (bs : List Bk) (t k v : Sl) (wv : World) (hW : W.Ok) (hb : BlocksAt wv W.b bs) (h : ToldAt wv t k v YC) => rerr9_any C.V C.D C.Hd C.H C.L W bs t k v YC tok wv hW hb h0.V h0.D h0.Hd h0.H h0.L h HYY.out
  have FE := fun (W : Wt) (bs : List Bk) (M : Mdl) (v : VwV) (B : Nat) (wv : World) (hO : WOwn wv B W bs M) (hl : bs.length = M.Ls.length) (hv : VwAt wv v YC) hq => feed_err C h0 W bs M v YC tok B wv hO hl hv hq
  unfold noV at FE
  unfold Cfg.val at *
  have hu : ∀ C : Cfg, cfgC C.V C.D C.Hd C.H C.L = #[.int .i64 C.V, .int .i64 C.D, .int .i64 C.Hd, .int .i64 C.H, .int .i64 C.L] := fun _ => rfl
  simp only [hu] at SF RF9 RE FE ⊢
  clear hu h0 hT
  have X0 := blk_new w 23 #[.int .i64 C.V, .int .i64 C.D, .int .i64 C.Hd, .int .i64 C.H, .int .i64 C.L]
  have B0 := below_alloc8 w (.cells #[.int .i64 C.V, .int .i64 C.D, .int .i64 C.Hd, .int .i64 C.H, .int .i64 C.L] 23)
  generalize hw0 : w.alloc (.cells #[.int .i64 C.V, .int .i64 C.D, .int .i64 C.Hd, .int .i64 C.H, .int .i64 C.L] 23) = w0 at *
  have X1 := blk_new w0 29 VV.cells
  have B1 := below_alloc8 w0 (.cells VV.cells 29)
  generalize hw1 : w0.alloc (.cells VV.cells 29) = w1 at *
  have X2 := blk_new w1 35 vv.cells
  have B2 := below_alloc8 w1 (.cells vv.cells 35)
  generalize hw2 : w1.alloc (.cells vv.cells 35) = w2 at *
  have BD : Below w2.heap.size w2 w2.drew := (Below.refl _ w2).drew
  replace X0 := ((X0.below B1).below B2).below BD
  replace X1 := (X1.below B2).below BD
  replace X2 := X2.below BD
  have DB := below_then (below_then (below_then B0 B1) B2) BD
  replace hV := hV.below DB
  replace hv := hv.below DB
  clear B0 B1 B2 BD
  go_enter Tryz.func3, Tryz.ntmps3
  go_upto_region 1 with fail
  clear hw0 hw1 hw2
  go_cut [9, 10] from 17 (fun s9 s10 wc => ∃ (W3 : Wt) (xs : List Bk) (t k v : Sl) (g4 g5 : Nat), s9 = .pointer (some ⟨g4, 0, none⟩) ∧ s10 = .pointer (some ⟨g5, 0, none⟩) ∧ Blk wc g4 38 W3.cells ∧ Blk wc g5 41 #[t.v, k.v, v.v] ∧ (∃ B, WTold wc B 100 (min 5 VV.b.n) VV W3 bs xs MM) ∧ ToldAt wc t k v YC ∧ Blk wc w.heap.size 23 #[.int .i64 C.V, .int .i64 C.D, .int .i64 C.Hd, .int .i64 C.H, .int .i64 C.L] ∧ Below w.heap.size w wc)
  case first =>
    refine wp_region_held_drew (S := fun w' => Blk w' w0.heap.size 29 VV.cells ∧ Blk w' w1.heap.size 35 vv.cells) (by kernel_rfl) (⟨X1, X2⟩) (fun hHeld => ?_)
    generalize hA : w2.drew = wA at *
    clear hA
    have HXA : Hid (∀ wv, Below wA.heap.size wA wv → (Blk wv w0.heap.size 29 VV.cells ∧ Blk wv w1.heap.size 35 vv.cells) ∧ WtR wv VV bs MM ∧ VwR wv vv Y ∧ Blk wv w.heap.size 23 #[.int .i64 C.V, .int .i64 C.D, .int .i64 C.Hd, .int .i64 C.H, .int .i64 C.L] ∧ Below w.heap.size w wv) := fun wv hb => ⟨⟨X1.below hb, X2.below hb⟩, hV.below hb, hv.below hb, X0.below hb, below_then DB hb⟩
    have KB : Below wA.heap.size wA wA := Below.refl _ _
    clear X0 X1 X2 hV hv DB SF RF9 RE FE CW
    refine wpAnyH_take (i := 0) (v := .agg VV.cells) rfl (by kernel_rfl) (by kernel_rfl) (by kernel_rfl) (fun _ _ _ h => h) (yields_rowF (by rfl) 29 _ rfl w0.heap.size rfl 29 VV.cells _ (fun w' hS => hS.1) Tryz.underlying29 rfl Tryz.infoW) (by assumption) ?_
    simp only [List.getElem_toArray, List.getElem_cons_zero, Act.put, List.setIfInBounds_toArray, List.set_cons_zero, List.set_cons_succ]
    refine wpAnyH_take (i := 2) (v := .agg vv.cells) rfl (by kernel_rfl) (by kernel_rfl) (by kernel_rfl) (fun _ _ _ h => h) (yields_rowF (by rfl) 35 _ rfl w1.heap.size rfl 35 vv.cells _ (fun w' hS => hS.2) Tryz.underlying35 rfl Tryz.infoV) (by assumption) ?_
    simp only [List.getElem_toArray, List.getElem_cons_succ, List.getElem_cons_zero, Act.put, List.setIfInBounds_toArray, List.set_cons_zero, List.set_cons_succ]
    refine wpAnyH_ready (rs := [1, 4, 5]) (by kernel_rfl) (by simp) ?_
    refine AllReadyH.cons rfl (fun Kc hKc => ?_) (AllReadyH.cons rfl (fun Kc hKc => ?_) (AllReadyH.cons rfl (fun Kc hKc => ?_) AllReadyH.nil))
    · simp only [List.getElem_toArray, List.getElem_cons_succ, List.getElem_cons_zero]
      rw [if_pos (by rfl)]
      go_wp2_with fail
      refine (told6O_any VV bs MM wA (HXA.out _ KB).2.1).mono ?_
      rintro e wq1 ⟨W3, rfl, ⟨xs, T1, O1⟩, BA⟩
      replace KB := below_then KB BA
      clear BA
      go_wp2_with fail
      refine hKc.out _ _ ((HXA.out _ KB).1) (fun hHeld => ?_)
      clear hKc Kc
      refine wpAnyH_ready (rs := [3, 4, 5]) (by kernel_rfl) (by simp) ?_
      refine AllReadyH.cons rfl (fun Kc hKc => ?_) (AllReadyH.cons rfl (fun Kc hKc => ?_) (AllReadyH.cons rfl (fun Kc hKc => ?_) AllReadyH.nil))
      · simp only [List.getElem_toArray, List.getElem_cons_succ, List.getElem_cons_zero]
        rw [if_pos (by rfl)]
        go_wp2_with fail
        refine (told9N_any vv Y wq1 (HXA.out _ KB).2.2.1).mono ?_
        rintro e wq2 ⟨t, k, v, rfl, N9, BA⟩
        rw [HYC.out] at N9
        have HT9 : Hangs (fun b => wq1.heap.size ≤ b ∧ b < wq2.heap.size) wq2 (fun w => ToldAt w t k v YC) := Hangs.mono N9 (fun b h1 h2 => ⟨h2, h1⟩)
        have hs9 : wq2.heap.size ≤ wq2.heap.size := Nat.le_refl _
        clear N9
        replace T1 := T1.below BA
        replace O1 := O1.below BA
        replace KB := below_then KB BA
        clear BA
        go_wp2_with fail
        refine hKc.out _ _ ((HXA.out _ KB).1) (fun hHeld => ?_)
        clear hKc Kc
        refine wpAnyH_ready (rs := [4, 5]) (by kernel_rfl) (by simp) ?_
        refine AllReadyH.cons rfl (fun Kc hKc => ?_) (AllReadyH.cons rfl (fun Kc hKc => ?_) AllReadyH.nil)
        · simp only [List.getElem_toArray, List.getElem_cons_succ, List.getElem_cons_zero]
          rw [if_pos (by rfl)]
          go_wp2_with fail
          have BA := below_alloc8 wq2 (.cells #[.int .i64 0, .int .i64 0, .slice none 0 0, .slice none 0 0, .slice none 0 0, .int .i64 0, .int .i64 0, .slice none 0 0] 38)
          have X4 := blk_new wq2 38 #[.int .i64 0, .int .i64 0, .slice none 0 0, .slice none 0 0, .slice none 0 0, .int .i64 0, .int .i64 0, .slice none 0 0]
          have h4A : wA.heap.size ≤ wq2.heap.size := KB.size
          have h49 : ¬ (wq1.heap.size ≤ wq2.heap.size ∧ wq2.heap.size < wq2.heap.size) := by have := hs9; omega
          generalize hwZ : wq2.alloc (.cells #[.int .i64 0, .int .i64 0, .slice none 0 0, .slice none 0 0, .slice none 0 0, .int .i64 0, .int .i64 0, .slice none 0 0] 38) = wq3 at *
          clear hwZ
          replace T1 := T1.below BA
          replace O1 := O1.below BA
          replace HT9 := HT9.below BA
          have hs9' := BA.size
          replace hs9 := Nat.le_trans hs9 hs9'
          clear hs9'
          replace KB := below_then KB BA
          clear BA
          refine hKc.out _ _ ((HXA.out _ KB).1) (fun hHeld => ?_)
          clear hKc Kc
          refine wpAnyH_ready (rs := [5]) (by kernel_rfl) (by simp) ?_
          refine AllReadyH.cons rfl (fun Kc hKc => ?_) AllReadyH.nil
          simp only [List.getElem_toArray, List.getElem_cons_succ, List.getElem_cons_zero]
          rw [if_pos (by rfl)]
          go_wp2_with fail
          have BA := below_alloc8 wq3 (.cells #[.slice none 0 0, .slice none 0 0, .slice none 0 0] 41)
          have X5 := blk_new wq3 41 #[.slice none 0 0, .slice none 0 0, .slice none 0 0]
          have h5A : wA.heap.size ≤ wq3.heap.size := KB.size
          have h45 : wq2.heap.size ≠ wq3.heap.size := by have := X4.lt; omega
          have h59 : ¬ (wq1.heap.size ≤ wq3.heap.size ∧ wq3.heap.size < wq2.heap.size) := by have := hs9; omega
          generalize hwZ : wq3.alloc (.cells #[.slice none 0 0, .slice none 0 0, .slice none 0 0] 41) = wq4 at *
          clear hwZ
          replace T1 := T1.below BA
          replace O1 := O1.below BA
          replace HT9 := HT9.below BA
          have hs9' := BA.size
          replace hs9 := Nat.le_trans hs9 hs9'
          clear hs9'
          replace X4 := X4.below BA
          replace KB := below_then KB BA
          clear BA
          refine hKc.out _ _ ((HXA.out _ KB).1) (fun hHeld => ?_)
          clear hKc Kc
          refine wpAnyH_ready (rs := [6]) (by kernel_rfl) (by simp) ?_
          refine AllReadyH.cons rfl (fun Kc hKc => ?_) AllReadyH.nil
          simp only [List.getElem_toArray, List.getElem_cons_succ, List.getElem_cons_zero]
          rw [if_pos (by rfl)]
          have so : ∀ b, b ≠ wq2.heap.size → (wq4.setRow wq2.heap.size W3.cells).heap[b]? = wq4.heap[b]? := fun b hb => setRow_other _ _ _ _ hb
          refine wp_store_row 38 _ _ rfl wq2.heap.size W3.cells rfl rfl 38 _ X4 Tryz.infoRW rfl (wt_one _) ?_
          obtain ⟨T2, O2⟩ := T1.keep O1 X4 (by decide) (by decide) so
          have HT8 := Hangs.row HT9 (g := wq2.heap.size) h49 W3.cells
          have X42 := X4.row W3.cells
          have X52 := X5.of_block (so _ (fun e => h45 e.symm))
          have KB2 := below_setRow KB (g := wq2.heap.size) h4A W3.cells
          generalize wq4.setRow wq2.heap.size W3.cells = wS at *
          clear so T1 O1 HT9 X4 X5 KB
          refine hKc.out _ _ ((HXA.out _ KB2).1) (fun hHeld => ?_)
          clear hKc Kc
          refine wpAnyH_ready (rs := [7]) (by kernel_rfl) (by simp) ?_
          refine AllReadyH.cons rfl (fun Kc hKc => ?_) AllReadyH.nil
          simp only [List.getElem_toArray, List.getElem_cons_succ, List.getElem_cons_zero]
          rw [if_pos (by rfl)]
          have so : ∀ b, b ≠ wq3.heap.size → (wS.setRow wq3.heap.size #[t.v, k.v, v.v]).heap[b]? = wS.heap[b]? := fun b hb => setRow_other _ _ _ _ hb
          refine wp_store_row 41 _ _ rfl wq3.heap.size #[t.v, k.v, v.v] rfl rfl 41 _ X52 Tryz.infoRV rfl (all3c rfl rfl rfl) ?_
          obtain ⟨T3, O3⟩ := T2.keep O2 X52 (by decide) (by decide) so
          have HT7 := Hangs.row HT8 (g := wq3.heap.size) h59 #[t.v, k.v, v.v]
          have X53 := X52.row #[t.v, k.v, v.v]
          have X43 := X42.of_block (so _ h45)
          have KB3 := below_setRow KB2 (g := wq3.heap.size) h5A #[t.v, k.v, v.v]
          generalize wS.setRow wq3.heap.size #[t.v, k.v, v.v] = wU at *
          clear so T2 O2 HT8 X42 X52 KB2
          refine hKc.out _ _ ((HXA.out _ KB3).1) (fun hHeld => ?_)
          clear hKc Kc
          refine wpAnyH_done (by kernel_rfl) ?_ _
          clear hHeld
          go_wp2_with fail
          go_meet
          case rel => exact ⟨W3, xs, t, k, v, wq2.heap.size, wq3.heap.size, rfl, rfl, X43, X53, ⟨_, T3⟩, HT7.now, (HXA.out _ KB3).2.2.2.1, (HXA.out _ KB3).2.2.2.2⟩
        · simp only [List.getElem_toArray, List.getElem_cons_succ, List.getElem_cons_zero]
          rw [if_pos (by rfl)]
          go_wp2_with fail
          have BA := below_alloc8 wq2 (.cells #[.slice none 0 0, .slice none 0 0, .slice none 0 0] 41)
          have X5 := blk_new wq2 41 #[.slice none 0 0, .slice none 0 0, .slice none 0 0]
          have h5A : wA.heap.size ≤ wq2.heap.size := KB.size
          have h59 : ¬ (wq1.heap.size ≤ wq2.heap.size ∧ wq2.heap.size < wq2.heap.size) := by have := hs9; omega
          generalize hwZ : wq2.alloc (.cells #[.slice none 0 0, .slice none 0 0, .slice none 0 0] 41) = wq3 at *
          clear hwZ
          replace T1 := T1.below BA
          replace O1 := O1.below BA
          replace HT9 := HT9.below BA
          have hs9' := BA.size
          replace hs9 := Nat.le_trans hs9 hs9'
          clear hs9'
          replace KB := below_then KB BA
          clear BA
          refine hKc.out _ _ ((HXA.out _ KB).1) (fun hHeld => ?_)
          clear hKc Kc
          refine wpAnyH_ready (rs := [4]) (by kernel_rfl) (by simp) ?_
          refine AllReadyH.cons rfl (fun Kc hKc => ?_) AllReadyH.nil
          simp only [List.getElem_toArray, List.getElem_cons_succ, List.getElem_cons_zero]
          rw [if_pos (by rfl)]
          go_wp2_with fail
          have BA := below_alloc8 wq3 (.cells #[.int .i64 0, .int .i64 0, .slice none 0 0, .slice none 0 0, .slice none 0 0, .int .i64 0, .int .i64 0, .slice none 0 0] 38)
          have X4 := blk_new wq3 38 #[.int .i64 0, .int .i64 0, .slice none 0 0, .slice none 0 0, .slice none 0 0, .int .i64 0, .int .i64 0, .slice none 0 0]
          have h4A : wA.heap.size ≤ wq3.heap.size := KB.size
          have h45 : wq3.heap.size ≠ wq2.heap.size := by have := X5.lt; omega
          have h49 : ¬ (wq1.heap.size ≤ wq3.heap.size ∧ wq3.heap.size < wq2.heap.size) := by have := hs9; omega
          generalize hwZ : wq3.alloc (.cells #[.int .i64 0, .int .i64 0, .slice none 0 0, .slice none 0 0, .slice none 0 0, .int .i64 0, .int .i64 0, .slice none 0 0] 38) = wq4 at *
          clear hwZ
          replace T1 := T1.below BA
          replace O1 := O1.below BA
          replace HT9 := HT9.below BA
          have hs9' := BA.size
          replace hs9 := Nat.le_trans hs9 hs9'
          clear hs9'
          replace X5 := X5.below BA
          replace KB := below_then KB BA
          clear BA
          refine hKc.out _ _ ((HXA.out _ KB).1) (fun hHeld => ?_)
          clear hKc Kc
          refine wpAnyH_ready (rs := [6]) (by kernel_rfl) (by simp) ?_
          refine AllReadyH.cons rfl (fun Kc hKc => ?_) AllReadyH.nil
          simp only [List.getElem_toArray, List.getElem_cons_succ, List.getElem_cons_zero]
          rw [if_pos (by rfl)]
          have so : ∀ b, b ≠ wq3.heap.size → (wq4.setRow wq3.heap.size W3.cells).heap[b]? = wq4.heap[b]? := fun b hb => setRow_other _ _ _ _ hb
          refine wp_store_row 38 _ _ rfl wq3.heap.size W3.cells rfl rfl 38 _ X4 Tryz.infoRW rfl (wt_one _) ?_
          obtain ⟨T2, O2⟩ := T1.keep O1 X4 (by decide) (by decide) so
          have HT8 := Hangs.row HT9 (g := wq3.heap.size) h49 W3.cells
          have X42 := X4.row W3.cells
          have X52 := X5.of_block (so _ (fun e => h45 e.symm))
          have KB2 := below_setRow KB (g := wq3.heap.size) h4A W3.cells
          generalize wq4.setRow wq3.heap.size W3.cells = wS at *
          clear so T1 O1 HT9 X4 X5 KB
          refine hKc.out _ _ ((HXA.out _ KB2).1) (fun hHeld => ?_)
          clear hKc Kc
          refine wpAnyH_ready (rs := [7]) (by kernel_rfl) (by simp) ?_
          refine AllReadyH.cons rfl (fun Kc hKc => ?_) AllReadyH.nil
          simp only [List.getElem_toArray, List.getElem_cons_succ, List.getElem_cons_zero]
          rw [if_pos (by rfl)]
          have so : ∀ b, b ≠ wq2.heap.size → (wS.setRow wq2.heap.size #[t.v, k.v, v.v]).heap[b]? = wS.heap[b]? := fun b hb => setRow_other _ _ _ _ hb
          refine wp_store_row 41 _ _ rfl wq2.heap.size #[t.v, k.v, v.v] rfl rfl 41 _ X52 Tryz.infoRV rfl (all3c rfl rfl rfl) ?_
          obtain ⟨T3, O3⟩ := T2.keep O2 X52 (by decide) (by decide) so
          have HT7 := Hangs.row HT8 (g := wq2.heap.size) h59 #[t.v, k.v, v.v]
          have X53 := X52.row #[t.v, k.v, v.v]
          have X43 := X42.of_block (so _ h45)
          have KB3 := below_setRow KB2 (g := wq2.heap.size) h5A #[t.v, k.v, v.v]
          generalize wS.setRow wq2.heap.size #[t.v, k.v, v.v] = wU at *
          clear so T2 O2 HT8 X42 X52 KB2
          refine hKc.out _ _ ((HXA.out _ KB3).1) (fun hHeld => ?_)
          clear hKc Kc
          refine wpAnyH_done (by kernel_rfl) ?_ _
          clear hHeld
          go_wp2_with fail
          go_meet
          case rel => exact ⟨W3, xs, t, k, v, wq3.heap.size, wq2.heap.size, rfl, rfl, X43, X53, ⟨_, T3⟩, HT7.now, (HXA.out _ KB3).2.2.2.1, (HXA.out _ KB3).2.2.2.2⟩
      · simp only [List.getElem_toArray, List.getElem_cons_succ, List.getElem_cons_zero]
        rw [if_pos (by rfl)]
        go_wp2_with fail
        have BA := below_alloc8 wq1 (.cells #[.int .i64 0, .int .i64 0, .slice none 0 0, .slice none 0 0, .slice none 0 0, .int .i64 0, .int .i64 0, .slice none 0 0] 38)
        have X4 := blk_new wq1 38 #[.int .i64 0, .int .i64 0, .slice none 0 0, .slice none 0 0, .slice none 0 0, .int .i64 0, .int .i64 0, .slice none 0 0]
        have h4A : wA.heap.size ≤ wq1.heap.size := KB.size
        generalize hwZ : wq1.alloc (.cells #[.int .i64 0, .int .i64 0, .slice none 0 0, .slice none 0 0, .slice none 0 0, .int .i64 0, .int .i64 0, .slice none 0 0] 38) = wq2 at *
        clear hwZ
        replace T1 := T1.below BA
        replace O1 := O1.below BA
        replace KB := below_then KB BA
        clear BA
        refine hKc.out _ _ ((HXA.out _ KB).1) (fun hHeld => ?_)
        clear hKc Kc
        refine wpAnyH_ready (rs := [3, 5]) (by kernel_rfl) (by simp) ?_
        refine AllReadyH.cons rfl (fun Kc hKc => ?_) (AllReadyH.cons rfl (fun Kc hKc => ?_) AllReadyH.nil)
        · simp only [List.getElem_toArray, List.getElem_cons_succ, List.getElem_cons_zero]
          rw [if_pos (by rfl)]
          go_wp2_with fail
          refine (told9N_any vv Y wq2 (HXA.out _ KB).2.2.1).mono ?_
          rintro e wq3 ⟨t, k, v, rfl, N9, BA⟩
          rw [HYC.out] at N9
          have HT9 : Hangs (fun b => wq2.heap.size ≤ b ∧ b < wq3.heap.size) wq3 (fun w => ToldAt w t k v YC) := Hangs.mono N9 (fun b h1 h2 => ⟨h2, h1⟩)
          have hs9 : wq3.heap.size ≤ wq3.heap.size := Nat.le_refl _
          have h49 : ¬ (wq2.heap.size ≤ wq1.heap.size ∧ wq1.heap.size < wq3.heap.size) := by have := X4.lt; omega
          clear N9
          replace T1 := T1.below BA
          replace O1 := O1.below BA
          replace X4 := X4.below BA
          replace KB := below_then KB BA
          clear BA
          go_wp2_with fail
          refine hKc.out _ _ ((HXA.out _ KB).1) (fun hHeld => ?_)
          clear hKc Kc
          refine wpAnyH_ready (rs := [5]) (by kernel_rfl) (by simp) ?_
          refine AllReadyH.cons rfl (fun Kc hKc => ?_) AllReadyH.nil
          simp only [List.getElem_toArray, List.getElem_cons_succ, List.getElem_cons_zero]
          rw [if_pos (by rfl)]
          go_wp2_with fail
          have BA := below_alloc8 wq3 (.cells #[.slice none 0 0, .slice none 0 0, .slice none 0 0] 41)
          have X5 := blk_new wq3 41 #[.slice none 0 0, .slice none 0 0, .slice none 0 0]
          have h5A : wA.heap.size ≤ wq3.heap.size := KB.size
          have h45 : wq1.heap.size ≠ wq3.heap.size := by have := X4.lt; omega
          have h59 : ¬ (wq2.heap.size ≤ wq3.heap.size ∧ wq3.heap.size < wq3.heap.size) := by have := hs9; omega
          generalize hwZ : wq3.alloc (.cells #[.slice none 0 0, .slice none 0 0, .slice none 0 0] 41) = wq4 at *
          clear hwZ
          replace T1 := T1.below BA
          replace O1 := O1.below BA
          replace HT9 := HT9.below BA
          have hs9' := BA.size
          replace hs9 := Nat.le_trans hs9 hs9'
          clear hs9'
          replace X4 := X4.below BA
          replace KB := below_then KB BA
          clear BA
          refine hKc.out _ _ ((HXA.out _ KB).1) (fun hHeld => ?_)
          clear hKc Kc
          refine wpAnyH_ready (rs := [6]) (by kernel_rfl) (by simp) ?_
          refine AllReadyH.cons rfl (fun Kc hKc => ?_) AllReadyH.nil
          simp only [List.getElem_toArray, List.getElem_cons_succ, List.getElem_cons_zero]
          rw [if_pos (by rfl)]
          have so : ∀ b, b ≠ wq1.heap.size → (wq4.setRow wq1.heap.size W3.cells).heap[b]? = wq4.heap[b]? := fun b hb => setRow_other _ _ _ _ hb
          refine wp_store_row 38 _ _ rfl wq1.heap.size W3.cells rfl rfl 38 _ X4 Tryz.infoRW rfl (wt_one _) ?_
          obtain ⟨T2, O2⟩ := T1.keep O1 X4 (by decide) (by decide) so
          have HT8 := Hangs.row HT9 (g := wq1.heap.size) h49 W3.cells
          have X42 := X4.row W3.cells
          have X52 := X5.of_block (so _ (fun e => h45 e.symm))
          have KB2 := below_setRow KB (g := wq1.heap.size) h4A W3.cells
          generalize wq4.setRow wq1.heap.size W3.cells = wS at *
          clear so T1 O1 HT9 X4 X5 KB
          refine hKc.out _ _ ((HXA.out _ KB2).1) (fun hHeld => ?_)
          clear hKc Kc
          refine wpAnyH_ready (rs := [7]) (by kernel_rfl) (by simp) ?_
          refine AllReadyH.cons rfl (fun Kc hKc => ?_) AllReadyH.nil
          simp only [List.getElem_toArray, List.getElem_cons_succ, List.getElem_cons_zero]
          rw [if_pos (by rfl)]
          have so : ∀ b, b ≠ wq3.heap.size → (wS.setRow wq3.heap.size #[t.v, k.v, v.v]).heap[b]? = wS.heap[b]? := fun b hb => setRow_other _ _ _ _ hb
          refine wp_store_row 41 _ _ rfl wq3.heap.size #[t.v, k.v, v.v] rfl rfl 41 _ X52 Tryz.infoRV rfl (all3c rfl rfl rfl) ?_
          obtain ⟨T3, O3⟩ := T2.keep O2 X52 (by decide) (by decide) so
          have HT7 := Hangs.row HT8 (g := wq3.heap.size) h59 #[t.v, k.v, v.v]
          have X53 := X52.row #[t.v, k.v, v.v]
          have X43 := X42.of_block (so _ h45)
          have KB3 := below_setRow KB2 (g := wq3.heap.size) h5A #[t.v, k.v, v.v]
          generalize wS.setRow wq3.heap.size #[t.v, k.v, v.v] = wU at *
          clear so T2 O2 HT8 X42 X52 KB2
          refine hKc.out _ _ ((HXA.out _ KB3).1) (fun hHeld => ?_)
          clear hKc Kc
          refine wpAnyH_done (by kernel_rfl) ?_ _
          clear hHeld
          go_wp2_with fail
          go_meet
          case rel => exact ⟨W3, xs, t, k, v, wq1.heap.size, wq3.heap.size, rfl, rfl, X43, X53, ⟨_, T3⟩, HT7.now, (HXA.out _ KB3).2.2.2.1, (HXA.out _ KB3).2.2.2.2⟩
        · simp only [List.getElem_toArray, List.getElem_cons_succ, List.getElem_cons_zero]
          rw [if_pos (by rfl)]
          go_wp2_with fail
          have BA := below_alloc8 wq2 (.cells #[.slice none 0 0, .slice none 0 0, .slice none 0 0] 41)
          have X5 := blk_new wq2 41 #[.slice none 0 0, .slice none 0 0, .slice none 0 0]
          have h5A : wA.heap.size ≤ wq2.heap.size := KB.size
          have h45 : wq1.heap.size ≠ wq2.heap.size := by have := X4.lt; omega
          generalize hwZ : wq2.alloc (.cells #[.slice none 0 0, .slice none 0 0, .slice none 0 0] 41) = wq3 at *
          clear hwZ
          replace T1 := T1.below BA
          replace O1 := O1.below BA
          replace X4 := X4.below BA
          replace KB := below_then KB BA
          clear BA
          refine hKc.out _ _ ((HXA.out _ KB).1) (fun hHeld => ?_)
          clear hKc Kc
          refine wpAnyH_ready (rs := [3]) (by kernel_rfl) (by simp) ?_
          refine AllReadyH.cons rfl (fun Kc hKc => ?_) AllReadyH.nil
          simp only [List.getElem_toArray, List.getElem_cons_succ, List.getElem_cons_zero]
          rw [if_pos (by rfl)]
          go_wp2_with fail
          refine (told9N_any vv Y wq3 (HXA.out _ KB).2.2.1).mono ?_
          rintro e wq4 ⟨t, k, v, rfl, N9, BA⟩
          rw [HYC.out] at N9
          have HT9 : Hangs (fun b => wq3.heap.size ≤ b ∧ b < wq4.heap.size) wq4 (fun w => ToldAt w t k v YC) := Hangs.mono N9 (fun b h1 h2 => ⟨h2, h1⟩)
          have hs9 : wq4.heap.size ≤ wq4.heap.size := Nat.le_refl _
          have h49 : ¬ (wq3.heap.size ≤ wq1.heap.size ∧ wq1.heap.size < wq4.heap.size) := by have := X4.lt; omega
          have h59 : ¬ (wq3.heap.size ≤ wq2.heap.size ∧ wq2.heap.size < wq4.heap.size) := by have := X5.lt; omega
          clear N9
          replace T1 := T1.below BA
          replace O1 := O1.below BA
          replace X4 := X4.below BA
          replace X5 := X5.below BA
          replace KB := below_then KB BA
          clear BA
          go_wp2_with fail
          refine hKc.out _ _ ((HXA.out _ KB).1) (fun hHeld => ?_)
          clear hKc Kc
          refine wpAnyH_ready (rs := [6]) (by kernel_rfl) (by simp) ?_
          refine AllReadyH.cons rfl (fun Kc hKc => ?_) AllReadyH.nil
          simp only [List.getElem_toArray, List.getElem_cons_succ, List.getElem_cons_zero]
          rw [if_pos (by rfl)]
          have so : ∀ b, b ≠ wq1.heap.size → (wq4.setRow wq1.heap.size W3.cells).heap[b]? = wq4.heap[b]? := fun b hb => setRow_other _ _ _ _ hb
          refine wp_store_row 38 _ _ rfl wq1.heap.size W3.cells rfl rfl 38 _ X4 Tryz.infoRW rfl (wt_one _) ?_
          obtain ⟨T2, O2⟩ := T1.keep O1 X4 (by decide) (by decide) so
          have HT8 := Hangs.row HT9 (g := wq1.heap.size) h49 W3.cells
          have X42 := X4.row W3.cells
          have X52 := X5.of_block (so _ (fun e => h45 e.symm))
          have KB2 := below_setRow KB (g := wq1.heap.size) h4A W3.cells
          generalize wq4.setRow wq1.heap.size W3.cells = wS at *
          clear so T1 O1 HT9 X4 X5 KB
          refine hKc.out _ _ ((HXA.out _ KB2).1) (fun hHeld => ?_)
          clear hKc Kc
          refine wpAnyH_ready (rs := [7]) (by kernel_rfl) (by simp) ?_
          refine AllReadyH.cons rfl (fun Kc hKc => ?_) AllReadyH.nil
          simp only [List.getElem_toArray, List.getElem_cons_succ, List.getElem_cons_zero]
          rw [if_pos (by rfl)]
          have so : ∀ b, b ≠ wq2.heap.size → (wS.setRow wq2.heap.size #[t.v, k.v, v.v]).heap[b]? = wS.heap[b]? := fun b hb => setRow_other _ _ _ _ hb
          refine wp_store_row 41 _ _ rfl wq2.heap.size #[t.v, k.v, v.v] rfl rfl 41 _ X52 Tryz.infoRV rfl (all3c rfl rfl rfl) ?_
          obtain ⟨T3, O3⟩ := T2.keep O2 X52 (by decide) (by decide) so
          have HT7 := Hangs.row HT8 (g := wq2.heap.size) h59 #[t.v, k.v, v.v]
          have X53 := X52.row #[t.v, k.v, v.v]
          have X43 := X42.of_block (so _ h45)
          have KB3 := below_setRow KB2 (g := wq2.heap.size) h5A #[t.v, k.v, v.v]
          generalize wS.setRow wq2.heap.size #[t.v, k.v, v.v] = wU at *
          clear so T2 O2 HT8 X42 X52 KB2
          refine hKc.out _ _ ((HXA.out _ KB3).1) (fun hHeld => ?_)
          clear hKc Kc
          refine wpAnyH_done (by kernel_rfl) ?_ _
          clear hHeld
          go_wp2_with fail
          go_meet
          case rel => exact ⟨W3, xs, t, k, v, wq1.heap.size, wq2.heap.size, rfl, rfl, X43, X53, ⟨_, T3⟩, HT7.now, (HXA.out _ KB3).2.2.2.1, (HXA.out _ KB3).2.2.2.2⟩
      · simp only [List.getElem_toArray, List.getElem_cons_succ, List.getElem_cons_zero]
        rw [if_pos (by rfl)]
        go_wp2_with fail
        have BA := below_alloc8 wq1 (.cells #[.slice none 0 0, .slice none 0 0, .slice none 0 0] 41)
        have X5 := blk_new wq1 41 #[.slice none 0 0, .slice none 0 0, .slice none 0 0]
        have h5A : wA.heap.size ≤ wq1.heap.size := KB.size
        generalize hwZ : wq1.alloc (.cells #[.slice none 0 0, .slice none 0 0, .slice none 0 0] 41) = wq2 at *
        clear hwZ
        replace T1 := T1.below BA
        replace O1 := O1.below BA
        replace KB := below_then KB BA
        clear BA
        refine hKc.out _ _ ((HXA.out _ KB).1) (fun hHeld => ?_)
        clear hKc Kc
        refine wpAnyH_ready (rs := [3, 4]) (by kernel_rfl) (by simp) ?_
        refine AllReadyH.cons rfl (fun Kc hKc => ?_) (AllReadyH.cons rfl (fun Kc hKc => ?_) AllReadyH.nil)
        · simp only [List.getElem_toArray, List.getElem_cons_succ, List.getElem_cons_zero]
          rw [if_pos (by rfl)]
          go_wp2_with fail
          refine (told9N_any vv Y wq2 (HXA.out _ KB).2.2.1).mono ?_
          rintro e wq3 ⟨t, k, v, rfl, N9, BA⟩
          rw [HYC.out] at N9
          have HT9 : Hangs (fun b => wq2.heap.size ≤ b ∧ b < wq3.heap.size) wq3 (fun w => ToldAt w t k v YC) := Hangs.mono N9 (fun b h1 h2 => ⟨h2, h1⟩)
          have hs9 : wq3.heap.size ≤ wq3.heap.size := Nat.le_refl _
          have h59 : ¬ (wq2.heap.size ≤ wq1.heap.size ∧ wq1.heap.size < wq3.heap.size) := by have := X5.lt; omega
          clear N9
          replace T1 := T1.below BA
          replace O1 := O1.below BA
          replace X5 := X5.below BA
          replace KB := below_then KB BA
          clear BA
          go_wp2_with fail
          refine hKc.out _ _ ((HXA.out _ KB).1) (fun hHeld => ?_)
          clear hKc Kc
          refine wpAnyH_ready (rs := [4]) (by kernel_rfl) (by simp) ?_
          refine AllReadyH.cons rfl (fun Kc hKc => ?_) AllReadyH.nil
          simp only [List.getElem_toArray, List.getElem_cons_succ, List.getElem_cons_zero]
          rw [if_pos (by rfl)]
          go_wp2_with fail
          have BA := below_alloc8 wq3 (.cells #[.int .i64 0, .int .i64 0, .slice none 0 0, .slice none 0 0, .slice none 0 0, .int .i64 0, .int .i64 0, .slice none 0 0] 38)
          have X4 := blk_new wq3 38 #[.int .i64 0, .int .i64 0, .slice none 0 0, .slice none 0 0, .slice none 0 0, .int .i64 0, .int .i64 0, .slice none 0 0]
          have h4A : wA.heap.size ≤ wq3.heap.size := KB.size
          have h45 : wq3.heap.size ≠ wq1.heap.size := by have := X5.lt; omega
          have h49 : ¬ (wq2.heap.size ≤ wq3.heap.size ∧ wq3.heap.size < wq3.heap.size) := by have := hs9; omega
          generalize hwZ : wq3.alloc (.cells #[.int .i64 0, .int .i64 0, .slice none 0 0, .slice none 0 0, .slice none 0 0, .int .i64 0, .int .i64 0, .slice none 0 0] 38) = wq4 at *
          clear hwZ
          replace T1 := T1.below BA
          replace O1 := O1.below BA
          replace HT9 := HT9.below BA
          have hs9' := BA.size
          replace hs9 := Nat.le_trans hs9 hs9'
          clear hs9'
          replace X5 := X5.below BA
          replace KB := below_then KB BA
          clear BA
          refine hKc.out _ _ ((HXA.out _ KB).1) (fun hHeld => ?_)
          clear hKc Kc
          refine wpAnyH_ready (rs := [6]) (by kernel_rfl) (by simp) ?_
          refine AllReadyH.cons rfl (fun Kc hKc => ?_) AllReadyH.nil
          simp only [List.getElem_toArray, List.getElem_cons_succ, List.getElem_cons_zero]
          rw [if_pos (by rfl)]
          have so : ∀ b, b ≠ wq3.heap.size → (wq4.setRow wq3.heap.size W3.cells).heap[b]? = wq4.heap[b]? := fun b hb => setRow_other _ _ _ _ hb
          refine wp_store_row 38 _ _ rfl wq3.heap.size W3.cells rfl rfl 38 _ X4 Tryz.infoRW rfl (wt_one _) ?_
          obtain ⟨T2, O2⟩ := T1.keep O1 X4 (by decide) (by decide) so
          have HT8 := Hangs.row HT9 (g := wq3.heap.size) h49 W3.cells
          have X42 := X4.row W3.cells
          have X52 := X5.of_block (so _ (fun e => h45 e.symm))
          have KB2 := below_setRow KB (g := wq3.heap.size) h4A W3.cells
          generalize wq4.setRow wq3.heap.size W3.cells = wS at *
          clear so T1 O1 HT9 X4 X5 KB
          refine hKc.out _ _ ((HXA.out _ KB2).1) (fun hHeld => ?_)
          clear hKc Kc
          refine wpAnyH_ready (rs := [7]) (by kernel_rfl) (by simp) ?_
          refine AllReadyH.cons rfl (fun Kc hKc => ?_) AllReadyH.nil
          simp only [List.getElem_toArray, List.getElem_cons_succ, List.getElem_cons_zero]
          rw [if_pos (by rfl)]
          have so : ∀ b, b ≠ wq1.heap.size → (wS.setRow wq1.heap.size #[t.v, k.v, v.v]).heap[b]? = wS.heap[b]? := fun b hb => setRow_other _ _ _ _ hb
          refine wp_store_row 41 _ _ rfl wq1.heap.size #[t.v, k.v, v.v] rfl rfl 41 _ X52 Tryz.infoRV rfl (all3c rfl rfl rfl) ?_
          obtain ⟨T3, O3⟩ := T2.keep O2 X52 (by decide) (by decide) so
          have HT7 := Hangs.row HT8 (g := wq1.heap.size) h59 #[t.v, k.v, v.v]
          have X53 := X52.row #[t.v, k.v, v.v]
          have X43 := X42.of_block (so _ h45)
          have KB3 := below_setRow KB2 (g := wq1.heap.size) h5A #[t.v, k.v, v.v]
          generalize wS.setRow wq1.heap.size #[t.v, k.v, v.v] = wU at *
          clear so T2 O2 HT8 X42 X52 KB2
          refine hKc.out _ _ ((HXA.out _ KB3).1) (fun hHeld => ?_)
          clear hKc Kc
          refine wpAnyH_done (by kernel_rfl) ?_ _
          clear hHeld
          go_wp2_with fail
          go_meet
          case rel => exact ⟨W3, xs, t, k, v, wq3.heap.size, wq1.heap.size, rfl, rfl, X43, X53, ⟨_, T3⟩, HT7.now, (HXA.out _ KB3).2.2.2.1, (HXA.out _ KB3).2.2.2.2⟩
        · simp only [List.getElem_toArray, List.getElem_cons_succ, List.getElem_cons_zero]
          rw [if_pos (by rfl)]
          go_wp2_with fail
          have BA := below_alloc8 wq2 (.cells #[.int .i64 0, .int .i64 0, .slice none 0 0, .slice none 0 0, .slice none 0 0, .int .i64 0, .int .i64 0, .slice none 0 0] 38)
          have X4 := blk_new wq2 38 #[.int .i64 0, .int .i64 0, .slice none 0 0, .slice none 0 0, .slice none 0 0, .int .i64 0, .int .i64 0, .slice none 0 0]
          have h4A : wA.heap.size ≤ wq2.heap.size := KB.size
          have h45 : wq2.heap.size ≠ wq1.heap.size := by have := X5.lt; omega
          generalize hwZ : wq2.alloc (.cells #[.int .i64 0, .int .i64 0, .slice none 0 0, .slice none 0 0, .slice none 0 0, .int .i64 0, .int .i64 0, .slice none 0 0] 38) = wq3 at *
          clear hwZ
          replace T1 := T1.below BA
          replace O1 := O1.below BA
          replace X5 := X5.below BA
          replace KB := below_then KB BA
          clear BA
          refine hKc.out _ _ ((HXA.out _ KB).1) (fun hHeld => ?_)
          clear hKc Kc
          refine wpAnyH_ready (rs := [3]) (by kernel_rfl) (by simp) ?_
          refine AllReadyH.cons rfl (fun Kc hKc => ?_) AllReadyH.nil
          simp only [List.getElem_toArray, List.getElem_cons_succ, List.getElem_cons_zero]
          rw [if_pos (by rfl)]
          go_wp2_with fail
          refine (told9N_any vv Y wq3 (HXA.out _ KB).2.2.1).mono ?_
          rintro e wq4 ⟨t, k, v, rfl, N9, BA⟩
          rw [HYC.out] at N9
          have HT9 : Hangs (fun b => wq3.heap.size ≤ b ∧ b < wq4.heap.size) wq4 (fun w => ToldAt w t k v YC) := Hangs.mono N9 (fun b h1 h2 => ⟨h2, h1⟩)
          have hs9 : wq4.heap.size ≤ wq4.heap.size := Nat.le_refl _
          have h49 : ¬ (wq3.heap.size ≤ wq2.heap.size ∧ wq2.heap.size < wq4.heap.size) := by have := X4.lt; omega
          have h59 : ¬ (wq3.heap.size ≤ wq1.heap.size ∧ wq1.heap.size < wq4.heap.size) := by have := X5.lt; omega
          clear N9
          replace T1 := T1.below BA
          replace O1 := O1.below BA
          replace X4 := X4.below BA
          replace X5 := X5.below BA
          replace KB := below_then KB BA
          clear BA
          go_wp2_with fail
          refine hKc.out _ _ ((HXA.out _ KB).1) (fun hHeld => ?_)
          clear hKc Kc
          refine wpAnyH_ready (rs := [6]) (by kernel_rfl) (by simp) ?_
          refine AllReadyH.cons rfl (fun Kc hKc => ?_) AllReadyH.nil
          simp only [List.getElem_toArray, List.getElem_cons_succ, List.getElem_cons_zero]
          rw [if_pos (by rfl)]
          have so : ∀ b, b ≠ wq2.heap.size → (wq4.setRow wq2.heap.size W3.cells).heap[b]? = wq4.heap[b]? := fun b hb => setRow_other _ _ _ _ hb
          refine wp_store_row 38 _ _ rfl wq2.heap.size W3.cells rfl rfl 38 _ X4 Tryz.infoRW rfl (wt_one _) ?_
          obtain ⟨T2, O2⟩ := T1.keep O1 X4 (by decide) (by decide) so
          have HT8 := Hangs.row HT9 (g := wq2.heap.size) h49 W3.cells
          have X42 := X4.row W3.cells
          have X52 := X5.of_block (so _ (fun e => h45 e.symm))
          have KB2 := below_setRow KB (g := wq2.heap.size) h4A W3.cells
          generalize wq4.setRow wq2.heap.size W3.cells = wS at *
          clear so T1 O1 HT9 X4 X5 KB
          refine hKc.out _ _ ((HXA.out _ KB2).1) (fun hHeld => ?_)
          clear hKc Kc
          refine wpAnyH_ready (rs := [7]) (by kernel_rfl) (by simp) ?_
          refine AllReadyH.cons rfl (fun Kc hKc => ?_) AllReadyH.nil
          simp only [List.getElem_toArray, List.getElem_cons_succ, List.getElem_cons_zero]
          rw [if_pos (by rfl)]
          have so : ∀ b, b ≠ wq1.heap.size → (wS.setRow wq1.heap.size #[t.v, k.v, v.v]).heap[b]? = wS.heap[b]? := fun b hb => setRow_other _ _ _ _ hb
          refine wp_store_row 41 _ _ rfl wq1.heap.size #[t.v, k.v, v.v] rfl rfl 41 _ X52 Tryz.infoRV rfl (all3c rfl rfl rfl) ?_
          obtain ⟨T3, O3⟩ := T2.keep O2 X52 (by decide) (by decide) so
          have HT7 := Hangs.row HT8 (g := wq1.heap.size) h59 #[t.v, k.v, v.v]
          have X53 := X52.row #[t.v, k.v, v.v]
          have X43 := X42.of_block (so _ h45)
          have KB3 := below_setRow KB2 (g := wq1.heap.size) h5A #[t.v, k.v, v.v]
          generalize wS.setRow wq1.heap.size #[t.v, k.v, v.v] = wU at *
          clear so T2 O2 HT8 X42 X52 KB2
          refine hKc.out _ _ ((HXA.out _ KB3).1) (fun hHeld => ?_)
          clear hKc Kc
          refine wpAnyH_done (by kernel_rfl) ?_ _
          clear hHeld
          go_wp2_with fail
          go_meet
          case rel => exact ⟨W3, xs, t, k, v, wq2.heap.size, wq1.heap.size, rfl, rfl, X43, X53, ⟨_, T3⟩, HT7.now, (HXA.out _ KB3).2.2.2.1, (HXA.out _ KB3).2.2.2.2⟩
    · simp only [List.getElem_toArray, List.getElem_cons_succ, List.getElem_cons_zero]
      rw [if_pos (by rfl)]
      go_wp2_with fail
      have BA := below_alloc8 wA (.cells #[.int .i64 0, .int .i64 0, .slice none 0 0, .slice none 0 0, .slice none 0 0, .int .i64 0, .int .i64 0, .slice none 0 0] 38)
      have X4 := blk_new wA 38 #[.int .i64 0, .int .i64 0, .slice none 0 0, .slice none 0 0, .slice none 0 0, .int .i64 0, .int .i64 0, .slice none 0 0]
      have h4A : wA.heap.size ≤ wA.heap.size := KB.size
      generalize hwZ : wA.alloc (.cells #[.int .i64 0, .int .i64 0, .slice none 0 0, .slice none 0 0, .slice none 0 0, .int .i64 0, .int .i64 0, .slice none 0 0] 38) = wq1 at *
      clear hwZ
      replace KB := below_then KB BA
      clear BA
      refine hKc.out _ _ ((HXA.out _ KB).1) (fun hHeld => ?_)
      clear hKc Kc
      refine wpAnyH_ready (rs := [1, 5]) (by kernel_rfl) (by simp) ?_
      refine AllReadyH.cons rfl (fun Kc hKc => ?_) (AllReadyH.cons rfl (fun Kc hKc => ?_) AllReadyH.nil)
      · simp only [List.getElem_toArray, List.getElem_cons_succ, List.getElem_cons_zero]
        rw [if_pos (by rfl)]
        go_wp2_with fail
        refine (told6O_any VV bs MM wq1 (HXA.out _ KB).2.1).mono ?_
        rintro e wq2 ⟨W3, rfl, ⟨xs, T1, O1⟩, BA⟩
        replace X4 := X4.below BA
        replace KB := below_then KB BA
        clear BA
        go_wp2_with fail
        refine hKc.out _ _ ((HXA.out _ KB).1) (fun hHeld => ?_)
        clear hKc Kc
        refine wpAnyH_ready (rs := [3, 5]) (by kernel_rfl) (by simp) ?_
        refine AllReadyH.cons rfl (fun Kc hKc => ?_) (AllReadyH.cons rfl (fun Kc hKc => ?_) AllReadyH.nil)
        · simp only [List.getElem_toArray, List.getElem_cons_succ, List.getElem_cons_zero]
          rw [if_pos (by rfl)]
          go_wp2_with fail
          refine (told9N_any vv Y wq2 (HXA.out _ KB).2.2.1).mono ?_
          rintro e wq3 ⟨t, k, v, rfl, N9, BA⟩
          rw [HYC.out] at N9
          have HT9 : Hangs (fun b => wq2.heap.size ≤ b ∧ b < wq3.heap.size) wq3 (fun w => ToldAt w t k v YC) := Hangs.mono N9 (fun b h1 h2 => ⟨h2, h1⟩)
          have hs9 : wq3.heap.size ≤ wq3.heap.size := Nat.le_refl _
          have h49 : ¬ (wq2.heap.size ≤ wA.heap.size ∧ wA.heap.size < wq3.heap.size) := by have := X4.lt; omega
          clear N9
          replace T1 := T1.below BA
          replace O1 := O1.below BA
          replace X4 := X4.below BA
          replace KB := below_then KB BA
          clear BA
          go_wp2_with fail
          refine hKc.out _ _ ((HXA.out _ KB).1) (fun hHeld => ?_)
          clear hKc Kc
          refine wpAnyH_ready (rs := [5]) (by kernel_rfl) (by simp) ?_
          refine AllReadyH.cons rfl (fun Kc hKc => ?_) AllReadyH.nil
          simp only [List.getElem_toArray, List.getElem_cons_succ, List.getElem_cons_zero]
          rw [if_pos (by rfl)]
          go_wp2_with fail
          have BA := below_alloc8 wq3 (.cells #[.slice none 0 0, .slice none 0 0, .slice none 0 0] 41)
          have X5 := blk_new wq3 41 #[.slice none 0 0, .slice none 0 0, .slice none 0 0]
          have h5A : wA.heap.size ≤ wq3.heap.size := KB.size
          have h45 : wA.heap.size ≠ wq3.heap.size := by have := X4.lt; omega
          have h59 : ¬ (wq2.heap.size ≤ wq3.heap.size ∧ wq3.heap.size < wq3.heap.size) := by have := hs9; omega
          generalize hwZ : wq3.alloc (.cells #[.slice none 0 0, .slice none 0 0, .slice none 0 0] 41) = wq4 at *
          clear hwZ
          replace T1 := T1.below BA
          replace O1 := O1.below BA
          replace HT9 := HT9.below BA
          have hs9' := BA.size
          replace hs9 := Nat.le_trans hs9 hs9'
          clear hs9'
          replace X4 := X4.below BA
          replace KB := below_then KB BA
          clear BA
          refine hKc.out _ _ ((HXA.out _ KB).1) (fun hHeld => ?_)
          clear hKc Kc
          refine wpAnyH_ready (rs := [6]) (by kernel_rfl) (by simp) ?_
          refine AllReadyH.cons rfl (fun Kc hKc => ?_) AllReadyH.nil
          simp only [List.getElem_toArray, List.getElem_cons_succ, List.getElem_cons_zero]
          rw [if_pos (by rfl)]
          have so : ∀ b, b ≠ wA.heap.size → (wq4.setRow wA.heap.size W3.cells).heap[b]? = wq4.heap[b]? := fun b hb => setRow_other _ _ _ _ hb
          refine wp_store_row 38 _ _ rfl wA.heap.size W3.cells rfl rfl 38 _ X4 Tryz.infoRW rfl (wt_one _) ?_
          obtain ⟨T2, O2⟩ := T1.keep O1 X4 (by decide) (by decide) so
          have HT8 := Hangs.row HT9 (g := wA.heap.size) h49 W3.cells
          have X42 := X4.row W3.cells
          have X52 := X5.of_block (so _ (fun e => h45 e.symm))
          have KB2 := below_setRow KB (g := wA.heap.size) h4A W3.cells
          generalize wq4.setRow wA.heap.size W3.cells = wS at *
          clear so T1 O1 HT9 X4 X5 KB
          refine hKc.out _ _ ((HXA.out _ KB2).1) (fun hHeld => ?_)
          clear hKc Kc
          refine wpAnyH_ready (rs := [7]) (by kernel_rfl) (by simp) ?_
          refine AllReadyH.cons rfl (fun Kc hKc => ?_) AllReadyH.nil
          simp only [List.getElem_toArray, List.getElem_cons_succ, List.getElem_cons_zero]
          rw [if_pos (by rfl)]
          have so : ∀ b, b ≠ wq3.heap.size → (wS.setRow wq3.heap.size #[t.v, k.v, v.v]).heap[b]? = wS.heap[b]? := fun b hb => setRow_other _ _ _ _ hb
          refine wp_store_row 41 _ _ rfl wq3.heap.size #[t.v, k.v, v.v] rfl rfl 41 _ X52 Tryz.infoRV rfl (all3c rfl rfl rfl) ?_
          obtain ⟨T3, O3⟩ := T2.keep O2 X52 (by decide) (by decide) so
          have HT7 := Hangs.row HT8 (g := wq3.heap.size) h59 #[t.v, k.v, v.v]
          have X53 := X52.row #[t.v, k.v, v.v]
          have X43 := X42.of_block (so _ h45)
          have KB3 := below_setRow KB2 (g := wq3.heap.size) h5A #[t.v, k.v, v.v]
          generalize wS.setRow wq3.heap.size #[t.v, k.v, v.v] = wU at *
          clear so T2 O2 HT8 X42 X52 KB2
          refine hKc.out _ _ ((HXA.out _ KB3).1) (fun hHeld => ?_)
          clear hKc Kc
          refine wpAnyH_done (by kernel_rfl) ?_ _
          clear hHeld
          go_wp2_with fail
          go_meet
          case rel => exact ⟨W3, xs, t, k, v, wA.heap.size, wq3.heap.size, rfl, rfl, X43, X53, ⟨_, T3⟩, HT7.now, (HXA.out _ KB3).2.2.2.1, (HXA.out _ KB3).2.2.2.2⟩
        · simp only [List.getElem_toArray, List.getElem_cons_succ, List.getElem_cons_zero]
          rw [if_pos (by rfl)]
          go_wp2_with fail
          have BA := below_alloc8 wq2 (.cells #[.slice none 0 0, .slice none 0 0, .slice none 0 0] 41)
          have X5 := blk_new wq2 41 #[.slice none 0 0, .slice none 0 0, .slice none 0 0]
          have h5A : wA.heap.size ≤ wq2.heap.size := KB.size
          have h45 : wA.heap.size ≠ wq2.heap.size := by have := X4.lt; omega
          generalize hwZ : wq2.alloc (.cells #[.slice none 0 0, .slice none 0 0, .slice none 0 0] 41) = wq3 at *
          clear hwZ
          replace T1 := T1.below BA
          replace O1 := O1.below BA
          replace X4 := X4.below BA
          replace KB := below_then KB BA
          clear BA
          refine hKc.out _ _ ((HXA.out _ KB).1) (fun hHeld => ?_)
          clear hKc Kc
          refine wpAnyH_ready (rs := [3]) (by kernel_rfl) (by simp) ?_
          refine AllReadyH.cons rfl (fun Kc hKc => ?_) AllReadyH.nil
          simp only [List.getElem_toArray, List.getElem_cons_succ, List.getElem_cons_zero]
          rw [if_pos (by rfl)]
          go_wp2_with fail
          refine (told9N_any vv Y wq3 (HXA.out _ KB).2.2.1).mono ?_
          rintro e wq4 ⟨t, k, v, rfl, N9, BA⟩
          rw [HYC.out] at N9
          have HT9 : Hangs (fun b => wq3.heap.size ≤ b ∧ b < wq4.heap.size) wq4 (fun w => ToldAt w t k v YC) := Hangs.mono N9 (fun b h1 h2 => ⟨h2, h1⟩)
          have hs9 : wq4.heap.size ≤ wq4.heap.size := Nat.le_refl _
          have h49 : ¬ (wq3.heap.size ≤ wA.heap.size ∧ wA.heap.size < wq4.heap.size) := by have := X4.lt; omega
          have h59 : ¬ (wq3.heap.size ≤ wq2.heap.size ∧ wq2.heap.size < wq4.heap.size) := by have := X5.lt; omega
          clear N9
          replace T1 := T1.below BA
          replace O1 := O1.below BA
          replace X4 := X4.below BA
          replace X5 := X5.below BA
          replace KB := below_then KB BA
          clear BA
          go_wp2_with fail
          refine hKc.out _ _ ((HXA.out _ KB).1) (fun hHeld => ?_)
          clear hKc Kc
          refine wpAnyH_ready (rs := [6]) (by kernel_rfl) (by simp) ?_
          refine AllReadyH.cons rfl (fun Kc hKc => ?_) AllReadyH.nil
          simp only [List.getElem_toArray, List.getElem_cons_succ, List.getElem_cons_zero]
          rw [if_pos (by rfl)]
          have so : ∀ b, b ≠ wA.heap.size → (wq4.setRow wA.heap.size W3.cells).heap[b]? = wq4.heap[b]? := fun b hb => setRow_other _ _ _ _ hb
          refine wp_store_row 38 _ _ rfl wA.heap.size W3.cells rfl rfl 38 _ X4 Tryz.infoRW rfl (wt_one _) ?_
          obtain ⟨T2, O2⟩ := T1.keep O1 X4 (by decide) (by decide) so
          have HT8 := Hangs.row HT9 (g := wA.heap.size) h49 W3.cells
          have X42 := X4.row W3.cells
          have X52 := X5.of_block (so _ (fun e => h45 e.symm))
          have KB2 := below_setRow KB (g := wA.heap.size) h4A W3.cells
          generalize wq4.setRow wA.heap.size W3.cells = wS at *
          clear so T1 O1 HT9 X4 X5 KB
          refine hKc.out _ _ ((HXA.out _ KB2).1) (fun hHeld => ?_)
          clear hKc Kc
          refine wpAnyH_ready (rs := [7]) (by kernel_rfl) (by simp) ?_
          refine AllReadyH.cons rfl (fun Kc hKc => ?_) AllReadyH.nil
          simp only [List.getElem_toArray, List.getElem_cons_succ, List.getElem_cons_zero]
          rw [if_pos (by rfl)]
          have so : ∀ b, b ≠ wq2.heap.size → (wS.setRow wq2.heap.size #[t.v, k.v, v.v]).heap[b]? = wS.heap[b]? := fun b hb => setRow_other _ _ _ _ hb
          refine wp_store_row 41 _ _ rfl wq2.heap.size #[t.v, k.v, v.v] rfl rfl 41 _ X52 Tryz.infoRV rfl (all3c rfl rfl rfl) ?_
          obtain ⟨T3, O3⟩ := T2.keep O2 X52 (by decide) (by decide) so
          have HT7 := Hangs.row HT8 (g := wq2.heap.size) h59 #[t.v, k.v, v.v]
          have X53 := X52.row #[t.v, k.v, v.v]
          have X43 := X42.of_block (so _ h45)
          have KB3 := below_setRow KB2 (g := wq2.heap.size) h5A #[t.v, k.v, v.v]
          generalize wS.setRow wq2.heap.size #[t.v, k.v, v.v] = wU at *
          clear so T2 O2 HT8 X42 X52 KB2
          refine hKc.out _ _ ((HXA.out _ KB3).1) (fun hHeld => ?_)
          clear hKc Kc
          refine wpAnyH_done (by kernel_rfl) ?_ _
          clear hHeld
          go_wp2_with fail
          go_meet
          case rel => exact ⟨W3, xs, t, k, v, wA.heap.size, wq2.heap.size, rfl, rfl, X43, X53, ⟨_, T3⟩, HT7.now, (HXA.out _ KB3).2.2.2.1, (HXA.out _ KB3).2.2.2.2⟩
      · simp only [List.getElem_toArray, List.getElem_cons_succ, List.getElem_cons_zero]
        rw [if_pos (by rfl)]
        go_wp2_with fail
        have BA := below_alloc8 wq1 (.cells #[.slice none 0 0, .slice none 0 0, .slice none 0 0] 41)
        have X5 := blk_new wq1 41 #[.slice none 0 0, .slice none 0 0, .slice none 0 0]
        have h5A : wA.heap.size ≤ wq1.heap.size := KB.size
        have h45 : wA.heap.size ≠ wq1.heap.size := by have := X4.lt; omega
        generalize hwZ : wq1.alloc (.cells #[.slice none 0 0, .slice none 0 0, .slice none 0 0] 41) = wq2 at *
        clear hwZ
        replace X4 := X4.below BA
        replace KB := below_then KB BA
        clear BA
        refine hKc.out _ _ ((HXA.out _ KB).1) (fun hHeld => ?_)
        clear hKc Kc
        refine wpAnyH_ready (rs := [1]) (by kernel_rfl) (by simp) ?_
        refine AllReadyH.cons rfl (fun Kc hKc => ?_) AllReadyH.nil
        simp only [List.getElem_toArray, List.getElem_cons_succ, List.getElem_cons_zero]
        rw [if_pos (by rfl)]
        go_wp2_with fail
        refine (told6O_any VV bs MM wq2 (HXA.out _ KB).2.1).mono ?_
        rintro e wq3 ⟨W3, rfl, ⟨xs, T1, O1⟩, BA⟩
        replace X4 := X4.below BA
        replace X5 := X5.below BA
        replace KB := below_then KB BA
        clear BA
        go_wp2_with fail
        refine hKc.out _ _ ((HXA.out _ KB).1) (fun hHeld => ?_)
        clear hKc Kc
        refine wpAnyH_ready (rs := [3]) (by kernel_rfl) (by simp) ?_
        refine AllReadyH.cons rfl (fun Kc hKc => ?_) AllReadyH.nil
        simp only [List.getElem_toArray, List.getElem_cons_succ, List.getElem_cons_zero]
        rw [if_pos (by rfl)]
        go_wp2_with fail
        refine (told9N_any vv Y wq3 (HXA.out _ KB).2.2.1).mono ?_
        rintro e wq4 ⟨t, k, v, rfl, N9, BA⟩
        rw [HYC.out] at N9
        have HT9 : Hangs (fun b => wq3.heap.size ≤ b ∧ b < wq4.heap.size) wq4 (fun w => ToldAt w t k v YC) := Hangs.mono N9 (fun b h1 h2 => ⟨h2, h1⟩)
        have hs9 : wq4.heap.size ≤ wq4.heap.size := Nat.le_refl _
        have h49 : ¬ (wq3.heap.size ≤ wA.heap.size ∧ wA.heap.size < wq4.heap.size) := by have := X4.lt; omega
        have h59 : ¬ (wq3.heap.size ≤ wq1.heap.size ∧ wq1.heap.size < wq4.heap.size) := by have := X5.lt; omega
        clear N9
        replace T1 := T1.below BA
        replace O1 := O1.below BA
        replace X4 := X4.below BA
        replace X5 := X5.below BA
        replace KB := below_then KB BA
        clear BA
        go_wp2_with fail
        refine hKc.out _ _ ((HXA.out _ KB).1) (fun hHeld => ?_)
        clear hKc Kc
        refine wpAnyH_ready (rs := [6]) (by kernel_rfl) (by simp) ?_
        refine AllReadyH.cons rfl (fun Kc hKc => ?_) AllReadyH.nil
        simp only [List.getElem_toArray, List.getElem_cons_succ, List.getElem_cons_zero]
        rw [if_pos (by rfl)]
        have so : ∀ b, b ≠ wA.heap.size → (wq4.setRow wA.heap.size W3.cells).heap[b]? = wq4.heap[b]? := fun b hb => setRow_other _ _ _ _ hb
        refine wp_store_row 38 _ _ rfl wA.heap.size W3.cells rfl rfl 38 _ X4 Tryz.infoRW rfl (wt_one _) ?_
        obtain ⟨T2, O2⟩ := T1.keep O1 X4 (by decide) (by decide) so
        have HT8 := Hangs.row HT9 (g := wA.heap.size) h49 W3.cells
        have X42 := X4.row W3.cells
        have X52 := X5.of_block (so _ (fun e => h45 e.symm))
        have KB2 := below_setRow KB (g := wA.heap.size) h4A W3.cells
        generalize wq4.setRow wA.heap.size W3.cells = wS at *
        clear so T1 O1 HT9 X4 X5 KB
        refine hKc.out _ _ ((HXA.out _ KB2).1) (fun hHeld => ?_)
        clear hKc Kc
        refine wpAnyH_ready (rs := [7]) (by kernel_rfl) (by simp) ?_
        refine AllReadyH.cons rfl (fun Kc hKc => ?_) AllReadyH.nil
        simp only [List.getElem_toArray, List.getElem_cons_succ, List.getElem_cons_zero]
        rw [if_pos (by rfl)]
        have so : ∀ b, b ≠ wq1.heap.size → (wS.setRow wq1.heap.size #[t.v, k.v, v.v]).heap[b]? = wS.heap[b]? := fun b hb => setRow_other _ _ _ _ hb
        refine wp_store_row 41 _ _ rfl wq1.heap.size #[t.v, k.v, v.v] rfl rfl 41 _ X52 Tryz.infoRV rfl (all3c rfl rfl rfl) ?_
        obtain ⟨T3, O3⟩ := T2.keep O2 X52 (by decide) (by decide) so
        have HT7 := Hangs.row HT8 (g := wq1.heap.size) h59 #[t.v, k.v, v.v]
        have X53 := X52.row #[t.v, k.v, v.v]
        have X43 := X42.of_block (so _ h45)
        have KB3 := below_setRow KB2 (g := wq1.heap.size) h5A #[t.v, k.v, v.v]
        generalize wS.setRow wq1.heap.size #[t.v, k.v, v.v] = wU at *
        clear so T2 O2 HT8 X42 X52 KB2
        refine hKc.out _ _ ((HXA.out _ KB3).1) (fun hHeld => ?_)
        clear hKc Kc
        refine wpAnyH_done (by kernel_rfl) ?_ _
        clear hHeld
        go_wp2_with fail
        go_meet
        case rel => exact ⟨W3, xs, t, k, v, wA.heap.size, wq1.heap.size, rfl, rfl, X43, X53, ⟨_, T3⟩, HT7.now, (HXA.out _ KB3).2.2.2.1, (HXA.out _ KB3).2.2.2.2⟩
    · simp only [List.getElem_toArray, List.getElem_cons_succ, List.getElem_cons_zero]
      rw [if_pos (by rfl)]
      go_wp2_with fail
      have BA := below_alloc8 wA (.cells #[.slice none 0 0, .slice none 0 0, .slice none 0 0] 41)
      have X5 := blk_new wA 41 #[.slice none 0 0, .slice none 0 0, .slice none 0 0]
      have h5A : wA.heap.size ≤ wA.heap.size := KB.size
      generalize hwZ : wA.alloc (.cells #[.slice none 0 0, .slice none 0 0, .slice none 0 0] 41) = wq1 at *
      clear hwZ
      replace KB := below_then KB BA
      clear BA
      refine hKc.out _ _ ((HXA.out _ KB).1) (fun hHeld => ?_)
      clear hKc Kc
      refine wpAnyH_ready (rs := [1, 4]) (by kernel_rfl) (by simp) ?_
      refine AllReadyH.cons rfl (fun Kc hKc => ?_) (AllReadyH.cons rfl (fun Kc hKc => ?_) AllReadyH.nil)
      · simp only [List.getElem_toArray, List.getElem_cons_succ, List.getElem_cons_zero]
        rw [if_pos (by rfl)]
        go_wp2_with fail
        refine (told6O_any VV bs MM wq1 (HXA.out _ KB).2.1).mono ?_
        rintro e wq2 ⟨W3, rfl, ⟨xs, T1, O1⟩, BA⟩
        replace X5 := X5.below BA
        replace KB := below_then KB BA
        clear BA
        go_wp2_with fail
        refine hKc.out _ _ ((HXA.out _ KB).1) (fun hHeld => ?_)
        clear hKc Kc
        refine wpAnyH_ready (rs := [3, 4]) (by kernel_rfl) (by simp) ?_
        refine AllReadyH.cons rfl (fun Kc hKc => ?_) (AllReadyH.cons rfl (fun Kc hKc => ?_) AllReadyH.nil)
        · simp only [List.getElem_toArray, List.getElem_cons_succ, List.getElem_cons_zero]
          rw [if_pos (by rfl)]
          go_wp2_with fail
          refine (told9N_any vv Y wq2 (HXA.out _ KB).2.2.1).mono ?_
          rintro e wq3 ⟨t, k, v, rfl, N9, BA⟩
          rw [HYC.out] at N9
          have HT9 : Hangs (fun b => wq2.heap.size ≤ b ∧ b < wq3.heap.size) wq3 (fun w => ToldAt w t k v YC) := Hangs.mono N9 (fun b h1 h2 => ⟨h2, h1⟩)
          have hs9 : wq3.heap.size ≤ wq3.heap.size := Nat.le_refl _
          have h59 : ¬ (wq2.heap.size ≤ wA.heap.size ∧ wA.heap.size < wq3.heap.size) := by have := X5.lt; omega
          clear N9
          replace T1 := T1.below BA
          replace O1 := O1.below BA
          replace X5 := X5.below BA
          replace KB := below_then KB BA
          clear BA
          go_wp2_with fail
          refine hKc.out _ _ ((HXA.out _ KB).1) (fun hHeld => ?_)
          clear hKc Kc
          refine wpAnyH_ready (rs := [4]) (by kernel_rfl) (by simp) ?_
          refine AllReadyH.cons rfl (fun Kc hKc => ?_) AllReadyH.nil
          simp only [List.getElem_toArray, List.getElem_cons_succ, List.getElem_cons_zero]
          rw [if_pos (by rfl)]
          go_wp2_with fail
          have BA := below_alloc8 wq3 (.cells #[.int .i64 0, .int .i64 0, .slice none 0 0, .slice none 0 0, .slice none 0 0, .int .i64 0, .int .i64 0, .slice none 0 0] 38)
          have X4 := blk_new wq3 38 #[.int .i64 0, .int .i64 0, .slice none 0 0, .slice none 0 0, .slice none 0 0, .int .i64 0, .int .i64 0, .slice none 0 0]
          have h4A : wA.heap.size ≤ wq3.heap.size := KB.size
          have h45 : wq3.heap.size ≠ wA.heap.size := by have := X5.lt; omega
          have h49 : ¬ (wq2.heap.size ≤ wq3.heap.size ∧ wq3.heap.size < wq3.heap.size) := by have := hs9; omega
          generalize hwZ : wq3.alloc (.cells #[.int .i64 0, .int .i64 0, .slice none 0 0, .slice none 0 0, .slice none 0 0, .int .i64 0, .int .i64 0, .slice none 0 0] 38) = wq4 at *
          clear hwZ
          replace T1 := T1.below BA
          replace O1 := O1.below BA
          replace HT9 := HT9.below BA
          have hs9' := BA.size
          replace hs9 := Nat.le_trans hs9 hs9'
          clear hs9'
          replace X5 := X5.below BA
          replace KB := below_then KB BA
          clear BA
          refine hKc.out _ _ ((HXA.out _ KB).1) (fun hHeld => ?_)
          clear hKc Kc
          refine wpAnyH_ready (rs := [6]) (by kernel_rfl) (by simp) ?_
          refine AllReadyH.cons rfl (fun Kc hKc => ?_) AllReadyH.nil
          simp only [List.getElem_toArray, List.getElem_cons_succ, List.getElem_cons_zero]
          rw [if_pos (by rfl)]
          have so : ∀ b, b ≠ wq3.heap.size → (wq4.setRow wq3.heap.size W3.cells).heap[b]? = wq4.heap[b]? := fun b hb => setRow_other _ _ _ _ hb
          refine wp_store_row 38 _ _ rfl wq3.heap.size W3.cells rfl rfl 38 _ X4 Tryz.infoRW rfl (wt_one _) ?_
          obtain ⟨T2, O2⟩ := T1.keep O1 X4 (by decide) (by decide) so
          have HT8 := Hangs.row HT9 (g := wq3.heap.size) h49 W3.cells
          have X42 := X4.row W3.cells
          have X52 := X5.of_block (so _ (fun e => h45 e.symm))
          have KB2 := below_setRow KB (g := wq3.heap.size) h4A W3.cells
          generalize wq4.setRow wq3.heap.size W3.cells = wS at *
          clear so T1 O1 HT9 X4 X5 KB
          refine hKc.out _ _ ((HXA.out _ KB2).1) (fun hHeld => ?_)
          clear hKc Kc
          refine wpAnyH_ready (rs := [7]) (by kernel_rfl) (by simp) ?_
          refine AllReadyH.cons rfl (fun Kc hKc => ?_) AllReadyH.nil
          simp only [List.getElem_toArray, List.getElem_cons_succ, List.getElem_cons_zero]
          rw [if_pos (by rfl)]
          have so : ∀ b, b ≠ wA.heap.size → (wS.setRow wA.heap.size #[t.v, k.v, v.v]).heap[b]? = wS.heap[b]? := fun b hb => setRow_other _ _ _ _ hb
          refine wp_store_row 41 _ _ rfl wA.heap.size #[t.v, k.v, v.v] rfl rfl 41 _ X52 Tryz.infoRV rfl (all3c rfl rfl rfl) ?_
          obtain ⟨T3, O3⟩ := T2.keep O2 X52 (by decide) (by decide) so
          have HT7 := Hangs.row HT8 (g := wA.heap.size) h59 #[t.v, k.v, v.v]
          have X53 := X52.row #[t.v, k.v, v.v]
          have X43 := X42.of_block (so _ h45)
          have KB3 := below_setRow KB2 (g := wA.heap.size) h5A #[t.v, k.v, v.v]
          generalize wS.setRow wA.heap.size #[t.v, k.v, v.v] = wU at *
          clear so T2 O2 HT8 X42 X52 KB2
          refine hKc.out _ _ ((HXA.out _ KB3).1) (fun hHeld => ?_)
          clear hKc Kc
          refine wpAnyH_done (by kernel_rfl) ?_ _
          clear hHeld
          go_wp2_with fail
          go_meet
          case rel => exact ⟨W3, xs, t, k, v, wq3.heap.size, wA.heap.size, rfl, rfl, X43, X53, ⟨_, T3⟩, HT7.now, (HXA.out _ KB3).2.2.2.1, (HXA.out _ KB3).2.2.2.2⟩
        · simp only [List.getElem_toArray, List.getElem_cons_succ, List.getElem_cons_zero]
          rw [if_pos (by rfl)]
          go_wp2_with fail
          have BA := below_alloc8 wq2 (.cells #[.int .i64 0, .int .i64 0, .slice none 0 0, .slice none 0 0, .slice none 0 0, .int .i64 0, .int .i64 0, .slice none 0 0] 38)
          have X4 := blk_new wq2 38 #[.int .i64 0, .int .i64 0, .slice none 0 0, .slice none 0 0, .slice none 0 0, .int .i64 0, .int .i64 0, .slice none 0 0]
          have h4A : wA.heap.size ≤ wq2.heap.size := KB.size
          have h45 : wq2.heap.size ≠ wA.heap.size := by have := X5.lt; omega
          generalize hwZ : wq2.alloc (.cells #[.int .i64 0, .int .i64 0, .slice none 0 0, .slice none 0 0, .slice none 0 0, .int .i64 0, .int .i64 0, .slice none 0 0] 38) = wq3 at *
          clear hwZ
          replace T1 := T1.below BA
          replace O1 := O1.below BA
          replace X5 := X5.below BA
          replace KB := below_then KB BA
          clear BA
          refine hKc.out _ _ ((HXA.out _ KB).1) (fun hHeld => ?_)
          clear hKc Kc
          refine wpAnyH_ready (rs := [3]) (by kernel_rfl) (by simp) ?_
          refine AllReadyH.cons rfl (fun Kc hKc => ?_) AllReadyH.nil
          simp only [List.getElem_toArray, List.getElem_cons_succ, List.getElem_cons_zero]
          rw [if_pos (by rfl)]
          go_wp2_with fail
          refine (told9N_any vv Y wq3 (HXA.out _ KB).2.2.1).mono ?_
          rintro e wq4 ⟨t, k, v, rfl, N9, BA⟩
          rw [HYC.out] at N9
          have HT9 : Hangs (fun b => wq3.heap.size ≤ b ∧ b < wq4.heap.size) wq4 (fun w => ToldAt w t k v YC) := Hangs.mono N9 (fun b h1 h2 => ⟨h2, h1⟩)
          have hs9 : wq4.heap.size ≤ wq4.heap.size := Nat.le_refl _
          have h49 : ¬ (wq3.heap.size ≤ wq2.heap.size ∧ wq2.heap.size < wq4.heap.size) := by have := X4.lt; omega
          have h59 : ¬ (wq3.heap.size ≤ wA.heap.size ∧ wA.heap.size < wq4.heap.size) := by have := X5.lt; omega
          clear N9
          replace T1 := T1.below BA
          replace O1 := O1.below BA
          replace X4 := X4.below BA
          replace X5 := X5.below BA
          replace KB := below_then KB BA
          clear BA
          go_wp2_with fail
          refine hKc.out _ _ ((HXA.out _ KB).1) (fun hHeld => ?_)
          clear hKc Kc
          refine wpAnyH_ready (rs := [6]) (by kernel_rfl) (by simp) ?_
          refine AllReadyH.cons rfl (fun Kc hKc => ?_) AllReadyH.nil
          simp only [List.getElem_toArray, List.getElem_cons_succ, List.getElem_cons_zero]
          rw [if_pos (by rfl)]
          have so : ∀ b, b ≠ wq2.heap.size → (wq4.setRow wq2.heap.size W3.cells).heap[b]? = wq4.heap[b]? := fun b hb => setRow_other _ _ _ _ hb
          refine wp_store_row 38 _ _ rfl wq2.heap.size W3.cells rfl rfl 38 _ X4 Tryz.infoRW rfl (wt_one _) ?_
          obtain ⟨T2, O2⟩ := T1.keep O1 X4 (by decide) (by decide) so
          have HT8 := Hangs.row HT9 (g := wq2.heap.size) h49 W3.cells
          have X42 := X4.row W3.cells
          have X52 := X5.of_block (so _ (fun e => h45 e.symm))
          have KB2 := below_setRow KB (g := wq2.heap.size) h4A W3.cells
          generalize wq4.setRow wq2.heap.size W3.cells = wS at *
          clear so T1 O1 HT9 X4 X5 KB
          refine hKc.out _ _ ((HXA.out _ KB2).1) (fun hHeld => ?_)
          clear hKc Kc
          refine wpAnyH_ready (rs := [7]) (by kernel_rfl) (by simp) ?_
          refine AllReadyH.cons rfl (fun Kc hKc => ?_) AllReadyH.nil
          simp only [List.getElem_toArray, List.getElem_cons_succ, List.getElem_cons_zero]
          rw [if_pos (by rfl)]
          have so : ∀ b, b ≠ wA.heap.size → (wS.setRow wA.heap.size #[t.v, k.v, v.v]).heap[b]? = wS.heap[b]? := fun b hb => setRow_other _ _ _ _ hb
          refine wp_store_row 41 _ _ rfl wA.heap.size #[t.v, k.v, v.v] rfl rfl 41 _ X52 Tryz.infoRV rfl (all3c rfl rfl rfl) ?_
          obtain ⟨T3, O3⟩ := T2.keep O2 X52 (by decide) (by decide) so
          have HT7 := Hangs.row HT8 (g := wA.heap.size) h59 #[t.v, k.v, v.v]
          have X53 := X52.row #[t.v, k.v, v.v]
          have X43 := X42.of_block (so _ h45)
          have KB3 := below_setRow KB2 (g := wA.heap.size) h5A #[t.v, k.v, v.v]
          generalize wS.setRow wA.heap.size #[t.v, k.v, v.v] = wU at *
          clear so T2 O2 HT8 X42 X52 KB2
          refine hKc.out _ _ ((HXA.out _ KB3).1) (fun hHeld => ?_)
          clear hKc Kc
          refine wpAnyH_done (by kernel_rfl) ?_ _
          clear hHeld
          go_wp2_with fail
          go_meet
          case rel => exact ⟨W3, xs, t, k, v, wq2.heap.size, wA.heap.size, rfl, rfl, X43, X53, ⟨_, T3⟩, HT7.now, (HXA.out _ KB3).2.2.2.1, (HXA.out _ KB3).2.2.2.2⟩
      · simp only [List.getElem_toArray, List.getElem_cons_succ, List.getElem_cons_zero]
        rw [if_pos (by rfl)]
        go_wp2_with fail
        have BA := below_alloc8 wq1 (.cells #[.int .i64 0, .int .i64 0, .slice none 0 0, .slice none 0 0, .slice none 0 0, .int .i64 0, .int .i64 0, .slice none 0 0] 38)
        have X4 := blk_new wq1 38 #[.int .i64 0, .int .i64 0, .slice none 0 0, .slice none 0 0, .slice none 0 0, .int .i64 0, .int .i64 0, .slice none 0 0]
        have h4A : wA.heap.size ≤ wq1.heap.size := KB.size
        have h45 : wq1.heap.size ≠ wA.heap.size := by have := X5.lt; omega
        generalize hwZ : wq1.alloc (.cells #[.int .i64 0, .int .i64 0, .slice none 0 0, .slice none 0 0, .slice none 0 0, .int .i64 0, .int .i64 0, .slice none 0 0] 38) = wq2 at *
        clear hwZ
        replace X5 := X5.below BA
        replace KB := below_then KB BA
        clear BA
        refine hKc.out _ _ ((HXA.out _ KB).1) (fun hHeld => ?_)
        clear hKc Kc
        refine wpAnyH_ready (rs := [1]) (by kernel_rfl) (by simp) ?_
        refine AllReadyH.cons rfl (fun Kc hKc => ?_) AllReadyH.nil
        simp only [List.getElem_toArray, List.getElem_cons_succ, List.getElem_cons_zero]
        rw [if_pos (by rfl)]
        go_wp2_with fail
        refine (told6O_any VV bs MM wq2 (HXA.out _ KB).2.1).mono ?_
        rintro e wq3 ⟨W3, rfl, ⟨xs, T1, O1⟩, BA⟩
        replace X4 := X4.below BA
        replace X5 := X5.below BA
        replace KB := below_then KB BA
        clear BA
        go_wp2_with fail
        refine hKc.out _ _ ((HXA.out _ KB).1) (fun hHeld => ?_)
        clear hKc Kc
        refine wpAnyH_ready (rs := [3]) (by kernel_rfl) (by simp) ?_
        refine AllReadyH.cons rfl (fun Kc hKc => ?_) AllReadyH.nil
        simp only [List.getElem_toArray, List.getElem_cons_succ, List.getElem_cons_zero]
        rw [if_pos (by rfl)]
        go_wp2_with fail
        refine (told9N_any vv Y wq3 (HXA.out _ KB).2.2.1).mono ?_
        rintro e wq4 ⟨t, k, v, rfl, N9, BA⟩
        rw [HYC.out] at N9
        have HT9 : Hangs (fun b => wq3.heap.size ≤ b ∧ b < wq4.heap.size) wq4 (fun w => ToldAt w t k v YC) := Hangs.mono N9 (fun b h1 h2 => ⟨h2, h1⟩)
        have hs9 : wq4.heap.size ≤ wq4.heap.size := Nat.le_refl _
        have h49 : ¬ (wq3.heap.size ≤ wq1.heap.size ∧ wq1.heap.size < wq4.heap.size) := by have := X4.lt; omega
        have h59 : ¬ (wq3.heap.size ≤ wA.heap.size ∧ wA.heap.size < wq4.heap.size) := by have := X5.lt; omega
        clear N9
        replace T1 := T1.below BA
        replace O1 := O1.below BA
        replace X4 := X4.below BA
        replace X5 := X5.below BA
        replace KB := below_then KB BA
        clear BA
        go_wp2_with fail
        refine hKc.out _ _ ((HXA.out _ KB).1) (fun hHeld => ?_)
        clear hKc Kc
        refine wpAnyH_ready (rs := [6]) (by kernel_rfl) (by simp) ?_
        refine AllReadyH.cons rfl (fun Kc hKc => ?_) AllReadyH.nil
        simp only [List.getElem_toArray, List.getElem_cons_succ, List.getElem_cons_zero]
        rw [if_pos (by rfl)]
        have so : ∀ b, b ≠ wq1.heap.size → (wq4.setRow wq1.heap.size W3.cells).heap[b]? = wq4.heap[b]? := fun b hb => setRow_other _ _ _ _ hb
        refine wp_store_row 38 _ _ rfl wq1.heap.size W3.cells rfl rfl 38 _ X4 Tryz.infoRW rfl (wt_one _) ?_
        obtain ⟨T2, O2⟩ := T1.keep O1 X4 (by decide) (by decide) so
        have HT8 := Hangs.row HT9 (g := wq1.heap.size) h49 W3.cells
        have X42 := X4.row W3.cells
        have X52 := X5.of_block (so _ (fun e => h45 e.symm))
        have KB2 := below_setRow KB (g := wq1.heap.size) h4A W3.cells
        generalize wq4.setRow wq1.heap.size W3.cells = wS at *
        clear so T1 O1 HT9 X4 X5 KB
        refine hKc.out _ _ ((HXA.out _ KB2).1) (fun hHeld => ?_)
        clear hKc Kc
        refine wpAnyH_ready (rs := [7]) (by kernel_rfl) (by simp) ?_
        refine AllReadyH.cons rfl (fun Kc hKc => ?_) AllReadyH.nil
        simp only [List.getElem_toArray, List.getElem_cons_succ, List.getElem_cons_zero]
        rw [if_pos (by rfl)]
        have so : ∀ b, b ≠ wA.heap.size → (wS.setRow wA.heap.size #[t.v, k.v, v.v]).heap[b]? = wS.heap[b]? := fun b hb => setRow_other _ _ _ _ hb
        refine wp_store_row 41 _ _ rfl wA.heap.size #[t.v, k.v, v.v] rfl rfl 41 _ X52 Tryz.infoRV rfl (all3c rfl rfl rfl) ?_
        obtain ⟨T3, O3⟩ := T2.keep O2 X52 (by decide) (by decide) so
        have HT7 := Hangs.row HT8 (g := wA.heap.size) h59 #[t.v, k.v, v.v]
        have X53 := X52.row #[t.v, k.v, v.v]
        have X43 := X42.of_block (so _ h45)
        have KB3 := below_setRow KB2 (g := wA.heap.size) h5A #[t.v, k.v, v.v]
        generalize wS.setRow wA.heap.size #[t.v, k.v, v.v] = wU at *
        clear so T2 O2 HT8 X42 X52 KB2
        refine hKc.out _ _ ((HXA.out _ KB3).1) (fun hHeld => ?_)
        clear hKc Kc
        refine wpAnyH_done (by kernel_rfl) ?_ _
        clear hHeld
        go_wp2_with fail
        go_meet
        case rel => exact ⟨W3, xs, t, k, v, wq1.heap.size, wA.heap.size, rfl, rfl, X43, X53, ⟨_, T3⟩, HT7.now, (HXA.out _ KB3).2.2.2.1, (HXA.out _ KB3).2.2.2.2⟩
  case rest =>
  obtain ⟨W3, xs, t, k, v, g4, g5, rfl, rfl, X3, XV, ⟨BT1, T1⟩, TA, Xc, DW⟩ := hcut
  clear X0 X1 X2 hV hv DB
  have R1 := T1.raw hVok
  have hW3 := R1.ok
  have hxl : xs.length ≤ 5 := by have := T1.ls.len; omega
  have hk : W3.b.n = min 5 VV.b.n := by rw [← T1.b.len, T1.ls.len]
  obtain ⟨O3, hl3⟩ := own_told hVok (by omega) T1
  have CA := fun (W5 : Wt) (ys : List Bk) (wv : World) (B5 : Nat) (T3 : WTold wv B5 5000 W3.b.n W3 W5 xs ys (cutM 100 (min 5 VV.b.n) MM)) => check_again T1 T3 C.V C.D C.Hd C.H C.L
  have OT := fun (W5 : Wt) (ys : List Bk) (wv : World) (B5 : Nat) (T3 : WTold wv B5 5000 W3.b.n W3 W5 xs ys (cutM 100 (min 5 VV.b.n) MM)) => own_told hW3 (by omega) T3
  simp only [hk, cutM_twice] at CA OT
  have OF := fun (wv : World) (hW : WtR wv W3 xs (cutM 100 (min 5 VV.b.n) MM)) => of6_any W3 xs _ wv hW (by omega)
  simp only [hk] at OF
  have O9 := fun (wv : World) (h : ToldAt wv t k v YC) => of9_any t k v YC wv h HYY.out
  clear T1
  generalize cutM 100 (min 5 VV.b.n) MM = MC at *
  generalize min 5 VV.b.n = nb at *
  have HL3 : Hid (xs.length = MC.Ls.length) := hl3
  have HW3 : Hid W3.Ok := hW3
  have HVV : Hid VV.Ok := hVok
  clear hl3 hxl hk hVok hW3
  have BD : Below wc.heap.size wc wc.drew := (Below.refl _ wc).drew
  replace X3 := X3.below BD
  replace XV := XV.below BD
  replace Xc := Xc.below BD
  replace TA := TA.below BD
  replace R1 := R1.below BD
  replace O3 := O3.below BD
  replace DW := below_then DW BD
  clear BD
  by_cases hq : errN9 C.V C.D C.Hd C.H C.L W3 xs YC tok = 0
  rotate_left
  · as_aux_lemma =>
      obtain ⟨q, hqe⟩ : ∃ q, q = errN9 C.V C.D C.Hd C.H C.L W3 xs YC tok := ⟨_, rfl⟩
      rw [← hqe] at hq
      have hqq : Hid (errN9 C.V C.D C.Hd C.H C.L W3 xs YC tok = q) := hqe.symm
      have RE2 := fun wv (hb : BlocksAt wv W3.b xs) (h : ToldAt wv t k v YC) => RE W3 xs t k v wv HW3.out hb h
      rw [← hqe] at RE2
      clear hqe RE
      go_upto_region 2 with fail
      go_cut [11, 12, 13] from 21 (fun s11 s12 s13 wc => ∃ g11 : Nat, s11 = .pointer (some ⟨g11, 0, none⟩) ∧ s12 = .slice none 0 0 ∧ s13 = .int .i64 q ∧ Blk wc g11 35 #[.slice none 0 0, .slice none 0 0, .slice none 0 0] ∧ Blk wc w.heap.size 23 #[.int .i64 C.V, .int .i64 C.D, .int .i64 C.Hd, .int .i64 C.H, .int .i64 C.L] ∧ Blk wc g4 38 W3.cells ∧ Blk wc g5 41 #[t.v, k.v, v.v] ∧ ToldAt wc t k v YC ∧ WOwn wc BT1 W3 xs MC ∧ Below w.heap.size w wc)
      case first =>
        refine wp_region_held_drew (S := fun w' => Blk w' w.heap.size 23 #[.int .i64 C.V, .int .i64 C.D, .int .i64 C.Hd, .int .i64 C.H, .int .i64 C.L] ∧ Blk w' g4 38 W3.cells ∧ Blk w' g5 41 #[t.v, k.v, v.v]) (by kernel_rfl) (⟨Xc, X3, XV⟩) (fun hHeld => ?_)
        generalize hA : wc.drew = wB at *
        clear hA
        have HXB : Hid (∀ wv, Below wB.heap.size wB wv → (Blk wv w.heap.size 23 #[.int .i64 C.V, .int .i64 C.D, .int .i64 C.Hd, .int .i64 C.H, .int .i64 C.L] ∧ Blk wv g4 38 W3.cells ∧ Blk wv g5 41 #[t.v, k.v, v.v]) ∧ WtR wv W3 xs MC ∧ ToldAt wv t k v YC ∧ WOwn wv BT1 W3 xs MC ∧ Below w.heap.size w wv) := fun wv hb => ⟨⟨Xc.below hb, X3.below hb, XV.below hb⟩, R1.below hb, TA.below hb, O3.below hb, below_then DW hb⟩
        have KB : Below wB.heap.size wB wB := Below.refl _ _
        clear Xc X3 XV R1 TA O3 DW
        refine wpAnyH_take (i := 0) (v := .agg #[.int .i64 C.V, .int .i64 C.D, .int .i64 C.Hd, .int .i64 C.H, .int .i64 C.L]) rfl (by kernel_rfl) (by kernel_rfl) (by kernel_rfl) (fun _ _ _ h => h) (yields_rowF (by rfl) 23 _ rfl w.heap.size rfl 23 #[.int .i64 C.V, .int .i64 C.D, .int .i64 C.Hd, .int .i64 C.H, .int .i64 C.L] _ (fun w' hS => hS.1) Tryz.underlying23 rfl Tryz.infoC) (by assumption) ?_
        simp only [List.getElem_toArray, List.getElem_cons_zero, Act.put, List.setIfInBounds_toArray, List.set_cons_zero, List.set_cons_succ]
        refine wpAnyH_take (i := 1) (v := .agg W3.cells) rfl (by kernel_rfl) (by kernel_rfl) (by kernel_rfl) (fun _ _ _ h => h) (yields_rowF (by rfl) 38 _ rfl g4 rfl 38 W3.cells _ (fun w' hS => hS.2.1) Tryz.underlying38 rfl Tryz.infoRW) (by assumption) ?_
        simp only [List.getElem_toArray, List.getElem_cons_succ, List.getElem_cons_zero, Act.put, List.setIfInBounds_toArray, List.set_cons_zero, List.set_cons_succ]
        refine wpAnyH_take (i := 3) (v := .agg #[t.v, k.v, v.v]) rfl (by kernel_rfl) (by kernel_rfl) (by kernel_rfl) (fun _ _ _ h => h) (yields_rowF (by rfl) 41 _ rfl g5 rfl 41 #[t.v, k.v, v.v] _ (fun w' hS => hS.2.2) Tryz.underlying41 rfl Tryz.infoRV) (by assumption) ?_
        simp only [List.getElem_toArray, List.getElem_cons_succ, List.getElem_cons_zero, Act.put, List.setIfInBounds_toArray, List.set_cons_zero, List.set_cons_succ]
        refine wpAnyH_take (i := 5) (v := (.int .i64 tok)) rfl (by kernel_rfl) (by kernel_rfl) (by kernel_rfl) (fun _ _ _ h => h) (Or.inl ⟨by rfl, ?_⟩) (by assumption) ?_
        · intro w' hSw
          go_simp
        simp only [List.getElem_toArray, List.getElem_cons_succ, List.getElem_cons_zero, Act.put, List.setIfInBounds_toArray, List.set_cons_zero, List.set_cons_succ]
        refine wpAnyH_ready (rs := [2, 11]) (by kernel_rfl) (by simp) ?_
        refine AllReadyH.cons rfl (fun Kc hKc => ?_) (AllReadyH.cons rfl (fun Kc hKc => ?_) AllReadyH.nil)
        · simp only [List.getElem_toArray, List.getElem_cons_succ, List.getElem_cons_zero]
          rw [if_pos (by rfl)]
          go_wp2_with fail
          refine (OF wB (HXB.out _ KB).2.1).mono ?_
          rintro e wq1 ⟨W5, rfl, ⟨ys, T3⟩, BA⟩
          have HQ := CA W5 ys _ _ T3
          obtain ⟨O5, hl5⟩ := OT W5 ys _ _ T3
          clear T3
          replace KB := below_then KB BA
          clear BA
          go_wp2_with fail
          refine hKc.out _ _ ((HXB.out _ KB).1) (fun hHeld => ?_)
          clear hKc Kc
          refine wpAnyH_ready (rs := [4, 11]) (by kernel_rfl) (by simp) ?_
          refine AllReadyH.cons rfl (fun Kc hKc => ?_) (AllReadyH.cons rfl (fun Kc hKc => ?_) AllReadyH.nil)
          · simp only [List.getElem_toArray, List.getElem_cons_succ, List.getElem_cons_zero]
            rw [if_pos (by rfl)]
            go_wp2_with fail
            refine (O9 wq1 (HXB.out _ KB).2.2.1).mono ?_
            rintro e wq2 ⟨v2, rfl, A2, BA⟩
            replace O5 := O5.below BA
            replace KB := below_then KB BA
            clear BA
            go_wp2_with fail
            refine hKc.out _ _ ((HXB.out _ KB).1) (fun hHeld => ?_)
            clear hKc Kc
            refine wpAnyH_ready (rs := [6, 11]) (by kernel_rfl) (by simp) ?_
            refine AllReadyH.cons rfl (fun Kc hKc => ?_) (AllReadyH.cons rfl (fun Kc hKc => ?_) AllReadyH.nil)
            · simp only [List.getElem_toArray, List.getElem_cons_succ, List.getElem_cons_zero]
              rw [if_pos (by rfl)]
              go_wp2_with fail
              have h5 := err_congr HQ YC tok
              rw [hqq.out] at h5
              have FF := FE W5 ys MC v2 _ wq2 O5 hl5 A2 (by rw [h5]; exact hq)
              rw [h5] at FF
              refine FF.mono ?_
              rintro e wq3 ⟨rfl, BA⟩
              clear FF h5
              replace O5 := O5.below BA
              replace A2 := A2.below BA
              replace KB := below_then KB BA
              clear BA
              clear O5 A2 HQ hl5
              go_wp2_with fail
              refine hKc.out _ _ ((HXB.out _ KB).1) (fun hHeld => ?_)
              clear hKc Kc
              refine wpAnyH_take (i := 7) (v := (.tuple #[.agg #[.slice none 0 0, .slice none 0 0, .slice none 0 0], .slice none 0 0, .int .i64 q])) rfl (by kernel_rfl) (by kernel_rfl) (by kernel_rfl) (fun _ _ _ h => h) (Or.inl ⟨by rfl, ?_⟩) (by assumption) ?_
              · intro w' hSw
                go_simp
              simp only [List.getElem_toArray, List.getElem_cons_succ, List.getElem_cons_zero, Act.put, List.setIfInBounds_toArray, List.set_cons_zero, List.set_cons_succ]
              refine wpAnyH_take (i := 8) (v := (.agg #[.slice none 0 0, .slice none 0 0, .slice none 0 0])) rfl (by kernel_rfl) (by kernel_rfl) (by kernel_rfl) (fun _ _ _ h => h) (Or.inl ⟨by rfl, ?_⟩) (by assumption) ?_
              · intro w' hSw
                go_simp
              simp only [List.getElem_toArray, List.getElem_cons_succ, List.getElem_cons_zero, Act.put, List.setIfInBounds_toArray, List.set_cons_zero, List.set_cons_succ]
              refine wpAnyH_take (i := 9) (v := (.slice none 0 0)) rfl (by kernel_rfl) (by kernel_rfl) (by kernel_rfl) (fun _ _ _ h => h) (Or.inl ⟨by rfl, ?_⟩) (by assumption) ?_
              · intro w' hSw
                go_simp
              simp only [List.getElem_toArray, List.getElem_cons_succ, List.getElem_cons_zero, Act.put, List.setIfInBounds_toArray, List.set_cons_zero, List.set_cons_succ]
              refine wpAnyH_take (i := 10) (v := (.int .i64 q)) rfl (by kernel_rfl) (by kernel_rfl) (by kernel_rfl) (fun _ _ _ h => h) (Or.inl ⟨by rfl, ?_⟩) (by assumption) ?_
              · intro w' hSw
                go_simp
              simp only [List.getElem_toArray, List.getElem_cons_succ, List.getElem_cons_zero, Act.put, List.setIfInBounds_toArray, List.set_cons_zero, List.set_cons_succ]
              refine wpAnyH_ready (rs := [11]) (by kernel_rfl) (by simp) ?_
              refine AllReadyH.cons rfl (fun Kc hKc => ?_) AllReadyH.nil
              simp only [List.getElem_toArray, List.getElem_cons_succ, List.getElem_cons_zero]
              rw [if_pos (by rfl)]
              go_wp2_with fail
              have BA := below_alloc8 wq3 (.cells #[.slice none 0 0, .slice none 0 0, .slice none 0 0] 35)
              have X11 := blk_new wq3 35 #[.slice none 0 0, .slice none 0 0, .slice none 0 0]
              have h11A : wB.heap.size ≤ wq3.heap.size := KB.size
              generalize hwZ : wq3.alloc (.cells #[.slice none 0 0, .slice none 0 0, .slice none 0 0] 35) = wq4 at *
              clear hwZ
              replace KB := below_then KB BA
              clear BA
              refine hKc.out _ _ ((HXB.out _ KB).1) (fun hHeld => ?_)
              clear hKc Kc
              refine wpAnyH_ready (rs := [12]) (by kernel_rfl) (by simp) ?_
              refine AllReadyH.cons rfl (fun Kc hKc => ?_) AllReadyH.nil
              simp only [List.getElem_toArray, List.getElem_cons_succ, List.getElem_cons_zero]
              rw [if_pos (by rfl)]
              have so : ∀ b, b ≠ wq3.heap.size → (wq4.setRow wq3.heap.size #[.slice none 0 0, .slice none 0 0, .slice none 0 0]).heap[b]? = wq4.heap[b]? := fun b hb => setRow_other _ _ _ _ hb
              refine wp_store_row 35 _ _ rfl wq3.heap.size #[.slice none 0 0, .slice none 0 0, .slice none 0 0] rfl rfl 35 _ X11 Tryz.infoV rfl (all3c rfl rfl rfl) ?_
              have X12 := X11.row #[.slice none 0 0, .slice none 0 0, .slice none 0 0]
              have KB2 := below_setRow KB (g := wq3.heap.size) h11A #[.slice none 0 0, .slice none 0 0, .slice none 0 0]
              generalize wq4.setRow wq3.heap.size #[.slice none 0 0, .slice none 0 0, .slice none 0 0] = wS at *
              clear so X11 KB
              refine hKc.out _ _ ((HXB.out _ KB2).1) (fun hHeld => ?_)
              clear hKc Kc
              refine wpAnyH_take (i := 13) (v := (.slice none 0 0)) rfl (by kernel_rfl) (by kernel_rfl) (by kernel_rfl) (fun _ _ _ h => h) (Or.inl ⟨by rfl, ?_⟩) (by assumption) ?_
              · intro w' hSw
                go_simp
              simp only [List.getElem_toArray, List.getElem_cons_succ, List.getElem_cons_zero, Act.put, List.setIfInBounds_toArray, List.set_cons_zero, List.set_cons_succ]
              refine wpAnyH_take (i := 14) (v := (.int .i64 q)) rfl (by kernel_rfl) (by kernel_rfl) (by kernel_rfl) (fun _ _ _ h => h) (Or.inl ⟨by rfl, ?_⟩) (by assumption) ?_
              · intro w' hSw
                go_simp
              simp only [List.getElem_toArray, List.getElem_cons_succ, List.getElem_cons_zero, Act.put, List.setIfInBounds_toArray, List.set_cons_zero, List.set_cons_succ]
              refine wpAnyH_done (by kernel_rfl) ?_ _
              clear hHeld
              go_wp2_with fail
              go_meet
              obtain ⟨⟨y1, y2, y3⟩, _, y4, y5, y6⟩ := HXB.out _ KB2
              case rel => exact ⟨wq3.heap.size, rfl, rfl, rfl, X12, y1, y2, y3, y4, y5, y6⟩
            · simp only [List.getElem_toArray, List.getElem_cons_succ, List.getElem_cons_zero]
              rw [if_pos (by rfl)]
              go_wp2_with fail
              have BA := below_alloc8 wq2 (.cells #[.slice none 0 0, .slice none 0 0, .slice none 0 0] 35)
              have X11 := blk_new wq2 35 #[.slice none 0 0, .slice none 0 0, .slice none 0 0]
              have h11A : wB.heap.size ≤ wq2.heap.size := KB.size
              generalize hwZ : wq2.alloc (.cells #[.slice none 0 0, .slice none 0 0, .slice none 0 0] 35) = wq3 at *
              clear hwZ
              replace O5 := O5.below BA
              replace A2 := A2.below BA
              replace KB := below_then KB BA
              clear BA
              refine hKc.out _ _ ((HXB.out _ KB).1) (fun hHeld => ?_)
              clear hKc Kc
              refine wpAnyH_ready (rs := [6]) (by kernel_rfl) (by simp) ?_
              refine AllReadyH.cons rfl (fun Kc hKc => ?_) AllReadyH.nil
              simp only [List.getElem_toArray, List.getElem_cons_succ, List.getElem_cons_zero]
              rw [if_pos (by rfl)]
              go_wp2_with fail
              have h5 := err_congr HQ YC tok
              rw [hqq.out] at h5
              have FF := FE W5 ys MC v2 _ wq3 O5 hl5 A2 (by rw [h5]; exact hq)
              rw [h5] at FF
              refine FF.mono ?_
              rintro e wq4 ⟨rfl, BA⟩
              clear FF h5
              replace O5 := O5.below BA
              replace A2 := A2.below BA
              replace X11 := X11.below BA
              replace KB := below_then KB BA
              clear BA
              clear O5 A2 HQ hl5
              go_wp2_with fail
              refine hKc.out _ _ ((HXB.out _ KB).1) (fun hHeld => ?_)
              clear hKc Kc
              refine wpAnyH_take (i := 7) (v := (.tuple #[.agg #[.slice none 0 0, .slice none 0 0, .slice none 0 0], .slice none 0 0, .int .i64 q])) rfl (by kernel_rfl) (by kernel_rfl) (by kernel_rfl) (fun _ _ _ h => h) (Or.inl ⟨by rfl, ?_⟩) (by assumption) ?_
              · intro w' hSw
                go_simp
              simp only [List.getElem_toArray, List.getElem_cons_succ, List.getElem_cons_zero, Act.put, List.setIfInBounds_toArray, List.set_cons_zero, List.set_cons_succ]
              refine wpAnyH_take (i := 8) (v := (.agg #[.slice none 0 0, .slice none 0 0, .slice none 0 0])) rfl (by kernel_rfl) (by kernel_rfl) (by kernel_rfl) (fun _ _ _ h => h) (Or.inl ⟨by rfl, ?_⟩) (by assumption) ?_
              · intro w' hSw
                go_simp
              simp only [List.getElem_toArray, List.getElem_cons_succ, List.getElem_cons_zero, Act.put, List.setIfInBounds_toArray, List.set_cons_zero, List.set_cons_succ]
              refine wpAnyH_take (i := 9) (v := (.slice none 0 0)) rfl (by kernel_rfl) (by kernel_rfl) (by kernel_rfl) (fun _ _ _ h => h) (Or.inl ⟨by rfl, ?_⟩) (by assumption) ?_
              · intro w' hSw
                go_simp
              simp only [List.getElem_toArray, List.getElem_cons_succ, List.getElem_cons_zero, Act.put, List.setIfInBounds_toArray, List.set_cons_zero, List.set_cons_succ]
              refine wpAnyH_take (i := 10) (v := (.int .i64 q)) rfl (by kernel_rfl) (by kernel_rfl) (by kernel_rfl) (fun _ _ _ h => h) (Or.inl ⟨by rfl, ?_⟩) (by assumption) ?_
              · intro w' hSw
                go_simp
              simp only [List.getElem_toArray, List.getElem_cons_succ, List.getElem_cons_zero, Act.put, List.setIfInBounds_toArray, List.set_cons_zero, List.set_cons_succ]
              refine wpAnyH_ready (rs := [12]) (by kernel_rfl) (by simp) ?_
              refine AllReadyH.cons rfl (fun Kc hKc => ?_) AllReadyH.nil
              simp only [List.getElem_toArray, List.getElem_cons_succ, List.getElem_cons_zero]
              rw [if_pos (by rfl)]
              have so : ∀ b, b ≠ wq2.heap.size → (wq4.setRow wq2.heap.size #[.slice none 0 0, .slice none 0 0, .slice none 0 0]).heap[b]? = wq4.heap[b]? := fun b hb => setRow_other _ _ _ _ hb
              refine wp_store_row 35 _ _ rfl wq2.heap.size #[.slice none 0 0, .slice none 0 0, .slice none 0 0] rfl rfl 35 _ X11 Tryz.infoV rfl (all3c rfl rfl rfl) ?_
              have X12 := X11.row #[.slice none 0 0, .slice none 0 0, .slice none 0 0]
              have KB2 := below_setRow KB (g := wq2.heap.size) h11A #[.slice none 0 0, .slice none 0 0, .slice none 0 0]
              generalize wq4.setRow wq2.heap.size #[.slice none 0 0, .slice none 0 0, .slice none 0 0] = wS at *
              clear so X11 KB
              refine hKc.out _ _ ((HXB.out _ KB2).1) (fun hHeld => ?_)
              clear hKc Kc
              refine wpAnyH_take (i := 13) (v := (.slice none 0 0)) rfl (by kernel_rfl) (by kernel_rfl) (by kernel_rfl) (fun _ _ _ h => h) (Or.inl ⟨by rfl, ?_⟩) (by assumption) ?_
              · intro w' hSw
                go_simp
              simp only [List.getElem_toArray, List.getElem_cons_succ, List.getElem_cons_zero, Act.put, List.setIfInBounds_toArray, List.set_cons_zero, List.set_cons_succ]
              refine wpAnyH_take (i := 14) (v := (.int .i64 q)) rfl (by kernel_rfl) (by kernel_rfl) (by kernel_rfl) (fun _ _ _ h => h) (Or.inl ⟨by rfl, ?_⟩) (by assumption) ?_
              · intro w' hSw
                go_simp
              simp only [List.getElem_toArray, List.getElem_cons_succ, List.getElem_cons_zero, Act.put, List.setIfInBounds_toArray, List.set_cons_zero, List.set_cons_succ]
              refine wpAnyH_done (by kernel_rfl) ?_ _
              clear hHeld
              go_wp2_with fail
              go_meet
              obtain ⟨⟨y1, y2, y3⟩, _, y4, y5, y6⟩ := HXB.out _ KB2
              case rel => exact ⟨wq2.heap.size, rfl, rfl, rfl, X12, y1, y2, y3, y4, y5, y6⟩
          · simp only [List.getElem_toArray, List.getElem_cons_succ, List.getElem_cons_zero]
            rw [if_pos (by rfl)]
            go_wp2_with fail
            have BA := below_alloc8 wq1 (.cells #[.slice none 0 0, .slice none 0 0, .slice none 0 0] 35)
            have X11 := blk_new wq1 35 #[.slice none 0 0, .slice none 0 0, .slice none 0 0]
            have h11A : wB.heap.size ≤ wq1.heap.size := KB.size
            generalize hwZ : wq1.alloc (.cells #[.slice none 0 0, .slice none 0 0, .slice none 0 0] 35) = wq2 at *
            clear hwZ
            replace O5 := O5.below BA
            replace KB := below_then KB BA
            clear BA
            refine hKc.out _ _ ((HXB.out _ KB).1) (fun hHeld => ?_)
            clear hKc Kc
            refine wpAnyH_ready (rs := [4]) (by kernel_rfl) (by simp) ?_
            refine AllReadyH.cons rfl (fun Kc hKc => ?_) AllReadyH.nil
            simp only [List.getElem_toArray, List.getElem_cons_succ, List.getElem_cons_zero]
            rw [if_pos (by rfl)]
            go_wp2_with fail
            refine (O9 wq2 (HXB.out _ KB).2.2.1).mono ?_
            rintro e wq3 ⟨v2, rfl, A2, BA⟩
            replace O5 := O5.below BA
            replace X11 := X11.below BA
            replace KB := below_then KB BA
            clear BA
            go_wp2_with fail
            refine hKc.out _ _ ((HXB.out _ KB).1) (fun hHeld => ?_)
            clear hKc Kc
            refine wpAnyH_ready (rs := [6]) (by kernel_rfl) (by simp) ?_
            refine AllReadyH.cons rfl (fun Kc hKc => ?_) AllReadyH.nil
            simp only [List.getElem_toArray, List.getElem_cons_succ, List.getElem_cons_zero]
            rw [if_pos (by rfl)]
            go_wp2_with fail
            have h5 := err_congr HQ YC tok
            rw [hqq.out] at h5
            have FF := FE W5 ys MC v2 _ wq3 O5 hl5 A2 (by rw [h5]; exact hq)
            rw [h5] at FF
            refine FF.mono ?_
            rintro e wq4 ⟨rfl, BA⟩
            clear FF h5
            replace O5 := O5.below BA
            replace A2 := A2.below BA
            replace X11 := X11.below BA
            replace KB := below_then KB BA
            clear BA
            clear O5 A2 HQ hl5
            go_wp2_with fail
            refine hKc.out _ _ ((HXB.out _ KB).1) (fun hHeld => ?_)
            clear hKc Kc
            refine wpAnyH_take (i := 7) (v := (.tuple #[.agg #[.slice none 0 0, .slice none 0 0, .slice none 0 0], .slice none 0 0, .int .i64 q])) rfl (by kernel_rfl) (by kernel_rfl) (by kernel_rfl) (fun _ _ _ h => h) (Or.inl ⟨by rfl, ?_⟩) (by assumption) ?_
            · intro w' hSw
              go_simp
            simp only [List.getElem_toArray, List.getElem_cons_succ, List.getElem_cons_zero, Act.put, List.setIfInBounds_toArray, List.set_cons_zero, List.set_cons_succ]
            refine wpAnyH_take (i := 8) (v := (.agg #[.slice none 0 0, .slice none 0 0, .slice none 0 0])) rfl (by kernel_rfl) (by kernel_rfl) (by kernel_rfl) (fun _ _ _ h => h) (Or.inl ⟨by rfl, ?_⟩) (by assumption) ?_
            · intro w' hSw
              go_simp
            simp only [List.getElem_toArray, List.getElem_cons_succ, List.getElem_cons_zero, Act.put, List.setIfInBounds_toArray, List.set_cons_zero, List.set_cons_succ]
            refine wpAnyH_take (i := 9) (v := (.slice none 0 0)) rfl (by kernel_rfl) (by kernel_rfl) (by kernel_rfl) (fun _ _ _ h => h) (Or.inl ⟨by rfl, ?_⟩) (by assumption) ?_
            · intro w' hSw
              go_simp
            simp only [List.getElem_toArray, List.getElem_cons_succ, List.getElem_cons_zero, Act.put, List.setIfInBounds_toArray, List.set_cons_zero, List.set_cons_succ]
            refine wpAnyH_take (i := 10) (v := (.int .i64 q)) rfl (by kernel_rfl) (by kernel_rfl) (by kernel_rfl) (fun _ _ _ h => h) (Or.inl ⟨by rfl, ?_⟩) (by assumption) ?_
            · intro w' hSw
              go_simp
            simp only [List.getElem_toArray, List.getElem_cons_succ, List.getElem_cons_zero, Act.put, List.setIfInBounds_toArray, List.set_cons_zero, List.set_cons_succ]
            refine wpAnyH_ready (rs := [12]) (by kernel_rfl) (by simp) ?_
            refine AllReadyH.cons rfl (fun Kc hKc => ?_) AllReadyH.nil
            simp only [List.getElem_toArray, List.getElem_cons_succ, List.getElem_cons_zero]
            rw [if_pos (by rfl)]
            have so : ∀ b, b ≠ wq1.heap.size → (wq4.setRow wq1.heap.size #[.slice none 0 0, .slice none 0 0, .slice none 0 0]).heap[b]? = wq4.heap[b]? := fun b hb => setRow_other _ _ _ _ hb
            refine wp_store_row 35 _ _ rfl wq1.heap.size #[.slice none 0 0, .slice none 0 0, .slice none 0 0] rfl rfl 35 _ X11 Tryz.infoV rfl (all3c rfl rfl rfl) ?_
            have X12 := X11.row #[.slice none 0 0, .slice none 0 0, .slice none 0 0]
            have KB2 := below_setRow KB (g := wq1.heap.size) h11A #[.slice none 0 0, .slice none 0 0, .slice none 0 0]
            generalize wq4.setRow wq1.heap.size #[.slice none 0 0, .slice none 0 0, .slice none 0 0] = wS at *
            clear so X11 KB
            refine hKc.out _ _ ((HXB.out _ KB2).1) (fun hHeld => ?_)
            clear hKc Kc
            refine wpAnyH_take (i := 13) (v := (.slice none 0 0)) rfl (by kernel_rfl) (by kernel_rfl) (by kernel_rfl) (fun _ _ _ h => h) (Or.inl ⟨by rfl, ?_⟩) (by assumption) ?_
            · intro w' hSw
              go_simp
            simp only [List.getElem_toArray, List.getElem_cons_succ, List.getElem_cons_zero, Act.put, List.setIfInBounds_toArray, List.set_cons_zero, List.set_cons_succ]
            refine wpAnyH_take (i := 14) (v := (.int .i64 q)) rfl (by kernel_rfl) (by kernel_rfl) (by kernel_rfl) (fun _ _ _ h => h) (Or.inl ⟨by rfl, ?_⟩) (by assumption) ?_
            · intro w' hSw
              go_simp
            simp only [List.getElem_toArray, List.getElem_cons_succ, List.getElem_cons_zero, Act.put, List.setIfInBounds_toArray, List.set_cons_zero, List.set_cons_succ]
            refine wpAnyH_done (by kernel_rfl) ?_ _
            clear hHeld
            go_wp2_with fail
            go_meet
            obtain ⟨⟨y1, y2, y3⟩, _, y4, y5, y6⟩ := HXB.out _ KB2
            case rel => exact ⟨wq1.heap.size, rfl, rfl, rfl, X12, y1, y2, y3, y4, y5, y6⟩
        · simp only [List.getElem_toArray, List.getElem_cons_succ, List.getElem_cons_zero]
          rw [if_pos (by rfl)]
          go_wp2_with fail
          have BA := below_alloc8 wB (.cells #[.slice none 0 0, .slice none 0 0, .slice none 0 0] 35)
          have X11 := blk_new wB 35 #[.slice none 0 0, .slice none 0 0, .slice none 0 0]
          have h11A : wB.heap.size ≤ wB.heap.size := KB.size
          generalize hwZ : wB.alloc (.cells #[.slice none 0 0, .slice none 0 0, .slice none 0 0] 35) = wq1 at *
          clear hwZ
          replace KB := below_then KB BA
          clear BA
          refine hKc.out _ _ ((HXB.out _ KB).1) (fun hHeld => ?_)
          clear hKc Kc
          refine wpAnyH_ready (rs := [2]) (by kernel_rfl) (by simp) ?_
          refine AllReadyH.cons rfl (fun Kc hKc => ?_) AllReadyH.nil
          simp only [List.getElem_toArray, List.getElem_cons_succ, List.getElem_cons_zero]
          rw [if_pos (by rfl)]
          go_wp2_with fail
          refine (OF wq1 (HXB.out _ KB).2.1).mono ?_
          rintro e wq2 ⟨W5, rfl, ⟨ys, T3⟩, BA⟩
          have HQ := CA W5 ys _ _ T3
          obtain ⟨O5, hl5⟩ := OT W5 ys _ _ T3
          clear T3
          replace X11 := X11.below BA
          replace KB := below_then KB BA
          clear BA
          go_wp2_with fail
          refine hKc.out _ _ ((HXB.out _ KB).1) (fun hHeld => ?_)
          clear hKc Kc
          refine wpAnyH_ready (rs := [4]) (by kernel_rfl) (by simp) ?_
          refine AllReadyH.cons rfl (fun Kc hKc => ?_) AllReadyH.nil
          simp only [List.getElem_toArray, List.getElem_cons_succ, List.getElem_cons_zero]
          rw [if_pos (by rfl)]
          go_wp2_with fail
          refine (O9 wq2 (HXB.out _ KB).2.2.1).mono ?_
          rintro e wq3 ⟨v2, rfl, A2, BA⟩
          replace O5 := O5.below BA
          replace X11 := X11.below BA
          replace KB := below_then KB BA
          clear BA
          go_wp2_with fail
          refine hKc.out _ _ ((HXB.out _ KB).1) (fun hHeld => ?_)
          clear hKc Kc
          refine wpAnyH_ready (rs := [6]) (by kernel_rfl) (by simp) ?_
          refine AllReadyH.cons rfl (fun Kc hKc => ?_) AllReadyH.nil
          simp only [List.getElem_toArray, List.getElem_cons_succ, List.getElem_cons_zero]
          rw [if_pos (by rfl)]
          go_wp2_with fail
          have h5 := err_congr HQ YC tok
          rw [hqq.out] at h5
          have FF := FE W5 ys MC v2 _ wq3 O5 hl5 A2 (by rw [h5]; exact hq)
          rw [h5] at FF
          refine FF.mono ?_
          rintro e wq4 ⟨rfl, BA⟩
          clear FF h5
          replace O5 := O5.below BA
          replace A2 := A2.below BA
          replace X11 := X11.below BA
          replace KB := below_then KB BA
          clear BA
          clear O5 A2 HQ hl5
          go_wp2_with fail
          refine hKc.out _ _ ((HXB.out _ KB).1) (fun hHeld => ?_)
          clear hKc Kc
          refine wpAnyH_take (i := 7) (v := (.tuple #[.agg #[.slice none 0 0, .slice none 0 0, .slice none 0 0], .slice none 0 0, .int .i64 q])) rfl (by kernel_rfl) (by kernel_rfl) (by kernel_rfl) (fun _ _ _ h => h) (Or.inl ⟨by rfl, ?_⟩) (by assumption) ?_
          · intro w' hSw
            go_simp
          simp only [List.getElem_toArray, List.getElem_cons_succ, List.getElem_cons_zero, Act.put, List.setIfInBounds_toArray, List.set_cons_zero, List.set_cons_succ]
          refine wpAnyH_take (i := 8) (v := (.agg #[.slice none 0 0, .slice none 0 0, .slice none 0 0])) rfl (by kernel_rfl) (by kernel_rfl) (by kernel_rfl) (fun _ _ _ h => h) (Or.inl ⟨by rfl, ?_⟩) (by assumption) ?_
          · intro w' hSw
            go_simp
          simp only [List.getElem_toArray, List.getElem_cons_succ, List.getElem_cons_zero, Act.put, List.setIfInBounds_toArray, List.set_cons_zero, List.set_cons_succ]
          refine wpAnyH_take (i := 9) (v := (.slice none 0 0)) rfl (by kernel_rfl) (by kernel_rfl) (by kernel_rfl) (fun _ _ _ h => h) (Or.inl ⟨by rfl, ?_⟩) (by assumption) ?_
          · intro w' hSw
            go_simp
          simp only [List.getElem_toArray, List.getElem_cons_succ, List.getElem_cons_zero, Act.put, List.setIfInBounds_toArray, List.set_cons_zero, List.set_cons_succ]
          refine wpAnyH_take (i := 10) (v := (.int .i64 q)) rfl (by kernel_rfl) (by kernel_rfl) (by kernel_rfl) (fun _ _ _ h => h) (Or.inl ⟨by rfl, ?_⟩) (by assumption) ?_
          · intro w' hSw
            go_simp
          simp only [List.getElem_toArray, List.getElem_cons_succ, List.getElem_cons_zero, Act.put, List.setIfInBounds_toArray, List.set_cons_zero, List.set_cons_succ]
          refine wpAnyH_ready (rs := [12]) (by kernel_rfl) (by simp) ?_
          refine AllReadyH.cons rfl (fun Kc hKc => ?_) AllReadyH.nil
          simp only [List.getElem_toArray, List.getElem_cons_succ, List.getElem_cons_zero]
          rw [if_pos (by rfl)]
          have so : ∀ b, b ≠ wB.heap.size → (wq4.setRow wB.heap.size #[.slice none 0 0, .slice none 0 0, .slice none 0 0]).heap[b]? = wq4.heap[b]? := fun b hb => setRow_other _ _ _ _ hb
          refine wp_store_row 35 _ _ rfl wB.heap.size #[.slice none 0 0, .slice none 0 0, .slice none 0 0] rfl rfl 35 _ X11 Tryz.infoV rfl (all3c rfl rfl rfl) ?_
          have X12 := X11.row #[.slice none 0 0, .slice none 0 0, .slice none 0 0]
          have KB2 := below_setRow KB (g := wB.heap.size) h11A #[.slice none 0 0, .slice none 0 0, .slice none 0 0]
          generalize wq4.setRow wB.heap.size #[.slice none 0 0, .slice none 0 0, .slice none 0 0] = wS at *
          clear so X11 KB
          refine hKc.out _ _ ((HXB.out _ KB2).1) (fun hHeld => ?_)
          clear hKc Kc
          refine wpAnyH_take (i := 13) (v := (.slice none 0 0)) rfl (by kernel_rfl) (by kernel_rfl) (by kernel_rfl) (fun _ _ _ h => h) (Or.inl ⟨by rfl, ?_⟩) (by assumption) ?_
          · intro w' hSw
            go_simp
          simp only [List.getElem_toArray, List.getElem_cons_succ, List.getElem_cons_zero, Act.put, List.setIfInBounds_toArray, List.set_cons_zero, List.set_cons_succ]
          refine wpAnyH_take (i := 14) (v := (.int .i64 q)) rfl (by kernel_rfl) (by kernel_rfl) (by kernel_rfl) (fun _ _ _ h => h) (Or.inl ⟨by rfl, ?_⟩) (by assumption) ?_
          · intro w' hSw
            go_simp
          simp only [List.getElem_toArray, List.getElem_cons_succ, List.getElem_cons_zero, Act.put, List.setIfInBounds_toArray, List.set_cons_zero, List.set_cons_succ]
          refine wpAnyH_done (by kernel_rfl) ?_ _
          clear hHeld
          go_wp2_with fail
          go_meet
          obtain ⟨⟨y1, y2, y3⟩, _, y4, y5, y6⟩ := HXB.out _ KB2
          case rel => exact ⟨wB.heap.size, rfl, rfl, rfl, X12, y1, y2, y3, y4, y5, y6⟩
      case rest =>
      obtain ⟨g11, rfl, rfl, rfl, X11, Xc, X3, XV, TA, O3, DW⟩ := hcut
      have a0 : wc.cell? ⟨w.heap.size, 0, none⟩ = some (.int .i64 C.V) := Xc.cell 0 rfl
      have a1 : wc.cell? ⟨w.heap.size, 1, none⟩ = some (.int .i64 C.D) := Xc.cell 1 rfl
      have a2 : wc.cell? ⟨w.heap.size, 2, none⟩ = some (.int .i64 C.Hd) := Xc.cell 2 rfl
      have a3 : wc.cell? ⟨w.heap.size, 3, none⟩ = some (.int .i64 C.H) := Xc.cell 3 rfl
      have a4 : wc.cell? ⟨w.heap.size, 4, none⟩ = some (.int .i64 C.L) := Xc.cell 4 rfl
      go_wp2_with (first | (refine wpList_load_row rfl 38 _ rfl g4 rfl 38 W3.cells (0, 0) _ X3 Tryz.underlying38 rfl Tryz.infoRW ?_) | (refine wpList_load_row rfl 41 _ rfl g5 rfl 41 #[t.v, k.v, v.v] (0, 0) _ XV Tryz.underlying41 rfl Tryz.infoRV ?_))
      refine (RE2 _ O3.b TA).mono ?_
      rintro e wd ⟨rfl, BE⟩
      replace Xc := Xc.below BE
      replace X3 := X3.below BE
      replace XV := XV.below BE
      replace TA := TA.below BE
      replace O3 := O3.below BE
      replace X11 := X11.below BE
      replace DW := below_then DW BE
      clear a0 a1 a2 a3 a4 BE RE2
      go_upto_region 4 with fail
      have BD : Below wd.heap.size wd wd.drew := (Below.refl _ wd).drew
      replace Xc := Xc.below BD
      replace X3 := X3.below BD
      replace XV := XV.below BD
      replace TA := TA.below BD
      replace O3 := O3.below BD
      replace X11 := X11.below BD
      replace DW := below_then DW BD
      clear BD
      refine wp_region_held_drew (S := fun w' => Blk w' w.heap.size 23 #[.int .i64 C.V, .int .i64 C.D, .int .i64 C.Hd, .int .i64 C.H, .int .i64 C.L] ∧ Blk w' g5 41 #[t.v, k.v, v.v]) (by kernel_rfl) (⟨Xc, XV⟩) (fun hHeld => ?_)
      generalize hA : wd.drew = wA4 at *
      clear hA
      refine wpAnyH_ready (rs := [0]) (by kernel_rfl) (by simp) ?_
      refine AllReadyH.cons rfl (fun Kc hKc => ?_) AllReadyH.nil
      simp only [List.getElem_toArray, List.getElem_cons_zero]
      rw [if_pos (by rfl)]
      go_wp2_with fail
      refine (CW _ DW).mono ?_
      rintro e we ⟨rfl, EM⟩
      replace Xc := Xc.below EM
      replace X3 := X3.below EM
      replace XV := XV.below EM
      replace TA := TA.below EM
      replace O3 := O3.below EM
      replace X11 := X11.below EM
      replace DW := below_then DW EM
      clear EM
      go_wp2_with fail
      refine hKc.out _ _ (⟨Xc, XV⟩) (fun hHeld => ?_)
      clear hKc Kc
      refine wpAnyH_take (i := 1) (v := (.bool false)) rfl (by kernel_rfl) (by kernel_rfl) (by kernel_rfl) (fun _ _ _ h => h) (Or.inl ⟨by rfl, ?_⟩) (by assumption) ?_
      · intro w' hSw
        go_simp
      simp only [List.getElem_toArray, List.getElem_cons_succ, List.getElem_cons_zero, Act.put, List.setIfInBounds_toArray, List.set_cons_zero, List.set_cons_succ]
      refine wpAnyH_take (i := 2) (v := (.bool false)) rfl (by kernel_rfl) (by kernel_rfl) (by kernel_rfl) (fun _ _ _ h => h) (Or.inl ⟨by rfl, ?_⟩) (by assumption) ?_
      · intro w' hSw
        go_simp
      simp only [List.getElem_toArray, List.getElem_cons_succ, List.getElem_cons_zero, Act.put, List.setIfInBounds_toArray, List.set_cons_zero, List.set_cons_succ]
      refine wpAnyH_take (i := 3) (v := .agg #[.int .i64 C.V, .int .i64 C.D, .int .i64 C.Hd, .int .i64 C.H, .int .i64 C.L]) rfl (by kernel_rfl) (by kernel_rfl) (by kernel_rfl) (fun _ _ _ h => h) (yields_rowF (by rfl) 23 _ rfl w.heap.size rfl 23 #[.int .i64 C.V, .int .i64 C.D, .int .i64 C.Hd, .int .i64 C.H, .int .i64 C.L] _ (fun w' hS => hS.1) Tryz.underlying23 rfl Tryz.infoC) (by assumption) ?_
      simp only [List.getElem_toArray, List.getElem_cons_succ, List.getElem_cons_zero, Act.put, List.setIfInBounds_toArray, List.set_cons_zero, List.set_cons_succ]
      refine wpAnyH_take (i := 4) (v := .agg #[t.v, k.v, v.v]) rfl (by kernel_rfl) (by kernel_rfl) (by kernel_rfl) (fun _ _ _ h => h) (yields_rowF (by rfl) 41 _ rfl g5 rfl 41 #[t.v, k.v, v.v] _ (fun w' hS => hS.2) Tryz.underlying41 rfl Tryz.infoRV) (by assumption) ?_
      simp only [List.getElem_toArray, List.getElem_cons_succ, List.getElem_cons_zero, Act.put, List.setIfInBounds_toArray, List.set_cons_zero, List.set_cons_succ]
      refine wpAnyH_take (i := 7) (v := .agg #[.int .i64 C.V, .int .i64 C.D, .int .i64 C.Hd, .int .i64 C.H, .int .i64 C.L]) rfl (by kernel_rfl) (by kernel_rfl) (by kernel_rfl) (fun _ _ _ h => h) (yields_rowF (by rfl) 23 _ rfl w.heap.size rfl 23 #[.int .i64 C.V, .int .i64 C.D, .int .i64 C.Hd, .int .i64 C.H, .int .i64 C.L] _ (fun w' hS => hS.1) Tryz.underlying23 rfl Tryz.infoC) (by assumption) ?_
      simp only [List.getElem_toArray, List.getElem_cons_succ, List.getElem_cons_zero, Act.put, List.setIfInBounds_toArray, List.set_cons_zero, List.set_cons_succ]
      refine wpAnyH_take (i := 8) (v := .agg #[t.v, k.v, v.v]) rfl (by kernel_rfl) (by kernel_rfl) (by kernel_rfl) (fun _ _ _ h => h) (yields_rowF (by rfl) 41 _ rfl g5 rfl 41 #[t.v, k.v, v.v] _ (fun w' hS => hS.2) Tryz.underlying41 rfl Tryz.infoRV) (by assumption) ?_
      simp only [List.getElem_toArray, List.getElem_cons_succ, List.getElem_cons_zero, Act.put, List.setIfInBounds_toArray, List.set_cons_zero, List.set_cons_succ]
      refine wpAnyH_ready (rs := [5]) (by kernel_rfl) (by simp) ?_
      refine AllReadyH.cons rfl (fun Kc hKc => ?_) AllReadyH.nil
      simp only [List.getElem_toArray, List.getElem_cons_succ, List.getElem_cons_zero]
      rw [if_pos (by rfl)]
      go_wp2_with fail
      refine (O9 _ TA).mono ?_
      rintro e wf ⟨v9, rfl, A9, EM⟩
      replace Xc := Xc.below EM
      replace X3 := X3.below EM
      replace XV := XV.below EM
      replace TA := TA.below EM
      replace O3 := O3.below EM
      replace X11 := X11.below EM
      replace DW := below_then DW EM
      clear EM
      go_wp2_with fail
      refine hKc.out _ _ (⟨Xc, XV⟩) (fun hHeld => ?_)
      clear hKc Kc
      refine wpAnyH_ready (rs := [6]) (by kernel_rfl) (by simp) ?_
      refine AllReadyH.cons rfl (fun Kc hKc => ?_) AllReadyH.nil
      simp only [List.getElem_toArray, List.getElem_cons_succ, List.getElem_cons_zero]
      rw [if_pos (by rfl)]
      go_wp2_with fail
      refine (SF v9 _ A9).mono ?_
      rintro e wg ⟨rfl, EM⟩
      replace Xc := Xc.below EM
      replace X3 := X3.below EM
      replace XV := XV.below EM
      replace TA := TA.below EM
      replace O3 := O3.below EM
      replace X11 := X11.below EM
      replace DW := below_then DW EM
      clear A9
      clear EM
      go_wp2_with fail
      refine hKc.out _ _ (⟨Xc, XV⟩) (fun hHeld => ?_)
      clear hKc Kc
      refine wpAnyH_ready (rs := [9]) (by kernel_rfl) (by simp) ?_
      refine AllReadyH.cons rfl (fun Kc hKc => ?_) AllReadyH.nil
      simp only [List.getElem_toArray, List.getElem_cons_succ, List.getElem_cons_zero]
      rw [if_pos (by rfl)]
      go_wp2_with fail
      refine (RF9 t k v _ TA).mono ?_
      rintro e wh ⟨rfl, EM⟩
      replace Xc := Xc.below EM
      replace X3 := X3.below EM
      replace XV := XV.below EM
      replace TA := TA.below EM
      replace O3 := O3.below EM
      replace X11 := X11.below EM
      replace DW := below_then DW EM
      clear EM
      go_wp2_with fail
      refine hKc.out _ _ (⟨Xc, XV⟩) (fun hHeld => ?_)
      clear hKc Kc
      refine wpAnyH_take (i := 10) (v := (.bool false)) rfl (by kernel_rfl) (by kernel_rfl) (by kernel_rfl) (fun _ _ _ h => h) (Or.inl ⟨by rfl, ?_⟩) (by assumption) ?_
      · intro w' hSw
        go_simp
      simp only [List.getElem_toArray, List.getElem_cons_succ, List.getElem_cons_zero, Act.put, List.setIfInBounds_toArray, List.set_cons_zero, List.set_cons_succ]
      refine wpAnyH_take (i := 11) (v := (.bool false)) rfl (by kernel_rfl) (by kernel_rfl) (by kernel_rfl) (fun _ _ _ h => h) (Or.inl ⟨by rfl, ?_⟩) (by assumption) ?_
      · intro w' hSw
        go_simp
      simp only [List.getElem_toArray, List.getElem_cons_succ, List.getElem_cons_zero, Act.put, List.setIfInBounds_toArray, List.set_cons_zero, List.set_cons_succ]
      refine wpAnyH_take (i := 12) (v := (.bool false)) rfl (by kernel_rfl) (by kernel_rfl) (by kernel_rfl) (fun _ _ _ h => h) (Or.inl ⟨by rfl, ?_⟩) (by assumption) ?_
      · intro w' hSw
        go_simp
      simp only [List.getElem_toArray, List.getElem_cons_succ, List.getElem_cons_zero, Act.put, List.setIfInBounds_toArray, List.set_cons_zero, List.set_cons_succ]
      refine wpAnyH_take (i := 13) (v := (.int .i64 q)) rfl (by kernel_rfl) (by kernel_rfl) (by kernel_rfl) (fun _ _ _ h => h) (Or.inl ⟨by rfl, ?_⟩) (by assumption) ?_
      · intro w' hSw
        go_simp
      simp only [List.getElem_toArray, List.getElem_cons_succ, List.getElem_cons_zero, Act.put, List.setIfInBounds_toArray, List.set_cons_zero, List.set_cons_succ]
      refine wpAnyH_take (i := 14) (v := (.int .i64 q)) rfl (by kernel_rfl) (by kernel_rfl) (by kernel_rfl) (fun _ _ _ h => h) (Or.inl ⟨by rfl, ?_⟩) (by assumption) ?_
      · intro w' hSw
        go_simp
      simp only [List.getElem_toArray, List.getElem_cons_succ, List.getElem_cons_zero, Act.put, List.setIfInBounds_toArray, List.set_cons_zero, List.set_cons_succ]
      refine wpAnyH_take (i := 15) (v := (.bool false)) rfl (by kernel_rfl) (by kernel_rfl) (by kernel_rfl) (fun _ _ _ h => h) (Or.inl ⟨by rfl, ?_⟩) (by assumption) ?_
      · intro w' hSw
        go_simp
      simp only [List.getElem_toArray, List.getElem_cons_succ, List.getElem_cons_zero, Act.put, List.setIfInBounds_toArray, List.set_cons_zero, List.set_cons_succ]
      refine wpAnyH_take (i := 16) (v := (.bool false)) rfl (by kernel_rfl) (by kernel_rfl) (by kernel_rfl) (fun _ _ _ h => h) (Or.inl ⟨by rfl, ?_⟩) (by assumption) ?_
      · intro w' hSw
        go_simp
      simp only [List.getElem_toArray, List.getElem_cons_succ, List.getElem_cons_zero, Act.put, List.setIfInBounds_toArray, List.set_cons_zero, List.set_cons_succ]
      refine wpAnyH_done (by kernel_rfl) ?_ _
      clear hHeld CW SF RF9 O9
      have c0 : wh.cell? ⟨g11, 0, none⟩ = some (.slice none 0 0) := X11.cell 0 rfl
      have c1 : wh.cell? ⟨g11, 1, none⟩ = some (.slice none 0 0) := X11.cell 1 rfl
      have c2 : wh.cell? ⟨g11, 2, none⟩ = some (.slice none 0 0) := X11.cell 2 rfl
      have hq1 : (q == 0) = false := by simpa using hq
      have hq2 : (q != 0) = true := by simp [bne, hq1]
      have TN := fun wv => told9R_any ⟨⟨none, 0, 0⟩, ⟨none, 0, 0⟩, ⟨none, 0, 0⟩⟩ noX wv (noV_at wv).raw
      rw [show VwV.cells ⟨⟨none, 0, 0⟩, ⟨none, 0, 0⟩, ⟨none, 0, 0⟩⟩ = #[.slice none 0 0, .slice none 0 0, .slice none 0 0] from rfl, show cutVw noX = noX from rfl] at TN
      clear Xc X3 XV TA O3 X11
      go_wp2_with fail
      refine (TN _).mono ?_
      rintro e wi ⟨t7, k7, v7, rfl, T7, EM⟩
      replace DW := below_then DW EM
      clear EM TN c0 c1 c2
      have VS := viewSame_eq t7 k7 v7 ⟨none, 0, 0⟩ ⟨none, 0, 0⟩ ⟨none, 0, 0⟩ noX wi T7 ⟨(noV_at wi).t, (noV_at wi).k, (noV_at wi).v⟩
      unfold Sl.v at VS
      simp only at VS
      go_wp2_with fail
      refine VS.mono ?_
      rintro e wj ⟨rfl, EM⟩
      replace DW := below_then DW EM
      clear EM VS T7
      go_wp2_with fail
      go_ret
      exact ⟨rfl, DW⟩
  obtain ⟨hck, hvb, hlT, htb⟩ := err_zero hq
  obtain ⟨hsh, -⟩ := check_shape hck
  have hkk := shape_ok hsh
  have RE2 := fun wv (hb : BlocksAt wv W3.b xs) (h : ToldAt wv t k v YC) => RE W3 xs t k v wv HW3.out hb h
  rw [hq] at RE2
  clear RE FE hq
  obtain ⟨CV, CD, CHd, CH, CL⟩ := C
  simp only at *
  obtain ⟨V, rfl⟩ : ∃ n : Nat, CV = n := ⟨CV.toNat, by omega⟩
  obtain ⟨D, rfl⟩ : ∃ n : Nat, CD = n := ⟨CD.toNat, by omega⟩
  obtain ⟨Hd, rfl⟩ : ∃ n : Nat, CHd = n := ⟨CHd.toNat, by omega⟩
  obtain ⟨H, rfl⟩ : ∃ n : Nat, CH = n := ⟨CH.toNat, by omega⟩
  obtain ⟨L, rfl⟩ : ∃ n : Nat, CL = n := ⟨CL.toNat, by omega⟩
  have htk0 : 0 ≤ tok ∧ tok < (V : Int) := by unfold tokB at htb; simpa using htb
  obtain ⟨tok, rfl⟩ : ∃ n : Nat, tok = n := ⟨tok.toNat, by omega⟩
  have htk : tok < V := by omega
  have hf := fit_of hvb
  have hmod := shape_mod hsh
  have HCZ : Hid (checkN (V : Int) (D : Int) (Hd : Int) (H : Int) (L : Int) W3 xs = 0) := hck
  have HTL : Hid (YC.T.length ≤ 127) := hlT
  have HTK : Hid (tok < V) := htk
  have HFT : Hid (VwFit (V : Int) D L YC) := hf
  have RFD := fun wv (G : WtAt wv V D H W3 xs MC) (hx : xs.length = L) (h : ToldAt wv t k v YC) => rfeed_any V D Hd H L tok W3 xs MC t k v YC wv G hx h hf hlT htk (by omega) (by omega) (by omega) (by omega) hmod (by omega) (by omega) (by omega) (by omega)
  unfold cfgC at RFD
  have HCF : Hid (cutVw (feedV MC D H Hd L YC tok) = feedV MC D H Hd L YC tok) := cut_feed9 hf htk hlT (by omega) (by omega)
  obtain ⟨FV, hFV⟩ : ∃ x, x = feedV MC D H Hd L YC tok := ⟨_, rfl⟩
  obtain ⟨FL, hFL⟩ : ∃ x, x = likR MC V D (feedX MC D H Hd L YC tok) := ⟨_, rfl⟩
  rw [← hFV] at HCF
  rw [← hFV, ← hFL] at RFD
  have HFV : Hid (feedV MC D H Hd L YC tok = FV) := hFV.symm
  have HFX : Hid (likR MC V D (feedX MC D H Hd L YC tok) = FL) := hFL.symm
  clear hck hvb hlT htb hsh hkk htk0 htk hf hmod hFV hFL
  go_upto_region 2 with fail
  go_cut [11, 12, 13] from 21 (fun s11 s12 s13 wc => ∃ (g11 gl : Nat) (vv2 : VwV) (BL : Nat), s11 = .pointer (some ⟨g11, 0, none⟩) ∧ s12 = .slice (some ⟨gl, 0, none⟩) V V ∧ s13 = .int .i64 0 ∧ Blk wc g11 35 (VwV.cells vv2) ∧ Blk wc w.heap.size 23 #[.int .i64 (V : Int), .int .i64 (D : Int), .int .i64 (Hd : Int), .int .i64 (H : Int), .int .i64 (L : Int)] ∧ Blk wc g4 38 W3.cells ∧ Blk wc g5 41 #[t.v, k.v, v.v] ∧ ToldAt wc t k v YC ∧ WOwn wc BT1 W3 xs MC ∧ VwAt wc vv2 FV ∧ Fresh wc BL gl V V FL ∧ Below w.heap.size w wc)
  case first =>
    refine wp_region_held_drew (S := fun w' => Blk w' w.heap.size 23 #[.int .i64 (V : Int), .int .i64 (D : Int), .int .i64 (Hd : Int), .int .i64 (H : Int), .int .i64 (L : Int)] ∧ Blk w' g4 38 W3.cells ∧ Blk w' g5 41 #[t.v, k.v, v.v]) (by kernel_rfl) (⟨Xc, X3, XV⟩) (fun hHeld => ?_)
    generalize hA : wc.drew = wB at *
    clear hA
    have HXB : Hid (∀ wv, Below wB.heap.size wB wv → (Blk wv w.heap.size 23 #[.int .i64 (V : Int), .int .i64 (D : Int), .int .i64 (Hd : Int), .int .i64 (H : Int), .int .i64 (L : Int)] ∧ Blk wv g4 38 W3.cells ∧ Blk wv g5 41 #[t.v, k.v, v.v]) ∧ WtR wv W3 xs MC ∧ ToldAt wv t k v YC ∧ WOwn wv BT1 W3 xs MC ∧ Below w.heap.size w wv) := fun wv hb => ⟨⟨Xc.below hb, X3.below hb, XV.below hb⟩, R1.below hb, TA.below hb, O3.below hb, below_then DW hb⟩
    have KB : Below wB.heap.size wB wB := Below.refl _ _
    clear Xc X3 XV R1 TA O3 DW
    refine wpAnyH_take (i := 0) (v := .agg #[.int .i64 (V : Int), .int .i64 (D : Int), .int .i64 (Hd : Int), .int .i64 (H : Int), .int .i64 (L : Int)]) rfl (by kernel_rfl) (by kernel_rfl) (by kernel_rfl) (fun _ _ _ h => h) (yields_rowF (by rfl) 23 _ rfl w.heap.size rfl 23 #[.int .i64 (V : Int), .int .i64 (D : Int), .int .i64 (Hd : Int), .int .i64 (H : Int), .int .i64 (L : Int)] _ (fun w' hS => hS.1) Tryz.underlying23 rfl Tryz.infoC) (by assumption) ?_
    simp only [List.getElem_toArray, List.getElem_cons_zero, Act.put, List.setIfInBounds_toArray, List.set_cons_zero, List.set_cons_succ]
    refine wpAnyH_take (i := 1) (v := .agg W3.cells) rfl (by kernel_rfl) (by kernel_rfl) (by kernel_rfl) (fun _ _ _ h => h) (yields_rowF (by rfl) 38 _ rfl g4 rfl 38 W3.cells _ (fun w' hS => hS.2.1) Tryz.underlying38 rfl Tryz.infoRW) (by assumption) ?_
    simp only [List.getElem_toArray, List.getElem_cons_succ, List.getElem_cons_zero, Act.put, List.setIfInBounds_toArray, List.set_cons_zero, List.set_cons_succ]
    refine wpAnyH_take (i := 3) (v := .agg #[t.v, k.v, v.v]) rfl (by kernel_rfl) (by kernel_rfl) (by kernel_rfl) (fun _ _ _ h => h) (yields_rowF (by rfl) 41 _ rfl g5 rfl 41 #[t.v, k.v, v.v] _ (fun w' hS => hS.2.2) Tryz.underlying41 rfl Tryz.infoRV) (by assumption) ?_
    simp only [List.getElem_toArray, List.getElem_cons_succ, List.getElem_cons_zero, Act.put, List.setIfInBounds_toArray, List.set_cons_zero, List.set_cons_succ]
    refine wpAnyH_take (i := 5) (v := (.int .i64 (tok : Int))) rfl (by kernel_rfl) (by kernel_rfl) (by kernel_rfl) (fun _ _ _ h => h) (Or.inl ⟨by rfl, ?_⟩) (by assumption) ?_
    · intro w' hSw
      go_simp
    simp only [List.getElem_toArray, List.getElem_cons_succ, List.getElem_cons_zero, Act.put, List.setIfInBounds_toArray, List.set_cons_zero, List.set_cons_succ]
    refine wpAnyH_ready (rs := [2, 11]) (by kernel_rfl) (by simp) ?_
    refine AllReadyH.cons rfl (fun Kc hKc => ?_) (AllReadyH.cons rfl (fun Kc hKc => ?_) AllReadyH.nil)
    · simp only [List.getElem_toArray, List.getElem_cons_succ, List.getElem_cons_zero]
      rw [if_pos (by rfl)]
      go_wp2_with fail
      refine (OF wB (HXB.out _ KB).2.1).mono ?_
      rintro e wq1 ⟨W5, rfl, ⟨ys, T3⟩, BA⟩
      have HQ := CA W5 ys _ _ T3
      obtain ⟨O5, hl5⟩ := OT W5 ys _ _ T3
      clear T3
      replace KB := below_then KB BA
      clear BA
      go_wp2_with fail
      refine hKc.out _ _ ((HXB.out _ KB).1) (fun hHeld => ?_)
      clear hKc Kc
      refine wpAnyH_ready (rs := [4, 11]) (by kernel_rfl) (by simp) ?_
      refine AllReadyH.cons rfl (fun Kc hKc => ?_) (AllReadyH.cons rfl (fun Kc hKc => ?_) AllReadyH.nil)
      · simp only [List.getElem_toArray, List.getElem_cons_succ, List.getElem_cons_zero]
        rw [if_pos (by rfl)]
        go_wp2_with fail
        refine (O9 wq1 (HXB.out _ KB).2.2.1).mono ?_
        rintro e wq2 ⟨v2, rfl, A2, BA⟩
        replace O5 := O5.below BA
        replace KB := below_then KB BA
        clear BA
        go_wp2_with fail
        refine hKc.out _ _ ((HXB.out _ KB).1) (fun hHeld => ?_)
        clear hKc Kc
        refine wpAnyH_ready (rs := [6, 11]) (by kernel_rfl) (by simp) ?_
        refine AllReadyH.cons rfl (fun Kc hKc => ?_) (AllReadyH.cons rfl (fun Kc hKc => ?_) AllReadyH.nil)
        · simp only [List.getElem_toArray, List.getElem_cons_succ, List.getElem_cons_zero]
          rw [if_pos (by rfl)]
          go_wp2_with fail
          have hc5 : checkN (V : Int) (D : Int) (Hd : Int) (H : Int) (L : Int) W5 ys = 0 := by rw [HQ]; exact HCZ.out
          refine (feed_ok V D Hd H L W5 ys MC v2 YC tok wq2 (HT.out _ (HXB.out _ KB).2.2.2.2) HTL.out HTK.out (own_good O5 hl5 hc5) A2 HFT.out).mono ?_
          rintro e wq3 ⟨vv2, gl, rfl, N, FX, BA⟩
          rw [HFV.out] at N
          rw [HFX.out] at FX
          have NV : Hangs (fun b => wq2.heap.size ≤ b ∧ b < wq3.heap.size) wq3 (fun w => VwAt w vv2 FV) := Hangs.mono N (fun b h1 h2 => ⟨h2, h1⟩)
          have hgl : wq2.heap.size ≤ gl ∧ gl < wq3.heap.size := ⟨FX.base, FX.lt⟩
          clear N hc5
          replace O5 := O5.below BA
          replace A2 := A2.below BA
          replace KB := below_then KB BA
          clear BA
          clear O5 A2 HQ hl5
          go_wp2_with fail
          refine hKc.out _ _ ((HXB.out _ KB).1) (fun hHeld => ?_)
          clear hKc Kc
          refine wpAnyH_take (i := 7) (v := (.tuple #[.agg (VwV.cells vv2), .slice (some ⟨gl, 0, none⟩) V V, .int .i64 0])) rfl (by kernel_rfl) (by kernel_rfl) (by kernel_rfl) (fun _ _ _ h => h) (Or.inl ⟨by rfl, ?_⟩) (by assumption) ?_
          · intro w' hSw
            go_simp
          simp only [List.getElem_toArray, List.getElem_cons_succ, List.getElem_cons_zero, Act.put, List.setIfInBounds_toArray, List.set_cons_zero, List.set_cons_succ]
          refine wpAnyH_take (i := 8) (v := (.agg (VwV.cells vv2))) rfl (by kernel_rfl) (by kernel_rfl) (by kernel_rfl) (fun _ _ _ h => h) (Or.inl ⟨by rfl, ?_⟩) (by assumption) ?_
          · intro w' hSw
            go_simp
          simp only [List.getElem_toArray, List.getElem_cons_succ, List.getElem_cons_zero, Act.put, List.setIfInBounds_toArray, List.set_cons_zero, List.set_cons_succ]
          refine wpAnyH_take (i := 9) (v := (.slice (some ⟨gl, 0, none⟩) V V)) rfl (by kernel_rfl) (by kernel_rfl) (by kernel_rfl) (fun _ _ _ h => h) (Or.inl ⟨by rfl, ?_⟩) (by assumption) ?_
          · intro w' hSw
            go_simp
          simp only [List.getElem_toArray, List.getElem_cons_succ, List.getElem_cons_zero, Act.put, List.setIfInBounds_toArray, List.set_cons_zero, List.set_cons_succ]
          refine wpAnyH_take (i := 10) (v := (.int .i64 0)) rfl (by kernel_rfl) (by kernel_rfl) (by kernel_rfl) (fun _ _ _ h => h) (Or.inl ⟨by rfl, ?_⟩) (by assumption) ?_
          · intro w' hSw
            go_simp
          simp only [List.getElem_toArray, List.getElem_cons_succ, List.getElem_cons_zero, Act.put, List.setIfInBounds_toArray, List.set_cons_zero, List.set_cons_succ]
          refine wpAnyH_ready (rs := [11]) (by kernel_rfl) (by simp) ?_
          refine AllReadyH.cons rfl (fun Kc hKc => ?_) AllReadyH.nil
          simp only [List.getElem_toArray, List.getElem_cons_succ, List.getElem_cons_zero]
          rw [if_pos (by rfl)]
          go_wp2_with fail
          have BA := below_alloc8 wq3 (.cells #[.slice none 0 0, .slice none 0 0, .slice none 0 0] 35)
          have X11 := blk_new wq3 35 #[.slice none 0 0, .slice none 0 0, .slice none 0 0]
          have h11A : wB.heap.size ≤ wq3.heap.size := KB.size
          have h11 : ¬ (wq2.heap.size ≤ wq3.heap.size ∧ wq3.heap.size < wq3.heap.size) := by omega
          generalize hwZ : wq3.alloc (.cells #[.slice none 0 0, .slice none 0 0, .slice none 0 0] 35) = wq4 at *
          clear hwZ
          replace NV := NV.below BA
          replace FX := FX.below BA
          replace KB := below_then KB BA
          clear BA
          refine hKc.out _ _ ((HXB.out _ KB).1) (fun hHeld => ?_)
          clear hKc Kc
          refine wpAnyH_ready (rs := [12]) (by kernel_rfl) (by simp) ?_
          refine AllReadyH.cons rfl (fun Kc hKc => ?_) AllReadyH.nil
          simp only [List.getElem_toArray, List.getElem_cons_succ, List.getElem_cons_zero]
          rw [if_pos (by rfl)]
          have so : ∀ b, b ≠ wq3.heap.size → (wq4.setRow wq3.heap.size (VwV.cells vv2)).heap[b]? = wq4.heap[b]? := fun b hb => setRow_other _ _ _ _ hb
          refine wp_store_row 35 _ _ rfl wq3.heap.size (VwV.cells vv2) rfl rfl 35 _ X11 Tryz.infoV rfl (vwv_one vv2) ?_
          have X12 := X11.row (VwV.cells vv2)
          have KB2 := below_setRow KB (g := wq3.heap.size) h11A (VwV.cells vv2)
          have NV2 := Hangs.row NV (g := wq3.heap.size) h11 (VwV.cells vv2)
          have FX2 := FX.of_block (so gl (by omega))
          generalize wq4.setRow wq3.heap.size (VwV.cells vv2) = wS at *
          clear so X11 KB NV FX
          refine hKc.out _ _ ((HXB.out _ KB2).1) (fun hHeld => ?_)
          clear hKc Kc
          refine wpAnyH_take (i := 13) (v := (.slice (some ⟨gl, 0, none⟩) V V)) rfl (by kernel_rfl) (by kernel_rfl) (by kernel_rfl) (fun _ _ _ h => h) (Or.inl ⟨by rfl, ?_⟩) (by assumption) ?_
          · intro w' hSw
            go_simp
          simp only [List.getElem_toArray, List.getElem_cons_succ, List.getElem_cons_zero, Act.put, List.setIfInBounds_toArray, List.set_cons_zero, List.set_cons_succ]
          refine wpAnyH_take (i := 14) (v := (.int .i64 0)) rfl (by kernel_rfl) (by kernel_rfl) (by kernel_rfl) (fun _ _ _ h => h) (Or.inl ⟨by rfl, ?_⟩) (by assumption) ?_
          · intro w' hSw
            go_simp
          simp only [List.getElem_toArray, List.getElem_cons_succ, List.getElem_cons_zero, Act.put, List.setIfInBounds_toArray, List.set_cons_zero, List.set_cons_succ]
          refine wpAnyH_done (by kernel_rfl) ?_ _
          clear hHeld
          go_wp2_with fail
          go_meet
          obtain ⟨⟨y1, y2, y3⟩, _, y4, y5, y6⟩ := HXB.out _ KB2
          case rel => exact ⟨wq3.heap.size, gl, vv2, _, rfl, rfl, rfl, X12, y1, y2, y3, y4, y5, NV2.now, FX2, y6⟩
        · simp only [List.getElem_toArray, List.getElem_cons_succ, List.getElem_cons_zero]
          rw [if_pos (by rfl)]
          go_wp2_with fail
          have BA := below_alloc8 wq2 (.cells #[.slice none 0 0, .slice none 0 0, .slice none 0 0] 35)
          have X11 := blk_new wq2 35 #[.slice none 0 0, .slice none 0 0, .slice none 0 0]
          have h11A : wB.heap.size ≤ wq2.heap.size := KB.size
          generalize hwZ : wq2.alloc (.cells #[.slice none 0 0, .slice none 0 0, .slice none 0 0] 35) = wq3 at *
          clear hwZ
          replace O5 := O5.below BA
          replace A2 := A2.below BA
          replace KB := below_then KB BA
          clear BA
          refine hKc.out _ _ ((HXB.out _ KB).1) (fun hHeld => ?_)
          clear hKc Kc
          refine wpAnyH_ready (rs := [6]) (by kernel_rfl) (by simp) ?_
          refine AllReadyH.cons rfl (fun Kc hKc => ?_) AllReadyH.nil
          simp only [List.getElem_toArray, List.getElem_cons_succ, List.getElem_cons_zero]
          rw [if_pos (by rfl)]
          go_wp2_with fail
          have hc5 : checkN (V : Int) (D : Int) (Hd : Int) (H : Int) (L : Int) W5 ys = 0 := by rw [HQ]; exact HCZ.out
          refine (feed_ok V D Hd H L W5 ys MC v2 YC tok wq3 (HT.out _ (HXB.out _ KB).2.2.2.2) HTL.out HTK.out (own_good O5 hl5 hc5) A2 HFT.out).mono ?_
          rintro e wq4 ⟨vv2, gl, rfl, N, FX, BA⟩
          rw [HFV.out] at N
          rw [HFX.out] at FX
          have NV : Hangs (fun b => wq3.heap.size ≤ b ∧ b < wq4.heap.size) wq4 (fun w => VwAt w vv2 FV) := Hangs.mono N (fun b h1 h2 => ⟨h2, h1⟩)
          have hgl : wq3.heap.size ≤ gl ∧ gl < wq4.heap.size := ⟨FX.base, FX.lt⟩
          have h11 : ¬ (wq3.heap.size ≤ wq2.heap.size ∧ wq2.heap.size < wq4.heap.size) := by have := X11.lt; omega
          clear N hc5
          replace O5 := O5.below BA
          replace A2 := A2.below BA
          replace X11 := X11.below BA
          replace KB := below_then KB BA
          clear BA
          clear O5 A2 HQ hl5
          go_wp2_with fail
          refine hKc.out _ _ ((HXB.out _ KB).1) (fun hHeld => ?_)
          clear hKc Kc
          refine wpAnyH_take (i := 7) (v := (.tuple #[.agg (VwV.cells vv2), .slice (some ⟨gl, 0, none⟩) V V, .int .i64 0])) rfl (by kernel_rfl) (by kernel_rfl) (by kernel_rfl) (fun _ _ _ h => h) (Or.inl ⟨by rfl, ?_⟩) (by assumption) ?_
          · intro w' hSw
            go_simp
          simp only [List.getElem_toArray, List.getElem_cons_succ, List.getElem_cons_zero, Act.put, List.setIfInBounds_toArray, List.set_cons_zero, List.set_cons_succ]
          refine wpAnyH_take (i := 8) (v := (.agg (VwV.cells vv2))) rfl (by kernel_rfl) (by kernel_rfl) (by kernel_rfl) (fun _ _ _ h => h) (Or.inl ⟨by rfl, ?_⟩) (by assumption) ?_
          · intro w' hSw
            go_simp
          simp only [List.getElem_toArray, List.getElem_cons_succ, List.getElem_cons_zero, Act.put, List.setIfInBounds_toArray, List.set_cons_zero, List.set_cons_succ]
          refine wpAnyH_take (i := 9) (v := (.slice (some ⟨gl, 0, none⟩) V V)) rfl (by kernel_rfl) (by kernel_rfl) (by kernel_rfl) (fun _ _ _ h => h) (Or.inl ⟨by rfl, ?_⟩) (by assumption) ?_
          · intro w' hSw
            go_simp
          simp only [List.getElem_toArray, List.getElem_cons_succ, List.getElem_cons_zero, Act.put, List.setIfInBounds_toArray, List.set_cons_zero, List.set_cons_succ]
          refine wpAnyH_take (i := 10) (v := (.int .i64 0)) rfl (by kernel_rfl) (by kernel_rfl) (by kernel_rfl) (fun _ _ _ h => h) (Or.inl ⟨by rfl, ?_⟩) (by assumption) ?_
          · intro w' hSw
            go_simp
          simp only [List.getElem_toArray, List.getElem_cons_succ, List.getElem_cons_zero, Act.put, List.setIfInBounds_toArray, List.set_cons_zero, List.set_cons_succ]
          refine wpAnyH_ready (rs := [12]) (by kernel_rfl) (by simp) ?_
          refine AllReadyH.cons rfl (fun Kc hKc => ?_) AllReadyH.nil
          simp only [List.getElem_toArray, List.getElem_cons_succ, List.getElem_cons_zero]
          rw [if_pos (by rfl)]
          have so : ∀ b, b ≠ wq2.heap.size → (wq4.setRow wq2.heap.size (VwV.cells vv2)).heap[b]? = wq4.heap[b]? := fun b hb => setRow_other _ _ _ _ hb
          refine wp_store_row 35 _ _ rfl wq2.heap.size (VwV.cells vv2) rfl rfl 35 _ X11 Tryz.infoV rfl (vwv_one vv2) ?_
          have X12 := X11.row (VwV.cells vv2)
          have KB2 := below_setRow KB (g := wq2.heap.size) h11A (VwV.cells vv2)
          have NV2 := Hangs.row NV (g := wq2.heap.size) h11 (VwV.cells vv2)
          have FX2 := FX.of_block (so gl (by omega))
          generalize wq4.setRow wq2.heap.size (VwV.cells vv2) = wS at *
          clear so X11 KB NV FX
          refine hKc.out _ _ ((HXB.out _ KB2).1) (fun hHeld => ?_)
          clear hKc Kc
          refine wpAnyH_take (i := 13) (v := (.slice (some ⟨gl, 0, none⟩) V V)) rfl (by kernel_rfl) (by kernel_rfl) (by kernel_rfl) (fun _ _ _ h => h) (Or.inl ⟨by rfl, ?_⟩) (by assumption) ?_
          · intro w' hSw
            go_simp
          simp only [List.getElem_toArray, List.getElem_cons_succ, List.getElem_cons_zero, Act.put, List.setIfInBounds_toArray, List.set_cons_zero, List.set_cons_succ]
          refine wpAnyH_take (i := 14) (v := (.int .i64 0)) rfl (by kernel_rfl) (by kernel_rfl) (by kernel_rfl) (fun _ _ _ h => h) (Or.inl ⟨by rfl, ?_⟩) (by assumption) ?_
          · intro w' hSw
            go_simp
          simp only [List.getElem_toArray, List.getElem_cons_succ, List.getElem_cons_zero, Act.put, List.setIfInBounds_toArray, List.set_cons_zero, List.set_cons_succ]
          refine wpAnyH_done (by kernel_rfl) ?_ _
          clear hHeld
          go_wp2_with fail
          go_meet
          obtain ⟨⟨y1, y2, y3⟩, _, y4, y5, y6⟩ := HXB.out _ KB2
          case rel => exact ⟨wq2.heap.size, gl, vv2, _, rfl, rfl, rfl, X12, y1, y2, y3, y4, y5, NV2.now, FX2, y6⟩
      · simp only [List.getElem_toArray, List.getElem_cons_succ, List.getElem_cons_zero]
        rw [if_pos (by rfl)]
        go_wp2_with fail
        have BA := below_alloc8 wq1 (.cells #[.slice none 0 0, .slice none 0 0, .slice none 0 0] 35)
        have X11 := blk_new wq1 35 #[.slice none 0 0, .slice none 0 0, .slice none 0 0]
        have h11A : wB.heap.size ≤ wq1.heap.size := KB.size
        generalize hwZ : wq1.alloc (.cells #[.slice none 0 0, .slice none 0 0, .slice none 0 0] 35) = wq2 at *
        clear hwZ
        replace O5 := O5.below BA
        replace KB := below_then KB BA
        clear BA
        refine hKc.out _ _ ((HXB.out _ KB).1) (fun hHeld => ?_)
        clear hKc Kc
        refine wpAnyH_ready (rs := [4]) (by kernel_rfl) (by simp) ?_
        refine AllReadyH.cons rfl (fun Kc hKc => ?_) AllReadyH.nil
        simp only [List.getElem_toArray, List.getElem_cons_succ, List.getElem_cons_zero]
        rw [if_pos (by rfl)]
        go_wp2_with fail
        refine (O9 wq2 (HXB.out _ KB).2.2.1).mono ?_
        rintro e wq3 ⟨v2, rfl, A2, BA⟩
        replace O5 := O5.below BA
        replace X11 := X11.below BA
        replace KB := below_then KB BA
        clear BA
        go_wp2_with fail
        refine hKc.out _ _ ((HXB.out _ KB).1) (fun hHeld => ?_)
        clear hKc Kc
        refine wpAnyH_ready (rs := [6]) (by kernel_rfl) (by simp) ?_
        refine AllReadyH.cons rfl (fun Kc hKc => ?_) AllReadyH.nil
        simp only [List.getElem_toArray, List.getElem_cons_succ, List.getElem_cons_zero]
        rw [if_pos (by rfl)]
        go_wp2_with fail
        have hc5 : checkN (V : Int) (D : Int) (Hd : Int) (H : Int) (L : Int) W5 ys = 0 := by rw [HQ]; exact HCZ.out
        refine (feed_ok V D Hd H L W5 ys MC v2 YC tok wq3 (HT.out _ (HXB.out _ KB).2.2.2.2) HTL.out HTK.out (own_good O5 hl5 hc5) A2 HFT.out).mono ?_
        rintro e wq4 ⟨vv2, gl, rfl, N, FX, BA⟩
        rw [HFV.out] at N
        rw [HFX.out] at FX
        have NV : Hangs (fun b => wq3.heap.size ≤ b ∧ b < wq4.heap.size) wq4 (fun w => VwAt w vv2 FV) := Hangs.mono N (fun b h1 h2 => ⟨h2, h1⟩)
        have hgl : wq3.heap.size ≤ gl ∧ gl < wq4.heap.size := ⟨FX.base, FX.lt⟩
        have h11 : ¬ (wq3.heap.size ≤ wq1.heap.size ∧ wq1.heap.size < wq4.heap.size) := by have := X11.lt; omega
        clear N hc5
        replace O5 := O5.below BA
        replace A2 := A2.below BA
        replace X11 := X11.below BA
        replace KB := below_then KB BA
        clear BA
        clear O5 A2 HQ hl5
        go_wp2_with fail
        refine hKc.out _ _ ((HXB.out _ KB).1) (fun hHeld => ?_)
        clear hKc Kc
        refine wpAnyH_take (i := 7) (v := (.tuple #[.agg (VwV.cells vv2), .slice (some ⟨gl, 0, none⟩) V V, .int .i64 0])) rfl (by kernel_rfl) (by kernel_rfl) (by kernel_rfl) (fun _ _ _ h => h) (Or.inl ⟨by rfl, ?_⟩) (by assumption) ?_
        · intro w' hSw
          go_simp
        simp only [List.getElem_toArray, List.getElem_cons_succ, List.getElem_cons_zero, Act.put, List.setIfInBounds_toArray, List.set_cons_zero, List.set_cons_succ]
        refine wpAnyH_take (i := 8) (v := (.agg (VwV.cells vv2))) rfl (by kernel_rfl) (by kernel_rfl) (by kernel_rfl) (fun _ _ _ h => h) (Or.inl ⟨by rfl, ?_⟩) (by assumption) ?_
        · intro w' hSw
          go_simp
        simp only [List.getElem_toArray, List.getElem_cons_succ, List.getElem_cons_zero, Act.put, List.setIfInBounds_toArray, List.set_cons_zero, List.set_cons_succ]
        refine wpAnyH_take (i := 9) (v := (.slice (some ⟨gl, 0, none⟩) V V)) rfl (by kernel_rfl) (by kernel_rfl) (by kernel_rfl) (fun _ _ _ h => h) (Or.inl ⟨by rfl, ?_⟩) (by assumption) ?_
        · intro w' hSw
          go_simp
        simp only [List.getElem_toArray, List.getElem_cons_succ, List.getElem_cons_zero, Act.put, List.setIfInBounds_toArray, List.set_cons_zero, List.set_cons_succ]
        refine wpAnyH_take (i := 10) (v := (.int .i64 0)) rfl (by kernel_rfl) (by kernel_rfl) (by kernel_rfl) (fun _ _ _ h => h) (Or.inl ⟨by rfl, ?_⟩) (by assumption) ?_
        · intro w' hSw
          go_simp
        simp only [List.getElem_toArray, List.getElem_cons_succ, List.getElem_cons_zero, Act.put, List.setIfInBounds_toArray, List.set_cons_zero, List.set_cons_succ]
        refine wpAnyH_ready (rs := [12]) (by kernel_rfl) (by simp) ?_
        refine AllReadyH.cons rfl (fun Kc hKc => ?_) AllReadyH.nil
        simp only [List.getElem_toArray, List.getElem_cons_succ, List.getElem_cons_zero]
        rw [if_pos (by rfl)]
        have so : ∀ b, b ≠ wq1.heap.size → (wq4.setRow wq1.heap.size (VwV.cells vv2)).heap[b]? = wq4.heap[b]? := fun b hb => setRow_other _ _ _ _ hb
        refine wp_store_row 35 _ _ rfl wq1.heap.size (VwV.cells vv2) rfl rfl 35 _ X11 Tryz.infoV rfl (vwv_one vv2) ?_
        have X12 := X11.row (VwV.cells vv2)
        have KB2 := below_setRow KB (g := wq1.heap.size) h11A (VwV.cells vv2)
        have NV2 := Hangs.row NV (g := wq1.heap.size) h11 (VwV.cells vv2)
        have FX2 := FX.of_block (so gl (by omega))
        generalize wq4.setRow wq1.heap.size (VwV.cells vv2) = wS at *
        clear so X11 KB NV FX
        refine hKc.out _ _ ((HXB.out _ KB2).1) (fun hHeld => ?_)
        clear hKc Kc
        refine wpAnyH_take (i := 13) (v := (.slice (some ⟨gl, 0, none⟩) V V)) rfl (by kernel_rfl) (by kernel_rfl) (by kernel_rfl) (fun _ _ _ h => h) (Or.inl ⟨by rfl, ?_⟩) (by assumption) ?_
        · intro w' hSw
          go_simp
        simp only [List.getElem_toArray, List.getElem_cons_succ, List.getElem_cons_zero, Act.put, List.setIfInBounds_toArray, List.set_cons_zero, List.set_cons_succ]
        refine wpAnyH_take (i := 14) (v := (.int .i64 0)) rfl (by kernel_rfl) (by kernel_rfl) (by kernel_rfl) (fun _ _ _ h => h) (Or.inl ⟨by rfl, ?_⟩) (by assumption) ?_
        · intro w' hSw
          go_simp
        simp only [List.getElem_toArray, List.getElem_cons_succ, List.getElem_cons_zero, Act.put, List.setIfInBounds_toArray, List.set_cons_zero, List.set_cons_succ]
        refine wpAnyH_done (by kernel_rfl) ?_ _
        clear hHeld
        go_wp2_with fail
        go_meet
        obtain ⟨⟨y1, y2, y3⟩, _, y4, y5, y6⟩ := HXB.out _ KB2
        case rel => exact ⟨wq1.heap.size, gl, vv2, _, rfl, rfl, rfl, X12, y1, y2, y3, y4, y5, NV2.now, FX2, y6⟩
    · simp only [List.getElem_toArray, List.getElem_cons_succ, List.getElem_cons_zero]
      rw [if_pos (by rfl)]
      go_wp2_with fail
      have BA := below_alloc8 wB (.cells #[.slice none 0 0, .slice none 0 0, .slice none 0 0] 35)
      have X11 := blk_new wB 35 #[.slice none 0 0, .slice none 0 0, .slice none 0 0]
      have h11A : wB.heap.size ≤ wB.heap.size := KB.size
      generalize hwZ : wB.alloc (.cells #[.slice none 0 0, .slice none 0 0, .slice none 0 0] 35) = wq1 at *
      clear hwZ
      replace KB := below_then KB BA
      clear BA
      refine hKc.out _ _ ((HXB.out _ KB).1) (fun hHeld => ?_)
      clear hKc Kc
      refine wpAnyH_ready (rs := [2]) (by kernel_rfl) (by simp) ?_
      refine AllReadyH.cons rfl (fun Kc hKc => ?_) AllReadyH.nil
      simp only [List.getElem_toArray, List.getElem_cons_succ, List.getElem_cons_zero]
      rw [if_pos (by rfl)]
      go_wp2_with fail
      refine (OF wq1 (HXB.out _ KB).2.1).mono ?_
      rintro e wq2 ⟨W5, rfl, ⟨ys, T3⟩, BA⟩
      have HQ := CA W5 ys _ _ T3
      obtain ⟨O5, hl5⟩ := OT W5 ys _ _ T3
      clear T3
      replace X11 := X11.below BA
      replace KB := below_then KB BA
      clear BA
      go_wp2_with fail
      refine hKc.out _ _ ((HXB.out _ KB).1) (fun hHeld => ?_)
      clear hKc Kc
      refine wpAnyH_ready (rs := [4]) (by kernel_rfl) (by simp) ?_
      refine AllReadyH.cons rfl (fun Kc hKc => ?_) AllReadyH.nil
      simp only [List.getElem_toArray, List.getElem_cons_succ, List.getElem_cons_zero]
      rw [if_pos (by rfl)]
      go_wp2_with fail
      refine (O9 wq2 (HXB.out _ KB).2.2.1).mono ?_
      rintro e wq3 ⟨v2, rfl, A2, BA⟩
      replace O5 := O5.below BA
      replace X11 := X11.below BA
      replace KB := below_then KB BA
      clear BA
      go_wp2_with fail
      refine hKc.out _ _ ((HXB.out _ KB).1) (fun hHeld => ?_)
      clear hKc Kc
      refine wpAnyH_ready (rs := [6]) (by kernel_rfl) (by simp) ?_
      refine AllReadyH.cons rfl (fun Kc hKc => ?_) AllReadyH.nil
      simp only [List.getElem_toArray, List.getElem_cons_succ, List.getElem_cons_zero]
      rw [if_pos (by rfl)]
      go_wp2_with fail
      have hc5 : checkN (V : Int) (D : Int) (Hd : Int) (H : Int) (L : Int) W5 ys = 0 := by rw [HQ]; exact HCZ.out
      refine (feed_ok V D Hd H L W5 ys MC v2 YC tok wq3 (HT.out _ (HXB.out _ KB).2.2.2.2) HTL.out HTK.out (own_good O5 hl5 hc5) A2 HFT.out).mono ?_
      rintro e wq4 ⟨vv2, gl, rfl, N, FX, BA⟩
      rw [HFV.out] at N
      rw [HFX.out] at FX
      have NV : Hangs (fun b => wq3.heap.size ≤ b ∧ b < wq4.heap.size) wq4 (fun w => VwAt w vv2 FV) := Hangs.mono N (fun b h1 h2 => ⟨h2, h1⟩)
      have hgl : wq3.heap.size ≤ gl ∧ gl < wq4.heap.size := ⟨FX.base, FX.lt⟩
      have h11 : ¬ (wq3.heap.size ≤ wB.heap.size ∧ wB.heap.size < wq4.heap.size) := by have := X11.lt; omega
      clear N hc5
      replace O5 := O5.below BA
      replace A2 := A2.below BA
      replace X11 := X11.below BA
      replace KB := below_then KB BA
      clear BA
      clear O5 A2 HQ hl5
      go_wp2_with fail
      refine hKc.out _ _ ((HXB.out _ KB).1) (fun hHeld => ?_)
      clear hKc Kc
      refine wpAnyH_take (i := 7) (v := (.tuple #[.agg (VwV.cells vv2), .slice (some ⟨gl, 0, none⟩) V V, .int .i64 0])) rfl (by kernel_rfl) (by kernel_rfl) (by kernel_rfl) (fun _ _ _ h => h) (Or.inl ⟨by rfl, ?_⟩) (by assumption) ?_
      · intro w' hSw
        go_simp
      simp only [List.getElem_toArray, List.getElem_cons_succ, List.getElem_cons_zero, Act.put, List.setIfInBounds_toArray, List.set_cons_zero, List.set_cons_succ]
      refine wpAnyH_take (i := 8) (v := (.agg (VwV.cells vv2))) rfl (by kernel_rfl) (by kernel_rfl) (by kernel_rfl) (fun _ _ _ h => h) (Or.inl ⟨by rfl, ?_⟩) (by assumption) ?_
      · intro w' hSw
        go_simp
      simp only [List.getElem_toArray, List.getElem_cons_succ, List.getElem_cons_zero, Act.put, List.setIfInBounds_toArray, List.set_cons_zero, List.set_cons_succ]
      refine wpAnyH_take (i := 9) (v := (.slice (some ⟨gl, 0, none⟩) V V)) rfl (by kernel_rfl) (by kernel_rfl) (by kernel_rfl) (fun _ _ _ h => h) (Or.inl ⟨by rfl, ?_⟩) (by assumption) ?_
      · intro w' hSw
        go_simp
      simp only [List.getElem_toArray, List.getElem_cons_succ, List.getElem_cons_zero, Act.put, List.setIfInBounds_toArray, List.set_cons_zero, List.set_cons_succ]
      refine wpAnyH_take (i := 10) (v := (.int .i64 0)) rfl (by kernel_rfl) (by kernel_rfl) (by kernel_rfl) (fun _ _ _ h => h) (Or.inl ⟨by rfl, ?_⟩) (by assumption) ?_
      · intro w' hSw
        go_simp
      simp only [List.getElem_toArray, List.getElem_cons_succ, List.getElem_cons_zero, Act.put, List.setIfInBounds_toArray, List.set_cons_zero, List.set_cons_succ]
      refine wpAnyH_ready (rs := [12]) (by kernel_rfl) (by simp) ?_
      refine AllReadyH.cons rfl (fun Kc hKc => ?_) AllReadyH.nil
      simp only [List.getElem_toArray, List.getElem_cons_succ, List.getElem_cons_zero]
      rw [if_pos (by rfl)]
      have so : ∀ b, b ≠ wB.heap.size → (wq4.setRow wB.heap.size (VwV.cells vv2)).heap[b]? = wq4.heap[b]? := fun b hb => setRow_other _ _ _ _ hb
      refine wp_store_row 35 _ _ rfl wB.heap.size (VwV.cells vv2) rfl rfl 35 _ X11 Tryz.infoV rfl (vwv_one vv2) ?_
      have X12 := X11.row (VwV.cells vv2)
      have KB2 := below_setRow KB (g := wB.heap.size) h11A (VwV.cells vv2)
      have NV2 := Hangs.row NV (g := wB.heap.size) h11 (VwV.cells vv2)
      have FX2 := FX.of_block (so gl (by omega))
      generalize wq4.setRow wB.heap.size (VwV.cells vv2) = wS at *
      clear so X11 KB NV FX
      refine hKc.out _ _ ((HXB.out _ KB2).1) (fun hHeld => ?_)
      clear hKc Kc
      refine wpAnyH_take (i := 13) (v := (.slice (some ⟨gl, 0, none⟩) V V)) rfl (by kernel_rfl) (by kernel_rfl) (by kernel_rfl) (fun _ _ _ h => h) (Or.inl ⟨by rfl, ?_⟩) (by assumption) ?_
      · intro w' hSw
        go_simp
      simp only [List.getElem_toArray, List.getElem_cons_succ, List.getElem_cons_zero, Act.put, List.setIfInBounds_toArray, List.set_cons_zero, List.set_cons_succ]
      refine wpAnyH_take (i := 14) (v := (.int .i64 0)) rfl (by kernel_rfl) (by kernel_rfl) (by kernel_rfl) (fun _ _ _ h => h) (Or.inl ⟨by rfl, ?_⟩) (by assumption) ?_
      · intro w' hSw
        go_simp
      simp only [List.getElem_toArray, List.getElem_cons_succ, List.getElem_cons_zero, Act.put, List.setIfInBounds_toArray, List.set_cons_zero, List.set_cons_succ]
      refine wpAnyH_done (by kernel_rfl) ?_ _
      clear hHeld
      go_wp2_with fail
      go_meet
      obtain ⟨⟨y1, y2, y3⟩, _, y4, y5, y6⟩ := HXB.out _ KB2
      case rel => exact ⟨wB.heap.size, gl, vv2, _, rfl, rfl, rfl, X12, y1, y2, y3, y4, y5, NV2.now, FX2, y6⟩
  case rest =>
  obtain ⟨g11, gl, vv2, BL, rfl, rfl, rfl, X11, Xc, X3, XV, TA, O3, NV, FX, DW⟩ := hcut
  have a0 : wc.cell? ⟨w.heap.size, 0, none⟩ = some (.int .i64 (V : Int)) := Xc.cell 0 rfl
  have a1 : wc.cell? ⟨w.heap.size, 1, none⟩ = some (.int .i64 (D : Int)) := Xc.cell 1 rfl
  have a2 : wc.cell? ⟨w.heap.size, 2, none⟩ = some (.int .i64 (Hd : Int)) := Xc.cell 2 rfl
  have a3 : wc.cell? ⟨w.heap.size, 3, none⟩ = some (.int .i64 (H : Int)) := Xc.cell 3 rfl
  have a4 : wc.cell? ⟨w.heap.size, 4, none⟩ = some (.int .i64 (L : Int)) := Xc.cell 4 rfl
  go_wp2_with (first | (refine wpList_load_row rfl 38 _ rfl g4 rfl 38 W3.cells (0, 0) _ X3 Tryz.underlying38 rfl Tryz.infoRW ?_) | (refine wpList_load_row rfl 41 _ rfl g5 rfl 41 #[t.v, k.v, v.v] (0, 0) _ XV Tryz.underlying41 rfl Tryz.infoRV ?_))
  refine (RE2 _ O3.b TA).mono ?_
  rintro e wd ⟨rfl, BE⟩
  replace Xc := Xc.below BE
  replace X3 := X3.below BE
  replace XV := XV.below BE
  replace TA := TA.below BE
  replace O3 := O3.below BE
  replace X11 := X11.below BE
  replace NV := NV.below BE
  replace FX := FX.below BE
  replace DW := below_then DW BE
  clear a0 a1 a2 a3 a4 BE RE2
  go_upto_region 4 with fail
  have BD : Below wd.heap.size wd wd.drew := (Below.refl _ wd).drew
  replace Xc := Xc.below BD
  replace X3 := X3.below BD
  replace XV := XV.below BD
  replace TA := TA.below BD
  replace O3 := O3.below BD
  replace X11 := X11.below BD
  replace NV := NV.below BD
  replace FX := FX.below BD
  replace DW := below_then DW BD
  clear BD
  refine wp_region_held_drew (S := fun w' => Blk w' w.heap.size 23 #[.int .i64 (V : Int), .int .i64 (D : Int), .int .i64 (Hd : Int), .int .i64 (H : Int), .int .i64 (L : Int)] ∧ Blk w' g5 41 #[t.v, k.v, v.v]) (by kernel_rfl) (⟨Xc, XV⟩) (fun hHeld => ?_)
  generalize hA : wd.drew = wA4 at *
  clear hA
  refine wpAnyH_ready (rs := [0]) (by kernel_rfl) (by simp) ?_
  refine AllReadyH.cons rfl (fun Kc hKc => ?_) AllReadyH.nil
  simp only [List.getElem_toArray, List.getElem_cons_zero]
  rw [if_pos (by rfl)]
  go_wp2_with fail
  refine (CW _ DW).mono ?_
  rintro e we ⟨rfl, EM⟩
  replace Xc := Xc.below EM
  replace X3 := X3.below EM
  replace XV := XV.below EM
  replace TA := TA.below EM
  replace O3 := O3.below EM
  replace X11 := X11.below EM
  replace NV := NV.below EM
  replace FX := FX.below EM
  replace DW := below_then DW EM
  clear EM
  go_wp2_with fail
  refine hKc.out _ _ (⟨Xc, XV⟩) (fun hHeld => ?_)
  clear hKc Kc
  refine wpAnyH_take (i := 1) (v := (.bool false)) rfl (by kernel_rfl) (by kernel_rfl) (by kernel_rfl) (fun _ _ _ h => h) (Or.inl ⟨by rfl, ?_⟩) (by assumption) ?_
  · intro w' hSw
    go_simp
  simp only [List.getElem_toArray, List.getElem_cons_succ, List.getElem_cons_zero, Act.put, List.setIfInBounds_toArray, List.set_cons_zero, List.set_cons_succ]
  refine wpAnyH_take (i := 2) (v := (.bool false)) rfl (by kernel_rfl) (by kernel_rfl) (by kernel_rfl) (fun _ _ _ h => h) (Or.inl ⟨by rfl, ?_⟩) (by assumption) ?_
  · intro w' hSw
    go_simp
  simp only [List.getElem_toArray, List.getElem_cons_succ, List.getElem_cons_zero, Act.put, List.setIfInBounds_toArray, List.set_cons_zero, List.set_cons_succ]
  refine wpAnyH_take (i := 3) (v := .agg #[.int .i64 (V : Int), .int .i64 (D : Int), .int .i64 (Hd : Int), .int .i64 (H : Int), .int .i64 (L : Int)]) rfl (by kernel_rfl) (by kernel_rfl) (by kernel_rfl) (fun _ _ _ h => h) (yields_rowF (by rfl) 23 _ rfl w.heap.size rfl 23 #[.int .i64 (V : Int), .int .i64 (D : Int), .int .i64 (Hd : Int), .int .i64 (H : Int), .int .i64 (L : Int)] _ (fun w' hS => hS.1) Tryz.underlying23 rfl Tryz.infoC) (by assumption) ?_
  simp only [List.getElem_toArray, List.getElem_cons_succ, List.getElem_cons_zero, Act.put, List.setIfInBounds_toArray, List.set_cons_zero, List.set_cons_succ]
  refine wpAnyH_take (i := 4) (v := .agg #[t.v, k.v, v.v]) rfl (by kernel_rfl) (by kernel_rfl) (by kernel_rfl) (fun _ _ _ h => h) (yields_rowF (by rfl) 41 _ rfl g5 rfl 41 #[t.v, k.v, v.v] _ (fun w' hS => hS.2) Tryz.underlying41 rfl Tryz.infoRV) (by assumption) ?_
  simp only [List.getElem_toArray, List.getElem_cons_succ, List.getElem_cons_zero, Act.put, List.setIfInBounds_toArray, List.set_cons_zero, List.set_cons_succ]
  refine wpAnyH_take (i := 7) (v := .agg #[.int .i64 (V : Int), .int .i64 (D : Int), .int .i64 (Hd : Int), .int .i64 (H : Int), .int .i64 (L : Int)]) rfl (by kernel_rfl) (by kernel_rfl) (by kernel_rfl) (fun _ _ _ h => h) (yields_rowF (by rfl) 23 _ rfl w.heap.size rfl 23 #[.int .i64 (V : Int), .int .i64 (D : Int), .int .i64 (Hd : Int), .int .i64 (H : Int), .int .i64 (L : Int)] _ (fun w' hS => hS.1) Tryz.underlying23 rfl Tryz.infoC) (by assumption) ?_
  simp only [List.getElem_toArray, List.getElem_cons_succ, List.getElem_cons_zero, Act.put, List.setIfInBounds_toArray, List.set_cons_zero, List.set_cons_succ]
  refine wpAnyH_take (i := 8) (v := .agg #[t.v, k.v, v.v]) rfl (by kernel_rfl) (by kernel_rfl) (by kernel_rfl) (fun _ _ _ h => h) (yields_rowF (by rfl) 41 _ rfl g5 rfl 41 #[t.v, k.v, v.v] _ (fun w' hS => hS.2) Tryz.underlying41 rfl Tryz.infoRV) (by assumption) ?_
  simp only [List.getElem_toArray, List.getElem_cons_succ, List.getElem_cons_zero, Act.put, List.setIfInBounds_toArray, List.set_cons_zero, List.set_cons_succ]
  refine wpAnyH_ready (rs := [5]) (by kernel_rfl) (by simp) ?_
  refine AllReadyH.cons rfl (fun Kc hKc => ?_) AllReadyH.nil
  simp only [List.getElem_toArray, List.getElem_cons_succ, List.getElem_cons_zero]
  rw [if_pos (by rfl)]
  go_wp2_with fail
  refine (O9 _ TA).mono ?_
  rintro e wf ⟨v9, rfl, A9, EM⟩
  replace Xc := Xc.below EM
  replace X3 := X3.below EM
  replace XV := XV.below EM
  replace TA := TA.below EM
  replace O3 := O3.below EM
  replace X11 := X11.below EM
  replace NV := NV.below EM
  replace FX := FX.below EM
  replace DW := below_then DW EM
  clear EM
  go_wp2_with fail
  refine hKc.out _ _ (⟨Xc, XV⟩) (fun hHeld => ?_)
  clear hKc Kc
  refine wpAnyH_ready (rs := [6]) (by kernel_rfl) (by simp) ?_
  refine AllReadyH.cons rfl (fun Kc hKc => ?_) AllReadyH.nil
  simp only [List.getElem_toArray, List.getElem_cons_succ, List.getElem_cons_zero]
  rw [if_pos (by rfl)]
  go_wp2_with fail
  refine (SF v9 _ A9).mono ?_
  rintro e wg ⟨rfl, EM⟩
  replace Xc := Xc.below EM
  replace X3 := X3.below EM
  replace XV := XV.below EM
  replace TA := TA.below EM
  replace O3 := O3.below EM
  replace X11 := X11.below EM
  replace NV := NV.below EM
  replace FX := FX.below EM
  replace DW := below_then DW EM
  clear A9
  clear EM
  go_wp2_with fail
  refine hKc.out _ _ (⟨Xc, XV⟩) (fun hHeld => ?_)
  clear hKc Kc
  refine wpAnyH_ready (rs := [9]) (by kernel_rfl) (by simp) ?_
  refine AllReadyH.cons rfl (fun Kc hKc => ?_) AllReadyH.nil
  simp only [List.getElem_toArray, List.getElem_cons_succ, List.getElem_cons_zero]
  rw [if_pos (by rfl)]
  go_wp2_with fail
  refine (RF9 t k v _ TA).mono ?_
  rintro e wh ⟨rfl, EM⟩
  replace Xc := Xc.below EM
  replace X3 := X3.below EM
  replace XV := XV.below EM
  replace TA := TA.below EM
  replace O3 := O3.below EM
  replace X11 := X11.below EM
  replace NV := NV.below EM
  replace FX := FX.below EM
  replace DW := below_then DW EM
  clear EM
  go_wp2_with fail
  refine hKc.out _ _ (⟨Xc, XV⟩) (fun hHeld => ?_)
  clear hKc Kc
  refine wpAnyH_take (i := 10) (v := (.bool false)) rfl (by kernel_rfl) (by kernel_rfl) (by kernel_rfl) (fun _ _ _ h => h) (Or.inl ⟨by rfl, ?_⟩) (by assumption) ?_
  · intro w' hSw
    go_simp
  simp only [List.getElem_toArray, List.getElem_cons_succ, List.getElem_cons_zero, Act.put, List.setIfInBounds_toArray, List.set_cons_zero, List.set_cons_succ]
  refine wpAnyH_take (i := 11) (v := (.bool false)) rfl (by kernel_rfl) (by kernel_rfl) (by kernel_rfl) (fun _ _ _ h => h) (Or.inl ⟨by rfl, ?_⟩) (by assumption) ?_
  · intro w' hSw
    go_simp
  simp only [List.getElem_toArray, List.getElem_cons_succ, List.getElem_cons_zero, Act.put, List.setIfInBounds_toArray, List.set_cons_zero, List.set_cons_succ]
  refine wpAnyH_take (i := 12) (v := (.bool false)) rfl (by kernel_rfl) (by kernel_rfl) (by kernel_rfl) (fun _ _ _ h => h) (Or.inl ⟨by rfl, ?_⟩) (by assumption) ?_
  · intro w' hSw
    go_simp
  simp only [List.getElem_toArray, List.getElem_cons_succ, List.getElem_cons_zero, Act.put, List.setIfInBounds_toArray, List.set_cons_zero, List.set_cons_succ]
  refine wpAnyH_take (i := 13) (v := (.int .i64 0)) rfl (by kernel_rfl) (by kernel_rfl) (by kernel_rfl) (fun _ _ _ h => h) (Or.inl ⟨by rfl, ?_⟩) (by assumption) ?_
  · intro w' hSw
    go_simp
  simp only [List.getElem_toArray, List.getElem_cons_succ, List.getElem_cons_zero, Act.put, List.setIfInBounds_toArray, List.set_cons_zero, List.set_cons_succ]
  refine wpAnyH_take (i := 14) (v := (.int .i64 0)) rfl (by kernel_rfl) (by kernel_rfl) (by kernel_rfl) (fun _ _ _ h => h) (Or.inl ⟨by rfl, ?_⟩) (by assumption) ?_
  · intro w' hSw
    go_simp
  simp only [List.getElem_toArray, List.getElem_cons_succ, List.getElem_cons_zero, Act.put, List.setIfInBounds_toArray, List.set_cons_zero, List.set_cons_succ]
  refine wpAnyH_take (i := 15) (v := (.bool false)) rfl (by kernel_rfl) (by kernel_rfl) (by kernel_rfl) (fun _ _ _ h => h) (Or.inl ⟨by rfl, ?_⟩) (by assumption) ?_
  · intro w' hSw
    go_simp
  simp only [List.getElem_toArray, List.getElem_cons_succ, List.getElem_cons_zero, Act.put, List.setIfInBounds_toArray, List.set_cons_zero, List.set_cons_succ]
  refine wpAnyH_take (i := 16) (v := (.bool false)) rfl (by kernel_rfl) (by kernel_rfl) (by kernel_rfl) (fun _ _ _ h => h) (Or.inl ⟨by rfl, ?_⟩) (by assumption) ?_
  · intro w' hSw
    go_simp
  simp only [List.getElem_toArray, List.getElem_cons_succ, List.getElem_cons_zero, Act.put, List.setIfInBounds_toArray, List.set_cons_zero, List.set_cons_succ]
  refine wpAnyH_done (by kernel_rfl) ?_ _
  clear hHeld CW SF RF9 O9
  obtain ⟨G3, hxL⟩ := own_wt O3 HL3.out HCZ.out
  have RF8 := RFD _ G3 hxL TA
  have a0 : wh.cell? ⟨w.heap.size, 0, none⟩ = some (.int .i64 (V : Int)) := Xc.cell 0 rfl
  have a1 : wh.cell? ⟨w.heap.size, 1, none⟩ = some (.int .i64 (D : Int)) := Xc.cell 1 rfl
  have a2 : wh.cell? ⟨w.heap.size, 2, none⟩ = some (.int .i64 (Hd : Int)) := Xc.cell 2 rfl
  have a3 : wh.cell? ⟨w.heap.size, 3, none⟩ = some (.int .i64 (H : Int)) := Xc.cell 3 rfl
  have a4 : wh.cell? ⟨w.heap.size, 4, none⟩ = some (.int .i64 (L : Int)) := Xc.cell 4 rfl
  clear G3 hxL RFD
  go_wp2_with (first | (refine wpList_load_row rfl 38 _ rfl g4 rfl 38 W3.cells (0, 0) _ X3 Tryz.underlying38 rfl Tryz.infoRW ?_) | (refine wpList_load_row rfl 41 _ rfl g5 rfl 41 #[t.v, k.v, v.v] (0, 0) _ XV Tryz.underlying41 rfl Tryz.infoRV ?_))
  refine RF8.mono ?_
  rintro e wi ⟨t2, k2, v2, g2, cap, rfl, T2, F2, EM⟩
  replace X11 := X11.below EM
  replace NV := NV.below EM
  replace FX := FX.below EM
  replace DW := below_then DW EM
  clear EM RF8 Xc X3 XV TA O3 a0 a1 a2 a3 a4
  obtain ⟨ZE, X15, BX⟩ := var3e wi 41 #[.slice none 0 0, .slice none 0 0, .slice none 0 0] #[t2.v, k2.v, v2.v]
  generalize hz1 : wi.alloc (.cells #[.slice none 0 0, .slice none 0 0, .slice none 0 0] 41) = wz at *
  generalize hz2 : wz.setRow wi.heap.size #[t2.v, k2.v, v2.v] = wj at *
  replace X11 := X11.below BX
  replace NV := NV.below BX
  replace FX := FX.below BX
  replace T2 := T2.below BX
  replace F2 := F2.below BX
  replace DW := below_then DW BX
  clear BX
  go_upto_region 9 with (refine wpList_store_row rfl 41 _ _ rfl wi.heap.size #[t2.v, k2.v, v2.v] rfl rfl 41 _ ZE Tryz.infoRV rfl (all3c rfl rfl rfl) ?_; rw [hz2])
  clear hz1 hz2 ZE
  have BD : Below wj.heap.size wj wj.drew := (Below.refl _ wj).drew
  replace X11 := X11.below BD
  replace X15 := X15.below BD
  replace NV := NV.below BD
  replace FX := FX.below BD
  replace T2 := T2.below BD
  replace F2 := F2.below BD
  replace DW := below_then DW BD
  clear BD
  refine wp_region_held_drew (S := fun w' => Blk w' g11 35 (VwV.cells vv2) ∧ Blk w' wi.heap.size 41 #[t2.v, k2.v, v2.v]) (by kernel_rfl) (⟨X11, X15⟩) (fun hHeld => ?_)
  generalize hA : wj.drew = wA9 at *
  clear hA
  refine wpAnyH_take (i := 0) (v := .agg (VwV.cells vv2)) rfl (by kernel_rfl) (by kernel_rfl) (by kernel_rfl) (fun _ _ _ h => h) (yields_rowF (by rfl) 35 _ rfl g11 rfl 35 (VwV.cells vv2) _ (fun w' hS => hS.1) Tryz.underlying35 rfl Tryz.infoV) (by assumption) ?_
  simp only [List.getElem_toArray, List.getElem_cons_zero, Act.put, List.setIfInBounds_toArray, List.set_cons_zero, List.set_cons_succ]
  refine wpAnyH_take (i := 2) (v := .agg #[t2.v, k2.v, v2.v]) rfl (by kernel_rfl) (by kernel_rfl) (by kernel_rfl) (fun _ _ _ h => h) (yields_rowF (by rfl) 41 _ rfl wi.heap.size rfl 41 #[t2.v, k2.v, v2.v] _ (fun w' hS => hS.2) Tryz.underlying41 rfl Tryz.infoRV) (by assumption) ?_
  simp only [List.getElem_toArray, List.getElem_cons_succ, List.getElem_cons_zero, Act.put, List.setIfInBounds_toArray, List.set_cons_zero, List.set_cons_succ]
  have TR := fun wv (h : VwR wv vv2 FV) => told9R_any vv2 FV wv h
  rw [HCF.out] at TR
  refine wpAnyH_ready (rs := [1]) (by kernel_rfl) (by simp) ?_
  refine AllReadyH.cons rfl (fun Kc hKc => ?_) AllReadyH.nil
  simp only [List.getElem_toArray, List.getElem_cons_succ, List.getElem_cons_zero]
  rw [if_pos (by rfl)]
  go_wp2_with fail
  refine (TR _ NV.raw).mono ?_
  rintro e wk ⟨t7, k7, v7, rfl, T7, EM⟩
  replace X11 := X11.below EM
  replace X15 := X15.below EM
  replace NV := NV.below EM
  replace FX := FX.below EM
  replace T2 := T2.below EM
  replace F2 := F2.below EM
  replace DW := below_then DW EM
  clear EM
  go_wp2_with fail
  refine hKc.out _ _ (⟨X11, X15⟩) (fun hHeld => ?_)
  clear hKc Kc
  refine wpAnyH_ready (rs := [3]) (by kernel_rfl) (by simp) ?_
  refine AllReadyH.cons rfl (fun Kc hKc => ?_) AllReadyH.nil
  simp only [List.getElem_toArray, List.getElem_cons_succ, List.getElem_cons_zero]
  rw [if_pos (by rfl)]
  go_wp2_with fail
  refine (viewSame_eq t7 k7 v7 t2 k2 v2 FV _ T7 T2).mono ?_
  rintro e wl ⟨rfl, EM⟩
  replace X11 := X11.below EM
  replace X15 := X15.below EM
  replace NV := NV.below EM
  replace FX := FX.below EM
  replace T2 := T2.below EM
  replace F2 := F2.below EM
  replace DW := below_then DW EM
  clear T7
  clear EM
  go_wp2_with fail
  refine hKc.out _ _ (⟨X11, X15⟩) (fun hHeld => ?_)
  clear hKc Kc
  refine wpAnyH_take (i := 4) (v := (.bool true)) rfl (by kernel_rfl) (by kernel_rfl) (by kernel_rfl) (fun _ _ _ h => h) (Or.inl ⟨by rfl, ?_⟩) (by assumption) ?_
  · intro w' hSw
    go_simp
  simp only [List.getElem_toArray, List.getElem_cons_succ, List.getElem_cons_zero, Act.put, List.setIfInBounds_toArray, List.set_cons_zero, List.set_cons_succ]
  refine wpAnyH_take (i := 5) (v := (.slice (some ⟨gl, 0, none⟩) V V)) rfl (by kernel_rfl) (by kernel_rfl) (by kernel_rfl) (fun _ _ _ h => h) (Or.inl ⟨by rfl, ?_⟩) (by assumption) ?_
  · intro w' hSw
    go_simp
  simp only [List.getElem_toArray, List.getElem_cons_succ, List.getElem_cons_zero, Act.put, List.setIfInBounds_toArray, List.set_cons_zero, List.set_cons_succ]
  refine wpAnyH_take (i := 6) (v := (.slice (some ⟨g2, 0, none⟩) V cap)) rfl (by kernel_rfl) (by kernel_rfl) (by kernel_rfl) (fun _ _ _ h => h) (Or.inl ⟨by rfl, ?_⟩) (by assumption) ?_
  · intro w' hSw
    go_simp
  simp only [List.getElem_toArray, List.getElem_cons_succ, List.getElem_cons_zero, Act.put, List.setIfInBounds_toArray, List.set_cons_zero, List.set_cons_succ]
  refine wpAnyH_ready (rs := [7]) (by kernel_rfl) (by simp) ?_
  refine AllReadyH.cons rfl (fun Kc hKc => ?_) AllReadyH.nil
  simp only [List.getElem_toArray, List.getElem_cons_succ, List.getElem_cons_zero]
  rw [if_pos (by rfl)]
  go_wp2_with fail
  refine (same_any _ _ _ _ _ FL _ FX.rowAt F2.rowAt).mono ?_
  rintro e wm ⟨rfl, m1, rfl⟩
  have EM : Below wl.heap.size wl (wl.drewN m1) := below_drewN (Below.refl _ wl) m1
  replace X11 := X11.below EM
  replace X15 := X15.below EM
  replace DW := below_then DW EM
  clear EM FX F2 NV T2
  generalize wl.drewN m1 = wn at *
  go_wp2_with fail
  refine hKc.out _ _ (⟨X11, X15⟩) (fun hHeld => ?_)
  clear hKc Kc
  refine wpAnyH_take (i := 8) (v := (.bool true)) rfl (by kernel_rfl) (by kernel_rfl) (by kernel_rfl) (fun _ _ _ h => h) (Or.inl ⟨by rfl, ?_⟩) (by assumption) ?_
  · intro w' hSw
    go_simp
  simp only [List.getElem_toArray, List.getElem_cons_succ, List.getElem_cons_zero, Act.put, List.setIfInBounds_toArray, List.set_cons_zero, List.set_cons_succ]
  refine wpAnyH_take (i := 9) (v := (.bool true)) rfl (by kernel_rfl) (by kernel_rfl) (by kernel_rfl) (fun _ _ _ h => h) (Or.inl ⟨by rfl, ?_⟩) (by assumption) ?_
  · intro w' hSw
    go_simp
  simp only [List.getElem_toArray, List.getElem_cons_succ, List.getElem_cons_zero, Act.put, List.setIfInBounds_toArray, List.set_cons_zero, List.set_cons_succ]
  refine wpAnyH_done (by kernel_rfl) ?_ _
  clear hHeld
  go_wp2_with fail
  go_ret
  exact ⟨rfl, DW⟩
end Go.Proofs.YtmdjlaileakbeaaGreatDoor

/- The given statement on StepFeeds: at every input the law returns true and its arguments read as before; the listed table lies as the program's text lays it (the card ties it). -/
namespace Go.Proofs.YtmdjlaileakbeaaGreatDoor.stepFeeds
open Go.ChangeShapes Go.WideShapes Go.ChangeAt Go.WideMaps Go.WideElems Go.RowKit
set_option linter.unusedVariables false
abbrev lst : List (String × DataW Unit) := Rows.stepFeedsRow.laid
theorem door_met (os : Os) (args : Array Value) : laidMetH Tryz.prog lst ((World.doorLaid Tryz.prog 14 os).forCall (fun _ _ => 0) ⟨#[], args, []⟩).memory :=
  laidMetH_of_parts3 (fuel := 8) (laidMet_of_run' 8 (by kernel_rfl) (by kernel_rfl)) (by kernel_rfl) (by kernel_rfl)
set_option maxRecDepth 100000 in
theorem lifted (os : Os) (started : os.Started) (H : Type) (enc : TypeId × Value → H) :
    ReturnsInHanded {} Tryz.checked os 3 .any (fun w args => (Rows.stepFeedsSpec.pre enc Tryz.prog Tryz.f3 [] false w args ∧ laidMetH Tryz.prog lst w) ∧ sizedMet enc Tryz.prog Tryz.f3 (OpenSpec.ofChange Rows.stepFeedsSpec) false w args)
      (Rows.stepFeedsSpec.post enc Tryz.prog Tryz.f3 false true false false) := by
  refine returnsInHanded_of_change_and (C := Tryz.checked) (X := fun w _ => laidMetH Tryz.prog lst w) (fun _ _ _ hh h => h.of_heap hh) Tryz.own started (by kernel_rfl) Tryz.func3
    (ChangeSpec.witness_shaped (enc := enc) (C := Tryz.checked) (os := os) (X := fun w _ => laidMetH Tryz.prog lst w) false (World.doorLaid Tryz.prog 14 os) #[.agg #[.int .i64 0, .int .i64 0, .int .i64 0, .int .i64 0, .int .i64 0], .agg #[.int .i64 0, .int .i64 0, .slice none 0 0, .slice none 0 0, .slice none 0 0, .int .i64 0, .int .i64 0, .slice none 0 0], .agg #[.slice none 0 0, .slice none 0 0, .slice none 0 0], .int .i64 0] 8 rfl (World.shaped_of_RefB (by kernel_rfl) (by kernel_rfl)) (by kernel_rfl) (by kernel_rfl) (by kernel_rfl) (door_met os _)) ?_
  intro W base args ds gs before hval0 hW _ _ hL _
  have hval : ∀ (j : Nat) t v, Tryz.f3.params[j]? = some t → args[j]? = some v → Value.okWide Tryz.prog W .any base t v := hval0
  have hW' := hW
  obtain ⟨p, q, hA0, hV, rfl, _, _⟩ := hW
  have hA : DataW.TrodAll enc Tryz.prog W 0 (fun _ => true) true Tryz.f3.params.toList args.toList ds p := hA0
  rw [Tryz.params3] at hA hval
  obtain ⟨v0, vs0, d0, ds0, p0, q0, hargs, rfl, rfl, h0, r0⟩ := trodAll_cons hA
  obtain ⟨v1, vs1, d1, ds1, p1, q1, rfl, rfl, rfl, h1, r1⟩ := trodAll_cons r0
  obtain ⟨v2, vs2, d2, ds2, p2, q2, rfl, rfl, rfl, h2, r2⟩ := trodAll_cons r1
  obtain ⟨v3, vs3, d3, ds3, p3, q3, rfl, rfl, rfl, h3, r3⟩ := trodAll_cons r2
  obtain ⟨rfl, rfl, rfl⟩ := trodAll_nil r3
  obtain rfl : args = #[v0, v1, v2, v3] := by cases args; simp_all
  obtain ⟨rfl, rfl⟩ := trodVars_none hV
  have k0 := h0
  obtain ⟨C0, rfl, g0⟩ := viewCfg (hval 0 _ v0 rfl rfl) h0
  have k1 := h1
  obtain ⟨W1, X1, rfl, g1⟩ := viewWt (hval 1 _ v1 rfl rfl) h1
  have k2 := h2
  obtain ⟨vv2, X2, rfl, g2⟩ := viewVw (hval 2 _ v2 rfl rfl) h2
  have k3 := h3
  obtain ⟨a3, rfl, rfl, rfl, w3⟩ := open_int Tryz.underlying3 (hval 3 3 v3 rfl rfl) h3
  have b3 := bounds_i64 w3
  clear hA0 hval0
  simp only [List.append_nil] at hW'
  have hlt : ∀ x ∈ p0 ++ p1 ++ p2, x.block < W.heap.size := fun x hx => by
    have hx2 := hx
    exact hW'.lt x (by grind)
  refine (stepFeeds_walk C0 W1 X1 vv2 X2 a3 W g0 g1 g2 b3 (tab_of_laid hL)).mono fun e W' ⟨he, hb⟩ => ?_
  subst he
  exact ⟨_, rfl, _, _, _, [], _, [], hW', trodAll_mk1 (shut_bool Tryz.underlying4 true), trodAll_cons_mk (Below.trod Tryz.laidOut (by kernel_rfl) (of_decide_eq_true (by kernel_rfl)) k0 hb (fun x hx => hlt x (by simp [hx]))) (trodAll_cons_mk (Below.trod Tryz.laidOut (by kernel_rfl) (of_decide_eq_true (by kernel_rfl)) k1 hb (fun x hx => hlt x (by simp [hx]))) (trodAll_cons_mk (Below.trod Tryz.laidOut (by kernel_rfl) (of_decide_eq_true (by kernel_rfl)) k2 hb (fun x hx => hlt x (by simp [hx]))) (trodAll_cons_mk (shut_int Tryz.underlying3 w3) trodAll_mk0))), rfl, hb.frame _, fun h => by cases h⟩
theorem row_holds : Rows.StepFeedsSaid :=
  OpenClaim.holds_of_wide 3 Tryz.f3 rfl rfl rfl rfl rfl rfl rfl ⟨rfl, rfl, rfl, rfl, rfl⟩ rfl rfl rfl rfl rfl (by kernel_rfl) Tryz.func3 (by kernel_rfl)
    (of_decide_eq_true (by kernel_rfl)) (by unfold Func.isWrapper; first | (rw [if_pos (by decide +kernel)]; kernel_rfl) | (rw [if_neg (by decide +kernel)]; exact ⟨rfl, rfl⟩))
    (fun os started H enc _ => lifted os started H enc)
/-- The given statement. -/
theorem card_holds : Rows.StepFeedsCardSaid :=
  Claim7.holds_tied_plain_at .later [] [.data] true (true, "cb7d9f54cb390a717aedb45d0daca71b2b9ba90291eb338af08ebfb81f79333a") false
    row_holds (fun _ h => by cases h) (by kernel_rfl) (fun _ h => by cases h) stepFeeds_row_tie rfl ⟨rfl, rfl⟩ (by kernel_rfl) rfl
    (fun f fn hf hfn => by
      obtain rfl : f = 3 := Option.some.inj ((show Tryz.prog.funcNamed Rows.stepFeedsRow.func = some 3 by kernel_rfl).symm.trans hf) |>.symm
      obtain rfl : fn = Tryz.f3 := (Option.some.inj (Tryz.func3.symm.trans hfn)).symm
      exact ⟨by kernel_rfl, fun j t ht => by
        rw [Tryz.params3] at ht
        have hm : t ∈ [23, 29, 35, 3] := by simpa using Array.mem_of_getElem? ht
        have hall : ([23, 29, 35, 3].all fun u => !Tryz.prog.wantsStandIn u) = true := by kernel_rfl
        exact (show Tryz.prog.wantsStandIn t = false by simpa using List.all_eq_true.1 hall t hm)⟩)
    (by kernel_rfl)
end Go.Proofs.YtmdjlaileakbeaaGreatDoor.stepFeeds
namespace Go.Proofs.YtmdjlaileakbeaaGreatDoor
theorem stepFeeds_holds : Rows.StepFeedsCardSaid := stepFeeds.card_holds
#print axioms stepFeeds_holds
end Go.Proofs.YtmdjlaileakbeaaGreatDoor
