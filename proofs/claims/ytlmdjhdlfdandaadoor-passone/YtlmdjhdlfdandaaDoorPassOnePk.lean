/- The given statement on PassOne: at every input the law returns true and its arguments read as before; the listed table lies as the program's text lays it (the card ties it). -/
import Derived.Test.YtlmdjhdlfdandaaDoorPk9
import Derived.Test.YtlmdjhdlfdandaaDoorPk10
import Derived.Test.YtlmdjhdlfdandaaDoorPk5
import Derived.Deep.CutRange
import Derived.Test.YtlmdjhdlfdandaaDoorRows
import Derived.Test.YtlmdjhdlfdandaaDoorCards
import Derived.Test.YtlmdjhdlfdandaaDoorTie
import Derived.Test.YtlmdjhdlfdandaaDoorPk3
import Derived.ProofKit
import Derived.Carry
import Derived.LaidMore
import Derived.OpenShut
import Derived.Stop.Joined
import Derived.SevenTiedAt
/- Place by place the same comes out as at once: the walk. -/
namespace Go.Proofs.YtlmdjhdlfdandaaDoor
open Go.ChangeShapes Go.WideShapes Go.ChangeAt Go.RowKit
/-- What stands behind the pass over the whole prompt. -/
structure PO (w wc : World) (V D Hd H L : Nat) (WW : Wt) (bs : List Bk) (M : Mdl) (ws : Array Value) (gW gC gK gV gx b1 l1 kq : Nat) (P : List Int) : Prop where
  x0 : Blk wc w.heap.size 23 #[.int .i64 (V : Int), .int .i64 (D : Int), .int .i64 (Hd : Int), .int .i64 (H : Int), .int .i64 (L : Int)]
  x1 : Blk wc gW 32 ws
  xc : Blk wc gC 41 #[.slice (some ⟨gK, 0, none⟩) L L, .slice (some ⟨gV, 0, none⟩) L L]
  gd : Good wc V D Hd H L WW bs M
  ap : IArg wc (some ⟨b1, 0, none⟩) l1 kq P
  ck : CubeAt wc (some ⟨gK, 0, none⟩) L (fullK M D H Hd L P)
  cv : CubeAt wc (some ⟨gV, 0, none⟩) L (fullV M D H Hd L P)
  lk : RowAt wc (some ⟨gx, 0, none⟩) V (fullX M V D H Hd L P)
  kp : Below w.heap.size w wc
theorem PO.below {w wc wd : World} {V D Hd H L : Nat} {WW : Wt} {bs : List Bk} {M : Mdl} {ws : Array Value} {gW gC gK gV gx b1 l1 kq : Nat} {P : List Int} (h : PO w wc V D Hd H L WW bs M ws gW gC gK gV gx b1 l1 kq P) (hb : Below wc.heap.size wc wd) : PO w wd V D Hd H L WW bs M ws gW gC gK gV gx b1 l1 kq P := ⟨h.x0.below hb, h.x1.below hb, h.xc.below hb, h.gd.below hb, h.ap.below hb, h.ck.below hb, h.cv.below hb, h.lk.below hb, below_then h.kp hb⟩
set_option maxRecDepth 100000 in
set_option maxHeartbeats 32000000 in
theorem passOne_walk (C : Cfg) (sd : Int) (a1 : Option Addr) (n1 c1 : Nat) (Z1 : List Int) (w : World) (hC : C.Ok) (bs : 0 ≤ sd ∧ sd ≤ 18446744073709551615) (h1 : IArg w a1 n1 c1 Z1) (hT : Tab w) :
   Calls Tryd.prog 3 #[C.val, .int .u64 sd, .slice a1 n1 c1] w fun e w' => e = .returned (.bool true) ∧ Below w.heap.size w w' := by
  obtain ⟨seed, rfl⟩ : ∃ n : Nat, sd = n := ⟨sd.toNat, by omega⟩
  have hsd : seed < 18446744073709551616 := by omega
  clear bs
  have HT : Hid (∀ wv, Below w.heap.size w wv → Tab wv) := fun wv hb => hT.next hb
  have CW := fun (wv : World) (hb : Below w.heap.size w wv) => raw8_any wv (HT.out wv hb)
  have CF1 := fun (wv : World) (hb : Below w.heap.size w wv) => few8_any a1 n1 c1 Z1 8 wv (h1.below hb) (by omega)
  have s1 : ∀ k, -9223372036854775808 ≤ el (Z1.take 8) k ∧ el (Z1.take 8) k ≤ 9223372036854775807 := fun k => by
    rcases Nat.lt_or_ge k 8 with h | h
    · rw [el_take h]; exact h1.row.small k
    · rw [el_over (by rw [List.length_take]; omega)]; omega
  have hP8 : (Z1.take 8).length ≤ 8 := by rw [List.length_take]; omega
  have M0 := fun wv => make_gen C hC seed hsd wv
  have CS := fun wv => small8_any C.V C.D C.Hd C.H C.L wv
  have hu : ∀ C : Cfg, cfgC C.V C.D C.Hd C.H C.L = #[.int .i64 C.V, .int .i64 C.D, .int .i64 C.Hd, .int .i64 C.H, .int .i64 C.L] := fun _ => rfl
  unfold Cfg.val at *
  rw [hu] at M0 CS ⊢
  clear hT h1 hC
  have X0 := blk_new w 23 #[.int .i64 C.V, .int .i64 C.D, .int .i64 C.Hd, .int .i64 C.H, .int .i64 C.L]
  have B0 : Below w.heap.size w (w.alloc (.cells #[.int .i64 C.V, .int .i64 C.D, .int .i64 C.Hd, .int .i64 C.H, .int .i64 C.L] 23)) := (Below.refl _ _).alloc (Nat.le_refl _) _
  have z0 : w.heap.size < (w.alloc (.cells #[.int .i64 C.V, .int .i64 C.D, .int .i64 C.Hd, .int .i64 C.H, .int .i64 C.L] 23)).heap.size := by simp
  generalize hw0 : w.alloc (.cells #[.int .i64 C.V, .int .i64 C.D, .int .i64 C.Hd, .int .i64 C.H, .int .i64 C.L] 23) = w0 at *
  go_enter Tryd.func3, Tryd.ntmps3
  go_wp2_with fail
  refine (CF1 _ B0).mono ?_
  rintro e w1 ⟨b1, kq, rfl, O1, B1⟩
  generalize Z1.take 8 = P at *
  obtain ⟨l1, hl1⟩ : ∃ l1, P.length = l1 := ⟨_, rfl⟩
  have HL1 : Hid (P.length = l1) := hl1
  rw [hl1] at O1 hP8 ⊢
  clear hl1
  have D1 := below_then B0 B1
  replace X0 := X0.below B1
  clear hw0 CF1 B0 B1
  obtain ⟨x1, y1, e1, I1⟩ := IOwn.arg O1 s1
  simp only [Value.slice.injEq, true_and] at e1
  obtain ⟨rfl, rfl⟩ := e1
  have gw0 : w.heap.size < w0.heap.size := z0
  clear O1 z0
  have a0 : w1.cell? ⟨w.heap.size, 0, none⟩ = some (.int .i64 C.V) := X0.cell 0 rfl
  have a1 : w1.cell? ⟨w.heap.size, 1, none⟩ = some (.int .i64 C.D) := X0.cell 1 rfl
  have a2 : w1.cell? ⟨w.heap.size, 2, none⟩ = some (.int .i64 C.Hd) := X0.cell 2 rfl
  have a3 : w1.cell? ⟨w.heap.size, 3, none⟩ = some (.int .i64 C.H) := X0.cell 3 rfl
  have a4 : w1.cell? ⟨w.heap.size, 4, none⟩ = some (.int .i64 C.L) := X0.cell 4 rfl
  go_wp2_with fail
  refine (M0 w1).mono ?_
  rintro e w2 ⟨ws, q, rfl, MM, B2⟩
  replace X0 := X0.below B2
  replace I1 := I1.below B2
  have D2 := below_then D1 B2
  clear a0 a1 a2 a3 a4 B2 D1
  have siz := MM.size
  have one := MM.one
  have XZ := blk_new w2 32 #[.int .i64 0, .int .i64 0, .slice none 0 0, .slice none 0 0, .slice none 0 0, .int .i64 0, .int .i64 0, .slice none 0 0]
  have BZ : Below w2.heap.size w2 (w2.alloc (.cells #[.int .i64 0, .int .i64 0, .slice none 0 0, .slice none 0 0, .slice none 0 0, .int .i64 0, .int .i64 0, .slice none 0 0] 32)) := (Below.refl _ _).alloc (Nat.le_refl _) _
  generalize hwz : w2.alloc (.cells #[.int .i64 0, .int .i64 0, .slice none 0 0, .slice none 0 0, .slice none 0 0, .int .i64 0, .int .i64 0, .slice none 0 0] 32) = wz at *
  have X1 := XZ.row ws
  have BR := below_setRow BZ (Nat.le_refl _) ws
  generalize hwy : wz.setRow w2.heap.size ws = wy at *
  replace X0 := X0.below BR
  replace I1 := I1.below BR
  replace MM := MM.below BR
  have D3 := below_then D2 BR
  have a0 : wy.cell? ⟨w.heap.size, 0, none⟩ = some (.int .i64 C.V) := X0.cell 0 rfl
  have a1 : wy.cell? ⟨w.heap.size, 1, none⟩ = some (.int .i64 C.D) := X0.cell 1 rfl
  have a2 : wy.cell? ⟨w.heap.size, 2, none⟩ = some (.int .i64 C.Hd) := X0.cell 2 rfl
  have a3 : wy.cell? ⟨w.heap.size, 3, none⟩ = some (.int .i64 C.H) := X0.cell 3 rfl
  have a4 : wy.cell? ⟨w.heap.size, 4, none⟩ = some (.int .i64 C.L) := X0.cell 4 rfl
  by_cases hq : q = 0
  · subst hq
    obtain ⟨V, D, Hd, H, L, ge, gB, gl, go, e1, e2, e3, e4, e5, hcs, MW⟩ := MM.ok rfl
    have hsh : shapeN V D Hd H L = 0 := by rw [← e1, ← e2, ← e3, ← e4, ← e5]; exact MM.err.symm
    obtain ⟨bs, GD⟩ := made_good (Hd := Hd) MW hsh
    have hws : (mkW V D L ge gB gl go).cells = ws := by rw [hcs]; rfl
    obtain ⟨VV, DD, HHd, HH, LL⟩ := C
    simp only at e1 e2 e3 e4 e5
    subst e1 e2 e3 e4 e5
    have hk := shape_ok hsh
    have GD2 : Good wy V D Hd H L (mkW V D L ge gB gl go) bs (mdlS seed V D H L) := GD
    generalize mdlS seed V D H L = M at *
    generalize hWW : mkW V D L ge gB gl go = WW at *
    clear MM MW hcs GD hWW
    have FO := fun (ao : Option Addr) (n ca : Nat) (A : List Int) (wv : World) (g2 : Good wv V D Hd H L WW bs M) (g5 : IArg wv ao n ca A) (g1 : Tab wv) (g6 : promptN V A = 0) => full_ok V D Hd H L WW bs M ao n ca A wv g2 g5 g1 g6
    rw [hws] at FO
    unfold cfgC at FO
    have wb : ws[3]? = some (.slice WW.b.ao L WW.b.c) := by
      have h9 : WW.b.n = L := by have h9 := GD2.wt.b.len; have h8 := GD2.len; omega
      rw [← hws, ← h9]; rfl
    have HWS : Hid (WW.cells = ws) := hws
    clear hws
    go_wp2_with (refine wpList_store_row rfl 32 _ _ rfl w2.heap.size ws rfl rfl 32 _ XZ (by rw [siz]; exact Tryd.infoW) (by rw [siz]; rfl) one ?_; rw [hwy])
    refine (CS _).mono ?_
    rintro e w4 ⟨rfl, B4⟩
    replace X0 := X0.below B4
    replace X1 := X1.below B4
    have AP := I1.below B4
    have G4 := GD2.below B4
    have D4 := below_then D3 B4
    clear a0 a1 a2 a3 a4 hwz hwy XZ BZ BR CS D2 D3 B4 I1 GD2
    generalize smallN (D : Int) (H : Int) (L : Int) = sq at *
    have a0 : w4.cell? ⟨w.heap.size, 0, none⟩ = some (.int .i64 (V : Int)) := X0.cell 0 rfl
    have a1 : w4.cell? ⟨w.heap.size, 1, none⟩ = some (.int .i64 (D : Int)) := X0.cell 1 rfl
    have a2 : w4.cell? ⟨w.heap.size, 2, none⟩ = some (.int .i64 (Hd : Int)) := X0.cell 2 rfl
    have a3 : w4.cell? ⟨w.heap.size, 3, none⟩ = some (.int .i64 (H : Int)) := X0.cell 3 rfl
    have a4 : w4.cell? ⟨w.heap.size, 4, none⟩ = some (.int .i64 (L : Int)) := X0.cell 4 rfl
    by_cases hs0 : sq = 0
    · subst hs0
      go_wp2_with fail
      refine (CW _ D4).mono ?_
      rintro e wq ⟨rfl, Bq⟩
      go_wp2
      go_ret
      exact ⟨rfl, below_then D4 Bq⟩
    · have hs0' : (sq == 0) = false := by simpa using hs0
      have CP := prompt_any V D Hd H L (some ⟨b1, 0, none⟩) l1 kq P w4 AP
      unfold cfgC at CP
      by_cases hqa : promptN V P = 0
      rotate_left
      · generalize promptN V P = pq at *
        have hqb : (pq == 0) = false := by simpa using hqa
        go_wp2_with fail
        refine CP.mono ?_
        rintro e w5 ⟨rfl, B5⟩
        have D5 := below_then D4 B5
        go_wp2_with fail
        refine (CW _ D5).mono ?_
        rintro e wq ⟨rfl, Bq⟩
        go_wp2
        go_ret
        exact ⟨rfl, below_then D5 Bq⟩
      rw [hqa] at CP
      go_wp2_with fail
      refine CP.mono ?_
      rintro e w5 ⟨rfl, B5⟩
      have D5 := below_then D4 B5
      replace X0 := X0.below B5
      replace X1 := X1.below B5
      replace AP := AP.below B5
      replace G4 := G4.below B5
      clear a0 a1 a2 a3 a4 D4 B5 CP
      have a0 : w5.cell? ⟨w.heap.size, 0, none⟩ = some (.int .i64 (V : Int)) := X0.cell 0 rfl
      have a1 : w5.cell? ⟨w.heap.size, 1, none⟩ = some (.int .i64 (D : Int)) := X0.cell 1 rfl
      have a2 : w5.cell? ⟨w.heap.size, 2, none⟩ = some (.int .i64 (Hd : Int)) := X0.cell 2 rfl
      have a3 : w5.cell? ⟨w.heap.size, 3, none⟩ = some (.int .i64 (H : Int)) := X0.cell 3 rfl
      have a4 : w5.cell? ⟨w.heap.size, 4, none⟩ = some (.int .i64 (L : Int)) := X0.cell 4 rfl
      obtain ⟨pp1, pp2, pp3⟩ := prompt_ok hqa
      have hL1 := HL1.out
      have CFu := FO (some ⟨b1, 0, none⟩) l1 kq P w5 G4 AP (HT.out _ D5) hqa
      clear FO
      go_wp2_with (refine wpList_load_row rfl 32 _ rfl w2.heap.size rfl 32 ws (0, 0) _ X1 Tryd.underlying32 rfl (by rw [siz]; exact Tryd.infoW) ?_)
      refine CFu.mono ?_
      rintro e w6 ⟨gx, gK, gV, rfl, FX, NK, NV, B6⟩
      have D6 := below_then D5 B6
      replace X0 := X0.below B6
      replace X1 := X1.below B6
      replace AP := AP.below B6
      replace G4 := G4.below B6
      clear a0 a1 a2 a3 a4 CFu D5
      obtain ⟨XE, XF, BF, _⟩ := var3 w6 41 #[.slice none 0 0, .slice none 0 0] #[.slice (some ⟨gK, 0, none⟩) L L, .slice (some ⟨gV, 0, none⟩) L L]
      generalize hwe : w6.alloc (.cells #[.slice none 0 0, .slice none 0 0] 41) = we at *
      generalize hwf : we.setRow w6.heap.size #[.slice (some ⟨gK, 0, none⟩) L L, .slice (some ⟨gV, 0, none⟩) L L] = wf at *
      replace X0 := X0.below BF
      replace X1 := X1.below BF
      replace AP := AP.below BF
      replace G4 := G4.below BF
      replace NK := NK.below BF
      replace NV := NV.below BF
      replace FX := FX.below BF
      replace D6 := below_then D6 BF
      have SN : PO w wf V D Hd H L WW bs M ws w2.heap.size w6.heap.size gK gV gx b1 l1 kq P := ⟨X0, X1, XF, G4, AP, NK.now, NV.now, FX.rowAt, D6⟩
      have c3 : wf.cell? ⟨w2.heap.size, 3, none⟩ = some (.slice WW.b.ao L WW.b.c) := X1.cell 3 wb
      have c4 : wf.cell? ⟨w.heap.size, 4, none⟩ = some (.int .i64 (L : Int)) := X0.cell 4 rfl
      clear X0 X1 XF G4 AP NK NV FX D6 BF B6
      obtain ⟨q1, q2, q3, q4, q5, q6, q7, q8, q9, q10⟩ := hk
      have hmod := shape_mod hsh
      go_upto_region 8 with (refine wpList_store_row rfl 41 _ _ rfl w6.heap.size _ rfl rfl 41 _ XE Tryd.infoCa rfl (by simp [Value.oneCell']) ?_; rw [hwf])
      clear hwe hwf XE c3 c4
      go_cut [12, 13] from 61 (fun s12 s13 wc => ∃ wk gA gB, s12 = .slice (some ⟨gA, 0, none⟩) L L ∧ s13 = .slice (some ⟨gB, 0, none⟩) L L ∧ PO w wk V D Hd H L WW bs M ws w2.heap.size w6.heap.size gK gV gx b1 l1 kq P ∧ OneI wk wc wk.heap.size D L gA gB (fun _ => []) (fun _ => []))
      case first =>
        have S0 := SN.below ((Below.refl _ _).drew)
        refine wp_region_held_drew (S := fun w' => Blk w' w.heap.size 23 #[.int .i64 (V : Int), .int .i64 (D : Int), .int .i64 (Hd : Int), .int .i64 (H : Int), .int .i64 (L : Int)]) (by kernel_rfl) (S0.x0) (fun hHeld => ?_)
        generalize hA : wf.drew = wk at *
        clear hA SN
        have hmk := run_make_row' (P := Tryd.prog) 39 49 (.slice none 0 0) 24 Tryd.underlying39 Tryd.infoList rfl .i64 .i64 L (by omega) (by omega)
        have OM := oneI_made wk D L
        have KB := below_alloc8 wk (.cells (madeCells #[.slice none 0 0] L) 49)
        refine wpAnyH_take (i := 0) (v := (.pointer (some ⟨w.heap.size, 4, none⟩))) rfl (by kernel_rfl) (by kernel_rfl) (by kernel_rfl) (fun _ _ _ h => h) (Or.inl ⟨by rfl, ?_⟩) (by assumption) ?_
        · intro w' hSw
          go_simp
        simp only [List.getElem_toArray, List.getElem_cons_zero, Act.put, List.setIfInBounds_toArray, List.set_cons_zero, List.set_cons_succ]
        refine wpAnyH_take (i := 1) (v := (.int .i64 (L : Int))) rfl (by kernel_rfl) (by kernel_rfl) (by kernel_rfl) (fun _ _ _ h => h) (Or.inl ⟨by rfl, ?_⟩) (by assumption) ?_
        · intro w' hSw
          have c4 : w'.cell? ⟨w.heap.size, 4, none⟩ = some (.int .i64 (L : Int)) := hSw.cell 4 rfl
          go_simp
        simp only [List.getElem_toArray, List.getElem_cons_succ, List.getElem_cons_zero, Act.put, List.setIfInBounds_toArray, List.set_cons_zero, List.set_cons_succ]
        refine wpAnyH_take (i := 3) (v := (.pointer (some ⟨w.heap.size, 4, none⟩))) rfl (by kernel_rfl) (by kernel_rfl) (by kernel_rfl) (fun _ _ _ h => h) (Or.inl ⟨by rfl, ?_⟩) (by assumption) ?_
        · intro w' hSw
          go_simp
        simp only [List.getElem_toArray, List.getElem_cons_succ, List.getElem_cons_zero, Act.put, List.setIfInBounds_toArray, List.set_cons_zero, List.set_cons_succ]
        refine wpAnyH_take (i := 4) (v := (.int .i64 (L : Int))) rfl (by kernel_rfl) (by kernel_rfl) (by kernel_rfl) (fun _ _ _ h => h) (Or.inl ⟨by rfl, ?_⟩) (by assumption) ?_
        · intro w' hSw
          have c4 : w'.cell? ⟨w.heap.size, 4, none⟩ = some (.int .i64 (L : Int)) := hSw.cell 4 rfl
          go_simp
        simp only [List.getElem_toArray, List.getElem_cons_succ, List.getElem_cons_zero, Act.put, List.setIfInBounds_toArray, List.set_cons_zero, List.set_cons_succ]
        refine wpAnyH_ready (rs := [2, 5]) (by kernel_rfl) (by simp) ?_
        refine AllReadyH.cons rfl (fun Kc hKc => ?_) (AllReadyH.cons rfl (fun Kc hKc => ?_) AllReadyH.nil)
        · simp only [List.getElem_toArray, List.getElem_cons_succ, List.getElem_cons_zero]
          rw [if_pos (by rfl)]
          go_wp2_with fail
          generalize hn1 : wk.alloc (.cells (madeCells #[.slice none 0 0] L) 49) = wm at *
          refine hKc.out _ _ (S0.x0.below KB) (fun hHeld => ?_)
          clear hKc Kc
          refine wpAnyH_take (i := 6) (v := (.slice (some ⟨wk.heap.size, 0, none⟩) L L)) rfl (by kernel_rfl) (by kernel_rfl) (by kernel_rfl) (fun _ _ _ h => h) (Or.inl ⟨by rfl, ?_⟩) (by assumption) ?_
          · intro w' hSw
            go_simp
          simp only [List.getElem_toArray, List.getElem_cons_succ, List.getElem_cons_zero, Act.put, List.setIfInBounds_toArray, List.set_cons_zero, List.set_cons_succ]
          refine wpAnyH_ready (rs := [5]) (by kernel_rfl) (by simp) ?_
          refine AllReadyH.cons rfl (fun Kc hKc => ?_) AllReadyH.nil
          simp only [List.getElem_toArray, List.getElem_cons_succ, List.getElem_cons_zero]
          rw [if_pos (by rfl)]
          go_wp2_with fail
          have KB2 := below_alloc8 wm (.cells (madeCells #[.slice none 0 0] L) 49)
          generalize hn2 : wm.alloc (.cells (madeCells #[.slice none 0 0] L) 49) = wn at *
          refine hKc.out _ _ ((S0.x0.below KB).below KB2) (fun hHeld => ?_)
          clear hKc Kc
          refine wpAnyH_take (i := 7) (v := (.slice (some ⟨wm.heap.size, 0, none⟩) L L)) rfl (by kernel_rfl) (by kernel_rfl) (by kernel_rfl) (fun _ _ _ h => h) (Or.inl ⟨by rfl, ?_⟩) (by assumption) ?_
          · intro w' hSw
            go_simp
          simp only [List.getElem_toArray, List.getElem_cons_succ, List.getElem_cons_zero, Act.put, List.setIfInBounds_toArray, List.set_cons_zero, List.set_cons_succ]
          refine wpAnyH_done (by kernel_rfl) ?_ _
          go_wp2_with fail
          go_meet
          case rel => exact ⟨wk, wk.heap.size, wm.heap.size, rfl, rfl, S0, OM⟩
        · simp only [List.getElem_toArray, List.getElem_cons_succ, List.getElem_cons_zero]
          rw [if_pos (by rfl)]
          go_wp2_with fail
          generalize hn1 : wk.alloc (.cells (madeCells #[.slice none 0 0] L) 49) = wm at *
          refine hKc.out _ _ (S0.x0.below KB) (fun hHeld => ?_)
          clear hKc Kc
          refine wpAnyH_ready (rs := [2]) (by kernel_rfl) (by simp) ?_
          refine AllReadyH.cons rfl (fun Kc hKc => ?_) AllReadyH.nil
          simp only [List.getElem_toArray, List.getElem_cons_succ, List.getElem_cons_zero]
          rw [if_pos (by rfl)]
          go_wp2_with fail
          have KB2 := below_alloc8 wm (.cells (madeCells #[.slice none 0 0] L) 49)
          generalize hn2 : wm.alloc (.cells (madeCells #[.slice none 0 0] L) 49) = wn at *
          refine hKc.out _ _ ((S0.x0.below KB).below KB2) (fun hHeld => ?_)
          clear hKc Kc
          refine wpAnyH_take (i := 6) (v := (.slice (some ⟨wm.heap.size, 0, none⟩) L L)) rfl (by kernel_rfl) (by kernel_rfl) (by kernel_rfl) (fun _ _ _ h => h) (Or.inl ⟨by rfl, ?_⟩) (by assumption) ?_
          · intro w' hSw
            go_simp
          simp only [List.getElem_toArray, List.getElem_cons_succ, List.getElem_cons_zero, Act.put, List.setIfInBounds_toArray, List.set_cons_zero, List.set_cons_succ]
          refine wpAnyH_take (i := 7) (v := (.slice (some ⟨wk.heap.size, 0, none⟩) L L)) rfl (by kernel_rfl) (by kernel_rfl) (by kernel_rfl) (fun _ _ _ h => h) (Or.inl ⟨by rfl, ?_⟩) (by assumption) ?_
          · intro w' hSw
            go_simp
          simp only [List.getElem_toArray, List.getElem_cons_succ, List.getElem_cons_zero, Act.put, List.setIfInBounds_toArray, List.set_cons_zero, List.set_cons_succ]
          refine wpAnyH_done (by kernel_rfl) ?_ _
          go_wp2_with fail
          go_meet
          case rel => exact ⟨wk, wm.heap.size, wk.heap.size, rfl, rfl, S0, OM.turn⟩
      case rest =>
        obtain ⟨wk, gA, gB, rfl, rfl, SK, OO⟩ := hcut
        -- the blocks
        have hbl : bs.length = L := SK.gd.len
        have hbn : WW.b.n = L := by have := SK.gd.wt.b.len; omega
        obtain ⟨bb, bo, hba, hbc⟩ := SK.gd.wt.b.cells (by omega)
        rw [hba] at wb
        generalize WW.b.c = bz at *
        have HS : Hid (∀ wv, Below wk.heap.size wk wv → PO w wv V D Hd H L WW bs M ws w2.heap.size w6.heap.size gK gV gx b1 l1 kq P) := fun wv hb => SK.below hb
        have HR : Hid (∀ wv t x, Below wk.heap.size wk wv → bs[t]? = some x → wv.rangeAt bb (bo + t * 20) x.cells.toList) := fun wv t x hb hx => rangeAt_below (hbc t x hx) (by intro h9; cases h9) hb
        have HBK : Hid (∀ wv, Below wk.heap.size wk wv → ∀ t, t < L → ∃ x, bs[t]? = some x ∧ BkAt wv D H x (layAt M t)) := fun wv hb t ht => by
          have hx : bs[t]? = some (bs[t]'(by omega)) := List.getElem?_eq_getElem _
          obtain ⟨y, hy, hB⟩ := (SK.below hb).gd.wt.ls t _ hx
          refine ⟨_, hx, ?_⟩
          have e9 : layAt M t = y := by unfold layAt; rw [List.getD_eq_getElem?_getD, hy]; rfl
          rw [e9]
          exact hB
        clear hbc hba
        have HTK : Hid (∀ wv, Below wk.heap.size wk wv → Tab wv) := fun wv hb => HT.out _ (SK.below hb).kp
        have HPK : Hid (∀ k, k < l1 → 0 ≤ el P k ∧ el P k < V) := fun k hk => by have := all_el (A := P) (by rw [hL1]; exact hk) pp3; unfold tokB at this; simpa using this
        have O0 : OneI wk wc wk.heap.size D L gA gB (fun t => keysR (layAt M t) D (rowsL M D H Hd (P.take 0) t)) (fun t => valsR (layAt M t) D (rowsL M D H Hd (P.take 0) t)) := by
          have e1 : (fun t => keysR (layAt M t) D (rowsL M D H Hd (P.take 0) t)) = fun _ => [] := by funext t; rw [List.take_zero]; have h9 : rowsL M D H Hd [] t = [] := List.length_eq_zero_iff.1 (rowsL_len M D H Hd [] t); rw [h9]; rfl
          have e2 : (fun t => valsR (layAt M t) D (rowsL M D H Hd (P.take 0) t)) = fun _ => [] := by funext t; rw [List.take_zero]; have h9 : rowsL M D H Hd [] t = [] := List.length_eq_zero_iff.1 (rowsL_len M D H Hd [] t); rw [h9]; rfl
          rw [e1, e2]; exact OO
        clear OO SK hmod
        rw [hL1] at pp1 pp2
        have BE := below_alloc8 wc (.cells #[] 55)
        have F0 := fresh_empty wc
        generalize hwz9 : wc.alloc (.cells #[] 55) = wz at *
        have O1 := O0.below BE (by have := O0.kp.size; omega)
        clear O0
        go_upto_region 11 with fail
        clear hwz9 BE
        go_loopg [14, 70] l1 (fun r s14 s70 wr => ∃ (i gr n cr : Nat) (X : List Int), i ≤ l1 ∧ r = l1 - i ∧ s70 = .int .i64 (i : Int) ∧ s14 = .slice (some ⟨gr, 0, none⟩) n cr ∧ Fresh wr 0 gr n cr X ∧ (1 ≤ i → n = D ∧ X = rowOf (rowsL M D H Hd (P.take i) L) (i - 1)) ∧ OneI wk wr wk.heap.size D L gA gB (fun t => keysR (layAt M t) D (rowsL M D H Hd (P.take i) t)) (fun t => valsR (layAt M t) D (rowsL M D H Hd (P.take i) t)))
        case atStart => exact ⟨0, _, _, _, _, by omega, by omega, rfl, rfl, F0.mono (Nat.zero_le _), by omega, O1⟩
        case round =>
          obtain ⟨i, gr, n, cr, X, hil, rfl, rfl, rfl, FR, HX, OO⟩ := hrel
          clear F0 O1
          by_cases hlt : i < l1
          · have SS := HS.out _ OO.kp
            obtain ⟨t1, t2⟩ := HPK.out i hlt
            obtain ⟨tok, htok⟩ : ∃ tok : Nat, el P i = tok := ⟨(el P i).toNat, by omega⟩
            have ct : wr.cell? ⟨b1, i, none⟩ = some (.int .i64 (tok : Int)) := by
              obtain ⟨b', o', e', hc⟩ := SS.ap.row.cells (by omega)
              simp only [Option.some.injEq, Addr.mk.injEq, and_true] at e'
              obtain ⟨rfl, rfl⟩ := e'
              have h9 := hc i hlt
              rw [Nat.zero_add, htok] at h9
              exact h9
            have CB := begin_any V D H WW bs M tok i wr SS.gd.wt (by omega) (by omega)
            have X1 := SS.x1
            have HSP : Hid (P.take (i + 1) = P.take i ++ [el P i]) := by
              show _ = _
              have e9 : P[i]? = some (el P i) := by unfold el; simp [List.getD_eq_getElem?_getD, List.getElem?_eq_getElem (show i < P.length by rw [HL1.out]; exact hlt)]
              rw [List.take_add_one, e9]; rfl
            have HTL : Hid ((P.take i).length = i) := by show _ = _; rw [List.length_take, HL1.out]; omega
            have hws9 : ws.size = 8 := siz
            rw [HWS.out] at CB
            clear FR HX
            go_wp2_with (refine wpList_load_row rfl 32 _ rfl w2.heap.size rfl 32 ws (0, 0) _ X1 Tryd.underlying32 rfl (by rw [siz]; exact Tryd.infoW) ?_)
            refine CB.mono ?_
            clear CB
            rintro e w7 ⟨gr, cr, rfl, FR, B7⟩
            have O7 := OO.below B7 (by have := OO.kp.size; omega)
            have hx0 : begR M.E D tok i = xs1 M D H Hd (P.take i) (el P i) 0 := by
              show _ = begR M.E D (el P i).toNat (P.take i).length
              rw [htok, HTL.out]; rfl
            rw [hx0] at FR
            have O8 : OneI wk w7 wk.heap.size D L gA gB (fun t => keysR (layAt M t) D (rowsL M D H Hd (P.take (if t < 0 then i + 1 else i)) t)) (fun t => valsR (layAt M t) D (rowsL M D H Hd (P.take (if t < 0 then i + 1 else i)) t)) := O7.congr (fun t _ => by show keysR _ _ (rowsL _ _ _ _ (P.take (if t < 0 then i + 1 else i)) t) = _; rw [if_neg (Nat.not_lt_zero t)]) (fun t _ => by show valsR _ _ (rowsL _ _ _ _ (P.take (if t < 0 then i + 1 else i)) t) = _; rw [if_neg (Nat.not_lt_zero t)])
            clear OO SS X1 ct htok O7 hx0
            replace FR := FR.mono (Nat.zero_le _)
            go_upto_region 15 with fail
            go_loopg [14, 81] L (fun r s14 s81 wr => ∃ (l gr cr : Nat), l ≤ L ∧ r = L - l ∧ s81 = .int .i64 (l : Int) ∧ s14 = .slice (some ⟨gr, 0, none⟩) D cr ∧ Fresh wr 0 gr D cr (xs1 M D H Hd (P.take i) (el P i) l) ∧ OneI wk wr wk.heap.size D L gA gB (fun t => keysR (layAt M t) D (rowsL M D H Hd (P.take (if t < l then i + 1 else i)) t)) (fun t => valsR (layAt M t) D (rowsL M D H Hd (P.take (if t < l then i + 1 else i)) t)))
            case atStart => exact ⟨0, _, _, by omega, by omega, rfl, rfl, FR, O8⟩
            case round =>
              obtain ⟨l, gr, cr, hll, rfl, rfl, rfl, FR, OO⟩ := hrel
              clear O8
              by_cases hlt2 : l < L
              · have SS := HS.out _ OO.kp
                have hmod := shape_mod hsh
                obtain ⟨ka, kc, vsA, k1, k2, k3⟩ := OO.at true l hlt2 (show cond true (fun t => keysR (layAt M t) D (rowsL M D H Hd (P.take (if t < l then i + 1 else i)) t)) (fun t => valsR (layAt M t) D (rowsL M D H Hd (P.take (if t < l then i + 1 else i)) t)) l = keysR (layAt M l) D (rowsL M D H Hd (P.take i) l) by show keysR _ _ (rowsL _ _ _ _ (P.take (if l < l then i + 1 else i)) l) = _; rw [if_neg (Nat.lt_irrefl l)])
                obtain ⟨va, vc, vsB, v1, v2, v3⟩ := OO.at false l hlt2 (show cond false (fun t => keysR (layAt M t) D (rowsL M D H Hd (P.take (if t < l then i + 1 else i)) t)) (fun t => valsR (layAt M t) D (rowsL M D H Hd (P.take (if t < l then i + 1 else i)) t)) l = valsR (layAt M l) D (rowsL M D H Hd (P.take i) l) by show valsR _ _ (rowsL _ _ _ _ (P.take (if l < l then i + 1 else i)) l) = _; rw [if_neg (Nat.lt_irrefl l)])
                have lA : (keysR (layAt M l) D (rowsL M D H Hd (P.take i) l)).length = i := by unfold keysR; rw [List.length_map, rowsL_len, HTL.out]
                have lB : (valsR (layAt M l) D (rowsL M D H Hd (P.take i) l)).length = i := by unfold valsR; rw [List.length_map, rowsL_len, HTL.out]
                have rA : ∀ t, t < i → (rowOf (keysR (layAt M l) D (rowsL M D H Hd (P.take i) l)) t).length = D := fun t ht => by rw [keysR_at _ _ (by rw [rowsL_len, HTL.out]; exact ht)]; exact tab_len _ _
                have rB : ∀ t, t < i → (rowOf (valsR (layAt M l) D (rowsL M D H Hd (P.take i) l)) t).length = D := fun t ht => by rw [valsR_at _ _ (by rw [rowsL_len, HTL.out]; exact ht)]; exact tab_len _ _
                have SA : SlotAt wk.heap.size D wr (cond true gA gB) l (keysR (layAt M l) D (rowsL M D H Hd (P.take i) l)) (.slice ka (keysR (layAt M l) D (rowsL M D H Hd (P.take i) l)).length kc) := ⟨k1, vsA, k2, k3⟩
                have SB : SlotAt wk.heap.size D wr (cond false gA gB) l (valsR (layAt M l) D (rowsL M D H Hd (P.take i) l)) (.slice va (valsR (layAt M l) D (rowsL M D H Hd (P.take i) l)).length vc) := ⟨v1, vsB, v2, v3⟩
                obtain ⟨ka', kc', e9, kn, GA⟩ := SA.grid (by omega)
                obtain ⟨va', vc', e8, vn, GB⟩ := SB.grid (by omega)
                clear SA SB
                simp only [Value.slice.injEq, true_and] at e9 e8
                obtain ⟨rfl, rfl⟩ := e9
                obtain ⟨rfl, rfl⟩ := e8
                simp only [cond_true, cond_false, lA, lB] at k1 v1
                rw [lA] at GA
                rw [lB] at GB
                obtain ⟨x, hx, -⟩ := HBK.out _ OO.kp l hlt2
                have r0 := HR.out _ l x OO.kp hx
                have sizb := bk_size x
                have HGA : Hid (∀ wv, Below wr.heap.size wr wv → GridAt wv ka i (keysR (layAt M l) D (rowsL M D H Hd (P.take i) l)) ∧ GridAt wv va i (valsR (layAt M l) D (rowsL M D H Hd (P.take i) l))) := fun wv hb => ⟨GA.below hb, GB.below hb⟩
                have hwk := OO.kp.size
                have CO : ∀ wv : World, PO w wv V D Hd H L WW bs M ws w2.heap.size w6.heap.size gK gV gx b1 l1 kq P → Below wr.heap.size wr wv → Fresh wv 0 gr D cr (xs1 M D H Hd (P.take i) (el P i) l) → Calls Tryd.prog 13 #[.agg #[.int .i64 (V : Int), .int .i64 (D : Int), .int .i64 (Hd : Int), .int .i64 (H : Int), .int .i64 (L : Int)], .agg x.cells, .slice (some ⟨gr, 0, none⟩) D cr, .slice ka i kc, .slice va i vc] wv fun e w' => ∃ o1 o2 o3, e = .returned (.tuple #[.slice (some ⟨o1, 0, none⟩) D D, .slice (some ⟨o2, 0, none⟩) D D, .slice (some ⟨o3, 0, none⟩) D D]) ∧ Fresh w' wv.heap.size o1 D D (xs1 M D H Hd (P.take i) (el P i) (l + 1)) ∧ Fresh w' wv.heap.size o2 D D (keyR (layAt M l) D (xs1 M D H Hd (P.take i) (el P i) l)) ∧ Fresh w' wv.heap.size o3 D D (valR (layAt M l) D (xs1 M D H Hd (P.take i) (el P i) l)) ∧ Below wv.heap.size wv w' := fun wv S hb F => by
                  have hb2 : Below wk.heap.size wk wv := OO.kp.trans (hb.mono hwk)
                  obtain ⟨y, hy, hB⟩ := HBK.out _ hb2 l hlt2
                  rw [hx] at hy
                  simp only [Option.some.injEq] at hy
                  subst hy
                  obtain ⟨g1, g2⟩ := HGA.out _ hb
                  have h9 := one_any (V : Int) D Hd (H : Int) H (L : Int) x (layAt M l) (some ⟨gr, 0, none⟩) cr _ ka va i kc vc _ _ wv (HTK.out _ hb2) hB F.arg g1 g2 kn vn rA rB (by omega) (by omega) (by omega) (by omega) (by omega) hmod (by omega)
                  rw [show oneR (layAt M l) D H Hd (xs1 M D H Hd (P.take i) (el P i) l) (keysR (layAt M l) D (rowsL M D H Hd (P.take i) l)) (valsR (layAt M l) D (rowsL M D H Hd (P.take i) l)) i = xs1 M D H Hd (P.take i) (el P i) (l + 1) by show _ = oneR _ _ _ _ _ _ _ (P.take i).length; rw [HTL.out]] at h9
                  exact h9
                clear GA GB kn vn k2 k3 v2 v3
                generalize hxc : x.cells = cs at *
                go_upto_region 17 with fail
                go_cut [18, 19, 20] from 84 to 103 (fun s18 s19 s20 wc => ∃ o1 o2 o3, s18 = .slice (some ⟨o1, 0, none⟩) D D ∧ s19 = .slice (some ⟨o2, 0, none⟩) D D ∧ s20 = .slice (some ⟨o3, 0, none⟩) D D ∧ Fresh wc wk.heap.size o1 D D (xs1 M D H Hd (P.take i) (el P i) (l + 1)) ∧ Fresh wc wk.heap.size o2 D D (keyR (layAt M l) D (xs1 M D H Hd (P.take i) (el P i) l)) ∧ Fresh wc wk.heap.size o3 D D (valR (layAt M l) D (xs1 M D H Hd (P.take i) (el P i) l)) ∧ OneI wk wc wk.heap.size D L gA gB (fun t => keysR (layAt M t) D (rowsL M D H Hd (P.take (if t < l then i + 1 else i)) t)) (fun t => valsR (layAt M t) D (rowsL M D H Hd (P.take (if t < l then i + 1 else i)) t)))
                case first =>
                  have Q0 := SS.below ((Below.refl _ _).drew)
                  have OD := OO.below ((Below.refl _ _).drew) (by have := OO.kp.size; omega)
                  have rd : wr.drew.rangeAt bb (bo + l * 20) cs.toList := rangeAt_block r0 rfl
                  have ca : wr.drew.cell? ⟨gA, l, none⟩ = some (.slice ka i kc) := k1
                  have cb : wr.drew.cell? ⟨gB, l, none⟩ = some (.slice va i vc) := v1
                  have FXd := FR.drew
                  have KBD : Below wr.heap.size wr wr.drew := (Below.refl _ _).drew
                  refine wp_region_held_drew (S := fun w' => Blk w' w.heap.size 23 #[.int .i64 (V : Int), .int .i64 (D : Int), .int .i64 (Hd : Int), .int .i64 (H : Int), .int .i64 (L : Int)] ∧ Blk w' w2.heap.size 32 ws ∧ w'.rangeAt bb (bo + l * 20) cs.toList ∧ w'.cell? ⟨gA, l, none⟩ = some (.slice ka i kc) ∧ w'.cell? ⟨gB, l, none⟩ = some (.slice va i vc)) (by kernel_rfl) (⟨Q0.x0, Q0.x1, rd, ca, cb⟩) (fun hHeld => ?_)
                  clear k1 v1 r0 OO SS FR
                  generalize hA : wr.drew = wA at *
                  clear hA
                  refine wpAnyH_take (i := 0) (v := (.agg #[.int .i64 (V : Int), .int .i64 (D : Int), .int .i64 (Hd : Int), .int .i64 (H : Int), .int .i64 (L : Int)])) rfl (by kernel_rfl) (by kernel_rfl) (by kernel_rfl) (fun _ _ _ h => h) (Or.inl ⟨by rfl, ?_⟩) (by assumption) ?_
                  · intro w' hSw
                    have cc0 : w'.cell? ⟨w.heap.size, 0, none⟩ = some (.int .i64 (V : Int)) := hSw.1.cell 0 rfl
                    have cc1 : w'.cell? ⟨w.heap.size, 1, none⟩ = some (.int .i64 (D : Int)) := hSw.1.cell 1 rfl
                    have cc2 : w'.cell? ⟨w.heap.size, 2, none⟩ = some (.int .i64 (Hd : Int)) := hSw.1.cell 2 rfl
                    have cc3 : w'.cell? ⟨w.heap.size, 3, none⟩ = some (.int .i64 (H : Int)) := hSw.1.cell 3 rfl
                    have cc4 : w'.cell? ⟨w.heap.size, 4, none⟩ = some (.int .i64 (L : Int)) := hSw.1.cell 4 rfl
                    go_simp
                  simp only [List.getElem_toArray, List.getElem_cons_zero, Act.put, List.setIfInBounds_toArray, List.set_cons_zero, List.set_cons_succ]
                  refine wpAnyH_take (i := 1) (v := (.pointer (some ⟨w2.heap.size, 3, none⟩))) rfl (by kernel_rfl) (by kernel_rfl) (by kernel_rfl) (fun _ _ _ h => h) (Or.inl ⟨by rfl, ?_⟩) (by assumption) ?_
                  · intro w' hSw
                    go_simp
                  simp only [List.getElem_toArray, List.getElem_cons_succ, List.getElem_cons_zero, Act.put, List.setIfInBounds_toArray, List.set_cons_zero, List.set_cons_succ]
                  refine wpAnyH_take (i := 2) (v := (.slice (some ⟨bb, bo, none⟩) L bz)) rfl (by kernel_rfl) (by kernel_rfl) (by kernel_rfl) (fun _ _ _ h => h) (Or.inl ⟨by rfl, ?_⟩) (by assumption) ?_
                  · intro w' hSw
                    have c3 : w'.cell? ⟨w2.heap.size, 3, none⟩ = some (.slice (some ⟨bb, bo, none⟩) L bz) := hSw.2.1.cell 3 wb
                    go_simp
                  simp only [List.getElem_toArray, List.getElem_cons_succ, List.getElem_cons_zero, Act.put, List.setIfInBounds_toArray, List.set_cons_zero, List.set_cons_succ]
                  refine wpAnyH_take (i := 3) (v := (.int .i64 (l : Int))) rfl (by kernel_rfl) (by kernel_rfl) (by kernel_rfl) (fun _ _ _ h => h) (Or.inl ⟨by rfl, ?_⟩) (by assumption) ?_
                  · intro w' hSw
                    go_simp
                  simp only [List.getElem_toArray, List.getElem_cons_succ, List.getElem_cons_zero, Act.put, List.setIfInBounds_toArray, List.set_cons_zero, List.set_cons_succ]
                  refine wpAnyH_take (i := 4) (v := (.pointer (some ⟨bb, bo + l * 20, none⟩))) rfl (by kernel_rfl) (by kernel_rfl) (by kernel_rfl) (fun _ _ _ h => h) (Or.inl ⟨by rfl, ?_⟩) (by assumption) ?_
                  · intro w' hSw
                    go_simp
                  simp only [List.getElem_toArray, List.getElem_cons_succ, List.getElem_cons_zero, Act.put, List.setIfInBounds_toArray, List.set_cons_zero, List.set_cons_succ]
                  refine wpAnyH_take (i := 5) (v := (.agg cs)) rfl (by kernel_rfl) (by kernel_rfl) (by kernel_rfl) (fun _ _ _ h => h) (Or.inl ⟨by rfl, ?_⟩) (by assumption) ?_
                  · intro w' hSw
                    exact yield_at 48 _ rfl ⟨bb, bo + l * 20, none⟩ rfl cs (by have h9 := run_loadVar_mid (P := Tryd.prog) w' bb (bo + l * 20) 48 cs.toList _ hSw.2.2.1 Tryd.underlying48 rfl (by rw [Array.length_toList, sizb]; exact Tryd.infoB); simpa using h9)
                  simp only [List.getElem_toArray, List.getElem_cons_succ, List.getElem_cons_zero, Act.put, List.setIfInBounds_toArray, List.set_cons_zero, List.set_cons_succ]
                  refine wpAnyH_take (i := 6) (v := (.slice (some ⟨gr, 0, none⟩) D cr)) rfl (by kernel_rfl) (by kernel_rfl) (by kernel_rfl) (fun _ _ _ h => h) (Or.inl ⟨by rfl, ?_⟩) (by assumption) ?_
                  · intro w' hSw
                    go_simp
                  simp only [List.getElem_toArray, List.getElem_cons_succ, List.getElem_cons_zero, Act.put, List.setIfInBounds_toArray, List.set_cons_zero, List.set_cons_succ]
                  refine wpAnyH_take (i := 7) (v := (.slice (some ⟨gA, 0, none⟩) L L)) rfl (by kernel_rfl) (by kernel_rfl) (by kernel_rfl) (fun _ _ _ h => h) (Or.inl ⟨by rfl, ?_⟩) (by assumption) ?_
                  · intro w' hSw
                    go_simp
                  simp only [List.getElem_toArray, List.getElem_cons_succ, List.getElem_cons_zero, Act.put, List.setIfInBounds_toArray, List.set_cons_zero, List.set_cons_succ]
                  refine wpAnyH_take (i := 8) (v := (.int .i64 (l : Int))) rfl (by kernel_rfl) (by kernel_rfl) (by kernel_rfl) (fun _ _ _ h => h) (Or.inl ⟨by rfl, ?_⟩) (by assumption) ?_
                  · intro w' hSw
                    go_simp
                  simp only [List.getElem_toArray, List.getElem_cons_succ, List.getElem_cons_zero, Act.put, List.setIfInBounds_toArray, List.set_cons_zero, List.set_cons_succ]
                  refine wpAnyH_take (i := 9) (v := (.pointer (some ⟨gA, l, none⟩))) rfl (by kernel_rfl) (by kernel_rfl) (by kernel_rfl) (fun _ _ _ h => h) (Or.inl ⟨by rfl, ?_⟩) (by assumption) ?_
                  · intro w' hSw
                    go_simp
                  simp only [List.getElem_toArray, List.getElem_cons_succ, List.getElem_cons_zero, Act.put, List.setIfInBounds_toArray, List.set_cons_zero, List.set_cons_succ]
                  refine wpAnyH_take (i := 10) (v := (.slice ka i kc)) rfl (by kernel_rfl) (by kernel_rfl) (by kernel_rfl) (fun _ _ _ h => h) (Or.inl ⟨by rfl, ?_⟩) (by assumption) ?_
                  · intro w' hSw
                    have c5 := hSw.2.2.2.1
                    go_simp
                  simp only [List.getElem_toArray, List.getElem_cons_succ, List.getElem_cons_zero, Act.put, List.setIfInBounds_toArray, List.set_cons_zero, List.set_cons_succ]
                  refine wpAnyH_take (i := 11) (v := (.slice (some ⟨gB, 0, none⟩) L L)) rfl (by kernel_rfl) (by kernel_rfl) (by kernel_rfl) (fun _ _ _ h => h) (Or.inl ⟨by rfl, ?_⟩) (by assumption) ?_
                  · intro w' hSw
                    go_simp
                  simp only [List.getElem_toArray, List.getElem_cons_succ, List.getElem_cons_zero, Act.put, List.setIfInBounds_toArray, List.set_cons_zero, List.set_cons_succ]
                  refine wpAnyH_take (i := 12) (v := (.int .i64 (l : Int))) rfl (by kernel_rfl) (by kernel_rfl) (by kernel_rfl) (fun _ _ _ h => h) (Or.inl ⟨by rfl, ?_⟩) (by assumption) ?_
                  · intro w' hSw
                    go_simp
                  simp only [List.getElem_toArray, List.getElem_cons_succ, List.getElem_cons_zero, Act.put, List.setIfInBounds_toArray, List.set_cons_zero, List.set_cons_succ]
                  refine wpAnyH_take (i := 13) (v := (.pointer (some ⟨gB, l, none⟩))) rfl (by kernel_rfl) (by kernel_rfl) (by kernel_rfl) (fun _ _ _ h => h) (Or.inl ⟨by rfl, ?_⟩) (by assumption) ?_
                  · intro w' hSw
                    go_simp
                  simp only [List.getElem_toArray, List.getElem_cons_succ, List.getElem_cons_zero, Act.put, List.setIfInBounds_toArray, List.set_cons_zero, List.set_cons_succ]
                  refine wpAnyH_take (i := 14) (v := (.slice va i vc)) rfl (by kernel_rfl) (by kernel_rfl) (by kernel_rfl) (fun _ _ _ h => h) (Or.inl ⟨by rfl, ?_⟩) (by assumption) ?_
                  · intro w' hSw
                    have c6 := hSw.2.2.2.2
                    go_simp
                  simp only [List.getElem_toArray, List.getElem_cons_succ, List.getElem_cons_zero, Act.put, List.setIfInBounds_toArray, List.set_cons_zero, List.set_cons_succ]
                  refine wpAnyH_ready (rs := [15]) (by kernel_rfl) (by simp) ?_
                  refine AllReadyH.cons rfl (fun Kc hKc => ?_) AllReadyH.nil
                  simp only [List.getElem_toArray, List.getElem_cons_succ, List.getElem_cons_zero]
                  rw [if_pos (by rfl)]
                  go_wp2_with fail
                  refine (CO wA Q0 KBD FXd).mono ?_
                  rintro e wB ⟨o1, o2, o3, rfl, F1, F2, F3, BB⟩
                  go_wp2_with fail
                  refine hKc.out _ _ (⟨Q0.x0.below BB, Q0.x1.below BB, rangeAt_below rd (by intro h9; have := congrArg List.length h9; rw [Array.length_toList, sizb] at this; cases this) BB, cell_keep ca BB, cell_keep cb BB⟩) (fun hHeld => ?_)
                  clear hKc Kc
                  refine wpAnyH_take (i := 16) (v := (.tuple #[.slice (some ⟨o1, 0, none⟩) D D, .slice (some ⟨o2, 0, none⟩) D D, .slice (some ⟨o3, 0, none⟩) D D])) rfl (by kernel_rfl) (by kernel_rfl) (by kernel_rfl) (fun _ _ _ h => h) (Or.inl ⟨by rfl, ?_⟩) (by assumption) ?_
                  · intro w' hSw
                    go_simp
                  simp only [List.getElem_toArray, List.getElem_cons_succ, List.getElem_cons_zero, Act.put, List.setIfInBounds_toArray, List.set_cons_zero, List.set_cons_succ]
                  refine wpAnyH_take (i := 17) (v := (.slice (some ⟨o1, 0, none⟩) D D)) rfl (by kernel_rfl) (by kernel_rfl) (by kernel_rfl) (fun _ _ _ h => h) (Or.inl ⟨by rfl, ?_⟩) (by assumption) ?_
                  · intro w' hSw
                    go_simp
                  simp only [List.getElem_toArray, List.getElem_cons_succ, List.getElem_cons_zero, Act.put, List.setIfInBounds_toArray, List.set_cons_zero, List.set_cons_succ]
                  refine wpAnyH_take (i := 18) (v := (.slice (some ⟨o2, 0, none⟩) D D)) rfl (by kernel_rfl) (by kernel_rfl) (by kernel_rfl) (fun _ _ _ h => h) (Or.inl ⟨by rfl, ?_⟩) (by assumption) ?_
                  · intro w' hSw
                    go_simp
                  simp only [List.getElem_toArray, List.getElem_cons_succ, List.getElem_cons_zero, Act.put, List.setIfInBounds_toArray, List.set_cons_zero, List.set_cons_succ]
                  refine wpAnyH_take (i := 19) (v := (.slice (some ⟨o3, 0, none⟩) D D)) rfl (by kernel_rfl) (by kernel_rfl) (by kernel_rfl) (fun _ _ _ h => h) (Or.inl ⟨by rfl, ?_⟩) (by assumption) ?_
                  · intro w' hSw
                    go_simp
                  simp only [List.getElem_toArray, List.getElem_cons_succ, List.getElem_cons_zero, Act.put, List.setIfInBounds_toArray, List.set_cons_zero, List.set_cons_succ]
                  refine wpAnyH_take (i := 20) (v := (.slice (some ⟨o1, 0, none⟩) D D)) rfl (by kernel_rfl) (by kernel_rfl) (by kernel_rfl) (fun _ _ _ h => h) (Or.inl ⟨by rfl, ?_⟩) (by assumption) ?_
                  · intro w' hSw
                    go_simp
                  simp only [List.getElem_toArray, List.getElem_cons_succ, List.getElem_cons_zero, Act.put, List.setIfInBounds_toArray, List.set_cons_zero, List.set_cons_succ]
                  refine wpAnyH_take (i := 21) (v := (.slice (some ⟨o2, 0, none⟩) D D)) rfl (by kernel_rfl) (by kernel_rfl) (by kernel_rfl) (fun _ _ _ h => h) (Or.inl ⟨by rfl, ?_⟩) (by assumption) ?_
                  · intro w' hSw
                    go_simp
                  simp only [List.getElem_toArray, List.getElem_cons_succ, List.getElem_cons_zero, Act.put, List.setIfInBounds_toArray, List.set_cons_zero, List.set_cons_succ]
                  refine wpAnyH_take (i := 22) (v := (.slice (some ⟨o3, 0, none⟩) D D)) rfl (by kernel_rfl) (by kernel_rfl) (by kernel_rfl) (fun _ _ _ h => h) (Or.inl ⟨by rfl, ?_⟩) (by assumption) ?_
                  · intro w' hSw
                    go_simp
                  simp only [List.getElem_toArray, List.getElem_cons_succ, List.getElem_cons_zero, Act.put, List.setIfInBounds_toArray, List.set_cons_zero, List.set_cons_succ]
                  refine wpAnyH_done (by kernel_rfl) ?_ _
                  have hwA : wk.heap.size ≤ wA.heap.size := OD.kp.size
                  go_wp2_with fail
                  go_meet
                  case rel => exact ⟨o1, o2, o3, rfl, rfl, rfl, F1.mono hwA, F2.mono hwA, F3.mono hwA, OD.below BB hwA⟩
                case rest =>
                  obtain ⟨o1, o2, o3, rfl, rfl, rfl, F1, F2, F3, O2⟩ := hcut
                  clear CO HGA OO SS k1 v1 r0 FR
                  have hwc := O2.kp.size
                  have HQ1 : Hid ((fun t => keysR (layAt M t) D (rowsL M D H Hd (P.take (if t < (l + 1) then i + 1 else i)) t)) l = keysR (layAt M l) D (rowsL M D H Hd (P.take i) l) ++ [keyR (layAt M l) D (xs1 M D H Hd (P.take i) (el P i) l)]) := by
                    show keysR _ _ (rowsL _ _ _ _ (P.take (if l < l + 1 then i + 1 else i)) l) = _
                    rw [if_pos (Nat.lt_succ_self l), HSP.out, rowsL_one]
                    unfold keysR
                    rw [List.map_append]; rfl
                  have HQ2 : Hid ((fun t => valsR (layAt M t) D (rowsL M D H Hd (P.take (if t < (l + 1) then i + 1 else i)) t)) l = valsR (layAt M l) D (rowsL M D H Hd (P.take i) l) ++ [valR (layAt M l) D (xs1 M D H Hd (P.take i) (el P i) l)]) := by
                    show valsR _ _ (rowsL _ _ _ _ (P.take (if l < l + 1 then i + 1 else i)) l) = _
                    rw [if_pos (Nat.lt_succ_self l), HSP.out, rowsL_one]
                    unfold valsR
                    rw [List.map_append]; rfl
                  have HQ3 : Hid (∀ t, t ≠ l → (fun t => keysR (layAt M t) D (rowsL M D H Hd (P.take (if t < (l + 1) then i + 1 else i)) t)) t = (fun t => keysR (layAt M t) D (rowsL M D H Hd (P.take (if t < l then i + 1 else i)) t)) t ∧ (fun t => valsR (layAt M t) D (rowsL M D H Hd (P.take (if t < (l + 1) then i + 1 else i)) t)) t = (fun t => valsR (layAt M t) D (rowsL M D H Hd (P.take (if t < l then i + 1 else i)) t)) t) := fun t ht => by
                    have e9 : (if t < l + 1 then i + 1 else i) = (if t < l then i + 1 else i) := by
                      by_cases h9 : t < l
                      · rw [if_pos h9, if_pos (by omega)]
                      · rw [if_neg h9, if_neg (by omega)]
                    exact ⟨by show keysR _ _ (rowsL _ _ _ _ (P.take (if t < l + 1 then i + 1 else i)) t) = _; rw [e9], by show valsR _ _ (rowsL _ _ _ _ (P.take (if t < l + 1 then i + 1 else i)) t) = _; rw [e9]⟩
                  have eA : cond true (fun t => keysR (layAt M t) D (rowsL M D H Hd (P.take (if t < l then i + 1 else i)) t)) (fun t => valsR (layAt M t) D (rowsL M D H Hd (P.take (if t < l then i + 1 else i)) t)) l = keysR (layAt M l) D (rowsL M D H Hd (P.take i) l) := by
                    show keysR _ _ (rowsL _ _ _ _ (P.take (if l < l then i + 1 else i)) l) = _
                    rw [if_neg (Nat.lt_irrefl l)]
                  have eB : cond false (fun t => keysR (layAt M t) D (rowsL M D H Hd (P.take (if t < (l + 1) then i + 1 else i)) t)) (fun t => valsR (layAt M t) D (rowsL M D H Hd (P.take (if t < l then i + 1 else i)) t)) l = valsR (layAt M l) D (rowsL M D H Hd (P.take i) l) := by
                    show valsR _ _ (rowsL _ _ _ _ (P.take (if l < l then i + 1 else i)) l) = _
                    rw [if_neg (Nat.lt_irrefl l)]
                  have HEA : Hid _ := eA
                  have HEB : Hid _ := eB
                  clear eA eB hxc rA rB
                  generalize keyR (layAt M l) D (xs1 M D H Hd (P.take i) (el P i) l) = xk at *
                  generalize valR (layAt M l) D (xs1 M D H Hd (P.take i) (el P i) l) = xv at *
                  generalize keysR (layAt M l) D (rowsL M D H Hd (P.take i) l) = RK at *
                  generalize valsR (layAt M l) D (rowsL M D H Hd (P.take i) l) = RV at *
                  -- the key
                  have BA := below_alloc8 wc (.cells #[.slice (some ⟨o2, 0, none⟩) D D] 27)
                  have CN := cellRows_new wc (.slice (some ⟨o2, 0, none⟩) D D)
                  obtain ⟨ua, uc, vs, e1, e2, e3⟩ := O2.at true l hlt2 HEA.out
                  have c1 : wc.cell? ⟨gA, l, none⟩ = some (.slice ua RK.length uc) := e1
                  generalize hwa : wc.alloc (.cells #[.slice (some ⟨o2, 0, none⟩) D D] 27) = wa at *
                  have O3 := O2.below BA hwc
                  have HE1 : Hid (wa.cell? ⟨cond true gA gB, l, none⟩ = some (.slice ua RK.length uc)) := cell_keep e1 BA
                  have HE2 : Hid (wa.ownsRow wk.heap.size 27 1 (.slice ua RK.length uc) RK.length vs) := owns_below e2 BA
                  have HE3 : Hid (∀ j, j < RK.length → ∃ gr, vs[j]? = some (.slice (some ⟨gr, 0, none⟩) D D) ∧ Fresh wa wk.heap.size gr D D (rowOf RK j)) := fun j hj => let ⟨g, a, b⟩ := e3 j hj; ⟨g, a, b.below BA⟩
                  replace F1 := F1.below BA
                  replace F2 := F2.below BA
                  replace F3 := F3.below BA
                  have hwa' := BA.size
                  have HLA : Hid (RK.length = i) := lA
                  have HLB : Hid (RV.length = i) := lB
                  have hli : RK.length ≤ 8 := by rw [lA]; omega
                  have hlj : RV.length ≤ 8 := by rw [lB]; omega
                  clear e1 e2 e3 lA lB O2
                  go_upto_region 20 with (at_builtin; refine wpList_append_hr rfl _ _ rfl wk.heap.size (.slice ua RK.length uc) RK.length vs rfl (by exact HE2.out) ⟨wc.heap.size, 0, none⟩ 1 1 [.slice (some ⟨o2, 0, none⟩) D D] rfl rfl (one_at CN) (by intro v hv; simp at hv; subst hv; rfl) (by omega) (by omega) ?_; intro ea ec w9 OA GA9 NA9 _; obtain ⟨d1, d2⟩ : w9.cell? ⟨gA, l, none⟩ = some (.slice ua RK.length uc) ∧ w9.frozen? ⟨gA, l, none⟩ = false := O3.grown HE2.out GA9 true l HE1.out)
                  have O4 := O3.step (FA' := (fun t => keysR (layAt M t) D (rowsL M D H Hd (P.take (if t < (l + 1) then i + 1 else i)) t))) (FB' := (fun t => valsR (layAt M t) D (rowsL M D H Hd (P.take (if t < l then i + 1 else i)) t))) true l hlt2 HEA.out (by omega) HE1.out HE2.out HE3.out OA GA9 NA9 F2 HQ1.out (fun s' t' _ hn => by
                    cases s'
                    · rfl
                    · exact (HQ3.out t' (hn.resolve_left (fun q => q rfl))).1)
                  have F1' := O3.keepF (u' := .slice ea (RK.length + 1) ec) HE2.out GA9 true l F1
                  have F3' := O3.keepF (u' := .slice ea (RK.length + 1) ec) HE2.out GA9 true l F3
                  simp only [cond_true] at O4 F1' F3'
                  clear O3 F1 F2 F3 HE1 HE2 HE3 c1 d1 d2 CN BA hwa OA GA9 NA9
                  generalize w9.setCell ⟨gA, l, none⟩ (.slice ea (RK.length + 1) ec) = wd at *
                  -- the value
                  have hwd := O4.kp.size
                  have BB := below_alloc8 wd (.cells #[.slice (some ⟨o3, 0, none⟩) D D] 27)
                  have CM := cellRows_new wd (.slice (some ⟨o3, 0, none⟩) D D)
                  obtain ⟨ub, uc', vt, e1, e2, e3⟩ := O4.at false l hlt2 HEB.out
                  have c2 : wd.cell? ⟨gB, l, none⟩ = some (.slice ub RV.length uc') := e1
                  generalize hwe : wd.alloc (.cells #[.slice (some ⟨o3, 0, none⟩) D D] 27) = we at *
                  have O5 := O4.below BB hwd
                  have HE1 : Hid (we.cell? ⟨cond false gA gB, l, none⟩ = some (.slice ub RV.length uc')) := cell_keep e1 BB
                  have HE2 : Hid (we.ownsRow wk.heap.size 27 1 (.slice ub RV.length uc') RV.length vt) := owns_below e2 BB
                  have HE3 : Hid (∀ j, j < RV.length → ∃ gr, vt[j]? = some (.slice (some ⟨gr, 0, none⟩) D D) ∧ Fresh we wk.heap.size gr D D (rowOf RV j)) := fun j hj => let ⟨g, a, b⟩ := e3 j hj; ⟨g, a, b.below BB⟩
                  replace F1' := F1'.below BB
                  replace F3' := F3'.below BB
                  have hwe' := BB.size
                  clear e1 e2 e3 O4
                  go_wp2_with (at_builtin; refine wpList_append_hr rfl _ _ rfl wk.heap.size (.slice ub RV.length uc') RV.length vt rfl (by exact HE2.out) ⟨wd.heap.size, 0, none⟩ 1 1 [.slice (some ⟨o3, 0, none⟩) D D] rfl rfl (one_at CM) (by intro v hv; simp at hv; subst hv; rfl) (by omega) (by omega) ?_; intro eb ec' w10 OB GB10 NB10 _; obtain ⟨d1, d2⟩ : w10.cell? ⟨gB, l, none⟩ = some (.slice ub RV.length uc') ∧ w10.frozen? ⟨gB, l, none⟩ = false := O5.grown HE2.out GB10 false l HE1.out)
                  have O6 := O5.step (FA' := (fun t => keysR (layAt M t) D (rowsL M D H Hd (P.take (if t < (l + 1) then i + 1 else i)) t))) (FB' := (fun t => valsR (layAt M t) D (rowsL M D H Hd (P.take (if t < (l + 1) then i + 1 else i)) t))) false l hlt2 HEB.out (by omega) HE1.out HE2.out HE3.out OB GB10 NB10 F3' HQ2.out (fun s' t' _ hn => by
                    cases s'
                    · exact (HQ3.out t' (hn.resolve_left (fun q => q rfl))).2
                    · rfl)
                  have F1'' := O5.keepF (u' := .slice eb (RV.length + 1) ec') HE2.out GB10 false l F1'
                  go_roundg (L - (l + 1))
                  case measure => omega
                  case rel => exact ⟨l + 1, o1, D, by omega, rfl, by go_num, rfl, F1''.mono (Nat.zero_le _), O6⟩
              · obtain rfl : L = l := by omega
                go_wp2_with fail
                go_roundg (l1 - (i + 1))
                case measure => omega
                case rel =>
                  refine ⟨i + 1, gr, D, cr, _, by omega, rfl, by go_num, rfl, FR, fun _ => ⟨rfl, ?_⟩, OO.congr (fun t ht => ?_) (fun t ht => ?_)⟩
                  · rw [HSP.out, rowsL_one, Nat.add_sub_cancel]
                    have h9 := rowOf_last (rowsL M D H Hd (P.take i) L) (xs1 M D H Hd (P.take i) (el P i) L)
                    rw [rowsL_len, HTL.out] at h9
                    exact h9.symm
                  · show _ = keysR _ _ (rowsL _ _ _ _ (P.take (if t < L then i + 1 else i)) t)
                    rw [if_pos ht]
                  · show _ = valsR _ _ (rowsL _ _ _ _ (P.take (if t < L then i + 1 else i)) t)
                    rw [if_pos ht]
          · obtain rfl : l1 = i := by omega
            have SS := HS.out _ OO.kp
            have hPt : P.take l1 = P := List.take_of_length_le (by rw [HL1.out]; omega)
            obtain ⟨hn9, hX9⟩ := HX (by omega)
            obtain rfl : D = n := hn9.symm
            rw [hX9, hPt] at FR
            rw [hPt] at OO
            clear hX9
            obtain ⟨fr1, fr2, fr3, fr4⟩ := fullK_rows (M := M) (D := D) (H := H) (Hd := Hd) (L := L) pp3 (by rw [HL1.out]; omega) (by rw [HL1.out]; omega)
            rw [HL1.out] at fr1 fr2
            have KC := OO.cube true fr3 (by omega) (fun t ht => fullK_at M D H Hd L P ht) (fun t ht => by rw [fr1 t ht]; omega)
            have VC := OO.cube false fr4 (by omega) (fun t ht => fullV_at M D H Hd L P ht) (fun t ht => by rw [fr2 t ht]; omega)
            simp only [cond_true, cond_false] at KC VC
            have HLK : Hid (fullX M V D H Hd L P = likR M V D (rowOf (rowsL M D H Hd P L) (l1 - 1))) := by show _ = _; unfold fullX; rw [HL1.out]
            clear OO HX fr1 fr2 fr3 fr4 hPt HS HR HBK HTK HPK
            go_wp2_with fail
            refine (CW _ SS.kp).mono ?_
            rintro e wq ⟨rfl, Bq⟩
            replace SS := SS.below Bq
            have c0 : wq.cell? ⟨w6.heap.size, 0, none⟩ = some (.slice (some ⟨gK, 0, none⟩) L L) := SS.xc.cell 0 rfl
            go_wp2_with fail
            refine (cubeSame_eq _ _ L _ _ _ wq (KC.below Bq) SS.ck).mono ?_
            rintro e wp ⟨rfl, m1, hm1⟩
            have B1' : Below wq.heap.size wq wp := by rw [hm1]; exact below_drewN (Below.refl _ _) m1
            clear hm1 c0
            replace SS := SS.below B1'
            have c1 : wp.cell? ⟨w6.heap.size, 1, none⟩ = some (.slice (some ⟨gV, 0, none⟩) L L) := SS.xc.cell 1 rfl
            go_wp2_with fail
            refine (cubeSame_eq _ _ L _ _ _ wp ((VC.below Bq).below B1') SS.cv).mono ?_
            rintro e wp2 ⟨rfl, m2, hm2⟩
            have B2' : Below wp.heap.size wp wp2 := by rw [hm2]; exact below_drewN (Below.refl _ _) m2
            clear hm2 c1
            replace SS := SS.below B2'
            have X1 := SS.x1
            have CL := likes_any V D H WW bs M (some ⟨gr, 0, none⟩) cr _ wp2 SS.gd.wt (((FR.below Bq).below B1').below B2').rowAt (by omega) (by omega)
            rw [← HLK.out] at CL
            rw [← HWS.out] at X1
            have g0 : wp2.cell? ⟨w2.heap.size, 0, none⟩ = some (.int .i64 WW.e.r) := X1.cell 0 rfl
            have g1 : wp2.cell? ⟨w2.heap.size, 1, none⟩ = some (.int .i64 WW.e.c) := X1.cell 1 rfl
            have g2 : wp2.cell? ⟨w2.heap.size, 2, none⟩ = some WW.e.d.v := X1.cell 2 rfl
            have g3 : wp2.cell? ⟨w2.heap.size, 3, none⟩ = some WW.b.v := X1.cell 3 rfl
            have g4 : wp2.cell? ⟨w2.heap.size, 4, none⟩ = some WW.l.v := X1.cell 4 rfl
            have g5 : wp2.cell? ⟨w2.heap.size, 5, none⟩ = some (.int .i64 WW.o.r) := X1.cell 5 rfl
            have g6 : wp2.cell? ⟨w2.heap.size, 6, none⟩ = some (.int .i64 WW.o.c) := X1.cell 6 rfl
            have g7 : wp2.cell? ⟨w2.heap.size, 7, none⟩ = some WW.o.d.v := X1.cell 7 rfl
            unfold Wt.cells at CL
            generalize WW.e.r = z0 at g0 CL
            generalize WW.e.c = z1 at g1 CL
            generalize WW.e.d.v = z2 at g2 CL
            generalize WW.b.v = z3 at g3 CL
            generalize WW.l.v = z4 at g4 CL
            generalize WW.o.r = z5 at g5 CL
            generalize WW.o.c = z6 at g6 CL
            generalize WW.o.d.v = z7 at g7 CL
            go_wp2_with fail
            refine CL.mono ?_
            rintro e wp3 ⟨gl, rfl, FL, B3'⟩
            replace SS := SS.below B3'
            go_wp2_with fail
            refine (same_any _ _ V _ _ _ wp3 FL.rowAt SS.lk).mono ?_
            rintro e wp4 ⟨rfl, m4, hm4⟩
            have B4' : Below wp3.heap.size wp3 wp4 := by rw [hm4]; exact below_drewN (Below.refl _ _) m4
            clear hm4
            go_wp2
            go_ret
            exact ⟨rfl, below_then SS.kp B4'⟩
  · have hq' : (q == 0) = false := by simpa using hq
    go_wp2_with (refine wpList_store_row rfl 32 _ _ rfl w2.heap.size ws rfl rfl 32 _ XZ (by rw [siz]; exact Tryd.infoW) (by rw [siz]; rfl) one ?_; rw [hwy])
    go_wp2_with fail
    refine (CW _ D3).mono ?_
    rintro e wq ⟨rfl, Bq⟩
    go_wp2
    go_ret
    exact ⟨rfl, below_then D3 Bq⟩
end Go.Proofs.YtlmdjhdlfdandaaDoor

/- The given statement on PassOne: at every input the law returns true and its arguments read as before; the listed table lies as the program's text lays it (the card ties it). -/
namespace Go.Proofs.YtlmdjhdlfdandaaDoor.passOne
open Go.ChangeShapes Go.WideShapes Go.ChangeAt Go.WideMaps Go.WideElems Go.RowKit
set_option linter.unusedVariables false
abbrev lst : List (String × DataW Unit) := Rows.passOneRow.laid
theorem door_met (os : Os) (args : Array Value) : laidMetH Tryd.prog lst ((World.doorLaid Tryd.prog 14 os).forCall (fun _ _ => 0) ⟨#[], args, []⟩).memory :=
  laidMetH_of_parts3 (fuel := 8) (laidMet_of_run' 8 (by kernel_rfl) (by kernel_rfl)) (by kernel_rfl) (by kernel_rfl)
set_option maxRecDepth 100000 in
theorem lifted (os : Os) (started : os.Started) (H : Type) (enc : TypeId × Value → H) :
    ReturnsInHanded {} Tryd.checked os 3 .any (fun w args => (Rows.passOneSpec.pre enc Tryd.prog Tryd.f3 [] false w args ∧ laidMetH Tryd.prog lst w) ∧ sizedMet enc Tryd.prog Tryd.f3 (OpenSpec.ofChange Rows.passOneSpec) false w args)
      (Rows.passOneSpec.post enc Tryd.prog Tryd.f3 false true false false) := by
  refine returnsInHanded_of_change_and (C := Tryd.checked) (X := fun w _ => laidMetH Tryd.prog lst w) (fun _ _ _ hh h => h.of_heap hh) Tryd.own started (by kernel_rfl) Tryd.func3
    (ChangeSpec.witness_shaped (enc := enc) (C := Tryd.checked) (os := os) (X := fun w _ => laidMetH Tryd.prog lst w) false (World.doorLaid Tryd.prog 14 os) #[.agg #[.int .i64 0, .int .i64 0, .int .i64 0, .int .i64 0, .int .i64 0], .int .u64 0, .slice none 0 0] 8 rfl (World.shaped_of_RefB (by kernel_rfl) (by kernel_rfl)) (by kernel_rfl) (by kernel_rfl) (by kernel_rfl) (door_met os _)) ?_
  intro W base args ds gs before hval0 hW _ _ hL _
  have hval : ∀ (j : Nat) t v, Tryd.f3.params[j]? = some t → args[j]? = some v → Value.okWide Tryd.prog W .any base t v := hval0
  have hW' := hW
  obtain ⟨p, q, hA0, hV, rfl, _, _⟩ := hW
  have hA : DataW.TrodAll enc Tryd.prog W 0 (fun _ => true) true Tryd.f3.params.toList args.toList ds p := hA0
  rw [Tryd.params3] at hA hval
  obtain ⟨v0, vs0, d0, ds0, p0, q0, hargs, rfl, rfl, h0, r0⟩ := trodAll_cons hA
  obtain ⟨v1, vs1, d1, ds1, p1, q1, rfl, rfl, rfl, h1, r1⟩ := trodAll_cons r0
  obtain ⟨v2, vs2, d2, ds2, p2, q2, rfl, rfl, rfl, h2, r2⟩ := trodAll_cons r1
  obtain ⟨rfl, rfl, rfl⟩ := trodAll_nil r2
  obtain rfl : args = #[v0, v1, v2] := by cases args; simp_all
  obtain ⟨rfl, rfl⟩ := trodVars_none hV
  have k0 := h0
  obtain ⟨C0, rfl, g0⟩ := viewCfg (hval 0 _ v0 rfl rfl) h0
  have k1 := h1
  obtain ⟨a1, rfl, rfl, rfl, w1⟩ := open_int Tryd.underlying24 (hval 1 24 v1 rfl rfl) h1
  have b1 := bounds_u64 w1
  have k2 := h2
  obtain ⟨a2, n2, c2, Z2, rfl, g2⟩ := viewI (hval 2 _ v2 rfl rfl) h2
  clear hA0 hval0
  simp only [List.append_nil] at hW'
  have hlt : ∀ x ∈ p0 ++ p2, x.block < W.heap.size := fun x hx => by
    have hx2 := hx
    exact hW'.lt x (by grind)
  refine (passOne_walk C0 a1 a2 n2 c2 Z2 W g0 b1 g2 (tab_of_laid hL)).mono fun e W' ⟨he, hb⟩ => ?_
  subst he
  exact ⟨_, rfl, _, _, _, [], _, [], hW', trodAll_mk1 (shut_bool Tryd.underlying4 true), trodAll_cons_mk (Below.trod Tryd.laidOut (by kernel_rfl) (of_decide_eq_true (by kernel_rfl)) k0 hb (fun x hx => hlt x (by simp [hx]))) (trodAll_cons_mk (shut_int Tryd.underlying24 w1) (trodAll_cons_mk (Below.trod Tryd.laidOut (by kernel_rfl) (of_decide_eq_true (by kernel_rfl)) k2 hb (fun x hx => hlt x (by simp [hx]))) trodAll_mk0)), rfl, hb.frame _, fun h => by cases h⟩
theorem row_holds : Rows.PassOneSaid :=
  OpenClaim.holds_of_wide 3 Tryd.f3 rfl rfl rfl rfl rfl rfl rfl ⟨rfl, rfl, rfl, rfl, rfl⟩ rfl rfl rfl rfl rfl (by kernel_rfl) Tryd.func3 (by kernel_rfl)
    (of_decide_eq_true (by kernel_rfl)) (by unfold Func.isWrapper; first | (rw [if_pos (by decide +kernel)]; kernel_rfl) | (rw [if_neg (by decide +kernel)]; exact ⟨rfl, rfl⟩))
    (fun os started H enc _ => lifted os started H enc)
/-- The given statement. -/
theorem card_holds : Rows.PassOneCardSaid :=
  Claim7.holds_tied_plain_at .later [] [.data] true (true, "32f124cfbdf71112324306fe0b06efce740a7303e4ab29f0e479723d69000f45") false
    row_holds (fun _ h => by cases h) (by kernel_rfl) (fun _ h => by cases h) passOne_row_tie rfl ⟨rfl, rfl⟩ (by kernel_rfl) rfl
    (fun f fn hf hfn => by
      obtain rfl : f = 3 := Option.some.inj ((show Tryd.prog.funcNamed Rows.passOneRow.func = some 3 by kernel_rfl).symm.trans hf) |>.symm
      obtain rfl : fn = Tryd.f3 := (Option.some.inj (Tryd.func3.symm.trans hfn)).symm
      exact ⟨by kernel_rfl, fun j t ht => by
        rw [Tryd.params3] at ht
        have hm : t ∈ [23, 24, 25] := by simpa using Array.mem_of_getElem? ht
        have hall : ([23, 24, 25].all fun u => !Tryd.prog.wantsStandIn u) = true := by kernel_rfl
        exact (show Tryd.prog.wantsStandIn t = false by simpa using List.all_eq_true.1 hall t hm)⟩)
    (by kernel_rfl)
end Go.Proofs.YtlmdjhdlfdandaaDoor.passOne
namespace Go.Proofs.YtlmdjhdlfdandaaDoor
theorem passOne_holds : Rows.PassOneCardSaid := passOne.card_holds
#print axioms passOne_holds
end Go.Proofs.YtlmdjhdlfdandaaDoor
