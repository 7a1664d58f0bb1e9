/- The given statement on PassBegins: at every input the law returns true and its arguments read as before; the listed table lies as the program's text lays it (the card ties it). -/
import Derived.Test.YtlmdjhdlfdandaaDoorPk7
import Derived.Test.YtlmdjhdlfdandaaDoorPk10
import Derived.Test.YtlmdjhdlfdandaaDoorPk5
import Derived.Deep.CutRange
import Derived.Test.YtlmdjhdlfdandaaDoorRows
import Derived.Test.YtlmdjhdlfdandaaDoorCards
import Derived.Test.YtlmdjhdlfdandaaDoorTie
import Derived.Test.YtlmdjhdlfdandaaDoorPk3
import Derived.ProofKit
import Derived.Carry
import Derived.LaidMore
import Derived.OpenShut
import Derived.Stop.Joined
import Derived.SevenTiedAt
/- The cache of a beginning is the beginning of the cache: the walk. -/
namespace Go.Proofs.YtlmdjhdlfdandaaDoor
open Go.ChangeShapes Go.WideShapes Go.ChangeAt Go.RowKit
/-- What stands behind the cache of the whole prompt. -/
structure PB (w wc : World) (V D Hd H L : Nat) (WW : Wt) (bs : List Bk) (M : Mdl) (ws : Array Value) (gW gC gK gV b1 l1 kq : Nat) (P : List Int) : Prop where
  x0 : Blk wc w.heap.size 23 #[.int .i64 (V : Int), .int .i64 (D : Int), .int .i64 (Hd : Int), .int .i64 (H : Int), .int .i64 (L : Int)]
  x1 : Blk wc gW 32 ws
  xc : Blk wc gC 41 #[.slice (some ⟨gK, 0, none⟩) L L, .slice (some ⟨gV, 0, none⟩) L L]
  gd : Good wc V D Hd H L WW bs M
  ap : IArg wc (some ⟨b1, 0, none⟩) l1 kq P
  ck : CubeAt wc (some ⟨gK, 0, none⟩) L (fullK M D H Hd L P)
  cv : CubeAt wc (some ⟨gV, 0, none⟩) L (fullV M D H Hd L P)
  kp : Below w.heap.size w wc
theorem PB.below {w wc wd : World} {V D Hd H L : Nat} {WW : Wt} {bs : List Bk} {M : Mdl} {ws : Array Value} {gW gC gK gV b1 l1 kq : Nat} {P : List Int} (h : PB w wc V D Hd H L WW bs M ws gW gC gK gV b1 l1 kq P) (hb : Below wc.heap.size wc wd) : PB w wd V D Hd H L WW bs M ws gW gC gK gV b1 l1 kq P := ⟨h.x0.below hb, h.x1.below hb, h.xc.below hb, h.gd.below hb, h.ap.below hb, h.ck.below hb, h.cv.below hb, below_then h.kp hb⟩
set_option maxRecDepth 100000 in
set_option maxHeartbeats 32000000 in
theorem passBegins_walk (C : Cfg) (sd : Int) (a1 : Option Addr) (n1 c1 : Nat) (Z1 : List Int) (nn : Int) (w : World) (hC : C.Ok) (bs : 0 ≤ sd ∧ sd ≤ 18446744073709551615) (h1 : IArg w a1 n1 c1 Z1) (_bn : -9223372036854775808 ≤ nn ∧ nn ≤ 9223372036854775807) (hT : Tab w) :
   Calls Tryd.prog 4 #[C.val, .int .u64 sd, .slice a1 n1 c1, .int .i64 nn] w fun e w' => e = .returned (.bool true) ∧ Below w.heap.size w w' := by
  obtain ⟨seed, rfl⟩ : ∃ n : Nat, sd = n := ⟨sd.toNat, by omega⟩
  have hsd : seed < 18446744073709551616 := by omega
  clear bs
  have HT : Hid (∀ wv, Below w.heap.size w wv → Tab wv) := fun wv hb => hT.next hb
  have CW := fun (wv : World) (hb : Below w.heap.size w wv) => raw8_any wv (HT.out wv hb)
  have CF1 := fun (wv : World) (hb : Below w.heap.size w wv) => few8_any a1 n1 c1 Z1 8 wv (h1.below hb) (by omega)
  have s1 : ∀ k, -9223372036854775808 ≤ el (Z1.take 8) k ∧ el (Z1.take 8) k ≤ 9223372036854775807 := fun k => by
    rcases Nat.lt_or_ge k 8 with h | h
    · rw [el_take h]; exact h1.row.small k
    · rw [el_over (by rw [List.length_take]; omega)]; omega
  have hP8 : (Z1.take 8).length ≤ 8 := by rw [List.length_take]; omega
  have M0 := fun wv => make_gen C hC seed hsd wv
  have CS := fun wv => small8_any C.V C.D C.Hd C.H C.L wv
  have hu : ∀ C : Cfg, cfgC C.V C.D C.Hd C.H C.L = #[.int .i64 C.V, .int .i64 C.D, .int .i64 C.Hd, .int .i64 C.H, .int .i64 C.L] := fun _ => rfl
  unfold Cfg.val at *
  rw [hu] at M0 CS ⊢
  clear hT h1 hC
  have X0 := blk_new w 23 #[.int .i64 C.V, .int .i64 C.D, .int .i64 C.Hd, .int .i64 C.H, .int .i64 C.L]
  have B0 : Below w.heap.size w (w.alloc (.cells #[.int .i64 C.V, .int .i64 C.D, .int .i64 C.Hd, .int .i64 C.H, .int .i64 C.L] 23)) := (Below.refl _ _).alloc (Nat.le_refl _) _
  have z0 : w.heap.size < (w.alloc (.cells #[.int .i64 C.V, .int .i64 C.D, .int .i64 C.Hd, .int .i64 C.H, .int .i64 C.L] 23)).heap.size := by simp
  generalize hw0 : w.alloc (.cells #[.int .i64 C.V, .int .i64 C.D, .int .i64 C.Hd, .int .i64 C.H, .int .i64 C.L] 23) = w0 at *
  go_enter Tryd.func4, Tryd.ntmps4
  go_wp2_with fail
  refine (CF1 _ B0).mono ?_
  rintro e w1 ⟨b1, kq, rfl, O1, B1⟩
  generalize Z1.take 8 = P at *
  obtain ⟨l1, hl1⟩ : ∃ l1, P.length = l1 := ⟨_, rfl⟩
  have HL1 : Hid (P.length = l1) := hl1
  rw [hl1] at O1 hP8 ⊢
  clear hl1
  have D1 := below_then B0 B1
  replace X0 := X0.below B1
  clear hw0 CF1 B0 B1
  obtain ⟨x1, y1, e1, I1⟩ := IOwn.arg O1 s1
  simp only [Value.slice.injEq, true_and] at e1
  obtain ⟨rfl, rfl⟩ := e1
  have gw0 : w.heap.size < w0.heap.size := z0
  clear O1 z0
  have a0 : w1.cell? ⟨w.heap.size, 0, none⟩ = some (.int .i64 C.V) := X0.cell 0 rfl
  have a1 : w1.cell? ⟨w.heap.size, 1, none⟩ = some (.int .i64 C.D) := X0.cell 1 rfl
  have a2 : w1.cell? ⟨w.heap.size, 2, none⟩ = some (.int .i64 C.Hd) := X0.cell 2 rfl
  have a3 : w1.cell? ⟨w.heap.size, 3, none⟩ = some (.int .i64 C.H) := X0.cell 3 rfl
  have a4 : w1.cell? ⟨w.heap.size, 4, none⟩ = some (.int .i64 C.L) := X0.cell 4 rfl
  go_wp2_with fail
  refine (M0 w1).mono ?_
  rintro e w2 ⟨ws, q, rfl, MM, B2⟩
  replace X0 := X0.below B2
  replace I1 := I1.below B2
  have D2 := below_then D1 B2
  clear a0 a1 a2 a3 a4 B2 D1
  have siz := MM.size
  have one := MM.one
  have XZ := blk_new w2 32 #[.int .i64 0, .int .i64 0, .slice none 0 0, .slice none 0 0, .slice none 0 0, .int .i64 0, .int .i64 0, .slice none 0 0]
  have BZ : Below w2.heap.size w2 (w2.alloc (.cells #[.int .i64 0, .int .i64 0, .slice none 0 0, .slice none 0 0, .slice none 0 0, .int .i64 0, .int .i64 0, .slice none 0 0] 32)) := (Below.refl _ _).alloc (Nat.le_refl _) _
  generalize hwz : w2.alloc (.cells #[.int .i64 0, .int .i64 0, .slice none 0 0, .slice none 0 0, .slice none 0 0, .int .i64 0, .int .i64 0, .slice none 0 0] 32) = wz at *
  have X1 := XZ.row ws
  have BR := below_setRow BZ (Nat.le_refl _) ws
  generalize hwy : wz.setRow w2.heap.size ws = wy at *
  replace X0 := X0.below BR
  replace I1 := I1.below BR
  replace MM := MM.below BR
  have D3 := below_then D2 BR
  have a0 : wy.cell? ⟨w.heap.size, 0, none⟩ = some (.int .i64 C.V) := X0.cell 0 rfl
  have a1 : wy.cell? ⟨w.heap.size, 1, none⟩ = some (.int .i64 C.D) := X0.cell 1 rfl
  have a2 : wy.cell? ⟨w.heap.size, 2, none⟩ = some (.int .i64 C.Hd) := X0.cell 2 rfl
  have a3 : wy.cell? ⟨w.heap.size, 3, none⟩ = some (.int .i64 C.H) := X0.cell 3 rfl
  have a4 : wy.cell? ⟨w.heap.size, 4, none⟩ = some (.int .i64 C.L) := X0.cell 4 rfl
  by_cases hq : q = 0
  · subst hq
    obtain ⟨V, D, Hd, H, L, ge, gB, gl, go, e1, e2, e3, e4, e5, hcs, MW⟩ := MM.ok rfl
    have hsh : shapeN V D Hd H L = 0 := by rw [← e1, ← e2, ← e3, ← e4, ← e5]; exact MM.err.symm
    obtain ⟨bs, GD⟩ := made_good (Hd := Hd) MW hsh
    have hws : (mkW V D L ge gB gl go).cells = ws := by rw [hcs]; rfl
    obtain ⟨VV, DD, HHd, HH, LL⟩ := C
    simp only at e1 e2 e3 e4 e5
    subst e1 e2 e3 e4 e5
    have hk := shape_ok hsh
    have GD2 : Good wy V D Hd H L (mkW V D L ge gB gl go) bs (mdlS seed V D H L) := GD
    generalize mdlS seed V D H L = M at *
    generalize hWW : mkW V D L ge gB gl go = WW at *
    clear MM MW hcs GD hWW
    have FO := fun (ao : Option Addr) (n ca : Nat) (A : List Int) (wv : World) (g2 : Good wv V D Hd H L WW bs M) (g5 : IArg wv ao n ca A) (g1 : Tab wv) (g6 : promptN V A = 0) => full_ok V D Hd H L WW bs M ao n ca A wv g2 g5 g1 g6
    rw [hws] at FO
    unfold cfgC at FO
    clear hws
    go_wp2_with (refine wpList_store_row rfl 32 _ _ rfl w2.heap.size ws rfl rfl 32 _ XZ (by rw [siz]; exact Tryd.infoW) (by rw [siz]; rfl) one ?_; rw [hwy])
    refine (CS _).mono ?_
    rintro e w4 ⟨rfl, B4⟩
    replace X0 := X0.below B4
    replace X1 := X1.below B4
    have AP := I1.below B4
    have G4 := GD2.below B4
    have D4 := below_then D3 B4
    clear a0 a1 a2 a3 a4 hwz hwy XZ BZ BR CS D2 D3 B4 I1 GD2
    generalize smallN (D : Int) (H : Int) (L : Int) = sq at *
    have a0 : w4.cell? ⟨w.heap.size, 0, none⟩ = some (.int .i64 (V : Int)) := X0.cell 0 rfl
    have a1 : w4.cell? ⟨w.heap.size, 1, none⟩ = some (.int .i64 (D : Int)) := X0.cell 1 rfl
    have a2 : w4.cell? ⟨w.heap.size, 2, none⟩ = some (.int .i64 (Hd : Int)) := X0.cell 2 rfl
    have a3 : w4.cell? ⟨w.heap.size, 3, none⟩ = some (.int .i64 (H : Int)) := X0.cell 3 rfl
    have a4 : w4.cell? ⟨w.heap.size, 4, none⟩ = some (.int .i64 (L : Int)) := X0.cell 4 rfl
    by_cases hs0 : sq = 0
    · subst hs0
      go_wp2_with fail
      refine (CW _ D4).mono ?_
      rintro e wq ⟨rfl, Bq⟩
      go_wp2
      go_ret
      exact ⟨rfl, below_then D4 Bq⟩
    · have hs0' : (sq == 0) = false := by simpa using hs0
      have CP := prompt_any V D Hd H L (some ⟨b1, 0, none⟩) l1 kq P w4 AP
      unfold cfgC at CP
      by_cases hqa : promptN V P = 0
      rotate_left
      · generalize promptN V P = pq at *
        have hqb : (pq == 0) = false := by simpa using hqa
        go_wp2_with fail
        refine CP.mono ?_
        rintro e w5 ⟨rfl, B5⟩
        have D5 := below_then D4 B5
        go_wp2_with fail
        refine (CW _ D5).mono ?_
        rintro e wq ⟨rfl, Bq⟩
        go_wp2
        go_ret
        exact ⟨rfl, below_then D5 Bq⟩
      rw [hqa] at CP
      go_wp2_with fail
      refine CP.mono ?_
      rintro e w5 ⟨rfl, B5⟩
      have D5 := below_then D4 B5
      replace X0 := X0.below B5
      replace X1 := X1.below B5
      replace AP := AP.below B5
      replace G4 := G4.below B5
      clear a0 a1 a2 a3 a4 D4 B5 CP
      have a0 : w5.cell? ⟨w.heap.size, 0, none⟩ = some (.int .i64 (V : Int)) := X0.cell 0 rfl
      have a1 : w5.cell? ⟨w.heap.size, 1, none⟩ = some (.int .i64 (D : Int)) := X0.cell 1 rfl
      have a2 : w5.cell? ⟨w.heap.size, 2, none⟩ = some (.int .i64 (Hd : Int)) := X0.cell 2 rfl
      have a3 : w5.cell? ⟨w.heap.size, 3, none⟩ = some (.int .i64 (H : Int)) := X0.cell 3 rfl
      have a4 : w5.cell? ⟨w.heap.size, 4, none⟩ = some (.int .i64 (L : Int)) := X0.cell 4 rfl
      by_cases hn1 : nn < 1
      · go_wp2_with fail
        refine (CW _ D5).mono ?_
        rintro e wq ⟨rfl, Bq⟩
        go_wp2
        go_ret
        exact ⟨rfl, below_then D5 Bq⟩
      by_cases hn2 : (l1 : Int) < nn
      · go_wp2_with fail
        refine (CW _ D5).mono ?_
        rintro e wq ⟨rfl, Bq⟩
        go_wp2
        go_ret
        exact ⟨rfl, below_then D5 Bq⟩
      obtain ⟨n, rfl⟩ : ∃ n : Nat, nn = n := ⟨nn.toNat, by omega⟩
      obtain ⟨pp1, pp2, pp3⟩ := prompt_ok hqa
      have hL1 := HL1.out
      have CFu := FO (some ⟨b1, 0, none⟩) l1 kq P w5 G4 AP (HT.out _ D5) hqa
      have hpn : promptN V (P.take n) = 0 := by
        have h9 : (P.take n).all (tokB V) = true := by
          have := pp3
          rw [← List.take_append_drop n P, List.all_append, Bool.and_eq_true] at this
          exact this.1
        unfold promptN
        rw [List.length_take, if_neg (by omega), if_neg (by omega), if_pos h9]
      have fk : l1 ≤ kq := AP.fit
      have HFC : Hid _ := full_cut (M := M) (D := D) (H := H) (Hd := Hd) (L := L) pp3 (show 1 ≤ n by omega) (by omega) pp2
      obtain ⟨fr1, fr2, fr3, fr4⟩ := fullK_rows (M := M) (D := D) (H := H) (Hd := Hd) (L := L) pp3 pp1 pp2
      rw [hL1] at fr1 fr2
      clear hL1
      go_wp2_with (refine wpList_load_row rfl 32 _ rfl w2.heap.size rfl 32 ws (0, 0) _ X1 Tryd.underlying32 rfl (by rw [siz]; exact Tryd.infoW) ?_)
      refine CFu.mono ?_
      rintro e w6 ⟨gx, gK, gV, rfl, FX, NK, NV, B6⟩
      have D6 := below_then D5 B6
      replace X0 := X0.below B6
      replace X1 := X1.below B6
      replace AP := AP.below B6
      replace G4 := G4.below B6
      clear a0 a1 a2 a3 a4 CFu D5 FX
      obtain ⟨XE, XF, BF, _⟩ := var3 w6 41 #[.slice none 0 0, .slice none 0 0] #[.slice (some ⟨gK, 0, none⟩) L L, .slice (some ⟨gV, 0, none⟩) L L]
      generalize hwe : w6.alloc (.cells #[.slice none 0 0, .slice none 0 0] 41) = we at *
      generalize hwf : we.setRow w6.heap.size #[.slice (some ⟨gK, 0, none⟩) L L, .slice (some ⟨gV, 0, none⟩) L L] = wf at *
      replace X0 := X0.below BF
      replace X1 := X1.below BF
      replace AP := AP.below BF
      replace G4 := G4.below BF
      replace NK := NK.below BF
      replace NV := NV.below BF
      replace D6 := below_then D6 BF
      go_upto_region 6 with (refine wpList_store_row rfl 41 _ _ rfl w6.heap.size _ rfl rfl 41 _ XE Tryd.infoCa rfl (by simp [Value.oneCell']) ?_; rw [hwf])
      have SN : PB w wf V D Hd H L WW bs M ws w2.heap.size w6.heap.size gK gV b1 l1 kq P := ⟨X0, X1, XF, G4, AP, NK.now, NV.now, D6⟩
      clear X0 X1 XE XF G4 AP NK NV D6 BF hwe hwf B6
      have CFn := fun (wv : World) (S : PB w wv V D Hd H L WW bs M ws w2.heap.size w6.heap.size gK gV b1 l1 kq P) => FO (some ⟨b1, 0, none⟩) n kq (P.take n) wv S.gd (S.ap.take (by omega)) (HT.out _ S.kp) hpn
      clear FO
      go_cut [14, 15, 16] from 60 (fun s14 s15 s16 wc => ∃ gA gk gv, s15 = .pointer (some ⟨gA, 0, none⟩) ∧ s16 = .int .i64 0 ∧ PB w wc V D Hd H L WW bs M ws w2.heap.size w6.heap.size gK gV b1 l1 kq P ∧ Blk wc gA 41 #[.slice (some ⟨gk, 0, none⟩) L L, .slice (some ⟨gv, 0, none⟩) L L] ∧ CubeAt wc (some ⟨gk, 0, none⟩) L (fullK M D H Hd L (P.take n)) ∧ CubeAt wc (some ⟨gv, 0, none⟩) L (fullV M D H Hd L (P.take n)))
      case first =>
        have S0 := SN.below ((Below.refl _ _).drew)
        refine wp_region_held_drew (S := fun w' => Blk w' w.heap.size 23 #[.int .i64 (V : Int), .int .i64 (D : Int), .int .i64 (Hd : Int), .int .i64 (H : Int), .int .i64 (L : Int)] ∧ Blk w' w2.heap.size 32 ws) (by kernel_rfl) (⟨S0.x0, S0.x1⟩) (fun hHeld => ?_)
        generalize hA : wf.drew = wA at *
        clear hA SN
        refine wpAnyH_take (i := 0) (v := (.agg #[.int .i64 (V : Int), .int .i64 (D : Int), .int .i64 (Hd : Int), .int .i64 (H : Int), .int .i64 (L : Int)])) rfl (by kernel_rfl) (by kernel_rfl) (by kernel_rfl) (fun _ _ _ h => h) (Or.inl ⟨by rfl, ?_⟩) (by assumption) ?_
        · intro w' hSw
          have cc0 : w'.cell? ⟨w.heap.size, 0, none⟩ = some (.int .i64 (V : Int)) := hSw.1.cell 0 rfl
          have cc1 : w'.cell? ⟨w.heap.size, 1, none⟩ = some (.int .i64 (D : Int)) := hSw.1.cell 1 rfl
          have cc2 : w'.cell? ⟨w.heap.size, 2, none⟩ = some (.int .i64 (Hd : Int)) := hSw.1.cell 2 rfl
          have cc3 : w'.cell? ⟨w.heap.size, 3, none⟩ = some (.int .i64 (H : Int)) := hSw.1.cell 3 rfl
          have cc4 : w'.cell? ⟨w.heap.size, 4, none⟩ = some (.int .i64 (L : Int)) := hSw.1.cell 4 rfl
          go_simp
        simp only [List.getElem_toArray, List.getElem_cons_zero, Act.put, List.setIfInBounds_toArray, List.set_cons_zero, List.set_cons_succ]
        refine wpAnyH_take (i := 1) (v := (.agg ws)) rfl (by kernel_rfl) (by kernel_rfl) (by kernel_rfl) (fun _ _ _ h => h) (Or.inl ⟨by rfl, ?_⟩) (by assumption) ?_
        · intro w' hSw
          exact yield_row 32 _ rfl w2.heap.size rfl ws (load_w hSw.2 siz)
        simp only [List.getElem_toArray, List.getElem_cons_succ, List.getElem_cons_zero, Act.put, List.setIfInBounds_toArray, List.set_cons_zero, List.set_cons_succ]
        refine wpAnyH_take (i := 2) (v := (.slice (some ⟨b1, 0, none⟩) l1 kq)) rfl (by kernel_rfl) (by kernel_rfl) (by kernel_rfl) (fun _ _ _ h => h) (Or.inl ⟨by rfl, ?_⟩) (by assumption) ?_
        · intro w' hSw
          go_simp
        simp only [List.getElem_toArray, List.getElem_cons_succ, List.getElem_cons_zero, Act.put, List.setIfInBounds_toArray, List.set_cons_zero, List.set_cons_succ]
        refine wpAnyH_take (i := 3) (v := (.int .i64 (n : Int))) rfl (by kernel_rfl) (by kernel_rfl) (by kernel_rfl) (fun _ _ _ h => h) (Or.inl ⟨by rfl, ?_⟩) (by assumption) ?_
        · intro w' hSw
          go_simp
        simp only [List.getElem_toArray, List.getElem_cons_succ, List.getElem_cons_zero, Act.put, List.setIfInBounds_toArray, List.set_cons_zero, List.set_cons_succ]
        refine wpAnyH_take (i := 4) (v := (.slice (some ⟨b1, 0, none⟩) n kq)) rfl (by kernel_rfl) (by kernel_rfl) (by kernel_rfl) (fun _ _ _ h => h) (Or.inl ⟨by rfl, ?_⟩) (by assumption) ?_
        · intro w' hSw
          (go_simp; intro hbad; exfalso; omega)
        simp only [List.getElem_toArray, List.getElem_cons_succ, List.getElem_cons_zero, Act.put, List.setIfInBounds_toArray, List.set_cons_zero, List.set_cons_succ]
        refine wpAnyH_ready (rs := [5, 10]) (by kernel_rfl) (by simp) ?_
        refine AllReadyH.cons rfl (fun Kc hKc => ?_) (AllReadyH.cons rfl (fun Kc hKc => ?_) AllReadyH.nil)
        · simp only [List.getElem_toArray, List.getElem_cons_succ, List.getElem_cons_zero]
          rw [if_pos (by rfl)]
          go_wp2_with fail
          refine (CFn wA (S0)).mono ?_
          rintro e wN1 ⟨gy, gk, gv, rfl, FY, NKn, NVn, EC⟩
          go_wp2_with fail
          have S1 := S0.below EC
          refine hKc.out _ _ ⟨(S1).x0, (S1).x1⟩ (fun hHeld => ?_)
          clear hKc Kc
          refine wpAnyH_take (i := 6) (v := (.tuple #[.slice (some ⟨gy, 0, none⟩) V V, .agg #[.slice (some ⟨gk, 0, none⟩) L L, .slice (some ⟨gv, 0, none⟩) L L], .int .i64 0])) rfl (by kernel_rfl) (by kernel_rfl) (by kernel_rfl) (fun _ _ _ h => h) (Or.inl ⟨by rfl, ?_⟩) (by assumption) ?_
          · intro w' hSw
            go_simp
          simp only [List.getElem_toArray, List.getElem_cons_succ, List.getElem_cons_zero, Act.put, List.setIfInBounds_toArray, List.set_cons_zero, List.set_cons_succ]
          refine wpAnyH_take (i := 7) (v := (.slice (some ⟨gy, 0, none⟩) V V)) rfl (by kernel_rfl) (by kernel_rfl) (by kernel_rfl) (fun _ _ _ h => h) (Or.inl ⟨by rfl, ?_⟩) (by assumption) ?_
          · intro w' hSw
            go_simp
          simp only [List.getElem_toArray, List.getElem_cons_succ, List.getElem_cons_zero, Act.put, List.setIfInBounds_toArray, List.set_cons_zero, List.set_cons_succ]
          refine wpAnyH_take (i := 8) (v := (.agg #[.slice (some ⟨gk, 0, none⟩) L L, .slice (some ⟨gv, 0, none⟩) L L])) rfl (by kernel_rfl) (by kernel_rfl) (by kernel_rfl) (fun _ _ _ h => h) (Or.inl ⟨by rfl, ?_⟩) (by assumption) ?_
          · intro w' hSw
            go_simp
          simp only [List.getElem_toArray, List.getElem_cons_succ, List.getElem_cons_zero, Act.put, List.setIfInBounds_toArray, List.set_cons_zero, List.set_cons_succ]
          refine wpAnyH_take (i := 9) (v := (.int .i64 0)) rfl (by kernel_rfl) (by kernel_rfl) (by kernel_rfl) (fun _ _ _ h => h) (Or.inl ⟨by rfl, ?_⟩) (by assumption) ?_
          · intro w' hSw
            go_simp
          simp only [List.getElem_toArray, List.getElem_cons_succ, List.getElem_cons_zero, Act.put, List.setIfInBounds_toArray, List.set_cons_zero, List.set_cons_succ]
          refine wpAnyH_ready (rs := [10]) (by kernel_rfl) (by simp) ?_
          refine AllReadyH.cons rfl (fun Kc hKc => ?_) AllReadyH.nil
          simp only [List.getElem_toArray, List.getElem_cons_succ, List.getElem_cons_zero]
          rw [if_pos (by rfl)]
          go_wp2_with fail
          have XA := blk_new wN1 41 #[.slice none 0 0, .slice none 0 0]
          have EA := below_alloc8 wN1 (.cells #[.slice none 0 0, .slice none 0 0] 41)
          generalize hn : wN1.alloc (.cells #[.slice none 0 0, .slice none 0 0] 41) = wN2 at *
          clear hn
          have S2 := S1.below EA
          refine hKc.out _ _ ⟨(S2).x0, (S2).x1⟩ (fun hHeld => ?_)
          clear hKc Kc
          refine wpAnyH_take (i := 11) (v := (.slice (some ⟨gy, 0, none⟩) V V)) rfl (by kernel_rfl) (by kernel_rfl) (by kernel_rfl) (fun _ _ _ h => h) (Or.inl ⟨by rfl, ?_⟩) (by assumption) ?_
          · intro w' hSw
            go_simp
          simp only [List.getElem_toArray, List.getElem_cons_succ, List.getElem_cons_zero, Act.put, List.setIfInBounds_toArray, List.set_cons_zero, List.set_cons_succ]
          refine wpAnyH_ready (rs := [12]) (by kernel_rfl) (by simp) ?_
          refine AllReadyH.cons rfl (fun Kc hKc => ?_) AllReadyH.nil
          simp only [List.getElem_toArray, List.getElem_cons_succ, List.getElem_cons_zero]
          rw [if_pos (by rfl)]
          refine wp_store_row 41 _ _ rfl wN1.heap.size #[.slice (some ⟨gk, 0, none⟩) L L, .slice (some ⟨gv, 0, none⟩) L L] rfl rfl 41 _ XA Tryd.infoCa rfl (by simp [Value.oneCell']) ?_
          have KB := below_setRow EA (Nat.le_refl _) #[.slice (some ⟨gk, 0, none⟩) L L, .slice (some ⟨gv, 0, none⟩) L L]
          have S3 := S1.below KB
          have CKn := NKn.now.below KB
          have CVn := NVn.now.below KB
          have XS := XA.row #[.slice (some ⟨gk, 0, none⟩) L L, .slice (some ⟨gv, 0, none⟩) L L]
          refine hKc.out _ _ ⟨(S3).x0, (S3).x1⟩ (fun hHeld => ?_)
          clear hKc Kc
          refine wpAnyH_take (i := 13) (v := (.int .i64 0)) rfl (by kernel_rfl) (by kernel_rfl) (by kernel_rfl) (fun _ _ _ h => h) (Or.inl ⟨by rfl, ?_⟩) (by assumption) ?_
          · intro w' hSw
            go_simp
          simp only [List.getElem_toArray, List.getElem_cons_succ, List.getElem_cons_zero, Act.put, List.setIfInBounds_toArray, List.set_cons_zero, List.set_cons_succ]
          refine wpAnyH_done (by kernel_rfl) ?_ _
          go_wp2_with fail
          go_meet
          case rel => exact ⟨wN1.heap.size, gk, gv, rfl, rfl, S3, XS, CKn, CVn⟩
        · simp only [List.getElem_toArray, List.getElem_cons_succ, List.getElem_cons_zero]
          rw [if_pos (by rfl)]
          go_wp2_with fail
          have XA := blk_new wA 41 #[.slice none 0 0, .slice none 0 0]
          have EA := below_alloc8 wA (.cells #[.slice none 0 0, .slice none 0 0] 41)
          generalize hn : wA.alloc (.cells #[.slice none 0 0, .slice none 0 0] 41) = wN1 at *
          clear hn
          have lA := XA.lt
          have S1 := S0.below EA
          refine hKc.out _ _ ⟨(S1).x0, (S1).x1⟩ (fun hHeld => ?_)
          clear hKc Kc
          refine wpAnyH_ready (rs := [5]) (by kernel_rfl) (by simp) ?_
          refine AllReadyH.cons rfl (fun Kc hKc => ?_) AllReadyH.nil
          simp only [List.getElem_toArray, List.getElem_cons_succ, List.getElem_cons_zero]
          rw [if_pos (by rfl)]
          go_wp2_with fail
          refine (CFn wN1 (S1)).mono ?_
          rintro e wN2 ⟨gy, gk, gv, rfl, FY, NKn, NVn, EC⟩
          go_wp2_with fail
          have S2 := S1.below EC
          replace XA := XA.below EC
          refine hKc.out _ _ ⟨(S2).x0, (S2).x1⟩ (fun hHeld => ?_)
          clear hKc Kc
          refine wpAnyH_take (i := 6) (v := (.tuple #[.slice (some ⟨gy, 0, none⟩) V V, .agg #[.slice (some ⟨gk, 0, none⟩) L L, .slice (some ⟨gv, 0, none⟩) L L], .int .i64 0])) rfl (by kernel_rfl) (by kernel_rfl) (by kernel_rfl) (fun _ _ _ h => h) (Or.inl ⟨by rfl, ?_⟩) (by assumption) ?_
          · intro w' hSw
            go_simp
          simp only [List.getElem_toArray, List.getElem_cons_succ, List.getElem_cons_zero, Act.put, List.setIfInBounds_toArray, List.set_cons_zero, List.set_cons_succ]
          refine wpAnyH_take (i := 7) (v := (.slice (some ⟨gy, 0, none⟩) V V)) rfl (by kernel_rfl) (by kernel_rfl) (by kernel_rfl) (fun _ _ _ h => h) (Or.inl ⟨by rfl, ?_⟩) (by assumption) ?_
          · intro w' hSw
            go_simp
          simp only [List.getElem_toArray, List.getElem_cons_succ, List.getElem_cons_zero, Act.put, List.setIfInBounds_toArray, List.set_cons_zero, List.set_cons_succ]
          refine wpAnyH_take (i := 8) (v := (.agg #[.slice (some ⟨gk, 0, none⟩) L L, .slice (some ⟨gv, 0, none⟩) L L])) rfl (by kernel_rfl) (by kernel_rfl) (by kernel_rfl) (fun _ _ _ h => h) (Or.inl ⟨by rfl, ?_⟩) (by assumption) ?_
          · intro w' hSw
            go_simp
          simp only [List.getElem_toArray, List.getElem_cons_succ, List.getElem_cons_zero, Act.put, List.setIfInBounds_toArray, List.set_cons_zero, List.set_cons_succ]
          refine wpAnyH_take (i := 9) (v := (.int .i64 0)) rfl (by kernel_rfl) (by kernel_rfl) (by kernel_rfl) (fun _ _ _ h => h) (Or.inl ⟨by rfl, ?_⟩) (by assumption) ?_
          · intro w' hSw
            go_simp
          simp only [List.getElem_toArray, List.getElem_cons_succ, List.getElem_cons_zero, Act.put, List.setIfInBounds_toArray, List.set_cons_zero, List.set_cons_succ]
          refine wpAnyH_take (i := 11) (v := (.slice (some ⟨gy, 0, none⟩) V V)) rfl (by kernel_rfl) (by kernel_rfl) (by kernel_rfl) (fun _ _ _ h => h) (Or.inl ⟨by rfl, ?_⟩) (by assumption) ?_
          · intro w' hSw
            go_simp
          simp only [List.getElem_toArray, List.getElem_cons_succ, List.getElem_cons_zero, Act.put, List.setIfInBounds_toArray, List.set_cons_zero, List.set_cons_succ]
          refine wpAnyH_ready (rs := [12]) (by kernel_rfl) (by simp) ?_
          refine AllReadyH.cons rfl (fun Kc hKc => ?_) AllReadyH.nil
          simp only [List.getElem_toArray, List.getElem_cons_succ, List.getElem_cons_zero]
          rw [if_pos (by rfl)]
          refine wp_store_row 41 _ _ rfl wA.heap.size #[.slice (some ⟨gk, 0, none⟩) L L, .slice (some ⟨gv, 0, none⟩) L L] rfl rfl 41 _ XA Tryd.infoCa rfl (by simp [Value.oneCell']) ?_
          have KB := below_setRow (below_then EA EC) (Nat.le_refl _) #[.slice (some ⟨gk, 0, none⟩) L L, .slice (some ⟨gv, 0, none⟩) L L]
          have S3 := S0.below KB
          have CKn := (Hangs.row NKn (g := wA.heap.size) (by show ¬ (_ ≤ _); omega) #[.slice (some ⟨gk, 0, none⟩) L L, .slice (some ⟨gv, 0, none⟩) L L]).now
          have CVn := (Hangs.row NVn (g := wA.heap.size) (by show ¬ (_ ≤ _); omega) #[.slice (some ⟨gk, 0, none⟩) L L, .slice (some ⟨gv, 0, none⟩) L L]).now
          have XS := XA.row #[.slice (some ⟨gk, 0, none⟩) L L, .slice (some ⟨gv, 0, none⟩) L L]
          refine hKc.out _ _ ⟨(S3).x0, (S3).x1⟩ (fun hHeld => ?_)
          clear hKc Kc
          refine wpAnyH_take (i := 13) (v := (.int .i64 0)) rfl (by kernel_rfl) (by kernel_rfl) (by kernel_rfl) (fun _ _ _ h => h) (Or.inl ⟨by rfl, ?_⟩) (by assumption) ?_
          · intro w' hSw
            go_simp
          simp only [List.getElem_toArray, List.getElem_cons_succ, List.getElem_cons_zero, Act.put, List.setIfInBounds_toArray, List.set_cons_zero, List.set_cons_succ]
          refine wpAnyH_done (by kernel_rfl) ?_ _
          go_wp2_with fail
          go_meet
          case rel => exact ⟨wA.heap.size, gk, gv, rfl, rfl, S3, XS, CKn, CVn⟩
      case rest =>
        obtain ⟨gA, gk, gv, rfl, rfl, S, XA, CKn, CVn⟩ := hcut
        rw [← HFC.out.1] at CKn
        rw [← HFC.out.2] at CVn
        clear CFn
        have c0 : wc.cell? ⟨w6.heap.size, 0, none⟩ = some (.slice (some ⟨gK, 0, none⟩) L L) := S.xc.cell 0 rfl
        have c1 : wc.cell? ⟨w6.heap.size, 1, none⟩ = some (.slice (some ⟨gV, 0, none⟩) L L) := S.xc.cell 1 rfl
        have a4 : wc.cell? ⟨w.heap.size, 4, none⟩ = some (.int .i64 (L : Int)) := S.x0.cell 4 rfl
        have TR := twoR_new wc
        have BT : Below wc.heap.size wc (wc.alloc (.cells #[] 49)) := below_alloc8 _ _
        generalize hn1' : wc.alloc (.cells #[] 49) = wn at *
        generalize hn2' : wn.alloc (.cells #[] 49) = wo at *
        have S9 := S.below TR.kp
        have d0 : wo.cell? ⟨w6.heap.size, 0, none⟩ = some (.slice (some ⟨gK, 0, none⟩) L L) := S9.xc.cell 0 rfl
        go_wp2_with fail
        clear c0 c1 a4 d0 hn1' hn2' BT
        obtain ⟨fK, hfK⟩ := cube_lists S.ck fr1 (by omega)
        obtain ⟨fV, hfV⟩ := cube_lists S.cv fr2 (by omega)
        have HFK : Hid (∀ wv, Below wc.heap.size wc wv → ∀ t, t < L → wv.cell? ⟨gK, t, none⟩ = some (.slice (some ⟨(fK t).1, (fK t).2.1, none⟩) l1 (fK t).2.2) ∧ l1 ≤ (fK t).2.2 ∧ (fK t).2.2 ≤ 9223372036854775807 ∧ GridAt wv (some ⟨(fK t).1, (fK t).2.1, none⟩) l1 ((fullK M D H Hd L P).getD t [])) := fun wv hb t ht => by
          obtain ⟨k1, k2, k3, k4⟩ := hfK t ht
          exact ⟨cell_keep k1 hb, k2, k3, k4.below hb⟩
        have HFV : Hid (∀ wv, Below wc.heap.size wc wv → ∀ t, t < L → wv.cell? ⟨gV, t, none⟩ = some (.slice (some ⟨(fV t).1, (fV t).2.1, none⟩) l1 (fV t).2.2) ∧ l1 ≤ (fV t).2.2 ∧ (fV t).2.2 ≤ 9223372036854775807 ∧ GridAt wv (some ⟨(fV t).1, (fV t).2.1, none⟩) l1 ((fullV M D H Hd L P).getD t [])) := fun wv hb t ht => by
          obtain ⟨k1, k2, k3, k4⟩ := hfV t ht
          exact ⟨cell_keep k1 hb, k2, k3, k4.below hb⟩
        have HS : Hid (∀ wv, Below wc.heap.size wc wv → PB w wv V D Hd H L WW bs M ws w2.heap.size w6.heap.size gK gV b1 l1 kq P ∧ Blk wv gA 41 #[.slice (some ⟨gk, 0, none⟩) L L, .slice (some ⟨gv, 0, none⟩) L L] ∧ CubeAt wv (some ⟨gk, 0, none⟩) L ((fullK M D H Hd L P).map (List.take n)) ∧ CubeAt wv (some ⟨gv, 0, none⟩) L ((fullV M D H Hd L P).map (List.take n))) := fun wv hb => ⟨S.below hb, XA.below hb, CKn.below hb, CVn.below hb⟩
        obtain ⟨q1, q2, q3, q4, q5, q6, q7, q8, q9, q10⟩ := hk
        clear S XA CKn CVn hfK hfV S9 fr1 fr2
        go_loopg [17, 18, 97] L (fun r s17 s18 s97 wr => ∃ k g1 c1 g2 c2, k ≤ L ∧ r = L - k ∧ s97 = .int .i64 (k : Int) ∧ s17 = .slice (some ⟨g1, 0, none⟩) k c1 ∧ s18 = .slice (some ⟨g2, 0, none⟩) k c2 ∧ TwoR wc wr g1 c1 g2 c2 k k (cutVs fK n k) (cutVs fV n k))
        case atStart => exact ⟨0, _, _, _, _, by omega, by omega, rfl, rfl, rfl, TR⟩
        case round =>
          obtain ⟨k, g1, c1, g2, c2, hkl, rfl, rfl, rfl, rfl, T2⟩ := hrel
          clear TR
          by_cases hlt : k < L
          · obtain ⟨S, -, -, -⟩ := HS.out _ T2.kp
            obtain ⟨e1, e2, e3, -⟩ := HFK.out _ T2.kp k hlt
            obtain ⟨f1, f2, f3, -⟩ := HFV.out _ T2.kp k hlt
            have HCK : Hid (cutVs fK n (k + 1) = cutVs fK n k ++ [Value.slice (some ⟨(fK k).1, (fK k).2.1, none⟩) n (fK k).2.2]) := cutVs_succ _ _ _
            have HCV : Hid (cutVs fV n (k + 1) = cutVs fV n k ++ [Value.slice (some ⟨(fV k).1, (fV k).2.1, none⟩) n (fV k).2.2]) := cutVs_succ _ _ _
            have HV1 : Hid (∀ wv, Below wc.heap.size wc wv → wv.cell? ⟨gV, k, none⟩ = some (.slice (some ⟨(fV k).1, (fV k).2.1, none⟩) l1 (fV k).2.2)) := fun wv hb => (HFV.out wv hb k hlt).1
            generalize (fK k).1 = kb at *
            generalize (fK k).2.1 = ko at *
            generalize (fK k).2.2 = kc at *
            generalize (fV k).1 = vb at *
            generalize (fV k).2.1 = vo at *
            generalize (fV k).2.2 = vc at *
            have c0 : wr.cell? ⟨w6.heap.size, 0, none⟩ = some (.slice (some ⟨gK, 0, none⟩) L L) := S.xc.cell 0 rfl
            have c1' : wr.cell? ⟨w6.heap.size, 1, none⟩ = some (.slice (some ⟨gV, 0, none⟩) L L) := S.xc.cell 1 rfl
            go_upto_region 15 with fail
            have BA : Below wr.heap.size wr (wr.alloc (.cells #[.slice (some ⟨kb, ko, none⟩) n kc] 49)) := below_alloc8 _ _
            have CN := cellLists_new wr (.slice (some ⟨kb, ko, none⟩) n kc)
            generalize hwa : wr.alloc (.cells #[.slice (some ⟨kb, ko, none⟩) n kc] 49) = wa at *
            replace T2 := T2.below BA
            have hw9 := T2.kp.size
            go_upto_region 16 with (at_builtin; refine wpList_append_vl rfl _ _ rfl wc.heap.size g1 k c1 (cutVs fK n k) rfl (by exact T2.o1) wr.heap.size _ rfl (by exact CN) rfl (by omega) (by omega) ?_; intro g1' c1' wb O1 G1 N1)
            rw [← HCK.out] at O1
            have T3 := T2.grow1 O1 G1 N1
            obtain ⟨S3, -, -, -⟩ := HS.out _ T3.kp
            have f1 := HV1.out _ T3.kp
            have c1' : wb.cell? ⟨w6.heap.size, 1, none⟩ = some (.slice (some ⟨gV, 0, none⟩) L L) := S3.xc.cell 1 rfl
            clear c0 S e1 T2 hwa CN BA O1 G1 N1 HCK
            have BB : Below wb.heap.size wb (wb.alloc (.cells #[.slice (some ⟨vb, vo, none⟩) n vc] 49)) := below_alloc8 _ _
            have CM := cellLists_new wb (.slice (some ⟨vb, vo, none⟩) n vc)
            generalize hwd : wb.alloc (.cells #[.slice (some ⟨vb, vo, none⟩) n vc] 49) = wd at *
            replace T3 := T3.below BB
            have hw8 := T3.kp.size
            go_wp2_with (at_builtin; refine wpList_append_vl rfl _ _ rfl wc.heap.size g2 k c2 (cutVs fV n k) rfl (by exact T3.o2) wb.heap.size _ rfl (by exact CM) rfl (by omega) (by omega) ?_; intro g2' c2' we O2 G2 N2)
            rw [← HCV.out] at O2
            have T4 := T3.grow2 O2 G2 N2
            go_roundg (L - (k + 1))
            case measure => omega
            case rel => exact ⟨k + 1, _, _, _, _, by omega, rfl, by go_num, rfl, rfl, T4⟩
          · obtain rfl : k = L := by omega
            have CB := HS.out _ T2.kp
            have KC := cut_cube T2.o1 fr3 (by omega) (show n ≤ l1 by omega) (fun t ht => let ⟨_, x, y, z⟩ := HFK.out _ T2.kp t ht; ⟨x, y, z⟩)
            have VC := cut_cube T2.o2 fr4 (by omega) (show n ≤ l1 by omega) (fun t ht => let ⟨_, x, y, z⟩ := HFV.out _ T2.kp t ht; ⟨x, y, z⟩)
            obtain ⟨S, XA, CKn, CVn⟩ := CB
            clear T2 HFK HFV HS
            go_wp2_with fail
            refine (CW _ S.kp).mono ?_
            rintro e wq ⟨rfl, Bq⟩
            have D9 := below_then S.kp Bq
            replace XA := XA.below Bq
            have c0 : wq.cell? ⟨gA, 0, none⟩ = some (.slice (some ⟨gk, 0, none⟩) k k) := XA.cell 0 rfl
            go_wp2_with fail
            refine (cubeSame_eq _ _ k _ _ _ wq (KC.below Bq) (CKn.below Bq)).mono ?_
            rintro e wp ⟨rfl, m1, hm1⟩
            have B1' : Below wq.heap.size wq wp := by rw [hm1]; exact below_drewN (Below.refl _ _) m1
            clear hm1
            replace XA := XA.below B1'
            have c1 : wp.cell? ⟨gA, 1, none⟩ = some (.slice (some ⟨gv, 0, none⟩) k k) := XA.cell 1 rfl
            go_wp2_with fail
            refine (cubeSame_eq _ _ k _ _ _ wp ((VC.below Bq).below B1') ((CVn.below Bq).below B1')).mono ?_
            rintro e wp2 ⟨rfl, m2, hm2⟩
            have B2' : Below wp.heap.size wp wp2 := by rw [hm2]; exact below_drewN (Below.refl _ _) m2
            clear hm2
            go_wp2
            go_ret
            exact ⟨rfl, below_then (below_then D9 B1') B2'⟩
  · have hq' : (q == 0) = false := by simpa using hq
    go_wp2_with (refine wpList_store_row rfl 32 _ _ rfl w2.heap.size ws rfl rfl 32 _ XZ (by rw [siz]; exact Tryd.infoW) (by rw [siz]; rfl) one ?_; rw [hwy])
    go_wp2_with fail
    refine (CW _ D3).mono ?_
    rintro e wq ⟨rfl, Bq⟩
    go_wp2
    go_ret
    exact ⟨rfl, below_then D3 Bq⟩
end Go.Proofs.YtlmdjhdlfdandaaDoor

/- The given statement on PassBegins: at every input the law returns true and its arguments read as before; the listed table lies as the program's text lays it (the card ties it). -/
namespace Go.Proofs.YtlmdjhdlfdandaaDoor.passBegins
open Go.ChangeShapes Go.WideShapes Go.ChangeAt Go.WideMaps Go.WideElems Go.RowKit
set_option linter.unusedVariables false
abbrev lst : List (String × DataW Unit) := Rows.passBeginsRow.laid
theorem door_met (os : Os) (args : Array Value) : laidMetH Tryd.prog lst ((World.doorLaid Tryd.prog 14 os).forCall (fun _ _ => 0) ⟨#[], args, []⟩).memory :=
  laidMetH_of_parts3 (fuel := 8) (laidMet_of_run' 8 (by kernel_rfl) (by kernel_rfl)) (by kernel_rfl) (by kernel_rfl)
set_option maxRecDepth 100000 in
theorem lifted (os : Os) (started : os.Started) (H : Type) (enc : TypeId × Value → H) :
    ReturnsInHanded {} Tryd.checked os 4 .any (fun w args => (Rows.passBeginsSpec.pre enc Tryd.prog Tryd.f4 [] false w args ∧ laidMetH Tryd.prog lst w) ∧ sizedMet enc Tryd.prog Tryd.f4 (OpenSpec.ofChange Rows.passBeginsSpec) false w args)
      (Rows.passBeginsSpec.post enc Tryd.prog Tryd.f4 false true false false) := by
  refine returnsInHanded_of_change_and (C := Tryd.checked) (X := fun w _ => laidMetH Tryd.prog lst w) (fun _ _ _ hh h => h.of_heap hh) Tryd.own started (by kernel_rfl) Tryd.func4
    (ChangeSpec.witness_shaped (enc := enc) (C := Tryd.checked) (os := os) (X := fun w _ => laidMetH Tryd.prog lst w) false (World.doorLaid Tryd.prog 14 os) #[.agg #[.int .i64 0, .int .i64 0, .int .i64 0, .int .i64 0, .int .i64 0], .int .u64 0, .slice none 0 0, .int .i64 0] 8 rfl (World.shaped_of_RefB (by kernel_rfl) (by kernel_rfl)) (by kernel_rfl) (by kernel_rfl) (by kernel_rfl) (door_met os _)) ?_
  intro W base args ds gs before hval0 hW _ _ hL _
  have hval : ∀ (j : Nat) t v, Tryd.f4.params[j]? = some t → args[j]? = some v → Value.okWide Tryd.prog W .any base t v := hval0
  have hW' := hW
  obtain ⟨p, q, hA0, hV, rfl, _, _⟩ := hW
  have hA : DataW.TrodAll enc Tryd.prog W 0 (fun _ => true) true Tryd.f4.params.toList args.toList ds p := hA0
  rw [Tryd.params4] at hA hval
  obtain ⟨v0, vs0, d0, ds0, p0, q0, hargs, rfl, rfl, h0, r0⟩ := trodAll_cons hA
  obtain ⟨v1, vs1, d1, ds1, p1, q1, rfl, rfl, rfl, h1, r1⟩ := trodAll_cons r0
  obtain ⟨v2, vs2, d2, ds2, p2, q2, rfl, rfl, rfl, h2, r2⟩ := trodAll_cons r1
  obtain ⟨v3, vs3, d3, ds3, p3, q3, rfl, rfl, rfl, h3, r3⟩ := trodAll_cons r2
  obtain ⟨rfl, rfl, rfl⟩ := trodAll_nil r3
  obtain rfl : args = #[v0, v1, v2, v3] := by cases args; simp_all
  obtain ⟨rfl, rfl⟩ := trodVars_none hV
  have k0 := h0
  obtain ⟨C0, rfl, g0⟩ := viewCfg (hval 0 _ v0 rfl rfl) h0
  have k1 := h1
  obtain ⟨a1, rfl, rfl, rfl, w1⟩ := open_int Tryd.underlying24 (hval 1 24 v1 rfl rfl) h1
  have b1 := bounds_u64 w1
  have k2 := h2
  obtain ⟨a2, n2, c2, Z2, rfl, g2⟩ := viewI (hval 2 _ v2 rfl rfl) h2
  have k3 := h3
  obtain ⟨a3, rfl, rfl, rfl, w3⟩ := open_int Tryd.underlying3 (hval 3 3 v3 rfl rfl) h3
  have b3 := bounds_i64 w3
  clear hA0 hval0
  simp only [List.append_nil] at hW'
  have hlt : ∀ x ∈ p0 ++ p2, x.block < W.heap.size := fun x hx => by
    have hx2 := hx
    exact hW'.lt x (by grind)
  refine (passBegins_walk C0 a1 a2 n2 c2 Z2 a3 W g0 b1 g2 b3 (tab_of_laid hL)).mono fun e W' ⟨he, hb⟩ => ?_
  subst he
  exact ⟨_, rfl, _, _, _, [], _, [], hW', trodAll_mk1 (shut_bool Tryd.underlying4 true), trodAll_cons_mk (Below.trod Tryd.laidOut (by kernel_rfl) (of_decide_eq_true (by kernel_rfl)) k0 hb (fun x hx => hlt x (by simp [hx]))) (trodAll_cons_mk (shut_int Tryd.underlying24 w1) (trodAll_cons_mk (Below.trod Tryd.laidOut (by kernel_rfl) (of_decide_eq_true (by kernel_rfl)) k2 hb (fun x hx => hlt x (by simp [hx]))) (trodAll_cons_mk (shut_int Tryd.underlying3 w3) trodAll_mk0))), rfl, hb.frame _, fun h => by cases h⟩
theorem row_holds : Rows.PassBeginsSaid :=
  OpenClaim.holds_of_wide 4 Tryd.f4 rfl rfl rfl rfl rfl rfl rfl ⟨rfl, rfl, rfl, rfl, rfl⟩ rfl rfl rfl rfl rfl (by kernel_rfl) Tryd.func4 (by kernel_rfl)
    (of_decide_eq_true (by kernel_rfl)) (by unfold Func.isWrapper; first | (rw [if_pos (by decide +kernel)]; kernel_rfl) | (rw [if_neg (by decide +kernel)]; exact ⟨rfl, rfl⟩))
    (fun os started H enc _ => lifted os started H enc)
/-- The given statement. -/
theorem card_holds : Rows.PassBeginsCardSaid :=
  Claim7.holds_tied_plain_at .later [] [.data] true (true, "32f124cfbdf71112324306fe0b06efce740a7303e4ab29f0e479723d69000f45") false
    row_holds (fun _ h => by cases h) (by kernel_rfl) (fun _ h => by cases h) passBegins_row_tie rfl ⟨rfl, rfl⟩ (by kernel_rfl) rfl
    (fun f fn hf hfn => by
      obtain rfl : f = 4 := Option.some.inj ((show Tryd.prog.funcNamed Rows.passBeginsRow.func = some 4 by kernel_rfl).symm.trans hf) |>.symm
      obtain rfl : fn = Tryd.f4 := (Option.some.inj (Tryd.func4.symm.trans hfn)).symm
      exact ⟨by kernel_rfl, fun j t ht => by
        rw [Tryd.params4] at ht
        have hm : t ∈ [23, 24, 25, 3] := by simpa using Array.mem_of_getElem? ht
        have hall : ([23, 24, 25, 3].all fun u => !Tryd.prog.wantsStandIn u) = true := by kernel_rfl
        exact (show Tryd.prog.wantsStandIn t = false by simpa using List.all_eq_true.1 hall t hm)⟩)
    (by kernel_rfl)
end Go.Proofs.YtlmdjhdlfdandaaDoor.passBegins
namespace Go.Proofs.YtlmdjhdlfdandaaDoor
theorem passBegins_holds : Rows.PassBeginsCardSaid := passBegins.card_holds
#print axioms passBegins_holds
end Go.Proofs.YtlmdjhdlfdandaaDoor
