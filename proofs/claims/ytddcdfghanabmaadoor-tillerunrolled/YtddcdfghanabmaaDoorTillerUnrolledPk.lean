/- The given statement on TillerUnrolled: at every input the law returns true and its arguments read as before; the listed table lies as the program's text lays it (the card ties it). -/
import Derived.Test.YtddcdfghanabmaaDoorUMathPk
import Derived.Test.YtddcdfghanabmaaDoorPk5
import Derived.Test.YtddcdfghanabmaaDoorPk7
import Derived.Deep.CutRange
import Derived.Deep.CutBlock
import Derived.Test.YtddcdfghanabmaaDoorRows
import Derived.Test.YtddcdfghanabmaaDoorCards
import Derived.Test.YtddcdfghanabmaaDoorTie
import Derived.Test.YtddcdfghanabmaaDoorPk3
import Derived.ProofKit
import Derived.Carry
import Derived.LaidMore
import Derived.OpenShut
import Derived.Stop.Joined
import Derived.SevenTiedAt
/- What a model of one layer likes is just what its layer's parts, asked one by one, come to: the walk. -/
namespace Go.Proofs.YtddcdfghanabmaaDoor
open Go.ChangeShapes Go.WideShapes Go.ChangeAt Go.RowKit
set_option maxRecDepth 100000 in
set_option maxHeartbeats 32000000 in
theorem tillerUnrolled_walk (C : Cfg) (sd : Int) (a1 : Option Addr) (n1 c1 : Nat) (Z1 : List Int) (w : World) (hC : C.Ok) (bs : 0 ≤ sd ∧ sd ≤ 18446744073709551615) (h1 : IArg w a1 n1 c1 Z1) (hT : Tab w) :
   Calls Tryd.prog 3 #[C.val, .int .u64 sd, .slice a1 n1 c1] w fun e w' => e = .returned (.bool true) ∧ Below w.heap.size w w' := by
  obtain ⟨seed, rfl⟩ : ∃ n : Nat, sd = n := ⟨sd.toNat, by omega⟩
  have hsd : seed < 18446744073709551616 := by omega
  clear bs
  have HT : Hid (∀ wv, Below w.heap.size w wv → Tab wv) := fun wv hb => hT.next hb
  have CF1 := fun (wv : World) (hb : Below w.heap.size w wv) => few8_any a1 n1 c1 Z1 6 wv (h1.below hb) (by omega)
  have s1 : ∀ k, -9223372036854775808 ≤ el (Z1.take 6) k ∧ el (Z1.take 6) k ≤ 9223372036854775807 := fun k => by
    rcases Nat.lt_or_ge k 6 with h | h
    · rw [el_take h]; exact h1.row.small k
    · rw [el_over (by rw [List.length_take]; omega)]; omega
  have hP6 : (Z1.take 6).length ≤ 6 := by rw [List.length_take]; omega
  obtain ⟨V0, D0, Hd0, H0, L0⟩ := C
  have hC1 : (Cfg.mk V0 D0 Hd0 H0 1).Ok := ⟨hC.1, hC.2, hC.3, hC.4, by constructor <;> simp⟩
  have M0 := fun wv => make_gen ⟨V0, D0, Hd0, H0, 1⟩ hC1 seed hsd wv
  have CS := fun wv => small8_any V0 D0 Hd0 H0 1 wv
  have hu : ∀ C : Cfg, cfgC C.V C.D C.Hd C.H C.L = #[.int .i64 C.V, .int .i64 C.D, .int .i64 C.Hd, .int .i64 C.H, .int .i64 C.L] := fun _ => rfl
  have hu1 : cfgC V0 D0 Hd0 H0 1 = #[.int .i64 V0, .int .i64 D0, .int .i64 Hd0, .int .i64 H0, .int .i64 1] := rfl
  unfold Cfg.val at *
  rw [hu] at M0 ⊢
  rw [hu1] at CS
  simp only at M0 ⊢
  clear hT h1 hC hu hu1
  have X0 := blk_new w 23 #[.int .i64 V0, .int .i64 D0, .int .i64 Hd0, .int .i64 H0, .int .i64 L0]
  have B0 : Below w.heap.size w (w.alloc (.cells #[.int .i64 V0, .int .i64 D0, .int .i64 Hd0, .int .i64 H0, .int .i64 L0] 23)) := (Below.refl _ _).alloc (Nat.le_refl _) _
  generalize hw0 : w.alloc (.cells #[.int .i64 V0, .int .i64 D0, .int .i64 Hd0, .int .i64 H0, .int .i64 L0] 23) = w0 at *
  have f4 := X0.frozen 4
  have c4 : w0.cell? ⟨w.heap.size, 4, none⟩ = some (.int .i64 L0) := X0.cell 4 rfl
  have Y0 : Blk (w0.setCell ⟨w.heap.size, 4, none⟩ (.int .i64 1)) w.heap.size 23 #[.int .i64 V0, .int .i64 D0, .int .i64 Hd0, .int .i64 H0, .int .i64 1] := X0.set 4 (.int .i64 1)
  have BY : Below w.heap.size w (w0.setCell ⟨w.heap.size, 4, none⟩ (.int .i64 1)) := B0.setCell (Nat.le_refl _) _
  go_enter Tryd.func3, Tryd.ntmps3
  go_wp2_with fail
  generalize w0.setCell ⟨w.heap.size, 4, none⟩ (.int .i64 1) = wy0 at *
  refine (CF1 _ BY).mono ?_
  rintro e w1 ⟨b1, kq, rfl, O1, B1⟩
  generalize Z1.take 6 = P at *
  obtain ⟨l1, hl1⟩ : ∃ l1, P.length = l1 := ⟨_, rfl⟩
  have HL1 : Hid (P.length = l1) := hl1
  rw [hl1] at O1 hP6 ⊢
  clear hl1
  have D1 := below_then BY B1
  replace X0 := Y0.below B1
  clear Y0 BY f4 c4 hw0 CF1 B0 B1
  obtain ⟨x1, y1, e1, I1⟩ := IOwn.arg O1 s1
  simp only [Value.slice.injEq, true_and] at e1
  obtain ⟨rfl, rfl⟩ := e1
  have HI : Hid (∀ wv, Below w1.heap.size w1 wv → IArg wv (some ⟨b1, 0, none⟩) l1 kq P) := fun wv hb => I1.below hb
  clear O1 I1
  go_wp2_with fail
  obtain ⟨AQ, GK, GV, B7⟩ := lit_seven w1 _ _ _ _ _ _ _ rfl rfl rfl rfl rfl rfl rfl
  refine (attend_any _ _ _ 1 2 2 1 2 2 [65536] [[0], [0]] [[2], [4]] 1 _ (HT.out _ (below_then D1 B7)) AQ GK GV chk_lit).mono ?_
  rintro e w8 ⟨g8, c8, rfl, F8, B8⟩
  have E8 := below_then B7 B8
  have D8 := below_then D1 E8
  replace X0 := X0.below E8
  clear AQ GK GV B7 B8 D1
  have cc8 := F8.cell (t := 0) (by omega)
  rw [el_tab (by omega), show (1 : Nat) / (1 : Int).toNat = 1 from rfl, att_lit] at cc8
  clear F8
  have a0 : w8.cell? ⟨w.heap.size, 0, none⟩ = some (.int .i64 V0) := X0.cell 0 rfl
  have a1 : w8.cell? ⟨w.heap.size, 1, none⟩ = some (.int .i64 D0) := X0.cell 1 rfl
  have a2 : w8.cell? ⟨w.heap.size, 2, none⟩ = some (.int .i64 Hd0) := X0.cell 2 rfl
  have a3 : w8.cell? ⟨w.heap.size, 3, none⟩ = some (.int .i64 H0) := X0.cell 3 rfl
  have a4 : w8.cell? ⟨w.heap.size, 4, none⟩ = some (.int .i64 1) := X0.cell 4 rfl
  go_wp2_with fail
  refine (M0 w8).mono ?_
  rintro e w2 ⟨ws, q, rfl, MM, B2⟩
  replace X0 := X0.below B2
  have E2 := below_then E8 B2
  have D2 := below_then D8 B2
  clear a0 a1 a2 a3 a4 M0 B2 D8 E8 cc8
  have siz := MM.size
  have one := MM.one
  have XZ := blk_new w2 37 #[.int .i64 0, .int .i64 0, .slice none 0 0, .slice none 0 0, .slice none 0 0, .int .i64 0, .int .i64 0, .slice none 0 0]
  have BZ : Below w2.heap.size w2 (w2.alloc (.cells #[.int .i64 0, .int .i64 0, .slice none 0 0, .slice none 0 0, .slice none 0 0, .int .i64 0, .int .i64 0, .slice none 0 0] 37)) := (Below.refl _ _).alloc (Nat.le_refl _) _
  generalize hwz : w2.alloc (.cells #[.int .i64 0, .int .i64 0, .slice none 0 0, .slice none 0 0, .slice none 0 0, .int .i64 0, .int .i64 0, .slice none 0 0] 37) = wz at *
  have X1 := XZ.row ws
  have BR := below_setRow BZ (Nat.le_refl _) ws
  generalize hwy : wz.setRow w2.heap.size ws = wy at *
  replace X0 := X0.below BR
  replace MM := MM.below BR
  have D3 := below_then D2 BR
  have E3 := below_then E2 BR
  have a0 : wy.cell? ⟨w.heap.size, 0, none⟩ = some (.int .i64 V0) := X0.cell 0 rfl
  have a1 : wy.cell? ⟨w.heap.size, 1, none⟩ = some (.int .i64 D0) := X0.cell 1 rfl
  have a2 : wy.cell? ⟨w.heap.size, 2, none⟩ = some (.int .i64 Hd0) := X0.cell 2 rfl
  have a3 : wy.cell? ⟨w.heap.size, 3, none⟩ = some (.int .i64 H0) := X0.cell 3 rfl
  have a4 : wy.cell? ⟨w.heap.size, 4, none⟩ = some (.int .i64 1) := X0.cell 4 rfl
  by_cases hq : q = 0
  · subst hq
    obtain ⟨V, D, Hd, H, L, ge, gB, gl, go, e1, e2, e3, e4, e5, hcs, MW⟩ := MM.ok rfl
    simp only at e1 e2 e3 e4 e5
    obtain rfl : L = 1 := by omega
    have hsh : shapeN V D Hd H 1 = 0 := by rw [← e1, ← e2, ← e3, ← e4]; exact MM.err.symm
    obtain ⟨bs, GD⟩ := made_good (Hd := Hd) MW hsh
    have hws : (mkW V D 1 ge gB gl go).cells = ws := by rw [hcs]; rfl
    subst e1 e2 e3 e4
    have GDM : Good wy V D Hd H 1 (mkW V D 1 ge gB gl go) bs (mdlS seed V D H 1) := GD
    have hk := shape_ok hsh
    have hmod := shape_mod hsh
    generalize mdlS seed V D H 1 = M at *
    generalize hWW : mkW V D 1 ge gB gl go = WW at *
    clear MM MW hcs GD hWW e5
    have FO := fun (ao : Option Addr) (n ca : Nat) (A : List Int) (wv : World) (g2 : Good wv V D Hd H 1 WW bs M) (g5 : IArg wv ao n ca A) (g1 : Tab wv) (g6 : promptN V A = 0) => full_ok V D Hd H 1 WW bs M ao n ca A wv g2 g5 g1 g6
    have CP := fun (ao : Option Addr) (n ca : Nat) (A : List Int) (wv : World) (g5 : IArg wv ao n ca A) => prompt_any V D Hd H 1 ao n ca A wv g5
    rw [hws] at FO
    unfold cfgC at FO CP
    go_wp2_with (refine wpList_store_row rfl 37 _ _ rfl w2.heap.size ws rfl rfl 37 _ XZ (by rw [siz]; exact Tryd.infoW) (by rw [siz]; rfl) one ?_; rw [hwy])
    refine (CS _).mono ?_
    rintro e w4 ⟨rfl, B4⟩
    replace X0 := X0.below B4
    replace X1 := X1.below B4
    have G4 := GDM.below B4
    have D4 := below_then D3 B4
    have E4 := below_then E3 B4
    clear a0 a1 a2 a3 a4 hwz hwy XZ BZ BR CS D2 D3 E2 E3 GDM B4
    generalize smallN (D : Int) (H : Int) 1 = sq at *
    by_cases hs0 : sq = 0
    · subst hs0
      go_wp2
      go_ret
      exact ⟨rfl, D4⟩
    · have hs0' : (sq == 0) = false := by simpa using hs0
      have a0 : w4.cell? ⟨w.heap.size, 0, none⟩ = some (.int .i64 (V : Int)) := X0.cell 0 rfl
      have a1 : w4.cell? ⟨w.heap.size, 1, none⟩ = some (.int .i64 (D : Int)) := X0.cell 1 rfl
      have a2 : w4.cell? ⟨w.heap.size, 2, none⟩ = some (.int .i64 (Hd : Int)) := X0.cell 2 rfl
      have a3 : w4.cell? ⟨w.heap.size, 3, none⟩ = some (.int .i64 (H : Int)) := X0.cell 3 rfl
      have a4 : w4.cell? ⟨w.heap.size, 4, none⟩ = some (.int .i64 1) := X0.cell 4 rfl
      go_wp2_with fail
      refine (CP _ _ _ P _ (HI.out _ E4)).mono ?_
      rintro e w5 ⟨rfl, B5⟩
      replace X0 := X0.below B5
      replace X1 := X1.below B5
      replace G4 := G4.below B5
      replace D4 := below_then D4 B5
      replace E4 := below_then E4 B5
      clear a0 a1 a2 a3 a4 B5
      by_cases hqp : promptN (V : Int) P = 0
      · have C6 := FO _ _ _ P w5 G4 (HI.out _ E4) (HT.out _ D4) hqp
        obtain ⟨pp1, pp2, pp3⟩ := prompt_ok hqp
        rw [hqp]
        have a0 : w5.cell? ⟨w.heap.size, 0, none⟩ = some (.int .i64 (V : Int)) := X0.cell 0 rfl
        have a1 : w5.cell? ⟨w.heap.size, 1, none⟩ = some (.int .i64 (D : Int)) := X0.cell 1 rfl
        have a2 : w5.cell? ⟨w.heap.size, 2, none⟩ = some (.int .i64 (Hd : Int)) := X0.cell 2 rfl
        have a3 : w5.cell? ⟨w.heap.size, 3, none⟩ = some (.int .i64 (H : Int)) := X0.cell 3 rfl
        have a4 : w5.cell? ⟨w.heap.size, 4, none⟩ = some (.int .i64 1) := X0.cell 4 rfl
        go_wp2_with (refine wpList_load_row rfl 37 _ rfl w2.heap.size rfl 37 ws (0, 0) _ X1 Tryd.underlying37 rfl (by rw [siz]; exact Tryd.infoW) ?_)
        refine C6.mono ?_
        rintro e w6 ⟨gl6, gK6, gV6, rfl, F6, NK, NV, B6⟩
        have E6 := below_then E4 B6
        have D6 := below_then D4 B6
        replace X0 := X0.below B6
        replace X1 := X1.below B6
        replace G4 := G4.below B6
        have CK6 := NK.now
        have CV6 := NV.now
        clear a0 a1 a2 a3 a4 C6 FO CP D4 E4 B6 NK NV
        have XZ := blk_new w6 44 #[.slice none 0 0, .slice none 0 0]
        have BZ : Below w6.heap.size w6 (w6.alloc (.cells #[.slice none 0 0, .slice none 0 0] 44)) := (Below.refl _ _).alloc (Nat.le_refl _) _
        generalize hwz : w6.alloc (.cells #[.slice none 0 0, .slice none 0 0] 44) = wz at *
        have XC := XZ.row #[.slice (some ⟨gK6, 0, none⟩) 1 1, .slice (some ⟨gV6, 0, none⟩) 1 1]
        have BR := below_setRow BZ (Nat.le_refl _) #[.slice (some ⟨gK6, 0, none⟩) 1 1, .slice (some ⟨gV6, 0, none⟩) 1 1]
        generalize hwy : wz.setRow w6.heap.size #[.slice (some ⟨gK6, 0, none⟩) 1 1, .slice (some ⟨gV6, 0, none⟩) 1 1] = wy at *
        replace X0 := X0.below BR
        replace X1 := X1.below BR
        replace G4 := G4.below BR
        replace CK6 := CK6.below BR
        replace CV6 := CV6.below BR
        replace F6 := F6.below BR
        replace D6 := below_then D6 BR
        replace E6 := below_then E6 BR
        have x0 : wy.cell? ⟨w6.heap.size, 0, none⟩ = some (.slice (some ⟨gK6, 0, none⟩) 1 1) := XC.cell 0 rfl
        have x1 : wy.cell? ⟨w6.heap.size, 1, none⟩ = some (.slice (some ⟨gV6, 0, none⟩) 1 1) := XC.cell 1 rfl
        obtain ⟨x, hx⟩ : ∃ x, bs[0]? = some x := ⟨_, List.getElem?_eq_getElem (by have := G4.len; omega)⟩
        have WT := G4.wt
        obtain ⟨Lx, hLx, BK⟩ := WT.ls 0 x hx
        have HLx : Hid (layAt M 0 = Lx) := by show _ = _; unfold layAt; rw [List.getD_eq_getElem?_getD, hLx]; rfl
        have lb := WT.b.len
        rw [G4.len] at lb
        obtain ⟨gb, ob, e0, hc⟩ := WT.b.cells (by omega)
        have r0 := hc 0 x hx
        rw [Nat.zero_mul, Nat.add_zero] at r0
        have ME := WT.e
        have MG := WT.l
        have MO := WT.o
        have c3 : wy.cell? ⟨w2.heap.size, 3, none⟩ = some (.slice (some ⟨gb, ob, none⟩) 1 WW.b.c) := X1.cell 3 (by rw [← hws, ← e0, lb]; rfl)
        clear hc e0 lb WT hLx hx G4
        have oneB := bk_one x
        have siz2 := bk_size x
        obtain ⟨cs, HCS⟩ : ∃ cs, Hid (x.cells = cs) := ⟨_, rfl⟩
        rw [HCS.out] at oneB siz2 r0
        have XZ2 := blk_new wy 48 #[.slice none 0 0, .int .i64 0, .int .i64 0, .slice none 0 0, .int .i64 0, .int .i64 0, .slice none 0 0, .int .i64 0, .int .i64 0, .slice none 0 0, .int .i64 0, .int .i64 0, .slice none 0 0, .slice none 0 0, .int .i64 0, .int .i64 0, .slice none 0 0, .int .i64 0, .int .i64 0, .slice none 0 0]
        have BZ2 : Below wy.heap.size wy (wy.alloc (.cells #[.slice none 0 0, .int .i64 0, .int .i64 0, .slice none 0 0, .int .i64 0, .int .i64 0, .slice none 0 0, .int .i64 0, .int .i64 0, .slice none 0 0, .int .i64 0, .int .i64 0, .slice none 0 0, .slice none 0 0, .int .i64 0, .int .i64 0, .slice none 0 0, .int .i64 0, .int .i64 0, .slice none 0 0] 48)) := (Below.refl _ _).alloc (Nat.le_refl _) _
        generalize hwz2 : wy.alloc (.cells #[.slice none 0 0, .int .i64 0, .int .i64 0, .slice none 0 0, .int .i64 0, .int .i64 0, .slice none 0 0, .int .i64 0, .int .i64 0, .slice none 0 0, .int .i64 0, .int .i64 0, .slice none 0 0, .slice none 0 0, .int .i64 0, .int .i64 0, .slice none 0 0, .int .i64 0, .int .i64 0, .slice none 0 0] 48) = wz2 at *
        have XB := XZ2.row cs
        have BR2 := below_setRow BZ2 (Nat.le_refl _) cs
        generalize hwb : wz2.setRow wy.heap.size cs = wb at *
        have hall : (#[.slice (some ⟨gK6, 0, none⟩) 1 1, .slice (some ⟨gV6, 0, none⟩) 1 1] : Array Value).all (·.oneCell') = true := by simp [Value.oneCell']
        have sC : w6.heap.size < wy.heap.size := XC.lt
        go_wp2_with (first | (refine wpList_store_row rfl 44 _ _ rfl w6.heap.size #[.slice (some ⟨gK6, 0, none⟩) 1 1, .slice (some ⟨gV6, 0, none⟩) 1 1] rfl rfl 44 _ XZ Tryd.infoCa rfl hall ?_; rw [hwy]) | (refine wpList_load_mid rfl 48 _ rfl _ _ rfl cs.toList _ (by exact r0) Tryd.underlying48 rfl (by rw [Array.length_toList, siz2]; exact Tryd.infoB) ?_) | (refine wpList_store_row rfl 48 _ _ rfl wy.heap.size cs rfl rfl 48 _ XZ2 (by rw [siz2]; exact Tryd.infoB) siz2.symm oneB ?_; rw [hwb]))
        clear hwz hwy hwz2 hwb XZ BZ XZ2 BZ2 r0 oneB hall one c3 x0 x1 hs0 hs0' siz2
        have Db := below_then D6 BR2
        have Eb := below_then E6 BR2
        have HX0 : Hid (∀ wv, Below wb.heap.size wb wv → Blk wv w.heap.size 23 #[.int .i64 (V : Int), .int .i64 (D : Int), .int .i64 (Hd : Int), .int .i64 (H : Int), .int .i64 1]) := fun wv hb => (X0.below BR2).below hb
        have HX1 : Hid (∀ wv, Below wb.heap.size wb wv → Blk wv w2.heap.size 37 WW.cells) := fun wv hb => by rw [hws]; exact (X1.below BR2).below hb
        have HXC : Hid (∀ wv, Below wb.heap.size wb wv → Blk wv w6.heap.size 44 #[.slice (some ⟨gK6, 0, none⟩) 1 1, .slice (some ⟨gV6, 0, none⟩) 1 1]) := fun wv hb => (XC.below BR2).below hb
        have HXB : Hid (∀ wv, Below wb.heap.size wb wv → Blk wv wy.heap.size 48 x.cells) := fun wv hb => by rw [HCS.out]; exact XB.below hb
        have HTb : Hid (∀ wv, Below wb.heap.size wb wv → Tab wv) := fun wv hb => HT.out _ (below_then Db hb)
        have HIb : Hid (∀ wv, Below wb.heap.size wb wv → IArg wv (some ⟨b1, 0, none⟩) l1 kq P) := fun wv hb => HI.out _ (below_then Eb hb)
        have HLk : Hid (∀ wv, Below wb.heap.size wb wv → Fresh wv w5.heap.size gl6 V V (fullX M V D H Hd 1 P)) := fun wv hb => (F6.below BR2).below hb
        have HKb : Hid (∀ wv, Below wb.heap.size wb wv → CubeAt wv (some ⟨gK6, 0, none⟩) 1 (fullK M D H Hd 1 P)) := fun wv hb => (CK6.below BR2).below hb
        have HVb : Hid (∀ wv, Below wb.heap.size wb wv → CubeAt wv (some ⟨gV6, 0, none⟩) 1 (fullV M D H Hd 1 P)) := fun wv hb => (CV6.below BR2).below hb
        have HBK : Hid (∀ wv, Below wb.heap.size wb wv → BkAt wv D H x Lx) := fun wv hb => (BK.below BR2).below hb
        have HME : Hid (∀ wv, Below wb.heap.size wb wv → MtAt wv WW.e V D M.E) := fun wv hb => (ME.below BR2).below hb
        have HMG : Hid (∀ wv, Below wb.heap.size wb wv → SlAt wv WW.l D M.G) := fun wv hb => (MG.below BR2).below hb
        have HMO : Hid (∀ wv, Below wb.heap.size wb wv → MtAt wv WW.o V D M.O) := fun wv hb => (MO.below BR2).below hb
        clear X0 X1 XC XB F6 CK6 CV6 BK ME MG MO BR BR2 D6 E6 Eb HI HT hws HCS siz hC1 sC
        obtain ⟨we, ⟨wba, wbn, wbz⟩, ⟨wla, wln, wlz⟩, wo⟩ := WW
        obtain ⟨⟨fa, fn, fz⟩, mq, mk, mv, mo, ⟨sa, sn, sz⟩, mu, md⟩ := x
        obtain ⟨⟨fe, AF⟩, ⟨qb, qo, qn, qz, rfl, MQ⟩, ⟨kb, k2, kn, kz, rfl, MK⟩, ⟨vb, v2, vn, vz, rfl, MV⟩, ⟨ob', oo, on, oz, rfl, MO⟩, ⟨se, AS⟩, ⟨ub, uo, un, uz, rfl, MU⟩, ⟨db, d2, dn, dz, rfl, MD⟩⟩ := HBK.out wb (Below.refl _ _)
        simp only at fe se AF AS MQ MK MV MO MU MD
        replace fe := fe.symm
        subst fe
        replace se := se.symm
        subst se
        obtain ⟨eb, eo, en, ez, hwe, ME⟩ := HME.out wb (Below.refl _ _)
        obtain ⟨tb, t2, tn, tz, hwo, MT⟩ := HMO.out wb (Below.refl _ _)
        obtain ⟨ge1, AG⟩ := HMG.out wb (Below.refl _ _)
        simp only at hwe hwo ge1 AG
        replace ge1 := ge1.symm
        subst hwe hwo ge1
        clear HBK HME HMO HMG
        have HF : Hid (∀ wv, Below wb.heap.size wb wv → Arg wv fa D fz Lx.F) := fun wv hb => AF.below hb
        have HS : Hid (∀ wv, Below wb.heap.size wb wv → Arg wv sa D sz Lx.S) := fun wv hb => AS.below hb
        have HG : Hid (∀ wv, Below wb.heap.size wb wv → Arg wv wla D wlz M.G) := fun wv hb => AG.below hb
        have HMq : Hid (∀ wv, Below wb.heap.size wb wv → MatAt wv D D qb qo qn qz Lx.Q) := fun wv hb => MQ.below hb
        have HMk : Hid (∀ wv, Below wb.heap.size wb wv → MatAt wv D D kb k2 kn kz Lx.K) := fun wv hb => MK.below hb
        have HMv : Hid (∀ wv, Below wb.heap.size wb wv → MatAt wv D D vb v2 vn vz Lx.V) := fun wv hb => MV.below hb
        have HMo : Hid (∀ wv, Below wb.heap.size wb wv → MatAt wv D D ob' oo on oz Lx.O) := fun wv hb => MO.below hb
        have HMu : Hid (∀ wv, Below wb.heap.size wb wv → MatAt wv H D ub uo un uz Lx.U) := fun wv hb => MU.below hb
        have HMd : Hid (∀ wv, Below wb.heap.size wb wv → MatAt wv D H db d2 dn dz Lx.N) := fun wv hb => MD.below hb
        have HMe : Hid (∀ wv, Below wb.heap.size wb wv → MatAt wv V D eb eo en ez M.E) := fun wv hb => ME.below hb
        have HMt : Hid (∀ wv, Below wb.heap.size wb wv → MatAt wv V D tb t2 tn tz M.O) := fun wv hb => MT.below hb
        clear AF AS AG MQ MK MV MO MU MD ME MT
        have HIc : Hid (∀ wv, Below wb.heap.size wb wv → ∀ k, k < l1 → wv.cell? ⟨b1, k, none⟩ = some (.int .i64 (el P k))) := fun wv hb k hk => by
          obtain ⟨ib, io, ei, hic⟩ := (HIb.out wv hb).row.cells (by omega)
          simp only [Option.some.injEq, Addr.mk.injEq, and_true] at ei
          obtain ⟨rfl, rfl⟩ := ei
          have := hic k hk
          rw [Nat.zero_add] at this
          exact this
        have hD : 1 ≤ D ∧ D ≤ 32 := by omega
        have hHd : 1 ≤ Hd ∧ Hd ≤ 4 := by omega
        have hH : 1 ≤ H ∧ H ≤ 64 := by omega
        have hV : 2 ≤ V ∧ V ≤ 64 := by omega
        have hl1 := HL1.out
        have p1 : 1 ≤ l1 := by omega
        have HTK : Hid (∀ k, k < l1 → ∃ t : Nat, el P k = (t : Int) ∧ t < V) := fun k hk => by
          have := List.all_eq_true.1 pp3 _ (el_mem (show k < P.length by omega))
          unfold tokB at this
          have h2 : 0 ≤ el P k ∧ el P k < V := by simpa using this
          exact ⟨(el P k).toNat, by omega, by omega⟩
        have hsz : sizeN D = 0 := by unfold sizeN; rw [if_neg (by omega), if_neg (by omega)]
        clear hk pp1 pp2 pp3 hl1 hqp s1
        obtain ⟨R, HR⟩ : ∃ R, Hid (begL M.E D P = R) := ⟨_, rfl⟩
        have HRl : Hid (R.length = l1) := by show _ = _; rw [← HR.out, begL_len, HL1.out]
        have HRw : Hid (∀ k t : Nat, k < l1 → el P k = (t : Int) → rowOf R k = tab D fun j => addN (el (rowN M.E D t) j) (atN k j)) := fun k t hk ht => by
          rw [← HR.out, begL_atU _ _ _ (by rw [HL1.out]; exact hk), ht, Int.toNat_natCast]; rfl
        have HKt : Hid (∀ k, k < l1 → (keysR Lx D R).take (k + 1) = (keysR Lx D R).take k ++ [keyR Lx D (rowOf R k)]) := fun k hk => keys_take _ _ _ (by rw [HRl.out]; exact hk)
        have HVt : Hid (∀ k, k < l1 → (valsR Lx D R).take (k + 1) = (valsR Lx D R).take k ++ [valR Lx D (rowOf R k)]) := fun k hk => vals_take _ _ _ (by rw [HRl.out]; exact hk)
        have OK0 := ((ownGrid_empty wb).below ((Below.refl _ (wb.alloc (.cells #[] 27))).alloc (Nat.le_refl _) (.cells #[] 27)))
        have OV0 := (ownGrid_empty (wb.alloc (.cells #[] 27))).mono (B' := wb.heap.size) (by simp)
        have sz0 : (wb.alloc (.cells #[] 27)).heap.size = wb.heap.size + 1 := by simp
        rw [sz0] at OV0
        have B6 : Below wb.heap.size wb ((wb.alloc (.cells #[] 27)).alloc (.cells #[] 27)) := ((Below.refl _ wb).alloc (Nat.le_refl _) _).alloc (by simp) _
        clear sz0
        generalize hwl : (wb.alloc (.cells #[] 27)).alloc (.cells #[] 27) = wl at *
        have BL0 : Below wl.heap.size wl (wl.alloc (.cells #[] 31)) := (Below.refl _ _).alloc (Nat.le_refl _) _
        replace OK0 := OK0.below BL0
        replace OV0 := OV0.below BL0
        replace B6 := below_then B6 BL0
        clear BL0
        go_loopg [15, 16, 17, 131] l1 (fun r s15 s16 s17 s131 wr => ∃ (k gK cK gV cV gX nX cX : Nat), k ≤ l1 ∧ r = l1 - k ∧ s131 = .int .i64 (k : Int) ∧ s15 = .slice (some ⟨gK, 0, none⟩) k cK ∧ s16 = .slice (some ⟨gV, 0, none⟩) k cV ∧ s17 = .slice (some ⟨gX, 0, none⟩) nX cX ∧ OwnGrid wr wb.heap.size gK k cK ((keysR Lx D R).take k) ∧ OwnGrid wr wb.heap.size gV k cV ((valsR Lx D R).take k) ∧ gK ≠ gV ∧ (1 ≤ k → nX = D ∧ Fresh wr wb.heap.size gX D cX (rowOf R (k - 1))) ∧ Below wb.heap.size wb wr)
        case atStart => exact ⟨0, _, _, _, _, _, _, _, by omega, by omega, rfl, rfl, rfl, rfl, OK0, OV0, by omega, fun h => by omega, B6⟩
        case round =>
          clear OK0 OV0 B6 hwl
          obtain ⟨k, gK, cK, gV, cV, gX, nX, cX, hk, rfl, rfl, rfl, rfl, rfl, OK, OV, hne, FX, B6⟩ := hrel
          by_cases hlt : k < l1
          · obtain ⟨tk, etk, htk⟩ := HTK.out k hlt
            have ck := HIc.out _ B6 k hlt
            rw [etk] at ck
            have e0 : wr.cell? ⟨w2.heap.size, 0, none⟩ = some (.int .i64 (V : Int)) := (HX1.out _ B6).cell 0 rfl
            have e1 : wr.cell? ⟨w2.heap.size, 1, none⟩ = some (.int .i64 (D : Int)) := (HX1.out _ B6).cell 1 rfl
            have e2 : wr.cell? ⟨w2.heap.size, 2, none⟩ = some (.slice (some ⟨eb, eo, none⟩) en ez) := (HX1.out _ B6).cell 2 rfl
            have C7 := row_any V D eb eo en ez M.E tk wr (HMe.out _ B6) htk
            unfold matV at C7
            have HRk : Hid (rowOf R k = tab D fun j => addN (el (rowN M.E D tk) j) (atN k j)) := HRw.out k tk hlt etk
            have lK := OK.lt
            have lV := OV.lt
            have s6 := B6.size
            clear etk FX
            generalize wr = w6b at *
            go_wp2_with fail
            refine C7.mono ?_
            rintro e w7 ⟨g7, c7, rfl, F7, B7⟩
            have E7 := below_then B6 B7
            have s7 := B7.size
            clear C7 ck e0 e1 e2
            generalize rowN M.E D tk = Rw at *
            have sm := F7.small
            have FE := fresh_empty w7
            have BE : Below w7.heap.size w7 (w7.alloc (.cells #[] 31)) := (Below.refl _ _).alloc (Nat.le_refl _) _
            go_wp2_with fail
            generalize hwi : w7.alloc (.cells #[] 31) = wi at *
            go_loopg [22, 146] D (fun r s22 s146 wv => ∃ (j gx cx : Nat), j ≤ D ∧ r = D - j ∧ s146 = .int .i64 (j : Int) ∧ s22 = .slice (some ⟨gx, 0, none⟩) j cx ∧ Fresh wv w7.heap.size gx j cx (tab j fun j => addN (el Rw j) (atN k j)) ∧ Below w7.heap.size w7 wv)
            case atStart => exact ⟨0, _, _, by omega, by omega, rfl, rfl, FE, BE⟩
            case round =>
              clear FE BE hwi
              obtain ⟨j, gx, cx, hj, rfl, rfl, rfl, FX, Bj⟩ := hrel
              by_cases hjt : j < D
              · --D2<
                have cj := (F7.below Bj).cell hjt
                have rx := sm.el j
                have sj := Bj.size
                obtain ⟨r3, hr3⟩ : ∃ r3 : Int, r3 = ((j % 3 : Nat) : Int) := ⟨_, rfl⟩
                have hm3 : (j : Int) % 3 = r3 := by rw [hr3]; rfl
                obtain ⟨p, hp⟩ : ∃ p : Int, p = (k : Int) * r3 * 4096 := ⟨_, rfl⟩
                have hq1 : 0 ≤ (k : Int) * r3 ∧ (k : Int) * r3 ≤ 12 := by
                  have h3 : j % 3 ≤ 2 := by omega
                  have h4 : k * (j % 3) ≤ 6 * 2 := Nat.mul_le_mul (by omega) h3
                  rw [hr3, ← Int.natCast_mul]
                  omega
                have hpb : 0 ≤ p ∧ p ≤ 65536 := by omega
                have HA : Hid (addN (el Rw j) (atN k j) = addN (el Rw j) (sat p)) := by show _ = _; unfold atN; rw [hp, hr3]
                have sb := sat_bd p
                have ab := addN_bd (el Rw j) (sat p)
                have y1 : ∀ wv, Calls Tryd.prog 12 #[.int .i64 p] wv fun e w' => e = .returned (.int .i32 (sat p)) ∧ w' = wv := fun wv => sat_any _ _ (by omega) (by omega)
                have y2 : ∀ wv, Calls Tryd.prog 11 #[.int .i32 (el Rw j), .int .i32 (sat p)] wv fun e w' => e = .returned (.int .i32 (addN (el Rw j) (sat p))) ∧ w' = wv := fun wv => add_any _ _ _ (by omega) (by omega) (by omega) (by omega)
                clear hr3
                obtain ⟨a3, ha3⟩ : ∃ a3 : Int, a3 = (k : Int) * r3 := ⟨_, rfl⟩
                have hw1 : IntKind.i64.wrap ((k : Int) * r3) = a3 := by rw [ha3]; exact wrap_in (by omega)
                have hw2 : IntKind.i64.wrap (a3 * 4096) = p := by rw [ha3, ← hp]; exact wrap_in (by omega)
                clear hq1 hp ha3
                generalize hz2 : addN (el Rw j) (sat p) = z2 at *
                have HZ : Hid (addN (el Rw j) (atN k j) = z2) := HA.out
                generalize sat p = z1 at *
                clear HA hz2
                have RX := rowAt_one wr z2 (by omega)
                have BA : Below wr.heap.size wr (wr.alloc (.cells #[.int .i32 z2] 31)) := (Below.refl _ _).alloc (Nat.le_refl _) _
                generalize hw3 : wr.alloc (.cells #[.int .i32 z2] 31) = w3 at RX BA
                have s3 := BA.size
                have FX3 := FX.below BA
                have HFX : Hid (∀ wv g' c', Fresh wv w7.heap.size g' (j + 1) c' ((tab j fun j => addN (el Rw j) (atN k j)) ++ [z2]) → Fresh wv w7.heap.size g' (j + 1) c' (tab (j + 1) fun j => addN (el Rw j) (atN k j))) := fun wv g' c' h => by rw [tab_snoc1, HZ.out]; exact h
                generalize el Rw j = xa at *
                go_wp2_with (first | (go_at_call 12; refine (y1 _).mono ?_; rintro e wr ⟨rfl, rfl⟩) | (go_at_call 11; refine (y2 _).mono ?_; rintro e wr ⟨rfl, rfl⟩) | (at_builtin; refine wpList_append_row rfl _ _ rfl w7.heap.size gx j cx _ rfl (by exact FX3) (some ⟨wr.heap.size, 0, none⟩) 1 1 [z2] rfl (by exact RX) (fun h => by cases h) (by omega) (by omega) ?_; intro g' cap' w' F3 B3))
                go_roundg (D - (j + 1))
                case measure => omega
                case rel => exact ⟨j + 1, _, _, by omega, rfl, by go_num, rfl, HFX.out _ _ _ F3, (below_then Bj BA).trans B3⟩
                --D2>
              · --D3<
                obtain rfl : D = j := by omega
                clear sm
                rw [← HRk.out] at FX
                have sj := Bj.size
                have Ej := below_then E7 Bj
                generalize wr = wx at *
                generalize hXX : rowOf R k = XX at *
                have b0 : wx.cell? ⟨wy.heap.size, 0, none⟩ = some (.slice fa D fz) := (HXB.out _ Ej).cell 0 rfl
                have C8 := norm_any (some ⟨gx, 0, none⟩) fa D cx fz XX Lx.F wx FX.rowAt (HF.out _ Ej).row hsz
                clear F7
                go_wp2_with fail
                refine C8.mono ?_
                rintro e w8 ⟨gn, rfl, F8, B8⟩
                have E8 := below_then Ej B8
                have s8 := B8.size
                have b4 : w8.cell? ⟨wy.heap.size, 4, none⟩ = some (.int .i64 (D : Int)) := (HXB.out _ E8).cell 4 rfl
                have b5 : w8.cell? ⟨wy.heap.size, 5, none⟩ = some (.int .i64 (D : Int)) := (HXB.out _ E8).cell 5 rfl
                have b6 : w8.cell? ⟨wy.heap.size, 6, none⟩ = some (.slice (some ⟨kb, k2, none⟩) kn kz) := (HXB.out _ E8).cell 6 rfl
                have C9 := apply_any D D kb k2 kn kz Lx.K (some ⟨gn, 0, none⟩) D (nrm XX Lx.F D) w8 (HMk.out _ E8) F8.rowAt
                unfold matV at C9
                clear b0 C8
                go_wp2_with fail
                refine C9.mono ?_
                rintro e w9 ⟨gk, rfl, F9, B9⟩
                have E9 := below_then E8 B9
                have s9 := B9.size
                replace F8 := F8.below B9
                have b7 : w9.cell? ⟨wy.heap.size, 7, none⟩ = some (.int .i64 (D : Int)) := (HXB.out _ E9).cell 7 rfl
                have b8 : w9.cell? ⟨wy.heap.size, 8, none⟩ = some (.int .i64 (D : Int)) := (HXB.out _ E9).cell 8 rfl
                have b9 : w9.cell? ⟨wy.heap.size, 9, none⟩ = some (.slice (some ⟨vb, v2, none⟩) vn vz) := (HXB.out _ E9).cell 9 rfl
                have C10 := apply_any D D vb v2 vn vz Lx.V (some ⟨gn, 0, none⟩) D (nrm XX Lx.F D) w9 (HMv.out _ E9) F8.rowAt
                unfold matV at C10
                clear b4 b5 b6 C9
                go_wp2_with fail
                refine C10.mono ?_
                rintro e w10 ⟨gv, rfl, F10, B10⟩
                have s10 := B10.size
                have F9k : Fresh w9 w8.heap.size gk D D (keyR Lx D XX) := F9
                have F10v : Fresh w10 w9.heap.size gv D D (valR Lx D XX) := F10
                have HKk := HKt.out k hlt
                have HVk := HVt.out k hlt
                rw [hXX] at HKk HVk
                have HKk2 : Hid ((keysR Lx D R).take (k + 1) = (keysR Lx D R).take k ++ [keyR Lx D XX]) := HKk
                have HVk2 : Hid ((valsR Lx D R).take (k + 1) = (valsR Lx D R).take k ++ [valR Lx D XX]) := HVk
                clear HKk HVk F9 F10 b7 b8 b9 C10 F8
                generalize keyR Lx D XX = KK at *
                generalize valR Lx D XX = VV at *
                have hg9 := F9k.base
                have hg10 := F10v.base
                have hgx := FX.base
                have BL : Below w10.heap.size w10 (w10.alloc (.cells #[.slice (some ⟨gk, 0, none⟩) D D] 27)) := (Below.refl _ _).alloc (Nat.le_refl _) _
                have cX := cellRow_new w10 (.slice (some ⟨gk, 0, none⟩) D D)
                have sL : (w10.alloc (.cells #[.slice (some ⟨gk, 0, none⟩) D D] 27)).heap.size = w10.heap.size + 1 := by simp
                have BO := below_then (below_then (below_then (below_then (below_then B7 Bj) B8) B9) B10) BL
                have F9l := ((F9k.below B10).below BL).mono (B' := wb.heap.size) (by omega)
                have F10l := (F10v.below BL).mono (B' := wb.heap.size) (by omega)
                have FXl := ((((FX.below B8).below B9).below B10).below BL).mono (B' := wb.heap.size) (by omega)
                have E11 := below_then (below_then E9 B10) BL
                have lgx := FXl.lt
                have lgv := F10l.lt
                clear F9k F10v FX BL B8 B9 B10 Bj B7 E7 E8 E9 Ej
                generalize hw11 : w10.alloc (.cells #[.slice (some ⟨gk, 0, none⟩) D D] 27) = w11 at *
                go_upto_region 29 with (at_builtin; refine wpList_append_grid2 rfl _ _ rfl wb.heap.size gK k cK _ rfl w6b (by exact OK) (by exact BO) w10.heap.size gk D D _ rfl (by exact cX) (by exact F9l) (by omega) (by omega) (by omega) ?_; intro gK' cK' w12 OK12 B12 K12 W12)
                have s12 := B12.size
                obtain ⟨wm, sm, Bm, em⟩ := cut_world w12 w6b.heap.size (by omega)
                have OVm : OwnGrid wm wb.heap.size gV k cV ((valsR Lx D R).take k) := OV.keep OK hne.symm (fun b hb hnb => (em b hb).trans ((K12 b (by omega) hnb).trans (BO.block b hb)))
                have F10m := F10l.of_block (K12 gv lgv (by omega))
                have FXm := FXl.of_block (K12 gx lgx (by omega))
                rw [← sm] at Bm
                have BL2 : Below w12.heap.size w12 (w12.alloc (.cells #[.slice (some ⟨gv, 0, none⟩) D D] 27)) := (Below.refl _ _).alloc (Nat.le_refl _) _
                have cX2 := cellRow_new w12 (.slice (some ⟨gv, 0, none⟩) D D)
                have sL2 : (w12.alloc (.cells #[.slice (some ⟨gv, 0, none⟩) D D] 27)).heap.size = w12.heap.size + 1 := by simp
                have BO2 := below_then Bm BL2
                have F10n := F10m.below BL2
                have FXn := FXm.below BL2
                have E13 := below_then (E11.trans B12) BL2
                have lK12 := OK12.lt
                have OK13 := OK12.below BL2
                have OV13 := OVm.below BO2
                have lgx2 := FXn.lt
                clear F10m FXm BL2 Bm cX F9l F10l FXl OK OV BO hw11 K12 em B12 E11 OK12
                generalize hw13 : w12.alloc (.cells #[.slice (some ⟨gv, 0, none⟩) D D] 27) = w13 at *
                go_wp2_with (at_builtin; refine wpList_append_grid2 rfl _ _ rfl wb.heap.size gV k cV _ rfl wm (by exact OVm) (by exact BO2) w12.heap.size gv D D _ rfl (by exact cX2) (by exact F10n) (by omega) (by omega) (by omega) ?_; intro gV' cV' w14 OV14 B14 K14 W14)
                have s14 := B14.size
                have OK14 := OK13.keep OV13 (by omega) K14
                have FX14 := FXn.of_block (K14 gx lgx2 (by omega))
                go_roundg (l1 - (k + 1))
                case measure => omega
                case rel => exact ⟨k + 1, gK', cK', gV', cV', gx, D, cx, by omega, rfl, by go_num, rfl, rfl, rfl, by rw [HKk2.out]; exact OK14, by rw [HVk2.out]; exact OV14, by omega, fun _ => ⟨rfl, by rw [Nat.add_sub_cancel, hXX]; exact FX14⟩, E13.trans B14⟩
                --D3>
          · --E<
            obtain rfl : l1 = k := by omega
            obtain ⟨hnX, FXx⟩ := FX p1
            have hnX2 := hnX.symm
            subst hnX2
            clear FX hnX HIc HTK HRw HKt HVt HMe
            generalize wr = w20 at *
            have lKl : (keysR Lx D R).length = l1 := by unfold keysR; rw [List.length_map, HRl.out]
            have lVl : (valsR Lx D R).length = l1 := by unfold valsR; rw [List.length_map, HRl.out]
            rw [List.take_of_length_le (by omega)] at OK OV
            have rKl : ∀ t, t < l1 → (rowOf (keysR Lx D R) t).length = D := fun t ht => by rw [keysR_at _ _ (by rw [HRl.out]; exact ht)]; exact apl_len _ _ _ _
            have rVl : ∀ t, t < l1 → (rowOf (valsR Lx D R) t).length = D := fun t ht => by rw [valsR_at _ _ (by rw [HRl.out]; exact ht)]; exact apl_len _ _ _ _
            have hchk : hchkN D l1 l1 (keysR Lx D R) (valsR Lx D R) (Hd : Int) = 0 := hchkN_at hHd.1 hHd.2 hD.1 hD.2 p1 (by omega) hmod rKl rVl
            obtain ⟨rk, zk, HKc⟩ : ∃ rk zk, Hid (∀ wv, Below wb.heap.size wb wv → wv.cell? ⟨gK6, 0, none⟩ = some (.slice rk l1 zk) ∧ GridAt wv rk l1 (keysR Lx D R)) := by
              have h := HKb.out wb (Below.refl _ _)
              rw [(full_one M D H Hd P).1, HLx.out, HR.out] at h
              obtain ⟨b, o, e, hc⟩ := h.cells (by omega)
              simp only [Option.some.injEq, Addr.mk.injEq, and_true] at e
              obtain ⟨rfl, rfl⟩ := e
              obtain ⟨ro, n, c, h1, -, -, -, h5⟩ := hc 0 _ rfl
              have hn : l1 = n := by rw [← h5.len, lKl]
              subst hn
              rw [Nat.zero_add] at h1
              have hlt : gK6 < wb.heap.size := by simpa using World.block_lt_of_cell? wb _ h1
              exact ⟨ro, c, fun wv hb => ⟨by rw [hb.cell (by exact hlt)]; exact h1, h5.below hb⟩⟩
            obtain ⟨rv, zv, HVc⟩ : ∃ rv zv, Hid (∀ wv, Below wb.heap.size wb wv → wv.cell? ⟨gV6, 0, none⟩ = some (.slice rv l1 zv) ∧ GridAt wv rv l1 (valsR Lx D R)) := by
              have h := HVb.out wb (Below.refl _ _)
              rw [(full_one M D H Hd P).2, HLx.out, HR.out] at h
              obtain ⟨b, o, e, hc⟩ := h.cells (by omega)
              simp only [Option.some.injEq, Addr.mk.injEq, and_true] at e
              obtain ⟨rfl, rfl⟩ := e
              obtain ⟨ro, n, c, h1, -, -, -, h5⟩ := hc 0 _ rfl
              have hn : l1 = n := by rw [← h5.len, lVl]
              subst hn
              rw [Nat.zero_add] at h1
              have hlt : gV6 < wb.heap.size := by simpa using World.block_lt_of_cell? wb _ h1
              exact ⟨ro, c, fun wv hb => ⟨by rw [hb.cell (by exact hlt)]; exact h1, h5.below hb⟩⟩
            have HEq : Hid (fullX M V D H Hd 1 P = likR M V D (endR Lx D H (plusR (rowOf R (l1 - 1)) (apl Lx.O (tab D (attEl (apl Lx.Q (nrm (rowOf R (l1 - 1)) Lx.F D) D D) (keysR Lx D R) (valsR Lx D R) l1 (D / Hd))) D D) D))) := by
              show _ = _
              rw [un_like _ _ _ _ _ _ (by rw [HL1.out]; exact p1), HLx.out, HR.out, HL1.out]
            clear HKb HVb lKl lVl rKl rVl HL1 HLx HR HRl hne
            generalize keysR Lx D R = KL at *
            generalize valsR Lx D R = VL at *
            generalize rowOf R (l1 - 1) = XX at *
            have HGK : Hid (∀ wv, Below w20.heap.size w20 wv → GridAt wv (some ⟨gK, 0, none⟩) l1 KL) := fun wv hb => (OK.grid (by omega)).below hb
            have HGV : Hid (∀ wv, Below w20.heap.size w20 wv → GridAt wv (some ⟨gV, 0, none⟩) l1 VL) := fun wv hb => (OV.grid (by omega)).below hb
            have HFX : Hid (∀ wv, Below w20.heap.size w20 wv → Fresh wv wb.heap.size gX D cX XX) := fun wv hb => FXx.below hb
            have E20 := B6
            have D20 := Below.refl w20.heap.size w20
            clear OK OV FXx B6
            have b0 : w20.cell? ⟨wy.heap.size, 0, none⟩ = some (.slice fa D fz) := (HXB.out _ E20).cell 0 rfl
            have C21 := norm_any (some ⟨gX, 0, none⟩) fa D cX fz XX Lx.F w20 (HFX.out _ D20).rowAt (HF.out _ E20).row hsz
            go_wp2_with fail
            refine C21.mono ?_
            rintro e w21 ⟨g21, rfl, F21, B21⟩
            obtain ⟨N1, HN1⟩ : ∃ N1, Hid (nrm XX Lx.F D = N1) := ⟨_, rfl⟩
            replace F21 : Fresh w21 w20.heap.size g21 D D N1 := HN1.out ▸ F21
            have E21 := below_then E20 B21
            have D21 := below_then D20 B21
            clear b0 C21 B21
            have b1' : w21.cell? ⟨wy.heap.size, 1, none⟩ = some (.int .i64 (D : Int)) := (HXB.out _ E21).cell 1 rfl
            have b2' : w21.cell? ⟨wy.heap.size, 2, none⟩ = some (.int .i64 (D : Int)) := (HXB.out _ E21).cell 2 rfl
            have b3' : w21.cell? ⟨wy.heap.size, 3, none⟩ = some (.slice (some ⟨qb, qo, none⟩) qn qz) := (HXB.out _ E21).cell 3 rfl
            have C22 := apply_any D D qb qo qn qz Lx.Q (some ⟨g21, 0, none⟩) D N1 w21 (HMq.out _ E21) F21.rowAt
            unfold matV at C22
            go_wp2_with fail
            refine C22.mono ?_
            rintro e w22 ⟨g22, rfl, F22, B22⟩
            obtain ⟨Q1, HQ1⟩ : ∃ Q1, Hid (apl Lx.Q N1 D D = Q1) := ⟨_, rfl⟩
            replace F22 : Fresh w22 w21.heap.size g22 D D Q1 := HQ1.out ▸ F22
            have E22 := below_then E21 B22
            have D22 := below_then D21 B22
            clear b1' b2' b3' C22 B22 F21
            have c2 : w22.cell? ⟨w.heap.size, 2, none⟩ = some (.int .i64 (Hd : Int)) := (HX0.out _ E22).cell 2 rfl
            have C23 := attend_any (some ⟨g22, 0, none⟩) (some ⟨gK, 0, none⟩) (some ⟨gV, 0, none⟩) D l1 l1 D cK cV Q1 KL VL (Hd : Int) w22 (HTb.out _ E22) F22.arg (HGK.out _ D22) (HGV.out _ D22) hchk
            rw [Int.toNat_natCast] at C23
            go_wp2_with fail
            refine C23.mono ?_
            rintro e w23 ⟨g23, c23, rfl, F23, B23⟩
            obtain ⟨A1, HA1⟩ : ∃ A1, Hid (tab D (attEl Q1 KL VL l1 (D / Hd)) = A1) := ⟨_, rfl⟩
            replace F23 : Fresh w23 w22.heap.size g23 D c23 A1 := HA1.out ▸ F23
            have E23 := below_then E22 B23
            have D23 := below_then D22 B23
            clear c2 C23 B23 F22
            have b10 : w23.cell? ⟨wy.heap.size, 10, none⟩ = some (.int .i64 (D : Int)) := (HXB.out _ E23).cell 10 rfl
            have b11 : w23.cell? ⟨wy.heap.size, 11, none⟩ = some (.int .i64 (D : Int)) := (HXB.out _ E23).cell 11 rfl
            have b12 : w23.cell? ⟨wy.heap.size, 12, none⟩ = some (.slice (some ⟨ob', oo, none⟩) on oz) := (HXB.out _ E23).cell 12 rfl
            have C24 := apply_any D D ob' oo on oz Lx.O (some ⟨g23, 0, none⟩) c23 A1 w23 (HMo.out _ E23) F23.rowAt
            unfold matV at C24
            go_wp2_with fail
            refine C24.mono ?_
            rintro e w24 ⟨g24, rfl, F24, B24⟩
            obtain ⟨O1, HO1⟩ : ∃ O1, Hid (apl Lx.O A1 D D = O1) := ⟨_, rfl⟩
            replace F24 : Fresh w24 w23.heap.size g24 D D O1 := HO1.out ▸ F24
            have E24 := below_then E23 B24
            have D24 := below_then D23 B24
            clear b10 b11 b12 C24 B24 F23
            have C25 := vadd_any (some ⟨gX, 0, none⟩) (some ⟨g24, 0, none⟩) D cX D XX O1 w24 (HFX.out _ D24).rowAt F24.rowAt (by omega)
            go_wp2_with fail
            refine C25.mono ?_
            rintro e w25 ⟨g25, rfl, F25, B25⟩
            obtain ⟨Y1, HY1⟩ : ∃ Y1, Hid (plusR XX O1 D = Y1) := ⟨_, rfl⟩
            replace F25 : Fresh w25 w24.heap.size g25 D D Y1 := HY1.out ▸ F25
            have E25 := below_then E24 B25
            have D25 := below_then D24 B25
            clear C25 B25 F24
            have b13 : w25.cell? ⟨wy.heap.size, 13, none⟩ = some (.slice sa D sz) := (HXB.out _ E25).cell 13 rfl
            have C26 := norm_any (some ⟨g25, 0, none⟩) sa D D sz Y1 Lx.S w25 F25.rowAt (HS.out _ E25).row hsz
            go_wp2_with fail
            refine C26.mono ?_
            rintro e w26 ⟨g26, rfl, F26, B26⟩
            obtain ⟨N2, HN2⟩ : ∃ N2, Hid (nrm Y1 Lx.S D = N2) := ⟨_, rfl⟩
            replace F26 : Fresh w26 w25.heap.size g26 D D N2 := HN2.out ▸ F26
            replace F25 := F25.below B26
            have E26 := below_then E25 B26
            have D26 := below_then D25 B26
            clear b13 C26 B26
            have b14 : w26.cell? ⟨wy.heap.size, 14, none⟩ = some (.int .i64 (H : Int)) := (HXB.out _ E26).cell 14 rfl
            have b15 : w26.cell? ⟨wy.heap.size, 15, none⟩ = some (.int .i64 (D : Int)) := (HXB.out _ E26).cell 15 rfl
            have b16 : w26.cell? ⟨wy.heap.size, 16, none⟩ = some (.slice (some ⟨ub, uo, none⟩) un uz) := (HXB.out _ E26).cell 16 rfl
            have C27 := apply_any H D ub uo un uz Lx.U (some ⟨g26, 0, none⟩) D N2 w26 (HMu.out _ E26) F26.rowAt
            unfold matV at C27
            go_wp2_with fail
            refine C27.mono ?_
            rintro e w27 ⟨g27, rfl, F27, B27⟩
            obtain ⟨U1, HU1⟩ : ∃ U1, Hid (apl Lx.U N2 H D = U1) := ⟨_, rfl⟩
            replace F27 : Fresh w27 w26.heap.size g27 H H U1 := HU1.out ▸ F27
            replace F25 := F25.below B27
            have E27 := below_then E26 B27
            have D27 := below_then D26 B27
            clear b14 b15 b16 C27 B27 F26
            replace F27 := F27.drew
            replace F25 := F25.drew
            replace E27 := E27.drew
            replace D27 := D27.drew
            go_wp2_with fail
            have S27 : w27.drew.cell? ⟨wy.heap.size, 17, none⟩ = some (.int .i64 (D : Int)) ∧ w27.drew.cell? ⟨wy.heap.size, 18, none⟩ = some (.int .i64 (H : Int)) ∧ w27.drew.cell? ⟨wy.heap.size, 19, none⟩ = some (.slice (some ⟨db, d2, none⟩) dn dz) := ⟨(HXB.out _ E27).cell 17 rfl, (HXB.out _ E27).cell 18 rfl, (HXB.out _ E27).cell 19 rfl⟩
            refine wp_region_held_drew (S := fun w' => w'.cell? ⟨wy.heap.size, 17, none⟩ = some (.int .i64 (D : Int)) ∧ w'.cell? ⟨wy.heap.size, 18, none⟩ = some (.int .i64 (H : Int)) ∧ w'.cell? ⟨wy.heap.size, 19, none⟩ = some (.slice (some ⟨db, d2, none⟩) dn dz)) (by kernel_rfl) (S27) (fun hHeld => ?_)
            refine wpAnyH_take (i := 0) (v := (.pointer (some ⟨wy.heap.size, 17, none⟩))) rfl (by kernel_rfl) (by kernel_rfl) (by kernel_rfl) (fun _ _ _ h => h) (Or.inl ⟨by rfl, ?_⟩) (by assumption) ?_
            · intro w' hSw
              go_simp
            simp only [List.getElem_toArray, List.getElem_cons_zero, Act.put, List.setIfInBounds_toArray, List.set_cons_zero, List.set_cons_succ]
            refine wpAnyH_take (i := 1) (v := (.agg #[.int .i64 (D : Int), .int .i64 (H : Int), .slice (some ⟨db, d2, none⟩) dn dz])) rfl (by kernel_rfl) (by kernel_rfl) (by kernel_rfl) (fun _ _ _ h => h) (Or.inl ⟨by rfl, ?_⟩) (by assumption) ?_
            · intro w' hSw
              have c17 := hSw.1
              have c18 := hSw.2.1
              have c19 := hSw.2.2
              go_simp
            simp only [List.getElem_toArray, List.getElem_cons_succ, List.getElem_cons_zero, Act.put, List.setIfInBounds_toArray, List.set_cons_zero, List.set_cons_succ]
            refine wpAnyH_take (i := 2) (v := (.slice (some ⟨g27, 0, none⟩) H H)) rfl (by kernel_rfl) (by kernel_rfl) (by kernel_rfl) (fun _ _ _ h => h) (Or.inl ⟨by rfl, ?_⟩) (by assumption) ?_
            · intro w' hSw
              go_simp
            simp only [List.getElem_toArray, List.getElem_cons_succ, List.getElem_cons_zero, Act.put, List.setIfInBounds_toArray, List.set_cons_zero, List.set_cons_succ]
            refine wpAnyH_ready (rs := [3]) (by kernel_rfl) (by simp) ?_
            refine AllReadyH.cons rfl (fun Kc hKc => ?_) AllReadyH.nil
            simp only [List.getElem_toArray, List.getElem_cons_succ, List.getElem_cons_zero]
            rw [if_pos (by rfl)]
            go_wp2_with fail
            refine (rise_any (some ⟨g27, 0, none⟩) H H U1 _ F27.rowAt (by omega)).mono ?_
            rintro e w28 ⟨g28, rfl, F28, B28⟩
            obtain ⟨R1, HR1⟩ : ∃ R1, Hid (riseR U1 H = R1) := ⟨_, rfl⟩
            replace F28 : Fresh w28 w27.drew.heap.size g28 H H R1 := HR1.out ▸ F28
            replace F25 := F25.below B28
            have E28 := below_then E27 B28
            have D28 := below_then D27 B28
            clear S27 F27 B28
            have S28 : w28.cell? ⟨wy.heap.size, 17, none⟩ = some (.int .i64 (D : Int)) ∧ w28.cell? ⟨wy.heap.size, 18, none⟩ = some (.int .i64 (H : Int)) ∧ w28.cell? ⟨wy.heap.size, 19, none⟩ = some (.slice (some ⟨db, d2, none⟩) dn dz) := ⟨(HXB.out _ E28).cell 17 rfl, (HXB.out _ E28).cell 18 rfl, (HXB.out _ E28).cell 19 rfl⟩
            go_wp2_with fail
            refine hKc.out _ _ (S28) (fun hHeld => ?_)
            clear hKc Kc
            refine wpAnyH_ready (rs := [4]) (by kernel_rfl) (by simp) ?_
            refine AllReadyH.cons rfl (fun Kc hKc => ?_) AllReadyH.nil
            simp only [List.getElem_toArray, List.getElem_cons_succ, List.getElem_cons_zero]
            rw [if_pos (by rfl)]
            have C29 := apply_any D H db d2 dn dz Lx.N (some ⟨g28, 0, none⟩) H R1 w28 (HMd.out _ E28) F28.rowAt
            unfold matV at C29
            go_wp2_with fail
            refine C29.mono ?_
            rintro e w29 ⟨g29, rfl, F29, B29⟩
            obtain ⟨Dn, HDn⟩ : ∃ Dn, Hid (apl Lx.N R1 D H = Dn) := ⟨_, rfl⟩
            replace F29 : Fresh w29 w28.heap.size g29 D D Dn := HDn.out ▸ F29
            replace F25 := F25.below B29
            have E29 := below_then E28 B29
            have D29 := below_then D28 B29
            clear S28 C29 F28 B29
            have S29 : w29.cell? ⟨wy.heap.size, 17, none⟩ = some (.int .i64 (D : Int)) ∧ w29.cell? ⟨wy.heap.size, 18, none⟩ = some (.int .i64 (H : Int)) ∧ w29.cell? ⟨wy.heap.size, 19, none⟩ = some (.slice (some ⟨db, d2, none⟩) dn dz) := ⟨(HXB.out _ E29).cell 17 rfl, (HXB.out _ E29).cell 18 rfl, (HXB.out _ E29).cell 19 rfl⟩
            go_wp2_with fail
            refine hKc.out _ _ (S29) (fun hHeld => ?_)
            clear hKc Kc
            refine wpAnyH_take (i := 5) (v := (.tuple #[.slice (some ⟨g29, 0, none⟩) D D, .int .i64 0])) rfl (by kernel_rfl) (by kernel_rfl) (by kernel_rfl) (fun _ _ _ h => h) (Or.inl ⟨by rfl, ?_⟩) (by assumption) ?_
            · intro w' hSw
              go_simp
            simp only [List.getElem_toArray, List.getElem_cons_succ, List.getElem_cons_zero, Act.put, List.setIfInBounds_toArray, List.set_cons_zero, List.set_cons_succ]
            refine wpAnyH_take (i := 6) (v := (.slice (some ⟨g29, 0, none⟩) D D)) rfl (by kernel_rfl) (by kernel_rfl) (by kernel_rfl) (fun _ _ _ h => h) (Or.inl ⟨by rfl, ?_⟩) (by assumption) ?_
            · intro w' hSw
              go_simp
            simp only [List.getElem_toArray, List.getElem_cons_succ, List.getElem_cons_zero, Act.put, List.setIfInBounds_toArray, List.set_cons_zero, List.set_cons_succ]
            refine wpAnyH_take (i := 7) (v := (.int .i64 0)) rfl (by kernel_rfl) (by kernel_rfl) (by kernel_rfl) (fun _ _ _ h => h) (Or.inl ⟨by rfl, ?_⟩) (by assumption) ?_
            · intro w' hSw
              go_simp
            simp only [List.getElem_toArray, List.getElem_cons_succ, List.getElem_cons_zero, Act.put, List.setIfInBounds_toArray, List.set_cons_zero, List.set_cons_succ]
            refine wpAnyH_take (i := 8) (v := (.slice (some ⟨g29, 0, none⟩) D D)) rfl (by kernel_rfl) (by kernel_rfl) (by kernel_rfl) (fun _ _ _ h => h) (Or.inl ⟨by rfl, ?_⟩) (by assumption) ?_
            · intro w' hSw
              go_simp
            simp only [List.getElem_toArray, List.getElem_cons_succ, List.getElem_cons_zero, Act.put, List.setIfInBounds_toArray, List.set_cons_zero, List.set_cons_succ]
            refine wpAnyH_take (i := 9) (v := (.int .i64 0)) rfl (by kernel_rfl) (by kernel_rfl) (by kernel_rfl) (fun _ _ _ h => h) (Or.inl ⟨by rfl, ?_⟩) (by assumption) ?_
            · intro w' hSw
              go_simp
            simp only [List.getElem_toArray, List.getElem_cons_succ, List.getElem_cons_zero, Act.put, List.setIfInBounds_toArray, List.set_cons_zero, List.set_cons_succ]
            refine wpAnyH_done (by kernel_rfl) ?_ _
            clear S29
            have C30 := vadd_any (some ⟨g25, 0, none⟩) (some ⟨g29, 0, none⟩) D D D Y1 Dn w29 F25.rowAt F29.rowAt (by omega)
            go_wp2_with fail
            refine C30.mono ?_
            rintro e w30 ⟨g30, rfl, F30, B30⟩
            obtain ⟨Z2, HZ2⟩ : ∃ Z2, Hid (plusR Y1 Dn D = Z2) := ⟨_, rfl⟩
            replace F30 : Fresh w30 w29.heap.size g30 D D Z2 := HZ2.out ▸ F30
            have E30 := below_then E29 B30
            have D30 := below_then D29 B30
            clear C30 B30 F25 F29
            have b4 : w30.cell? ⟨w2.heap.size, 4, none⟩ = some (.slice wla D wlz) := (HX1.out _ E30).cell 4 rfl
            have C31 := norm_any (some ⟨g30, 0, none⟩) wla D D wlz Z2 M.G w30 F30.rowAt (HG.out _ E30).row hsz
            go_wp2_with fail
            refine C31.mono ?_
            rintro e w31 ⟨g31, rfl, F31, B31⟩
            obtain ⟨N3, HN3⟩ : ∃ N3, Hid (nrm Z2 M.G D = N3) := ⟨_, rfl⟩
            replace F31 : Fresh w31 w30.heap.size g31 D D N3 := HN3.out ▸ F31
            have E31 := below_then E30 B31
            have D31 := below_then D30 B31
            clear b4 C31 B31 F30
            have b5 : w31.cell? ⟨w2.heap.size, 5, none⟩ = some (.int .i64 (V : Int)) := (HX1.out _ E31).cell 5 rfl
            have b6 : w31.cell? ⟨w2.heap.size, 6, none⟩ = some (.int .i64 (D : Int)) := (HX1.out _ E31).cell 6 rfl
            have b7 : w31.cell? ⟨w2.heap.size, 7, none⟩ = some (.slice (some ⟨tb, t2, none⟩) tn tz) := (HX1.out _ E31).cell 7 rfl
            have C32 := apply_any V D tb t2 tn tz M.O (some ⟨g31, 0, none⟩) D N3 w31 (HMt.out _ E31) F31.rowAt
            unfold matV at C32
            go_wp2_with fail
            refine C32.mono ?_
            rintro e w32 ⟨g32, rfl, F32, B32⟩
            obtain ⟨W1, HW1⟩ : ∃ W1, Hid (apl M.O N3 V D = W1) := ⟨_, rfl⟩
            replace F32 : Fresh w32 w31.heap.size g32 V V W1 := HW1.out ▸ F32
            have E32 := below_then E31 B32
            have D32 := below_then D31 B32
            have eqW : fullX M V D H Hd 1 P = W1 := by
              rw [HEq.out]
              unfold likR endR
              rw [HN1.out, HQ1.out, HA1.out, HO1.out, HY1.out, HN2.out, HU1.out, HR1.out, HDn.out, HZ2.out, HN3.out, HW1.out]
            have FL := HLk.out _ E32
            rw [eqW] at FL
            clear b5 b6 b7 C32 B32 F31 HEq HN1 HQ1 HA1 HO1 HY1 HN2 HU1 HR1 HDn HZ2 HN3 HW1 eqW HLk HF HS HG HMq HMk HMv HMo HMu HMd HMt HX0 HX1 HXB HTb HIb HFX hchk
            have C33 := same_any (some ⟨gl6, 0, none⟩) (some ⟨g32, 0, none⟩) V V V W1 w32 FL.rowAt F32.rowAt
            go_wp2_with fail
            refine C33.mono ?_
            rintro e w33 ⟨rfl, m33, hw33⟩
            have E33 : Below wb.heap.size wb w33 := hw33 ▸ below_drewN E32 m33
            have D33 : Below w20.heap.size w20 w33 := hw33 ▸ below_drewN D32 m33
            clear C33 FL F32 hw33 E32 D32
            have x0 : w33.cell? ⟨w6.heap.size, 0, none⟩ = some (.slice (some ⟨gK6, 0, none⟩) 1 1) := (HXC.out _ E33).cell 0 rfl
            have x1 : w33.cell? ⟨w6.heap.size, 1, none⟩ = some (.slice (some ⟨gV6, 0, none⟩) 1 1) := (HXC.out _ E33).cell 1 rfl
            have y0 := (HKc.out _ E33).1
            have y1 := (HVc.out _ E33).1
            go_wp2_with fail
            clear x0 x1 y0 y1
            go_loopg [302] l1 (fun r s302 wv => ∃ k : Nat, k ≤ l1 ∧ r = l1 - k ∧ s302 = .int .i64 (k : Int) ∧ Below w33.heap.size w33 wv)
            case atStart => exact ⟨0, by omega, by omega, rfl, Below.refl _ _⟩
            case round =>
              obtain ⟨k, hk, rfl, rfl, Bk⟩ := hrel
              have E34 := below_then E33 Bk
              have D34 := below_then D33 Bk
              by_cases hlt : k < l1
              · --E2<
                have HB : Hid (∀ p : Nxt wr, Below wb.heap.size wb p.to) := fun p => below_then E34 p.ok
                obtain ⟨kg, ko, eo1, hg1⟩ := (HKc.out _ E34).2.cells (by omega)
                obtain ⟨r1, m1, z1, q1, q2⟩ := hg1 k hlt
                obtain ⟨kg2, ko2, eo2, hg2⟩ := (HGK.out _ D34).cells (by omega)
                simp only [Option.some.injEq, Addr.mk.injEq, and_true] at eo2
                obtain ⟨rfl, rfl⟩ := eo2
                obtain ⟨r2, m2, z2, q3, q4⟩ := hg2 k hlt
                obtain ⟨vg, vo, eo3, hg3⟩ := (HVc.out _ E34).2.cells (by omega)
                obtain ⟨r3, m3, z3, q5, q6⟩ := hg3 k hlt
                obtain ⟨vg2, vo2, eo4, hg4⟩ := (HGV.out _ D34).cells (by omega)
                simp only [Option.some.injEq, Addr.mk.injEq, and_true] at eo4
                obtain ⟨rfl, rfl⟩ := eo4
                obtain ⟨r4, m4, z4, q7, q8⟩ := hg4 k hlt
                rw [Nat.zero_add] at q3 q7
                have em1 : m1 = m2 := by rw [← q2.row.len, ← q4.row.len]
                have em3 : m3 = m4 := by rw [← q6.row.len, ← q8.row.len]
                subst em1 em3 eo1 eo3
                have CB : ∀ (p : Nxt wr) (a : Addr) (v : Value), wr.cell? a = some v → p.to.cell? a = some v := fun p a v h => by
                  have hlt : a.block < wr.heap.size := by simpa using World.block_lt_of_cell? wr _ h
                  rw [p.ok.cell (by exact hlt)]; exact h
                have A0 : ∀ p : Nxt wr, p.to.cell? ⟨w6.heap.size, 0, none⟩ = some (.slice (some ⟨gK6, 0, none⟩) 1 1) := fun p => (HXC.out _ (HB.out p)).cell 0 rfl
                have A1' : ∀ p : Nxt wr, p.to.cell? ⟨w6.heap.size, 1, none⟩ = some (.slice (some ⟨gV6, 0, none⟩) 1 1) := fun p => (HXC.out _ (HB.out p)).cell 1 rfl
                have A2 : ∀ p : Nxt wr, p.to.cell? ⟨gK6, 0, none⟩ = some (.slice (some ⟨kg, ko, none⟩) l1 zk) := fun p => (HKc.out _ (HB.out p)).1
                have A3 : ∀ p : Nxt wr, p.to.cell? ⟨gV6, 0, none⟩ = some (.slice (some ⟨vg, vo, none⟩) l1 zv) := fun p => (HVc.out _ (HB.out p)).1
                have A4 : ∀ p : Nxt wr, p.to.cell? ⟨kg, ko + k, none⟩ = some (.slice r1 m1 z1) := fun p => CB p _ _ q1
                have A5 : ∀ p : Nxt wr, p.to.cell? ⟨gK, k, none⟩ = some (.slice r2 m1 z2) := fun p => CB p _ _ q3
                have A6 : ∀ p : Nxt wr, p.to.cell? ⟨vg, vo + k, none⟩ = some (.slice r3 m3 z3) := fun p => CB p _ _ q5
                have A7 : ∀ p : Nxt wr, p.to.cell? ⟨gV, k, none⟩ = some (.slice r4 m3 z4) := fun p => CB p _ _ q7
                have S1 := fun (p : Nxt wr) => same_any r1 r2 m1 z1 z2 _ p.to (q2.row.below p.ok) (q4.row.below p.ok)
                have S2 := fun (p : Nxt wr) => same_any r3 r4 m3 z3 z4 _ p.to (q6.row.below p.ok) (q8.row.below p.ok)
                clear hg1 hg2 hg3 hg4 q1 q2 q3 q4 q5 q6 q7 q8 CB HB
                go_wp2_with fail
                haveI := nxt_ne wr
                refine wp_region_nxt (by kernel_rfl) (by kernel_rfl) ?_
                repeat (first | go_big_quiet_skip | (go_big_quiet_want; go_big_quiet_op; first | go_big_quiet_on | (apply Exists.intro; refine ⟨fun pq => ?_, ?_⟩; (first | (go_at_call_of 17 r1; exact calls_nxt_drew (S1 pq)) | (go_at_call_of 17 r3; exact calls_nxt_drew (S2 pq))); go_big_quiet_on)))
                refine wpQuiet_nil ?_
                intro _ hw'
                obtain ⟨⟨wq, hwq⟩, hw''⟩ := hw'
                subst hw''
                have Bq := below_then Bk hwq
                clear A0 A1' A2 A3 A4 A5 A6 A7 S1 S2
                go_wp2
                go_roundg (l1 - (k + 1))
                case measure => omega
                case rel => exact ⟨k + 1, by omega, rfl, by go_num, Bq⟩
                --E2>
              · go_wp2
                go_ret
                exact ⟨rfl, below_then Db E34⟩
            --E>
      · have hq' : (promptN (V : Int) P == 0) = false := by simpa using hqp
        generalize promptN (V : Int) P = qp at *
        go_wp2
        go_ret
        exact ⟨rfl, D4⟩
  · have hq' : (q == 0) = false := by simpa using hq
    go_wp2_with (refine wpList_store_row rfl 37 _ _ rfl w2.heap.size ws rfl rfl 37 _ XZ (by rw [siz]; exact Tryd.infoW) (by rw [siz]; rfl) one ?_; rw [hwy])
    go_ret
    exact ⟨rfl, D3⟩
end Go.Proofs.YtddcdfghanabmaaDoor

/- The given statement on TillerUnrolled: at every input the law returns true and its arguments read as before; the listed table lies as the program's text lays it (the card ties it). -/
namespace Go.Proofs.YtddcdfghanabmaaDoor.tillerUnrolled
open Go.ChangeShapes Go.WideShapes Go.ChangeAt Go.WideMaps Go.WideElems Go.RowKit
set_option linter.unusedVariables false
abbrev lst : List (String × DataW Unit) := Rows.tillerUnrolledRow.laid
theorem door_met (os : Os) (args : Array Value) : laidMetH Tryd.prog lst ((World.doorLaid Tryd.prog 14 os).forCall (fun _ _ => 0) ⟨#[], args, []⟩).memory :=
  laidMetH_of_parts3 (fuel := 8) (laidMet_of_run' 8 (by kernel_rfl) (by kernel_rfl)) (by kernel_rfl) (by kernel_rfl)
set_option maxRecDepth 100000 in
theorem lifted (os : Os) (started : os.Started) (H : Type) (enc : TypeId × Value → H) :
    ReturnsInHanded {} Tryd.checked os 3 .any (fun w args => (Rows.tillerUnrolledSpec.pre enc Tryd.prog Tryd.f3 [] false w args ∧ laidMetH Tryd.prog lst w) ∧ sizedMet enc Tryd.prog Tryd.f3 (OpenSpec.ofChange Rows.tillerUnrolledSpec) false w args)
      (Rows.tillerUnrolledSpec.post enc Tryd.prog Tryd.f3 false true false false) := by
  refine returnsInHanded_of_change_and (C := Tryd.checked) (X := fun w _ => laidMetH Tryd.prog lst w) (fun _ _ _ hh h => h.of_heap hh) Tryd.own started (by kernel_rfl) Tryd.func3
    (ChangeSpec.witness_shaped (enc := enc) (C := Tryd.checked) (os := os) (X := fun w _ => laidMetH Tryd.prog lst w) false (World.doorLaid Tryd.prog 14 os) #[.agg #[.int .i64 0, .int .i64 0, .int .i64 0, .int .i64 0, .int .i64 0], .int .u64 0, .slice none 0 0] 8 rfl (World.shaped_of_RefB (by kernel_rfl) (by kernel_rfl)) (by kernel_rfl) (by kernel_rfl) (by kernel_rfl) (door_met os _)) ?_
  intro W base args ds gs before hval0 hW _ _ hL _
  have hval : ∀ (j : Nat) t v, Tryd.f3.params[j]? = some t → args[j]? = some v → Value.okWide Tryd.prog W .any base t v := hval0
  have hW' := hW
  obtain ⟨p, q, hA0, hV, rfl, _, _⟩ := hW
  have hA : DataW.TrodAll enc Tryd.prog W 0 (fun _ => true) true Tryd.f3.params.toList args.toList ds p := hA0
  rw [Tryd.params3] at hA hval
  obtain ⟨v0, vs0, d0, ds0, p0, q0, hargs, rfl, rfl, h0, r0⟩ := trodAll_cons hA
  obtain ⟨v1, vs1, d1, ds1, p1, q1, rfl, rfl, rfl, h1, r1⟩ := trodAll_cons r0
  obtain ⟨v2, vs2, d2, ds2, p2, q2, rfl, rfl, rfl, h2, r2⟩ := trodAll_cons r1
  obtain ⟨rfl, rfl, rfl⟩ := trodAll_nil r2
  obtain rfl : args = #[v0, v1, v2] := by cases args; simp_all
  obtain ⟨rfl, rfl⟩ := trodVars_none hV
  have k0 := h0
  obtain ⟨C0, rfl, g0⟩ := viewCfg (hval 0 _ v0 rfl rfl) h0
  have k1 := h1
  obtain ⟨a1, rfl, rfl, rfl, w1⟩ := open_int Tryd.underlying24 (hval 1 24 v1 rfl rfl) h1
  have b1 := bounds_u64 w1
  have k2 := h2
  obtain ⟨a2, n2, c2, Z2, rfl, g2⟩ := viewI (hval 2 _ v2 rfl rfl) h2
  clear hA0 hval0
  simp only [List.append_nil] at hW'
  have hlt : ∀ x ∈ p0 ++ p2, x.block < W.heap.size := fun x hx => by
    have hx2 := hx
    exact hW'.lt x (by grind)
  refine (tillerUnrolled_walk C0 a1 a2 n2 c2 Z2 W g0 b1 g2 (tab_of_laid hL)).mono fun e W' ⟨he, hb⟩ => ?_
  subst he
  exact ⟨_, rfl, _, _, _, [], _, [], hW', trodAll_mk1 (shut_bool Tryd.underlying4 true), trodAll_cons_mk (Below.trod Tryd.laidOut (by kernel_rfl) (of_decide_eq_true (by kernel_rfl)) k0 hb (fun x hx => hlt x (by simp [hx]))) (trodAll_cons_mk (shut_int Tryd.underlying24 w1) (trodAll_cons_mk (Below.trod Tryd.laidOut (by kernel_rfl) (of_decide_eq_true (by kernel_rfl)) k2 hb (fun x hx => hlt x (by simp [hx]))) trodAll_mk0)), rfl, hb.frame _, fun h => by cases h⟩
theorem row_holds : Rows.TillerUnrolledSaid :=
  OpenClaim.holds_of_wide 3 Tryd.f3 rfl rfl rfl rfl rfl rfl rfl ⟨rfl, rfl, rfl, rfl, rfl⟩ rfl rfl rfl rfl rfl (by kernel_rfl) Tryd.func3 (by kernel_rfl)
    (of_decide_eq_true (by kernel_rfl)) (by unfold Func.isWrapper; first | (rw [if_pos (by decide +kernel)]; kernel_rfl) | (rw [if_neg (by decide +kernel)]; exact ⟨rfl, rfl⟩))
    (fun os started H enc _ => lifted os started H enc)
/-- The given statement. -/
theorem card_holds : Rows.TillerUnrolledCardSaid :=
  Claim7.holds_tied_plain_at .later [] [.data] true (true, "b70afbe0657ad3dd9956a1d44afccb1d89af0eda139c1e36190672dc2379ff18") false
    row_holds (fun _ h => by cases h) (by kernel_rfl) (fun _ h => by cases h) tillerUnrolled_row_tie rfl ⟨rfl, rfl⟩ (by kernel_rfl) rfl
    (fun f fn hf hfn => by
      obtain rfl : f = 3 := Option.some.inj ((show Tryd.prog.funcNamed Rows.tillerUnrolledRow.func = some 3 by kernel_rfl).symm.trans hf) |>.symm
      obtain rfl : fn = Tryd.f3 := (Option.some.inj (Tryd.func3.symm.trans hfn)).symm
      exact ⟨by kernel_rfl, fun j t ht => by
        rw [Tryd.params3] at ht
        have hm : t ∈ [23, 24, 25] := by simpa using Array.mem_of_getElem? ht
        have hall : ([23, 24, 25].all fun u => !Tryd.prog.wantsStandIn u) = true := by kernel_rfl
        exact (show Tryd.prog.wantsStandIn t = false by simpa using List.all_eq_true.1 hall t hm)⟩)
    (by kernel_rfl)
end Go.Proofs.YtddcdfghanabmaaDoor.tillerUnrolled
namespace Go.Proofs.YtddcdfghanabmaaDoor
theorem tillerUnrolled_holds : Rows.TillerUnrolledCardSaid := tillerUnrolled.card_holds
#print axioms tillerUnrolled_holds
end Go.Proofs.YtddcdfghanabmaaDoor
