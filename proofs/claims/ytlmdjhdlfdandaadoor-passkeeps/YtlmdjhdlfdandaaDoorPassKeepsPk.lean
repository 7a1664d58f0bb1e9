/- The given statement on PassKeeps: at every input the law returns true and its arguments read as before; the listed table lies as the program's text lays it (the card ties it). -/
import Derived.Test.YtlmdjhdlfdandaaDoorPk7
import Derived.Test.YtlmdjhdlfdandaaDoorPk10
import Derived.Test.YtlmdjhdlfdandaaDoorPk5
import Derived.Deep.CutRange
import Derived.Test.YtlmdjhdlfdandaaDoorRows
import Derived.Test.YtlmdjhdlfdandaaDoorCards
import Derived.Test.YtlmdjhdlfdandaaDoorTie
import Derived.Test.YtlmdjhdlfdandaaDoorPk3
import Derived.ProofKit
import Derived.Carry
import Derived.LaidMore
import Derived.OpenShut
import Derived.Stop.Joined
import Derived.SevenTiedAt
/- What is handed in stays, and answers are nobody else's: the walk. -/
namespace Go.Proofs.YtlmdjhdlfdandaaDoor
open Go.ChangeShapes Go.WideShapes Go.ChangeAt Go.RowKit
/-- What stands all along. -/
structure PK4 (w wc : World) (V D Hd H L : Nat) (WW : Wt) (bs : List Bk) (M : Mdl) (ws : Array Value) (gW b1 l1 kq : Nat) (P : List Int) : Prop where
  x0 : Blk wc w.heap.size 23 #[.int .i64 (V : Int), .int .i64 (D : Int), .int .i64 (Hd : Int), .int .i64 (H : Int), .int .i64 (L : Int)]
  x1 : Blk wc gW 32 ws
  gd : Good wc V D Hd H L WW bs M
  ap : IArg wc (some ⟨b1, 0, none⟩) l1 kq P
  kp : Below w.heap.size w wc
theorem PK4.below {w wc wd : World} {V D Hd H L : Nat} {WW : Wt} {bs : List Bk} {M : Mdl} {ws : Array Value} {gW b1 l1 kq : Nat} {P : List Int} (h : PK4 w wc V D Hd H L WW bs M ws gW b1 l1 kq P) (hb : Below wc.heap.size wc wd) : PK4 w wd V D Hd H L WW bs M ws gW b1 l1 kq P := ⟨h.x0.below hb, h.x1.below hb, h.gd.below hb, h.ap.below hb, below_then h.kp hb⟩
set_option maxRecDepth 100000 in
set_option maxHeartbeats 32000000 in
theorem passKeeps_walk (C : Cfg) (sd : Int) (a1 : Option Addr) (n1 c1 : Nat) (Z1 : List Int) (w : World) (hC : C.Ok) (bs : 0 ≤ sd ∧ sd ≤ 18446744073709551615) (h1 : IArg w a1 n1 c1 Z1) (hT : Tab w) :
   Calls Tryd.prog 5 #[C.val, .int .u64 sd, .slice a1 n1 c1] w fun e w' => e = .returned (.bool true) ∧ Below w.heap.size w w' := by
  obtain ⟨seed, rfl⟩ : ∃ n : Nat, sd = n := ⟨sd.toNat, by omega⟩
  have hsd : seed < 18446744073709551616 := by omega
  clear bs
  have HT : Hid (∀ wv, Below w.heap.size w wv → Tab wv) := fun wv hb => hT.next hb
  have CW := fun (wv : World) (hb : Below w.heap.size w wv) => raw8_any wv (HT.out wv hb)
  have CF1 := fun (wv : World) (hb : Below w.heap.size w wv) => few8_any a1 n1 c1 Z1 8 wv (h1.below hb) (by omega)
  have s1 : ∀ k, -9223372036854775808 ≤ el (Z1.take 8) k ∧ el (Z1.take 8) k ≤ 9223372036854775807 := fun k => by
    rcases Nat.lt_or_ge k 8 with h | h
    · rw [el_take h]; exact h1.row.small k
    · rw [el_over (by rw [List.length_take]; omega)]; omega
  have hP8 : (Z1.take 8).length ≤ 8 := by rw [List.length_take]; omega
  have M0 := fun wv => make_gen C hC seed hsd wv
  have CS := fun wv => small8_any C.V C.D C.Hd C.H C.L wv
  have hu : ∀ C : Cfg, cfgC C.V C.D C.Hd C.H C.L = #[.int .i64 C.V, .int .i64 C.D, .int .i64 C.Hd, .int .i64 C.H, .int .i64 C.L] := fun _ => rfl
  unfold Cfg.val at *
  rw [hu] at M0 CS ⊢
  clear hT h1 hC
  have X0 := blk_new w 23 #[.int .i64 C.V, .int .i64 C.D, .int .i64 C.Hd, .int .i64 C.H, .int .i64 C.L]
  have B0 : Below w.heap.size w (w.alloc (.cells #[.int .i64 C.V, .int .i64 C.D, .int .i64 C.Hd, .int .i64 C.H, .int .i64 C.L] 23)) := (Below.refl _ _).alloc (Nat.le_refl _) _
  have z0 : w.heap.size < (w.alloc (.cells #[.int .i64 C.V, .int .i64 C.D, .int .i64 C.Hd, .int .i64 C.H, .int .i64 C.L] 23)).heap.size := by simp
  generalize hw0 : w.alloc (.cells #[.int .i64 C.V, .int .i64 C.D, .int .i64 C.Hd, .int .i64 C.H, .int .i64 C.L] 23) = w0 at *
  go_enter Tryd.func5, Tryd.ntmps5
  go_wp2_with fail
  refine (CF1 _ B0).mono ?_
  rintro e w1 ⟨b1, kq, rfl, O1, B1⟩
  generalize Z1.take 8 = P at *
  obtain ⟨l1, hl1⟩ : ∃ l1, P.length = l1 := ⟨_, rfl⟩
  have HL1 : Hid (P.length = l1) := hl1
  rw [hl1] at O1 hP8 ⊢
  clear hl1
  have D1 := below_then B0 B1
  replace X0 := X0.below B1
  clear hw0 CF1 B0 B1
  obtain ⟨x1, y1, e1, I1⟩ := IOwn.arg O1 s1
  simp only [Value.slice.injEq, true_and] at e1
  obtain ⟨rfl, rfl⟩ := e1
  have gw0 : w.heap.size < w0.heap.size := z0
  clear O1 z0
  have a0 : w1.cell? ⟨w.heap.size, 0, none⟩ = some (.int .i64 C.V) := X0.cell 0 rfl
  have a1 : w1.cell? ⟨w.heap.size, 1, none⟩ = some (.int .i64 C.D) := X0.cell 1 rfl
  have a2 : w1.cell? ⟨w.heap.size, 2, none⟩ = some (.int .i64 C.Hd) := X0.cell 2 rfl
  have a3 : w1.cell? ⟨w.heap.size, 3, none⟩ = some (.int .i64 C.H) := X0.cell 3 rfl
  have a4 : w1.cell? ⟨w.heap.size, 4, none⟩ = some (.int .i64 C.L) := X0.cell 4 rfl
  go_wp2_with fail
  refine (M0 w1).mono ?_
  rintro e w2 ⟨ws, q, rfl, MM, B2⟩
  replace X0 := X0.below B2
  replace I1 := I1.below B2
  have D2 := below_then D1 B2
  clear a0 a1 a2 a3 a4 B2 D1
  have siz := MM.size
  have one := MM.one
  have XZ := blk_new w2 32 #[.int .i64 0, .int .i64 0, .slice none 0 0, .slice none 0 0, .slice none 0 0, .int .i64 0, .int .i64 0, .slice none 0 0]
  have BZ : Below w2.heap.size w2 (w2.alloc (.cells #[.int .i64 0, .int .i64 0, .slice none 0 0, .slice none 0 0, .slice none 0 0, .int .i64 0, .int .i64 0, .slice none 0 0] 32)) := (Below.refl _ _).alloc (Nat.le_refl _) _
  generalize hwz : w2.alloc (.cells #[.int .i64 0, .int .i64 0, .slice none 0 0, .slice none 0 0, .slice none 0 0, .int .i64 0, .int .i64 0, .slice none 0 0] 32) = wz at *
  have X1 := XZ.row ws
  have BR := below_setRow BZ (Nat.le_refl _) ws
  generalize hwy : wz.setRow w2.heap.size ws = wy at *
  replace X0 := X0.below BR
  replace I1 := I1.below BR
  replace MM := MM.below BR
  have D3 := below_then D2 BR
  have a0 : wy.cell? ⟨w.heap.size, 0, none⟩ = some (.int .i64 C.V) := X0.cell 0 rfl
  have a1 : wy.cell? ⟨w.heap.size, 1, none⟩ = some (.int .i64 C.D) := X0.cell 1 rfl
  have a2 : wy.cell? ⟨w.heap.size, 2, none⟩ = some (.int .i64 C.Hd) := X0.cell 2 rfl
  have a3 : wy.cell? ⟨w.heap.size, 3, none⟩ = some (.int .i64 C.H) := X0.cell 3 rfl
  have a4 : wy.cell? ⟨w.heap.size, 4, none⟩ = some (.int .i64 C.L) := X0.cell 4 rfl
  by_cases hq : q = 0
  · subst hq
    obtain ⟨V, D, Hd, H, L, ge, gB, gl, go, e1, e2, e3, e4, e5, hcs, MW⟩ := MM.ok rfl
    have hsh : shapeN V D Hd H L = 0 := by rw [← e1, ← e2, ← e3, ← e4, ← e5]; exact MM.err.symm
    obtain ⟨bs, GD⟩ := made_good (Hd := Hd) MW hsh
    have hws : (mkW V D L ge gB gl go).cells = ws := by rw [hcs]; rfl
    obtain ⟨VV, DD, HHd, HH, LL⟩ := C
    simp only at e1 e2 e3 e4 e5
    subst e1 e2 e3 e4 e5
    have hk := shape_ok hsh
    have GD2 : Good wy V D Hd H L (mkW V D L ge gB gl go) bs (mdlS seed V D H L) := GD
    have M2 : ∀ wv : World, Calls Tryd.prog 7 #[.agg (cfgC V D Hd H L), .int .u64 (seed : Int)] wv fun e w' => ∃ W2 bs2, e = .returned (.tuple #[.agg (Wt.cells W2), .int .i64 0]) ∧ Good w' V D Hd H L W2 bs2 (mdlS seed V D H L) ∧ Below wv.heap.size wv w' := fun wv => by
      refine (make_any V D Hd H L seed wv hsd hsh).mono ?_
      rintro e w' ⟨ge', gB', gl', go', rfl, M', B'⟩
      obtain ⟨bs', G'⟩ := made_good (Hd := Hd) M' hsh
      exact ⟨_, bs', rfl, G', B'⟩
    generalize mdlS seed V D H L = M at *
    generalize hWW : mkW V D L ge gB gl go = WW at *
    clear MM MW hcs GD hWW
    have FO := fun (W2 : Wt) (bs2 : List Bk) (ao : Option Addr) (n ca : Nat) (A : List Int) (wv : World) (g2 : Good wv V D Hd H L W2 bs2 M) (g5 : IArg wv ao n ca A) (g1 : Tab wv) (g6 : promptN V A = 0) => full_ok V D Hd H L W2 bs2 M ao n ca A wv g2 g5 g1 g6
    have FB := fun (W2 : Wt) (bs2 : List Bk) (ao : Option Addr) (n ca : Nat) (A : List Int) (wv : World) (g2 : Good wv V D Hd H L W2 bs2 M) (g5 : IArg wv ao n ca A) (g6 : promptN V A ≠ 0) => full_bad V D Hd H L W2 bs2 M ao n ca A wv g2 g5 g6
    unfold cfgC at FO FB M2
    go_wp2_with (refine wpList_store_row rfl 32 _ _ rfl w2.heap.size ws rfl rfl 32 _ XZ (by rw [siz]; exact Tryd.infoW) (by rw [siz]; rfl) one ?_; rw [hwy])
    refine (CS _).mono ?_
    rintro e w4 ⟨rfl, B4⟩
    replace X0 := X0.below B4
    replace X1 := X1.below B4
    have AP := I1.below B4
    have G4 := GD2.below B4
    have D4 := below_then D3 B4
    clear a0 a1 a2 a3 a4 hwz hwy XZ BZ BR CS D2 D3 B4 I1 GD2
    generalize smallN (D : Int) (H : Int) (L : Int) = sq at *
    have a0 : w4.cell? ⟨w.heap.size, 0, none⟩ = some (.int .i64 (V : Int)) := X0.cell 0 rfl
    have a1 : w4.cell? ⟨w.heap.size, 1, none⟩ = some (.int .i64 (D : Int)) := X0.cell 1 rfl
    have a2 : w4.cell? ⟨w.heap.size, 2, none⟩ = some (.int .i64 (Hd : Int)) := X0.cell 2 rfl
    have a3 : w4.cell? ⟨w.heap.size, 3, none⟩ = some (.int .i64 (H : Int)) := X0.cell 3 rfl
    have a4 : w4.cell? ⟨w.heap.size, 4, none⟩ = some (.int .i64 (L : Int)) := X0.cell 4 rfl
    by_cases hs0 : sq = 0
    · subst hs0
      go_wp2_with fail
      refine (CW _ D4).mono ?_
      rintro e wq ⟨rfl, Bq⟩
      go_wp2
      go_ret
      exact ⟨rfl, below_then D4 Bq⟩
    · have hs0' : (sq == 0) = false := by simpa using hs0
      by_cases hqa : promptN V P = 0
      rotate_left
      · skip
        have HB4 : Hid (PK4 w w4 V D Hd H L WW bs M ws w2.heap.size b1 l1 kq P) := ⟨X0, X1, G4, AP, D4⟩
        have DD := D4
        clear D4
        obtain ⟨pq, hpq⟩ : ∃ pq, promptN V P = pq := ⟨_, rfl⟩
        have hqb : (pq == 0) = false := by rw [← hpq]; simpa using hqa
        have a0 : w4.cell? ⟨w.heap.size, 0, none⟩ = some (.int .i64 (V : Int)) := X0.cell 0 rfl
        have a1 : w4.cell? ⟨w.heap.size, 1, none⟩ = some (.int .i64 (D : Int)) := X0.cell 1 rfl
        have a2 : w4.cell? ⟨w.heap.size, 2, none⟩ = some (.int .i64 (Hd : Int)) := X0.cell 2 rfl
        have a3 : w4.cell? ⟨w.heap.size, 3, none⟩ = some (.int .i64 (H : Int)) := X0.cell 3 rfl
        have a4 : w4.cell? ⟨w.heap.size, 4, none⟩ = some (.int .i64 (L : Int)) := X0.cell 4 rfl
        have CC := FB WW bs (some ⟨b1, 0, none⟩) l1 kq P w4 G4 AP hqa
        rw [hws] at CC
        rw [hpq] at CC
        go_wp2_with (refine wpList_load_row rfl 32 _ rfl w2.heap.size rfl 32 ws (0, 0) _ X1 Tryd.underlying32 rfl (by rw [siz]; exact Tryd.infoW) ?_)
        refine CC.mono ?_
        rintro e w1e ⟨rfl, BB⟩
        have DE := below_then DD BB
        clear a0 a1 a2 a3 a4
        clear CC
        obtain ⟨XE1, XF1, BF1, _⟩ := var3 w1e 41 #[.slice none 0 0, .slice none 0 0] #[.slice none 0 0, .slice none 0 0]
        generalize hwe1 : w1e.alloc (.cells #[.slice none 0 0, .slice none 0 0] 41) = w1g at *
        generalize hwf1 : w1g.setRow w1e.heap.size #[.slice none 0 0, .slice none 0 0] = w1f at *
        have BT := below_then BB BF1
        replace DD := below_then DD BT
        replace X1 := X1.below BT
        replace G4 := G4.below BT
        replace X0 := X0.below BT
        replace AP := AP.below BT
        clear HB4
        have c0 : w1f.cell? ⟨w1e.heap.size, 0, none⟩ = some (.slice none 0 0) := XF1.cell 0 rfl
        go_upto_region 7 with (refine wpList_store_row rfl 41 _ _ rfl w1e.heap.size _ rfl rfl 41 _ XE1 Tryd.infoCa rfl (by simp [Value.oneCell']) ?_; rw [hwf1])
        clear hwe1 hwf1 XE1 BB BT BF1 DE
        go_loopg [51] 0 (fun r s51 wr => s51 = .int .i64 0 ∧ wr = w1f)
        case atStart => exact ⟨rfl, rfl⟩
        case round =>
          obtain ⟨rfl, hw'⟩ := hrel
          obtain rfl : w1f = wr := hw'.symm
          go_upto_region 12 with fail
          clear c0
          go_loopg [64] 0 (fun r s64 wr => s64 = .int .i64 0 ∧ wr = w1f)
          case atStart => exact ⟨rfl, rfl⟩
          case round =>
            obtain ⟨rfl, hw'⟩ := hrel
            obtain rfl : w1f = wr := hw'.symm
            have a0 : w1f.cell? ⟨w.heap.size, 0, none⟩ = some (.int .i64 (V : Int)) := X0.cell 0 rfl
            have a1 : w1f.cell? ⟨w.heap.size, 1, none⟩ = some (.int .i64 (D : Int)) := X0.cell 1 rfl
            have a2 : w1f.cell? ⟨w.heap.size, 2, none⟩ = some (.int .i64 (Hd : Int)) := X0.cell 2 rfl
            have a3 : w1f.cell? ⟨w.heap.size, 3, none⟩ = some (.int .i64 (H : Int)) := X0.cell 3 rfl
            have a4 : w1f.cell? ⟨w.heap.size, 4, none⟩ = some (.int .i64 (L : Int)) := X0.cell 4 rfl
            have CC := FB WW bs (some ⟨b1, 0, none⟩) l1 kq P w1f G4 AP hqa
            rw [hws] at CC
            rw [hpq] at CC
            go_wp2_with (refine wpList_load_row rfl 32 _ rfl w2.heap.size rfl 32 ws (0, 0) _ X1 Tryd.underlying32 rfl (by rw [siz]; exact Tryd.infoW) ?_)
            refine CC.mono ?_
            rintro e w2e ⟨rfl, BB⟩
            have DE := below_then DD BB
            clear a0 a1 a2 a3 a4
            clear CC
            obtain ⟨XE2, XF2, BF2, _⟩ := var3 w2e 41 #[.slice none 0 0, .slice none 0 0] #[.slice none 0 0, .slice none 0 0]
            generalize hwe2 : w2e.alloc (.cells #[.slice none 0 0, .slice none 0 0] 41) = w2g at *
            generalize hwf2 : w2g.setRow w2e.heap.size #[.slice none 0 0, .slice none 0 0] = w2f at *
            have BT := below_then BB BF2
            replace DD := below_then DD BT
            replace G4 := G4.below BT
            replace X0 := X0.below BT
            replace AP := AP.below BT
            have a0 : w2f.cell? ⟨w.heap.size, 0, none⟩ = some (.int .i64 (V : Int)) := X0.cell 0 rfl
            have a1 : w2f.cell? ⟨w.heap.size, 1, none⟩ = some (.int .i64 (D : Int)) := X0.cell 1 rfl
            have a2 : w2f.cell? ⟨w.heap.size, 2, none⟩ = some (.int .i64 (Hd : Int)) := X0.cell 2 rfl
            have a3 : w2f.cell? ⟨w.heap.size, 3, none⟩ = some (.int .i64 (H : Int)) := X0.cell 3 rfl
            have a4 : w2f.cell? ⟨w.heap.size, 4, none⟩ = some (.int .i64 (L : Int)) := X0.cell 4 rfl
            go_upto_region 26 with (refine wpList_store_row rfl 41 _ _ rfl w2e.heap.size _ rfl rfl 41 _ XE2 Tryd.infoCa rfl (by simp [Value.oneCell']) ?_; rw [hwf2])
            clear hwe2 hwf2 XE2 BF2 BT BB DE
            go_wp2_with fail
            refine (M2 _).mono ?_
            rintro e w3 ⟨W3, bs3, rfl, G3, B3⟩
            have one3 := wt_one W3
            clear a0 a1 a2 a3 a4
            have DE := below_then DD B3
            clear X1 G4
            obtain ⟨XZ3, X3, BR3, _⟩ := var3 w3 32 #[.int .i64 0, .int .i64 0, .slice none 0 0, .slice none 0 0, .slice none 0 0, .int .i64 0, .int .i64 0, .slice none 0 0] W3.cells
            have hws2 : W3.cells = W3.cells := rfl
            have siz3 : W3.cells.size = 8 := rfl
            generalize hw3a : w3.alloc (.cells #[.int .i64 0, .int .i64 0, .slice none 0 0, .slice none 0 0, .slice none 0 0, .int .i64 0, .int .i64 0, .slice none 0 0] 32) = w3a at *
            generalize hw3b : w3a.setRow w3.heap.size W3.cells = w3b at *
            have BT := below_then B3 BR3
            replace DD := below_then DD BT
            replace X0 := X0.below BT
            replace AP := AP.below BT
            replace XF2 := XF2.below BT
            replace G3 := G3.below BR3
            go_upto_region 27 with (refine wpList_store_row rfl 32 _ _ rfl w3.heap.size W3.cells rfl rfl 32 _ XZ3 (by rw [siz3]; exact Tryd.infoW) (by rw [siz3]; rfl) one3 ?_; rw [hw3b])
            clear hw3a hw3b XZ3 BR3 BT B3 DE one3
            have a0 : w3b.cell? ⟨w.heap.size, 0, none⟩ = some (.int .i64 (V : Int)) := X0.cell 0 rfl
            have a1 : w3b.cell? ⟨w.heap.size, 1, none⟩ = some (.int .i64 (D : Int)) := X0.cell 1 rfl
            have a2 : w3b.cell? ⟨w.heap.size, 2, none⟩ = some (.int .i64 (Hd : Int)) := X0.cell 2 rfl
            have a3 : w3b.cell? ⟨w.heap.size, 3, none⟩ = some (.int .i64 (H : Int)) := X0.cell 3 rfl
            have a4 : w3b.cell? ⟨w.heap.size, 4, none⟩ = some (.int .i64 (L : Int)) := X0.cell 4 rfl
            have CC := FB W3 bs3 (some ⟨b1, 0, none⟩) l1 kq P w3b G3 AP hqa
            rw [hpq] at CC
            go_wp2_with (refine wpList_load_row rfl 32 _ rfl w3.heap.size rfl 32 W3.cells (0, 0) _ X3 Tryd.underlying32 rfl (by rw [siz3]; exact Tryd.infoW) ?_)
            refine CC.mono ?_
            rintro e w3e ⟨rfl, BB⟩
            have DE := below_then DD BB
            clear a0 a1 a2 a3 a4
            clear CC
            obtain ⟨XE3, XF3, BF3, _⟩ := var3 w3e 41 #[.slice none 0 0, .slice none 0 0] #[.slice none 0 0, .slice none 0 0]
            generalize hwe3 : w3e.alloc (.cells #[.slice none 0 0, .slice none 0 0] 41) = w3g at *
            generalize hwf3 : w3g.setRow w3e.heap.size #[.slice none 0 0, .slice none 0 0] = w3f at *
            have BT := below_then BB BF3
            replace DD := below_then DD BT
            replace XF2 := XF2.below BT
            replace X0 := X0.below BT
            replace AP := AP.below BT
            go_upto_region 31 with (refine wpList_store_row rfl 41 _ _ rfl w3e.heap.size _ rfl rfl 41 _ XE3 Tryd.infoCa rfl (by simp [Value.oneCell']) ?_; rw [hwf3])
            clear hwe3 hwf3 XE3 BF3 BT BB DE X0 X3 G3 AP hws2
            go_loopg [163] 0 (fun r s163 wr => s163 = .int .i64 0 ∧ wr = w3f)
            case atStart => exact ⟨rfl, rfl⟩
            case round =>
              obtain ⟨rfl, hw'⟩ := hrel
              obtain rfl : w3f = wr := hw'.symm
              go_wp2_with fail
              refine (CW _ DD).mono ?_
              rintro e wq ⟨rfl, Bq⟩
              replace DD := below_then DD Bq
              replace XF2 := XF2.below Bq
              replace XF3 := XF3.below Bq
              have c0 : wq.cell? ⟨w2e.heap.size, 0, none⟩ = some (.slice none 0 0) := XF2.cell 0 rfl
              have c1 : wq.cell? ⟨w3e.heap.size, 0, none⟩ = some (.slice none 0 0) := XF3.cell 0 rfl
              have NE : ∀ wv : World, CubeAt wv none 0 [] := fun wv => ⟨rfl, by omega, fun h => by omega⟩
              go_wp2_with fail
              refine (cubeSame_eq none none 0 0 0 [] wq (NE _) (NE _)).mono ?_
              rintro e wp ⟨rfl, m1, hm1⟩
              have B1' : Below wq.heap.size wq wp := by rw [hm1]; exact below_drewN (Below.refl _ _) m1
              clear hm1 c0 c1
              replace XF2 := XF2.below B1'
              replace XF3 := XF3.below B1'
              have c0 : wp.cell? ⟨w2e.heap.size, 1, none⟩ = some (.slice none 0 0) := XF2.cell 1 rfl
              have c1 : wp.cell? ⟨w3e.heap.size, 1, none⟩ = some (.slice none 0 0) := XF3.cell 1 rfl
              go_wp2_with fail
              refine (cubeSame_eq none none 0 0 0 [] wp (NE _) (NE _)).mono ?_
              rintro e wp2 ⟨rfl, m2, hm2⟩
              have B2' : Below wp.heap.size wp wp2 := by rw [hm2]; exact below_drewN (Below.refl _ _) m2
              clear hm2
              go_wp2
              go_ret
              exact ⟨rfl, below_then (below_then DD B1') B2'⟩
      · skip
        have HB4 : Hid (PK4 w w4 V D Hd H L WW bs M ws w2.heap.size b1 l1 kq P) := ⟨X0, X1, G4, AP, D4⟩
        have DD := D4
        clear D4
        obtain ⟨pp1, pp2, pp3⟩ := prompt_ok hqa
        obtain ⟨fr1, fr2, fr3, fr4⟩ := fullK_rows (M := M) (D := D) (H := H) (Hd := Hd) (L := L) pp3 pp1 pp2
        have fd1 : ∀ t i, t < L → i < l1 → (rowOf ((fullK M D H Hd L P).getD t []) i).length = D := fun t i ht hi => by
          rw [fullK_at M D H Hd L P ht, keysR_at _ _ (by rw [rowsL_len, HL1.out]; exact hi)]
          exact tab_len _ _
        have fd2 : ∀ t i, t < L → i < l1 → (rowOf ((fullV M D H Hd L P).getD t []) i).length = D := fun t i ht hi => by
          rw [fullV_at M D H Hd L P ht, valsR_at _ _ (by rw [rowsL_len, HL1.out]; exact hi)]
          exact tab_len _ _
        rw [HL1.out] at fr1 fr2 pp1
        have a0 : w4.cell? ⟨w.heap.size, 0, none⟩ = some (.int .i64 (V : Int)) := X0.cell 0 rfl
        have a1 : w4.cell? ⟨w.heap.size, 1, none⟩ = some (.int .i64 (D : Int)) := X0.cell 1 rfl
        have a2 : w4.cell? ⟨w.heap.size, 2, none⟩ = some (.int .i64 (Hd : Int)) := X0.cell 2 rfl
        have a3 : w4.cell? ⟨w.heap.size, 3, none⟩ = some (.int .i64 (H : Int)) := X0.cell 3 rfl
        have a4 : w4.cell? ⟨w.heap.size, 4, none⟩ = some (.int .i64 (L : Int)) := X0.cell 4 rfl
        have CC := FO WW bs (some ⟨b1, 0, none⟩) l1 kq P w4 G4 AP (HT.out _ DD) hqa
        rw [hws] at CC
        go_wp2_with (refine wpList_load_row rfl 32 _ rfl w2.heap.size rfl 32 ws (0, 0) _ X1 Tryd.underlying32 rfl (by rw [siz]; exact Tryd.infoW) ?_)
        refine CC.mono ?_
        rintro e w1e ⟨gx1, gK1, gV1, rfl, FX1, NK1, NV1, BB⟩
        have DE := below_then DD BB
        clear a0 a1 a2 a3 a4
        clear CC
        obtain ⟨XE1, XF1, BF1, _⟩ := var3 w1e 41 #[.slice none 0 0, .slice none 0 0] #[.slice (some ⟨gK1, 0, none⟩) L L, .slice (some ⟨gV1, 0, none⟩) L L]
        generalize hwe1 : w1e.alloc (.cells #[.slice none 0 0, .slice none 0 0] 41) = w1g at *
        generalize hwf1 : w1g.setRow w1e.heap.size #[.slice (some ⟨gK1, 0, none⟩) L L, .slice (some ⟨gV1, 0, none⟩) L L] = w1f at *
        have BT := below_then BB BF1
        replace DD := below_then DD BT
        replace X1 := X1.below BT
        replace G4 := G4.below BT
        replace X0 := X0.below BT
        replace AP := AP.below BT
        replace FX1 := FX1.below BF1
        replace NK1 := NK1.below BF1
        replace NV1 := NV1.below BF1
        obtain ⟨q1, q2, q3, q4, q5, q6, q7, q8, q9, q10⟩ := hk
        have SK := skel_new NK1 fr1 fd1 pp1 (by omega)
        have SV := skel_new NV1 fr2 fd2 pp1 (by omega)
        have SX : ∀ t, t < V → ∃ x, w1f.cell? ⟨gx1, t, none⟩ = some (.int .i32 x) ∧ I32 x ∧ w1f.frozen? ⟨gx1, t, none⟩ = false := fun t ht => ⟨_, FX1.cell ht, FX1.small.el t, FX1.frozen t⟩
        have hgx : w4.heap.size ≤ gx1 := FX1.base
        have c0 : w1f.cell? ⟨w1e.heap.size, 0, none⟩ = some (.slice (some ⟨gK1, 0, none⟩) L L) := XF1.cell 0 rfl
        have c1 : w1f.cell? ⟨w1e.heap.size, 1, none⟩ = some (.slice (some ⟨gV1, 0, none⟩) L L) := XF1.cell 1 rfl
        have HS : Hid (∀ wv, Nums w4.heap.size w1f wv → wv.cell? ⟨w1e.heap.size, 0, none⟩ = some (.slice (some ⟨gK1, 0, none⟩) L L) ∧ wv.cell? ⟨w1e.heap.size, 1, none⟩ = some (.slice (some ⟨gV1, 0, none⟩) L L)) := fun wv h => ⟨h.slice c0, h.slice c1⟩
        have HB : Hid (PK4 w w4 V D Hd H L WW bs M ws w2.heap.size b1 l1 kq P) := HB4
        have HBB : Hid (Below w4.heap.size w4 w1f) := BT
        clear X0 X1 G4 AP DD FX1 NK1 NV1 fr1 fr2 fd1 fd2 c0 c1 DE BB BT XF1 BF1 HB4
        go_upto_region 7 with (refine wpList_store_row rfl 41 _ _ rfl w1e.heap.size _ rfl rfl 41 _ XE1 Tryd.infoCa rfl (by simp [Value.oneCell']) ?_; rw [hwf1])
        clear hwe1 hwf1 XE1
        go_loopg [51] V (fun r s51 wr => ∃ k : Nat, k ≤ V ∧ r = V - k ∧ s51 = .int .i64 (k : Int) ∧ Nums w4.heap.size w1f wr)
        case atStart => exact ⟨0, by omega, by omega, rfl, Nums.refl _ _⟩
        case round =>
          obtain ⟨k, hkl, rfl, rfl, NN⟩ := hrel
          by_cases hlt : k < V
          · obtain ⟨x, e1, i1, z1⟩ := SX k hlt
            obtain ⟨y, e2, i2⟩ := NN.num e1 i1
            have z2 : wr.frozen? ⟨gx1, k, none⟩ = false := by rw [NN.fro]; exact z1
            have NS := NN.set e1 hgx (i32_wrap (y + 1))
            clear SK SV SX
            have HX := i32_wrap (y + 1)
            generalize hyy : IntKind.i32.wrap (y + 1) = yy at *
            go_wp2_with fail
            go_roundg (V - (k + 1))
            case measure => omega
            case rel => exact ⟨k + 1, by omega, rfl, by go_num, NS⟩
          · obtain rfl : V = k := by omega
            obtain ⟨c0, c1⟩ := HS.out _ NN
            clear SX
            go_upto_region 12 with fail
            clear c0 c1
            go_loopg [64] L (fun r s64 wr => ∃ l : Nat, l ≤ L ∧ r = L - l ∧ s64 = .int .i64 (l : Int) ∧ Nums w4.heap.size w1f wr)
            case atStart => exact ⟨0, by omega, by omega, rfl, NN⟩
            case round =>
              clear NN
              obtain ⟨l, hll, rfl, rfl, NN⟩ := hrel
              by_cases hlt : l < L
              · obtain ⟨c0, c1⟩ := HS.out _ NN
                obtain ⟨gl, ol, cl, k1, KI⟩ := SK l hlt
                obtain ⟨vl, pl, dl, v1, VI⟩ := SV l hlt
                have k1' := NN.slice k1
                go_upto_region 15 with fail
                clear c0 c1 k1'
                have HK1 : Hid (∀ wv, Nums w4.heap.size w1f wv → wv.cell? ⟨gK1, l, none⟩ = some (.slice (some ⟨gl, ol, none⟩) l1 cl) ∧ wv.cell? ⟨gV1, l, none⟩ = some (.slice (some ⟨vl, pl, none⟩) l1 dl)) := fun wv h => ⟨h.slice k1, h.slice v1⟩
                go_loopg [73] l1 (fun r s73 wr => ∃ i : Nat, i ≤ l1 ∧ r = l1 - i ∧ s73 = .int .i64 (i : Int) ∧ Nums w4.heap.size w1f wr)
                case atStart => exact ⟨0, by omega, by omega, rfl, NN⟩
                case round =>
                  clear NN
                  obtain ⟨i, hil, rfl, rfl, NN⟩ := hrel
                  by_cases hit : i < l1
                  · obtain ⟨c0, c1⟩ := HS.out _ NN
                    obtain ⟨k1', v1'⟩ := HK1.out _ NN
                    obtain ⟨rb, ro, rc, k2, KJ⟩ := KI i hit
                    obtain ⟨ub, uo, uc, v2, VJ⟩ := VI i hit
                    have k2' := NN.slice k2
                    go_upto_region 18 with fail
                    clear c0 c1 k1' v1' k2'
                    have HK2 : Hid (∀ wv, Nums w4.heap.size w1f wv → wv.cell? ⟨gl, ol + i, none⟩ = some (.slice (some ⟨rb, ro, none⟩) D rc) ∧ wv.cell? ⟨vl, pl + i, none⟩ = some (.slice (some ⟨ub, uo, none⟩) D uc)) := fun wv h => ⟨h.slice k2, h.slice v2⟩
                    go_loopg [85] D (fun r s85 wr => ∃ j : Nat, j ≤ D ∧ r = D - j ∧ s85 = .int .i64 (j : Int) ∧ Nums w4.heap.size w1f wr)
                    case atStart => exact ⟨0, by omega, by omega, rfl, NN⟩
                    case round =>
                      clear NN
                      obtain ⟨j, hjl, rfl, rfl, NN⟩ := hrel
                      by_cases hjt : j < D
                      · obtain ⟨c0, c1⟩ := HS.out _ NN
                        obtain ⟨k1', v1'⟩ := HK1.out _ NN
                        obtain ⟨k2', v2'⟩ := HK2.out _ NN
                        obtain ⟨x, e1, i1, z1, y1⟩ := KJ j hjt
                        obtain ⟨u, e2, i2, z2, y2⟩ := VJ j hjt
                        obtain ⟨x', f1, j1⟩ := NN.num e1 i1
                        have z1' : wr.frozen? ⟨rb, ro + j, none⟩ = false := by rw [NN.fro]; exact z1
                        have NS := NN.set e1 y1 (i32_wrap (x' + 1))
                        generalize hyy : IntKind.i32.wrap (x' + 1) = xx at *
                        go_upto_region 21 with fail
                        generalize hws' : wr.setCell ⟨rb, ro + j, none⟩ (.int .i32 xx) = wt at *
                        clear c0 c1 k1' v1' k2' v2' f1 z1' hws' hyy
                        obtain ⟨c0, c1⟩ := HS.out _ NS
                        obtain ⟨k1', v1'⟩ := HK1.out _ NS
                        obtain ⟨k2', v2'⟩ := HK2.out _ NS
                        obtain ⟨u', f2, j2⟩ := NS.num e2 i2
                        have z2' : wt.frozen? ⟨ub, uo + j, none⟩ = false := by rw [NS.fro]; exact z2
                        have NT := NS.set e2 y2 (i32_wrap (u' + 1))
                        generalize hyz : IntKind.i32.wrap (u' + 1) = uu at *
                        go_wp2_with fail
                        go_roundg (D - (j + 1))
                        case measure => omega
                        case rel => exact ⟨j + 1, by omega, rfl, by go_num, NT⟩
                      · obtain rfl : D = j := by omega
                        go_wp2_with fail
                        go_roundg (l1 - (i + 1))
                        case measure => omega
                        case rel => exact ⟨i + 1, by omega, rfl, by go_num, NN⟩
                  · obtain rfl : l1 = i := by omega
                    go_wp2_with fail
                    go_roundg (L - (l + 1))
                    case measure => omega
                    case rel => exact ⟨l + 1, by omega, rfl, by go_num, NN⟩
              · obtain rfl : L = l := by omega
                have BN := HBB.out.trans NN.kp
                have HC := HB.out.below BN
                clear HB HBB HS SK SV NN BN
                have X0 := HC.x0
                have X1 := HC.x1
                have G4 := HC.gd
                have AP := HC.ap
                have DD := HC.kp
                clear HC
                have a0 : wr.cell? ⟨w.heap.size, 0, none⟩ = some (.int .i64 (V : Int)) := X0.cell 0 rfl
                have a1 : wr.cell? ⟨w.heap.size, 1, none⟩ = some (.int .i64 (D : Int)) := X0.cell 1 rfl
                have a2 : wr.cell? ⟨w.heap.size, 2, none⟩ = some (.int .i64 (Hd : Int)) := X0.cell 2 rfl
                have a3 : wr.cell? ⟨w.heap.size, 3, none⟩ = some (.int .i64 (H : Int)) := X0.cell 3 rfl
                have a4 : wr.cell? ⟨w.heap.size, 4, none⟩ = some (.int .i64 (L : Int)) := X0.cell 4 rfl
                have CC := FO WW bs (some ⟨b1, 0, none⟩) l1 kq P wr G4 AP (HT.out _ DD) hqa
                rw [hws] at CC
                go_wp2_with (refine wpList_load_row rfl 32 _ rfl w2.heap.size rfl 32 ws (0, 0) _ X1 Tryd.underlying32 rfl (by rw [siz]; exact Tryd.infoW) ?_)
                refine CC.mono ?_
                rintro e w2e ⟨gx2, gK2, gV2, rfl, FX2, NK2, NV2, BB⟩
                have DE := below_then DD BB
                clear a0 a1 a2 a3 a4
                clear CC
                obtain ⟨XE2, XF2, BF2, _⟩ := var3 w2e 41 #[.slice none 0 0, .slice none 0 0] #[.slice (some ⟨gK2, 0, none⟩) L L, .slice (some ⟨gV2, 0, none⟩) L L]
                generalize hwe2 : w2e.alloc (.cells #[.slice none 0 0, .slice none 0 0] 41) = w2g at *
                generalize hwf2 : w2g.setRow w2e.heap.size #[.slice (some ⟨gK2, 0, none⟩) L L, .slice (some ⟨gV2, 0, none⟩) L L] = w2f at *
                have BT := below_then BB BF2
                replace DD := below_then DD BT
                replace G4 := G4.below BT
                replace X0 := X0.below BT
                replace AP := AP.below BT
                replace FX2 := FX2.below BF2
                replace NK2 := NK2.below BF2
                replace NV2 := NV2.below BF2
                have a0 : w2f.cell? ⟨w.heap.size, 0, none⟩ = some (.int .i64 (V : Int)) := X0.cell 0 rfl
                have a1 : w2f.cell? ⟨w.heap.size, 1, none⟩ = some (.int .i64 (D : Int)) := X0.cell 1 rfl
                have a2 : w2f.cell? ⟨w.heap.size, 2, none⟩ = some (.int .i64 (Hd : Int)) := X0.cell 2 rfl
                have a3 : w2f.cell? ⟨w.heap.size, 3, none⟩ = some (.int .i64 (H : Int)) := X0.cell 3 rfl
                have a4 : w2f.cell? ⟨w.heap.size, 4, none⟩ = some (.int .i64 (L : Int)) := X0.cell 4 rfl
                go_upto_region 26 with (refine wpList_store_row rfl 41 _ _ rfl w2e.heap.size _ rfl rfl 41 _ XE2 Tryd.infoCa rfl (by simp [Value.oneCell']) ?_; rw [hwf2])
                clear hwe2 hwf2 XE2 BF2 BT BB DE
                go_wp2_with fail
                refine (M2 _).mono ?_
                rintro e w3 ⟨W3, bs3, rfl, G3, B3⟩
                have one3 := wt_one W3
                clear a0 a1 a2 a3 a4
                have DE := below_then DD B3
                clear X1 G4
                obtain ⟨XZ3, X3, BR3, _⟩ := var3 w3 32 #[.int .i64 0, .int .i64 0, .slice none 0 0, .slice none 0 0, .slice none 0 0, .int .i64 0, .int .i64 0, .slice none 0 0] W3.cells
                have hws2 : W3.cells = W3.cells := rfl
                have siz3 : W3.cells.size = 8 := rfl
                generalize hw3a : w3.alloc (.cells #[.int .i64 0, .int .i64 0, .slice none 0 0, .slice none 0 0, .slice none 0 0, .int .i64 0, .int .i64 0, .slice none 0 0] 32) = w3a at *
                generalize hw3b : w3a.setRow w3.heap.size W3.cells = w3b at *
                have BT := below_then B3 BR3
                replace DD := below_then DD BT
                replace X0 := X0.below BT
                replace AP := AP.below BT
                replace XF2 := XF2.below BT
                replace G3 := G3.below BR3
                replace FX2 := FX2.below BT
                replace NK2 := NK2.below BT
                replace NV2 := NV2.below BT
                go_upto_region 27 with (refine wpList_store_row rfl 32 _ _ rfl w3.heap.size W3.cells rfl rfl 32 _ XZ3 (by rw [siz3]; exact Tryd.infoW) (by rw [siz3]; rfl) one3 ?_; rw [hw3b])
                clear hw3a hw3b XZ3 BR3 BT B3 DE one3
                have a0 : w3b.cell? ⟨w.heap.size, 0, none⟩ = some (.int .i64 (V : Int)) := X0.cell 0 rfl
                have a1 : w3b.cell? ⟨w.heap.size, 1, none⟩ = some (.int .i64 (D : Int)) := X0.cell 1 rfl
                have a2 : w3b.cell? ⟨w.heap.size, 2, none⟩ = some (.int .i64 (Hd : Int)) := X0.cell 2 rfl
                have a3 : w3b.cell? ⟨w.heap.size, 3, none⟩ = some (.int .i64 (H : Int)) := X0.cell 3 rfl
                have a4 : w3b.cell? ⟨w.heap.size, 4, none⟩ = some (.int .i64 (L : Int)) := X0.cell 4 rfl
                have CC := FO W3 bs3 (some ⟨b1, 0, none⟩) l1 kq P w3b G3 AP (HT.out _ DD) hqa
                go_wp2_with (refine wpList_load_row rfl 32 _ rfl w3.heap.size rfl 32 W3.cells (0, 0) _ X3 Tryd.underlying32 rfl (by rw [siz3]; exact Tryd.infoW) ?_)
                refine CC.mono ?_
                rintro e w3e ⟨gx3, gK3, gV3, rfl, FX3, NK3, NV3, BB⟩
                have DE := below_then DD BB
                clear a0 a1 a2 a3 a4
                clear CC
                obtain ⟨XE3, XF3, BF3, _⟩ := var3 w3e 41 #[.slice none 0 0, .slice none 0 0] #[.slice (some ⟨gK3, 0, none⟩) L L, .slice (some ⟨gV3, 0, none⟩) L L]
                generalize hwe3 : w3e.alloc (.cells #[.slice none 0 0, .slice none 0 0] 41) = w3g at *
                generalize hwf3 : w3g.setRow w3e.heap.size #[.slice (some ⟨gK3, 0, none⟩) L L, .slice (some ⟨gV3, 0, none⟩) L L] = w3f at *
                have BT := below_then BB BF3
                replace DD := below_then DD BT
                replace XF2 := XF2.below BT
                replace FX2 := FX2.below BT
                replace NK2 := NK2.below BT
                replace NV2 := NV2.below BT
                replace X0 := X0.below BT
                replace AP := AP.below BT
                replace FX3 := FX3.below BF3
                replace NK3 := NK3.below BF3
                replace NV3 := NV3.below BF3
                go_upto_region 31 with (refine wpList_store_row rfl 41 _ _ rfl w3e.heap.size _ rfl rfl 41 _ XE3 Tryd.infoCa rfl (by simp [Value.oneCell']) ?_; rw [hwf3])
                clear hwe3 hwf3 XE3 BF3 BT BB DE X0 X3 G3 AP hws2
                go_loopg [163] V (fun r s163 wr => ∃ k : Nat, k ≤ V ∧ r = V - k ∧ s163 = .int .i64 (k : Int) ∧ ∃ m, wr = w3f.drewN m)
                case atStart => exact ⟨0, by omega, by omega, rfl, 0, rfl⟩
                case round =>
                  obtain ⟨k, hkl, rfl, rfl, m0, hw0⟩ := hrel
                  have HW : Hid (wr = w3f.drewN m0) := hw0
                  clear hw0
                  by_cases hlt : k < V
                  · have e1 : wr.cell? ⟨gx2, k, none⟩ = some (.int .i32 (el (fullX M V D H Hd L P) k)) := by rw [HW.out]; exact drewN_cell w3f m0 (FX2.cell hlt)
                    have e2 : wr.cell? ⟨gx3, k, none⟩ = some (.int .i32 (el (fullX M V D H Hd L P) k)) := by rw [HW.out]; exact drewN_cell w3f m0 (FX3.cell hlt)
                    clear FX2 FX3 NK2 NV2 NK3 NV3
                    generalize el (fullX M V D H Hd L P) k = xk at *
                    go_wp2_with fail
                    go_quiet (fail)
                    go_wp2_with fail
                    go_roundg (V - (k + 1))
                    case measure => omega
                    case rel => exact ⟨k + 1, by omega, rfl, by go_num, m0 + nq, by rw [HW.out, World.drewN_drewN]⟩
                  · obtain rfl : V = k := by omega
                    have BW : Below w3f.heap.size w3f wr := by rw [HW.out]; exact below_drewN (Below.refl _ _) m0
                    clear FX2 FX3
                    replace DD := below_then DD BW
                    have K2 := NK2.now.below BW
                    have V2 := NV2.now.below BW
                    have K3 := NK3.now.below BW
                    have V3 := NV3.now.below BW
                    replace XF2 := XF2.below BW
                    replace XF3 := XF3.below BW
                    clear NK2 NV2 NK3 NV3 HW BW
                    go_wp2_with fail
                    refine (CW _ DD).mono ?_
                    rintro e wq ⟨rfl, Bq⟩
                    replace DD := below_then DD Bq
                    replace XF2 := XF2.below Bq
                    replace XF3 := XF3.below Bq
                    have c0 : wq.cell? ⟨w2e.heap.size, 0, none⟩ = some (.slice (some ⟨gK2, 0, none⟩) L L) := XF2.cell 0 rfl
                    have c1 : wq.cell? ⟨w3e.heap.size, 0, none⟩ = some (.slice (some ⟨gK3, 0, none⟩) L L) := XF3.cell 0 rfl
                    go_wp2_with fail
                    refine (cubeSame_eq _ _ L _ _ _ wq (K2.below Bq) (K3.below Bq)).mono ?_
                    rintro e wp ⟨rfl, m1, hm1⟩
                    have B1' : Below wq.heap.size wq wp := by rw [hm1]; exact below_drewN (Below.refl _ _) m1
                    clear hm1 c0 c1
                    replace XF2 := XF2.below B1'
                    replace XF3 := XF3.below B1'
                    have c0 : wp.cell? ⟨w2e.heap.size, 1, none⟩ = some (.slice (some ⟨gV2, 0, none⟩) L L) := XF2.cell 1 rfl
                    have c1 : wp.cell? ⟨w3e.heap.size, 1, none⟩ = some (.slice (some ⟨gV3, 0, none⟩) L L) := XF3.cell 1 rfl
                    go_wp2_with fail
                    refine (cubeSame_eq _ _ L _ _ _ wp ((V2.below Bq).below B1') ((V3.below Bq).below B1')).mono ?_
                    rintro e wp2 ⟨rfl, m2, hm2⟩
                    have B2' : Below wp.heap.size wp wp2 := by rw [hm2]; exact below_drewN (Below.refl _ _) m2
                    clear hm2
                    go_wp2
                    go_ret
                    exact ⟨rfl, below_then (below_then DD B1') B2'⟩
  · have hq' : (q == 0) = false := by simpa using hq
    go_wp2_with (refine wpList_store_row rfl 32 _ _ rfl w2.heap.size ws rfl rfl 32 _ XZ (by rw [siz]; exact Tryd.infoW) (by rw [siz]; rfl) one ?_; rw [hwy])
    go_wp2_with fail
    refine (CW _ D3).mono ?_
    rintro e wq ⟨rfl, Bq⟩
    go_wp2
    go_ret
    exact ⟨rfl, below_then D3 Bq⟩
end Go.Proofs.YtlmdjhdlfdandaaDoor

/- The given statement on PassKeeps: at every input the law returns true and its arguments read as before; the listed table lies as the program's text lays it (the card ties it). -/
namespace Go.Proofs.YtlmdjhdlfdandaaDoor.passKeeps
open Go.ChangeShapes Go.WideShapes Go.ChangeAt Go.WideMaps Go.WideElems Go.RowKit
set_option linter.unusedVariables false
abbrev lst : List (String × DataW Unit) := Rows.passKeepsRow.laid
theorem door_met (os : Os) (args : Array Value) : laidMetH Tryd.prog lst ((World.doorLaid Tryd.prog 14 os).forCall (fun _ _ => 0) ⟨#[], args, []⟩).memory :=
  laidMetH_of_parts3 (fuel := 8) (laidMet_of_run' 8 (by kernel_rfl) (by kernel_rfl)) (by kernel_rfl) (by kernel_rfl)
set_option maxRecDepth 100000 in
theorem lifted (os : Os) (started : os.Started) (H : Type) (enc : TypeId × Value → H) :
    ReturnsInHanded {} Tryd.checked os 5 .any (fun w args => (Rows.passKeepsSpec.pre enc Tryd.prog Tryd.f5 [] false w args ∧ laidMetH Tryd.prog lst w) ∧ sizedMet enc Tryd.prog Tryd.f5 (OpenSpec.ofChange Rows.passKeepsSpec) false w args)
      (Rows.passKeepsSpec.post enc Tryd.prog Tryd.f5 false true false false) := by
  refine returnsInHanded_of_change_and (C := Tryd.checked) (X := fun w _ => laidMetH Tryd.prog lst w) (fun _ _ _ hh h => h.of_heap hh) Tryd.own started (by kernel_rfl) Tryd.func5
    (ChangeSpec.witness_shaped (enc := enc) (C := Tryd.checked) (os := os) (X := fun w _ => laidMetH Tryd.prog lst w) false (World.doorLaid Tryd.prog 14 os) #[.agg #[.int .i64 0, .int .i64 0, .int .i64 0, .int .i64 0, .int .i64 0], .int .u64 0, .slice none 0 0] 8 rfl (World.shaped_of_RefB (by kernel_rfl) (by kernel_rfl)) (by kernel_rfl) (by kernel_rfl) (by kernel_rfl) (door_met os _)) ?_
  intro W base args ds gs before hval0 hW _ _ hL _
  have hval : ∀ (j : Nat) t v, Tryd.f5.params[j]? = some t → args[j]? = some v → Value.okWide Tryd.prog W .any base t v := hval0
  have hW' := hW
  obtain ⟨p, q, hA0, hV, rfl, _, _⟩ := hW
  have hA : DataW.TrodAll enc Tryd.prog W 0 (fun _ => true) true Tryd.f5.params.toList args.toList ds p := hA0
  rw [Tryd.params5] at hA hval
  obtain ⟨v0, vs0, d0, ds0, p0, q0, hargs, rfl, rfl, h0, r0⟩ := trodAll_cons hA
  obtain ⟨v1, vs1, d1, ds1, p1, q1, rfl, rfl, rfl, h1, r1⟩ := trodAll_cons r0
  obtain ⟨v2, vs2, d2, ds2, p2, q2, rfl, rfl, rfl, h2, r2⟩ := trodAll_cons r1
  obtain ⟨rfl, rfl, rfl⟩ := trodAll_nil r2
  obtain rfl : args = #[v0, v1, v2] := by cases args; simp_all
  obtain ⟨rfl, rfl⟩ := trodVars_none hV
  have k0 := h0
  obtain ⟨C0, rfl, g0⟩ := viewCfg (hval 0 _ v0 rfl rfl) h0
  have k1 := h1
  obtain ⟨a1, rfl, rfl, rfl, w1⟩ := open_int Tryd.underlying24 (hval 1 24 v1 rfl rfl) h1
  have b1 := bounds_u64 w1
  have k2 := h2
  obtain ⟨a2, n2, c2, Z2, rfl, g2⟩ := viewI (hval 2 _ v2 rfl rfl) h2
  clear hA0 hval0
  simp only [List.append_nil] at hW'
  have hlt : ∀ x ∈ p0 ++ p2, x.block < W.heap.size := fun x hx => by
    have hx2 := hx
    exact hW'.lt x (by grind)
  refine (passKeeps_walk C0 a1 a2 n2 c2 Z2 W g0 b1 g2 (tab_of_laid hL)).mono fun e W' ⟨he, hb⟩ => ?_
  subst he
  exact ⟨_, rfl, _, _, _, [], _, [], hW', trodAll_mk1 (shut_bool Tryd.underlying4 true), trodAll_cons_mk (Below.trod Tryd.laidOut (by kernel_rfl) (of_decide_eq_true (by kernel_rfl)) k0 hb (fun x hx => hlt x (by simp [hx]))) (trodAll_cons_mk (shut_int Tryd.underlying24 w1) (trodAll_cons_mk (Below.trod Tryd.laidOut (by kernel_rfl) (of_decide_eq_true (by kernel_rfl)) k2 hb (fun x hx => hlt x (by simp [hx]))) trodAll_mk0)), rfl, hb.frame _, fun h => by cases h⟩
theorem row_holds : Rows.PassKeepsSaid :=
  OpenClaim.holds_of_wide 5 Tryd.f5 rfl rfl rfl rfl rfl rfl rfl ⟨rfl, rfl, rfl, rfl, rfl⟩ rfl rfl rfl rfl rfl (by kernel_rfl) Tryd.func5 (by kernel_rfl)
    (of_decide_eq_true (by kernel_rfl)) (by unfold Func.isWrapper; first | (rw [if_pos (by decide +kernel)]; kernel_rfl) | (rw [if_neg (by decide +kernel)]; exact ⟨rfl, rfl⟩))
    (fun os started H enc _ => lifted os started H enc)
/-- The given statement. -/
theorem card_holds : Rows.PassKeepsCardSaid :=
  Claim7.holds_tied_plain_at .later [] [.data] true (true, "32f124cfbdf71112324306fe0b06efce740a7303e4ab29f0e479723d69000f45") false
    row_holds (fun _ h => by cases h) (by kernel_rfl) (fun _ h => by cases h) passKeeps_row_tie rfl ⟨rfl, rfl⟩ (by kernel_rfl) rfl
    (fun f fn hf hfn => by
      obtain rfl : f = 5 := Option.some.inj ((show Tryd.prog.funcNamed Rows.passKeepsRow.func = some 5 by kernel_rfl).symm.trans hf) |>.symm
      obtain rfl : fn = Tryd.f5 := (Option.some.inj (Tryd.func5.symm.trans hfn)).symm
      exact ⟨by kernel_rfl, fun j t ht => by
        rw [Tryd.params5] at ht
        have hm : t ∈ [23, 24, 25] := by simpa using Array.mem_of_getElem? ht
        have hall : ([23, 24, 25].all fun u => !Tryd.prog.wantsStandIn u) = true := by kernel_rfl
        exact (show Tryd.prog.wantsStandIn t = false by simpa using List.all_eq_true.1 hall t hm)⟩)
    (by kernel_rfl)
end Go.Proofs.YtlmdjhdlfdandaaDoor.passKeeps
namespace Go.Proofs.YtlmdjhdlfdandaaDoor
theorem passKeeps_holds : Rows.PassKeepsCardSaid := passKeeps.card_holds
#print axioms passKeeps_holds
end Go.Proofs.YtlmdjhdlfdandaaDoor
