/- The given statement on BlockSizes: at every input the law returns true and its arguments read as before; the listed table lies as the program's text lays it (the card ties it). -/
import Derived.Test.YtcanjlofnpnhkaaDoorPk10
import Derived.Test.YtcanjlofnpnhkaaDoorPk11
import Derived.Test.YtcanjlofnpnhkaaDoorPk7
import Derived.Test.YtcanjlofnpnhkaaDoorRows
import Derived.Test.YtcanjlofnpnhkaaDoorCards
import Derived.Test.YtcanjlofnpnhkaaDoorTie
import Derived.Test.YtcanjlofnpnhkaaDoorPk3
import Derived.ProofKit
import Derived.Carry
import Derived.LaidMore
import Derived.OpenShut
import Derived.Stop.Joined
import Derived.SevenTiedAt
/- Package block: BlockSizes: the walk. -/
namespace Go.Proofs.YtcanjlofnpnhkaaDoor
open Go.ChangeShapes Go.WideShapes Go.ChangeAt Go.RowKit
set_option maxRecDepth 100000 in
set_option maxHeartbeats 32000000 in
theorem blockSizes_walk (C : Cfg) (sd : Int) (a1 : Option Addr) (n1 c1 : Nat) (Z1 : List Int) (pg cut : Int) (w : World) (hC : C.Ok) (bs : 0 ≤ sd ∧ sd ≤ 18446744073709551615) (h1 : IArg w a1 n1 c1 Z1) (bpg : -9223372036854775808 ≤ pg ∧ pg ≤ 9223372036854775807) (bcut : -9223372036854775808 ≤ cut ∧ cut ≤ 9223372036854775807) (hT : Tab w) :
   Calls Tryd.prog 4 #[C.val, .int .u64 sd, .slice a1 n1 c1, .int .i64 pg, .int .i64 cut] w fun e w' => e = .returned (.bool true) ∧ Below w.heap.size w w' := by
  obtain ⟨seed, rfl⟩ : ∃ n : Nat, sd = n := ⟨sd.toNat, by omega⟩
  have hsd : seed < 18446744073709551616 := by omega
  clear bs
  have HT : Hid (∀ wv, Below w.heap.size w wv → Tab wv) := fun wv hb => hT.next hb
  have CW := fun (wv : World) (hb : Below w.heap.size w wv) => (fun (w : World) (_ : Tab w) => awake11_any w) wv (HT.out wv hb)
  have CF1 := fun (wv : World) (hb : Below w.heap.size w wv) => few8_any a1 n1 c1 Z1 8 wv (h1.below hb) (by omega)
  have s1 : ∀ k, -9223372036854775808 ≤ el (Z1.take 8) k ∧ el (Z1.take 8) k ≤ 9223372036854775807 := fun k => by
    rcases Nat.lt_or_ge k 8 with h | h
    · rw [el_take h]; exact h1.row.small k
    · rw [el_over (by rw [List.length_take]; omega)]; omega
  have hP8 : (Z1.take 8).length ≤ 8 := by rw [List.length_take]; omega
  have M0 := fun wv => make_gen C hC seed hsd wv
  have CS := fun wv => small8_any C.V C.D C.Hd C.H C.L wv
  have hu : ∀ C : Cfg, cfgC C.V C.D C.Hd C.H C.L = #[.int .i64 C.V, .int .i64 C.D, .int .i64 C.Hd, .int .i64 C.H, .int .i64 C.L] := fun _ => rfl
  unfold Cfg.val at *
  rw [hu] at M0 CS ⊢
  clear hT h1 hC
  have X0 := blk_new w 23 #[.int .i64 C.V, .int .i64 C.D, .int .i64 C.Hd, .int .i64 C.H, .int .i64 C.L]
  have B0 : Below w.heap.size w (w.alloc (.cells #[.int .i64 C.V, .int .i64 C.D, .int .i64 C.Hd, .int .i64 C.H, .int .i64 C.L] 23)) := (Below.refl _ _).alloc (Nat.le_refl _) _
  have z0 : w.heap.size < (w.alloc (.cells #[.int .i64 C.V, .int .i64 C.D, .int .i64 C.Hd, .int .i64 C.H, .int .i64 C.L] 23)).heap.size := by simp
  generalize hw0 : w.alloc (.cells #[.int .i64 C.V, .int .i64 C.D, .int .i64 C.Hd, .int .i64 C.H, .int .i64 C.L] 23) = w0 at *
  go_enter Tryd.func4, Tryd.ntmps4
  go_wp2_with fail
  refine (CF1 _ B0).mono ?_
  rintro e w1 ⟨b1, kq, rfl, O1, B1⟩
  generalize Z1.take 8 = P at *
  obtain ⟨l1, hl1⟩ : ∃ l1, P.length = l1 := ⟨_, rfl⟩
  have HL1 : Hid (P.length = l1) := hl1
  rw [hl1] at O1 hP8 ⊢
  clear hl1
  have D1 := below_then B0 B1
  replace X0 := X0.below B1
  clear hw0 CF1 B0 B1
  obtain ⟨x1, y1, e1, I1⟩ := IOwn.arg O1 s1
  simp only [Value.slice.injEq, true_and] at e1
  obtain ⟨rfl, rfl⟩ := e1
  have gw0 : w.heap.size < w0.heap.size := z0
  clear O1 z0
  have a0 : w1.cell? ⟨w.heap.size, 0, none⟩ = some (.int .i64 C.V) := X0.cell 0 rfl
  have a1 : w1.cell? ⟨w.heap.size, 1, none⟩ = some (.int .i64 C.D) := X0.cell 1 rfl
  have a2 : w1.cell? ⟨w.heap.size, 2, none⟩ = some (.int .i64 C.Hd) := X0.cell 2 rfl
  have a3 : w1.cell? ⟨w.heap.size, 3, none⟩ = some (.int .i64 C.H) := X0.cell 3 rfl
  have a4 : w1.cell? ⟨w.heap.size, 4, none⟩ = some (.int .i64 C.L) := X0.cell 4 rfl
  go_wp2_with fail
  refine (M0 w1).mono ?_
  rintro e w2 ⟨ws, q, rfl, MM, B2⟩
  replace X0 := X0.below B2
  replace I1 := I1.below B2
  have D2 := below_then D1 B2
  clear a0 a1 a2 a3 a4 B2 D1
  have siz := MM.size
  have one := MM.one
  have XZ := blk_new w2 32 #[.int .i64 0, .int .i64 0, .slice none 0 0, .slice none 0 0, .slice none 0 0, .int .i64 0, .int .i64 0, .slice none 0 0]
  have BZ : Below w2.heap.size w2 (w2.alloc (.cells #[.int .i64 0, .int .i64 0, .slice none 0 0, .slice none 0 0, .slice none 0 0, .int .i64 0, .int .i64 0, .slice none 0 0] 32)) := (Below.refl _ _).alloc (Nat.le_refl _) _
  generalize hwz : w2.alloc (.cells #[.int .i64 0, .int .i64 0, .slice none 0 0, .slice none 0 0, .slice none 0 0, .int .i64 0, .int .i64 0, .slice none 0 0] 32) = wz at *
  have X1 := XZ.row ws
  have BR := below_setRow BZ (Nat.le_refl _) ws
  generalize hwy : wz.setRow w2.heap.size ws = wy at *
  replace X0 := X0.below BR
  replace I1 := I1.below BR
  replace MM := MM.below BR
  have D3 := below_then D2 BR
  have a0 : wy.cell? ⟨w.heap.size, 0, none⟩ = some (.int .i64 C.V) := X0.cell 0 rfl
  have a1 : wy.cell? ⟨w.heap.size, 1, none⟩ = some (.int .i64 C.D) := X0.cell 1 rfl
  have a2 : wy.cell? ⟨w.heap.size, 2, none⟩ = some (.int .i64 C.Hd) := X0.cell 2 rfl
  have a3 : wy.cell? ⟨w.heap.size, 3, none⟩ = some (.int .i64 C.H) := X0.cell 3 rfl
  have a4 : wy.cell? ⟨w.heap.size, 4, none⟩ = some (.int .i64 C.L) := X0.cell 4 rfl
  by_cases hq : q = 0
  · subst hq
    obtain ⟨V, D, Hd, H, L, ge, gB, gl, go, e1, e2, e3, e4, e5, hcs, MW⟩ := MM.ok rfl
    have hsh : shapeN V D Hd H L = 0 := by rw [← e1, ← e2, ← e3, ← e4, ← e5]; exact MM.err.symm
    obtain ⟨bs, GD⟩ := made_good (Hd := Hd) MW hsh
    have hws : (mkW V D L ge gB gl go).cells = ws := by rw [hcs]; rfl
    obtain ⟨VV, DD, HHd, HH, LL⟩ := C
    simp only at e1 e2 e3 e4 e5
    subst e1 e2 e3 e4 e5
    have hk := shape_ok hsh
    have GD2 : Good wy V D Hd H L (mkW V D L ge gB gl go) bs (mdlS seed V D H L) := GD
    generalize mdlS seed V D H L = M at *
    generalize hWW : mkW V D L ge gB gl go = WW at *
    clear MM MW hcs GD hWW
    have AO := fun (vv : VwV) (X : Vw) (ao : Option Addr) (n ca : Nat) (A : List Int) (wv : World) (g1 : Tab wv) (g2 : Good wv V D Hd H L WW bs M) (g3 : VwAt wv vv X) (g4 : VwFit V D L X) (g5 : IArg wv ao n ca A) (g6 : promptN V A = 0) (g7 : X.T.length + A.length ≤ 128) => all_ok V D Hd H L WW bs M vv X ao n ca A wv g1 g2 g3 g4 g5 g6 g7
    have AB := fun (cv : Array Value) (ao : Option Addr) (n ca : Nat) (A : List Int) (wv : World) (g5 : IArg wv ao n ca A) (g6 : promptN V A ≠ 0) => all_bad V D Hd H L ws cv ao n ca A wv g5 g6
    have FD := fun (vv : VwV) (X : Vw) (tok : Int) (wv : World) (g1 : Tab wv) (gl : X.T.length ≤ 127) (g2 : Good wv V D Hd H L WW bs M) (g3 : VwAt wv vv X) (g4 : VwFit V D L X) => feed_any V D Hd H L WW bs M vv X tok wv g1 gl g2 g3 g4
    rw [hws] at AO FD
    unfold cfgC at AO AB FD
    clear FD
    clear hws
    go_wp2_with (refine wpList_store_row rfl 32 _ _ rfl w2.heap.size ws rfl rfl 32 _ XZ (by rw [siz]; exact Tryd.infoW) (by rw [siz]; rfl) one ?_; rw [hwy])
    refine (CS _).mono ?_
    rintro e w4 ⟨rfl, B4⟩
    replace X0 := X0.below B4
    replace X1 := X1.below B4
    have AP := I1.below B4
    have G4 := GD2.below B4
    have D4 := below_then D3 B4
    clear a0 a1 a2 a3 a4 hwz hwy XZ BZ BR CS D2 D3 B4 I1 GD2
    generalize smallN (D : Int) (H : Int) (L : Int) = sq at *
    have a0 : w4.cell? ⟨w.heap.size, 0, none⟩ = some (.int .i64 (V : Int)) := X0.cell 0 rfl
    have a1 : w4.cell? ⟨w.heap.size, 1, none⟩ = some (.int .i64 (D : Int)) := X0.cell 1 rfl
    have a2 : w4.cell? ⟨w.heap.size, 2, none⟩ = some (.int .i64 (Hd : Int)) := X0.cell 2 rfl
    have a3 : w4.cell? ⟨w.heap.size, 3, none⟩ = some (.int .i64 (H : Int)) := X0.cell 3 rfl
    have a4 : w4.cell? ⟨w.heap.size, 4, none⟩ = some (.int .i64 (L : Int)) := X0.cell 4 rfl
    by_cases hs0 : sq = 0
    · subst hs0
      go_wp2_with fail
      refine (CW _ D4).mono ?_
      rintro e wq ⟨rfl, Bq⟩
      go_wp2
      go_ret
      exact ⟨rfl, below_then D4 Bq⟩
    · have hs0' : (sq == 0) = false := by simpa using hs0
      by_cases hqa : promptN V P = 0
      rotate_left
      · have A6 := AB #[.slice none 0 0, .slice none 0 0, .slice none 0 0] (some ⟨b1, 0, none⟩) l1 kq P w4 AP hqa
        unfold noV at A6
        generalize promptN V P = pq at *
        have hqb : (pq == 0) = false := by simpa using hqa
        go_wp2_with (refine wpList_load_row rfl 32 _ rfl w2.heap.size rfl 32 ws (0, 0) _ X1 Tryd.underlying32 rfl (by rw [siz]; exact Tryd.infoW) ?_)
        refine A6.mono ?_
        rintro e w6 ⟨rfl, B6⟩
        have D6 := below_then D4 B6
        obtain ⟨XE9, XF9, BF9, _⟩ := var3 w6 42 #[.slice none 0 0, .slice none 0 0, .slice none 0 0] #[.slice none 0 0, .slice none 0 0, .slice none 0 0]
        generalize hwe9 : w6.alloc (.cells #[.slice none 0 0, .slice none 0 0, .slice none 0 0] 42) = w9g at *
        generalize hwf9 : w9g.setRow w6.heap.size #[.slice none 0 0, .slice none 0 0, .slice none 0 0] = w9f at *
        have D7 := below_then D6 BF9
        clear a0 a1 a2 a3 a4 A6
        have X09 := (X0.below B6).below BF9
        have a0 : w9f.cell? ⟨w.heap.size, 0, none⟩ = some (.int .i64 (V : Int)) := X09.cell 0 rfl
        have a1 : w9f.cell? ⟨w.heap.size, 1, none⟩ = some (.int .i64 (D : Int)) := X09.cell 1 rfl
        have a2 : w9f.cell? ⟨w.heap.size, 2, none⟩ = some (.int .i64 (Hd : Int)) := X09.cell 2 rfl
        have a3 : w9f.cell? ⟨w.heap.size, 3, none⟩ = some (.int .i64 (H : Int)) := X09.cell 3 rfl
        have a4 : w9f.cell? ⟨w.heap.size, 4, none⟩ = some (.int .i64 (L : Int)) := X09.cell 4 rfl
        have y0 : w9f.cell? ⟨w6.heap.size, 0, none⟩ = some (.slice none 0 0) := XF9.cell 0 rfl
        have y1 : w9f.cell? ⟨w6.heap.size, 1, none⟩ = some (.slice none 0 0) := XF9.cell 1 rfl
        have y2 : w9f.cell? ⟨w6.heap.size, 2, none⟩ = some (.slice none 0 0) := XF9.cell 2 rfl
        clear X1 X0 XF9 X09
        by_cases hpg : pg < 1 ∨ 16 < pg
        · have SB := split_bad V D Hd H L none 0 0 none 0 0 none 0 0 pg w9f hpg
          unfold cfgC at SB
          go_wp2_with (refine wpList_store_row rfl 42 _ _ rfl w6.heap.size #[.slice none 0 0, .slice none 0 0, .slice none 0 0] rfl rfl 42 _ XE9 (by exact Tryd.infoV) rfl (by simp [Value.oneCell']) ?_; rw [hwf9])
          refine SB.mono ?_
          rintro e wa ⟨rfl, Ba⟩
          clear hwe9 hwf9 XE9 a0 a1 a2 a3 a4 y0 y1 y2 SB
          have Da := below_then D7 Ba
          go_wp2_with fail
          refine (CW _ Da).mono ?_
          rintro e wq ⟨rfl, Bq⟩
          go_wp2
          go_ret
          exact ⟨rfl, below_then Da Bq⟩
        · obtain ⟨pn, rfl⟩ : ∃ n : Nat, pg = (n : Int) := ⟨pg.toNat, by omega⟩
          have SG := split_any V D Hd H L ⟨⟨none, 0, 0⟩, ⟨none, 0, 0⟩, ⟨none, 0, 0⟩⟩ noX pn w9f (noV_at _) (noX_fit _ _ _) (by omega) (by omega) (by omega) (by omega)
          rw [show pageN noX.T.length pn = 0 from pageN_zero (by omega)] at SG
          unfold cfgC at SG
          rw [show VwV.cells ⟨⟨none, 0, 0⟩, ⟨none, 0, 0⟩, ⟨none, 0, 0⟩⟩ = #[.slice none 0 0, .slice none 0 0, .slice none 0 0] from rfl] at SG
          go_wp2_with (refine wpList_store_row rfl 42 _ _ rfl w6.heap.size #[.slice none 0 0, .slice none 0 0, .slice none 0 0] rfl rfl 42 _ XE9 (by exact Tryd.infoV) rfl (by simp [Value.oneCell']) ?_; rw [hwf9])
          refine SG.mono ?_
          rintro e wa ⟨ga, gc, rfl, _, Ba⟩
          clear hwe9 hwf9 XE9 a0 a1 a2 a3 a4 y0 y1 y2 SG
          have Da := below_then D7 Ba
          go_wp2_with fail
          refine (CW _ Da).mono ?_
          rintro e wq ⟨rfl, Bq⟩
          go_wp2
          go_ret
          exact ⟨rfl, below_then Da Bq⟩
      obtain ⟨pp1, pp2, pp3⟩ := prompt_ok hqa
      have hL1 := HL1.out
      obtain ⟨q1, q2, q3, q4, q5, q6, q7, q8, q9, q10⟩ := hk
      have hfit : VwFit (V : Int) D L (feedAll M D H Hd L noX P) := feedAll_fit (noX_fit _ _ _) pp3 (by show 0 + _ ≤ _; omega)
      have EM := (feed_full (M := M) (H := H) (Hd := Hd) pp3 pp1 pp2 (noX_fit (V : Int) D L)).1
      have A6 := AO ⟨⟨none, 0, 0⟩, ⟨none, 0, 0⟩, ⟨none, 0, 0⟩⟩ noX (some ⟨b1, 0, none⟩) l1 kq P w4 (HT.out _ D4) G4 (noV_at _) (noX_fit _ _ _) AP hqa (by show 0 + _ ≤ _; omega)
      unfold VwV.cells Sl.v at A6
      simp only at A6
      have hXT : (feedAll M D H Hd L noX P).T.length = l1 := by rw [EM]; exact hL1
      obtain ⟨X, hXe⟩ : ∃ X, X = feedAll M D H Hd L noX P := ⟨_, rfl⟩
      rw [← hXe] at A6 hfit hXT
      generalize likAt M V D H Hd L noX P P.length = LK at *
      clear hXe EM AO AB pp1 pp2 pp3 hqa hL1
      have hD32 : D ≤ 32 := by omega
      have hL4 : L ≤ 4 := by omega
      have hV64 : V ≤ 64 := by omega
      go_wp2_with (refine wpList_load_row rfl 32 _ rfl w2.heap.size rfl 32 ws (0, 0) _ X1 Tryd.underlying32 rfl (by rw [siz]; exact Tryd.infoW) ?_)
      refine A6.mono ?_
      rintro e w6 ⟨⟨⟨ta, tn, tz⟩, ⟨ka, kn, kz⟩, ⟨va, vn, vz⟩⟩, g6, rfl, N6, F6, B6⟩
      try simp only at N6
      have D6 := below_then D4 B6
      clear a0 a1 a2 a3 a4 A6 F6
      obtain ⟨XE6, XF6, BF6, _⟩ := var3 w6 42 #[.slice none 0 0, .slice none 0 0, .slice none 0 0] #[.slice ta tn tz, .slice ka kn kz, .slice va vn vz]
      generalize hwe6 : w6.alloc (.cells #[.slice none 0 0, .slice none 0 0, .slice none 0 0] 42) = w6g at *
      generalize hwf6 : w6g.setRow w6.heap.size #[.slice ta tn tz, .slice ka kn kz, .slice va vn vz] = w6f at *
      have X06 := (X0.below B6).below BF6
      have X16 := (X1.below B6).below BF6
      have VW := N6.now.below BF6
      have G6 := (G4.below B6).below BF6
      have D6f := below_then D6 BF6
      have a0 : w6f.cell? ⟨w.heap.size, 0, none⟩ = some (.int .i64 (V : Int)) := X06.cell 0 rfl
      have a1 : w6f.cell? ⟨w.heap.size, 1, none⟩ = some (.int .i64 (D : Int)) := X06.cell 1 rfl
      have a2 : w6f.cell? ⟨w.heap.size, 2, none⟩ = some (.int .i64 (Hd : Int)) := X06.cell 2 rfl
      have a3 : w6f.cell? ⟨w.heap.size, 3, none⟩ = some (.int .i64 (H : Int)) := X06.cell 3 rfl
      have a4 : w6f.cell? ⟨w.heap.size, 4, none⟩ = some (.int .i64 (L : Int)) := X06.cell 4 rfl
      have y0 : w6f.cell? ⟨w6.heap.size, 0, none⟩ = some (.slice ta tn tz) := XF6.cell 0 rfl
      have y1 : w6f.cell? ⟨w6.heap.size, 1, none⟩ = some (.slice ka kn kz) := XF6.cell 1 rfl
      have y2 : w6f.cell? ⟨w6.heap.size, 2, none⟩ = some (.slice va vn vz) := XF6.cell 2 rfl
      clear X0 X1 AP G4 N6 B6 D4 D6 BF6
      by_cases hpg : pg < 1 ∨ 16 < pg
      · have SB := split_bad V D Hd H L ta tn tz ka kn kz va vn vz pg w6f hpg
        unfold cfgC at SB
        go_wp2_with (refine wpList_store_row rfl 42 _ _ rfl w6.heap.size #[.slice ta tn tz, .slice ka kn kz, .slice va vn vz] rfl rfl 42 _ XE6 (by exact Tryd.infoV) rfl (by simp [Value.oneCell']) ?_; rw [hwf6])
        refine SB.mono ?_
        rintro e wa ⟨rfl, Ba⟩
        clear hwe6 hwf6 XE6 a0 a1 a2 a3 a4 y0 y1 y2 SB
        have Da := below_then D6f Ba
        go_wp2_with fail
        refine (CW _ Da).mono ?_
        rintro e wq ⟨rfl, Bq⟩
        go_wp2
        go_ret
        exact ⟨rfl, below_then Da Bq⟩
      obtain ⟨pn, rfl⟩ : ∃ n : Nat, pg = (n : Int) := ⟨pg.toNat, by omega⟩
      have hp1 : 1 ≤ pn := by omega
      have hp2 : pn ≤ 16 := by omega
      have SG := split_any V D Hd H L ⟨⟨ta, tn, tz⟩, ⟨ka, kn, kz⟩, ⟨va, vn, vz⟩⟩ X pn w6f VW hfit (by omega) (by omega) (by omega) (by omega)
      unfold cfgC at SG
      rw [show VwV.cells ⟨⟨ta, tn, tz⟩, ⟨ka, kn, kz⟩, ⟨va, vn, vz⟩⟩ = #[.slice ta tn tz, .slice ka kn kz, .slice va vn vz] from rfl] at SG
      obtain ⟨NP, hNP⟩ : ∃ NP, pageN X.T.length pn = NP := ⟨_, rfl⟩
      rw [hNP] at SG
      rw [hXT] at hNP
      have hNPl : NP ≤ l1 := by rw [← hNP]; exact pageN_le _ _ hp1
      have HNP : Hid (pageN l1 pn = NP) := hNP
      have HXT : Hid (X.T.length = l1) := hXT
      have hquo : ((l1 : Int) + (pn : Int) - 1).tdiv (pn : Int) = (NP : Int) := by rw [← hNP]; exact pageN_quo _ _ hp1
      have hpn0 : ((pn : Int) == 0) = false := by simp; omega
      clear hNP hXT hpg
      go_wp2_with (refine wpList_store_row rfl 42 _ _ rfl w6.heap.size #[.slice ta tn tz, .slice ka kn kz, .slice va vn vz] rfl rfl 42 _ XE6 (by exact Tryd.infoV) rfl (by simp [Value.oneCell']) ?_; rw [hwf6])
      refine SG.mono ?_
      rintro e w7 ⟨ga, gc, rfl, N7, B7⟩
      have PG := N7.now
      have X07 := X06.below B7
      have D7 := below_then D6f B7
      clear hwe6 hwf6 XE6 a0 a1 a2 a3 a4 y0 y1 y2 SG N7
      have HPG : Hid (∀ wv, Below w7.heap.size w7 wv → PgsAt wv ⟨ga, NP, gc⟩ (pagesOf X pn NP)) := fun wv hb => PG.below hb
      have HX0 : Hid (∀ wv, Below w7.heap.size w7 wv → Blk wv w.heap.size 23 #[.int .i64 (V : Int), .int .i64 (D : Int), .int .i64 (Hd : Int), .int .i64 (H : Int), .int .i64 (L : Int)]) := fun wv hb => X07.below hb
      have HD7 : Hid (Below w.heap.size w w7) := D7
      have HFT : Hid (VwFit (V : Int) D L X) := hfit
      have hx7 := X07.lt
      clear PG X07 D7 hfit D6f X06 X16 G6 VW B7
      go_wp2_with fail
      clear hquo
      go_loopg [89] NP (fun r s89 wr => ∃ k : Nat, k ≤ NP ∧ r = NP - k ∧ s89 = .int .i64 (k : Int) ∧ Below w7.heap.size w7 wr)
      case atStart => exact ⟨0, by omega, by omega, rfl, Below.refl _ _⟩
      case round =>
        obtain ⟨k, hk, rfl, rfl, BB⟩ := hrel
        by_cases hkn : k < NP
        · obtain ⟨g, o, e5, hc⟩ := (HPG.out wr BB).cells (by show 0 < NP; omega)
          have e5' : ga = some ⟨g, o, none⟩ := e5
          subst e5'
          obtain ⟨⟨⟨p1, p2, p3⟩, pf, ⟨p4, p5, p6⟩, ⟨p7, p8, p9⟩⟩, r0, PA⟩ := hc k _ (pagesOf_at X pn NP k hkn)
          have hfl := (pageN_lt hp1 (n := l1) (k := k)).2 (by rw [HNP.out]; exact hkn)
          have hks : (k + 1) * pn = k * pn + pn := Nat.succ_mul k pn
          rw [HXT.out] at PA
          obtain ⟨fr, hfr⟩ : ∃ fr, k * pn = fr := ⟨_, rfl⟩
          have hfr2 : IntKind.i64.wrap ((k : Int) * (pn : Int)) = (fr : Int) := by rw [show (k : Int) * (pn : Int) = (fr : Int) by rw [← hfr]; push_cast; rfl]; exact wrap_in (by omega)
          rw [hks, hfr] at PA
          rw [hfr] at hfl
          obtain ⟨to', hto⟩ : ∃ t, min (fr + pn) l1 = t := ⟨_, rfl⟩
          rw [hto] at PA
          have hto1 : fr < to' := by omega
          have hto2 : to' ≤ l1 := by omega
          have hto3 : to' - fr ≤ 16 := by omega
          clear hfr hks hto hc
          have ck := pg_ok HFT.out hto1 (by rw [HXT.out]; exact hto2) hto3
          have epf : pf = (fr : Int) := PA.f
          subst epf
          have ept : p2 = to' := by have := PA.t.row.len; rw [show (pgOf X fr to').T = X.T.take to' from rfl, List.length_take, HXT.out] at this; simp only at this; omega
          have EPT : Hid (p2 = to') := ept
          have sK := cube_small PA.k
          have sV := cube_small PA.v
          have plen := page_len ck sK sV
          have hTl : (pgOf X fr to').T.length = to' := by show (X.T.take to').length = _; rw [List.length_take, HXT.out]; omega
          rw [hTl, show (pgOf X fr to').F.toNat = fr from by show ((fr : Nat) : Int).toNat = fr; omega] at plen
          have PL : (pageB (pgOf X fr to')).length = 2 + (to' + 8 * (to' - fr) * L * D) := by rw [pageB_form, List.length_cons, List.length_cons, plen]; omega
          obtain ⟨dd, hdd⟩ : ∃ d, to' - fr = d := ⟨_, rfl⟩
          rw [hdd] at PL hto3
          obtain ⟨q2', hq2⟩ : ∃ q2, 8 * dd * L = q2 := ⟨_, rfl⟩
          obtain ⟨q3', hq3⟩ : ∃ q3, q2' * D = q3 := ⟨_, rfl⟩
          have bq2 : q2' ≤ 512 := by rw [← hq2]; exact Nat.le_trans (Nat.mul_le_mul (by omega : 8 * dd ≤ 128) hL4) (by decide)
          have bq3 : q3' ≤ 16384 := by rw [← hq3]; exact Nat.le_trans (Nat.mul_le_mul bq2 hD32) (by decide)
          have w2' : IntKind.i64.wrap (8 * (dd : Int) * (L : Int)) = (q2' : Int) := by rw [show (8 * (dd : Int) * (L : Int)) = (q2' : Int) by rw [← hq2]; push_cast; rfl]; exact wrap_in (by omega)
          have w3' : IntKind.i64.wrap ((q2' : Int) * (D : Int)) = (q3' : Int) := by rw [show ((q2' : Int) * (D : Int)) = (q3' : Int) by rw [← hq3]; push_cast; rfl]; exact wrap_in (by omega)
          have hdi : IntKind.i64.wrap ((to' : Int) - (fr : Int)) = (dd : Int) := by rw [show ((to' : Int) - (fr : Int)) = (dd : Int) by omega]; exact wrap_in (by omega)
          rw [hq2, hq3] at PL
          have hcs : (cubeB (pgOf X fr to').K).length + (cubeB (pgOf X fr to').V).length ≤ 900000 := by
            have := PL
            rw [pageB_form, List.length_cons, List.length_cons, List.length_append, List.length_append] at this
            omega
          have CB := fun (wv : World) (hb : Below wr.heap.size wr wv) => bytes_ok V D Hd H L _ _ wv (PA.below hb) (by show -9223372036854775808 ≤ (fr : Int) ∧ (fr : Int) ≤ 9223372036854775807; omega) ck hcs
          have HCUT : Hid (∀ cu, cu < (pageB (pgOf X fr to')).length → rdS V D L ((pageB (pgOf X fr to')).take cu) = (11, noPg) ∨ rdS V D L ((pageB (pgOf X fr to')).take cu) = (6, noPg)) := fun cu hcu => page_cut ck sK sV hD32 hL4 hcu
          have CRA := fun (wv : World) (l : List UInt8) (hl : l.length ≤ 16777216) => read_any V D Hd H L l wv hl (by omega) (by omega)
          unfold cfgC at CB CRA
          rw [show PgV.cells ⟨⟨p1, p2, p3⟩, (fr : Int), ⟨p4, p5, p6⟩, ⟨p7, p8, p9⟩⟩ = #[.slice p1 p2 p3, .int .i64 (fr : Int), .slice p4 p5 p6, .slice p7 p8 p9] from rfl] at r0 CB
          obtain ⟨PB, hPB⟩ : ∃ PB, pageB (pgOf X fr to') = PB := ⟨_, rfl⟩
          rw [hPB] at CB PL HCUT
          have hpbs : (txt PB).size = 2 + (to' + q3') := by rw [txt_size]; exact PL
          clear hPB hcs sK sV plen hTl ck PA hq2 hq3
          subst ept
          have hszr := BB.size
          have Xr := HX0.out wr BB
          obtain ⟨XE10, XF10, BF10, _⟩ := var3 wr 49 #[.slice none 0 0, .int .i64 0, .slice none 0 0, .slice none 0 0] #[.slice p1 p2 p3, .int .i64 (fr : Int), .slice p4 p5 p6, .slice p7 p8 p9]
          generalize hwe10 : wr.alloc (.cells #[.slice none 0 0, .int .i64 0, .slice none 0 0, .slice none 0 0] 49) = w10g at *
          generalize hwf10 : w10g.setRow wr.heap.size #[.slice p1 p2 p3, .int .i64 (fr : Int), .slice p4 p5 p6, .slice p7 p8 p9] = w10f at *
          have Xr10 := Xr.below BF10
          have D10 := below_then BB BF10
          have a0 : w10f.cell? ⟨w.heap.size, 0, none⟩ = some (.int .i64 (V : Int)) := Xr10.cell 0 rfl
          have a1 : w10f.cell? ⟨w.heap.size, 1, none⟩ = some (.int .i64 (D : Int)) := Xr10.cell 1 rfl
          have a2 : w10f.cell? ⟨w.heap.size, 2, none⟩ = some (.int .i64 (Hd : Int)) := Xr10.cell 2 rfl
          have a3 : w10f.cell? ⟨w.heap.size, 3, none⟩ = some (.int .i64 (H : Int)) := Xr10.cell 3 rfl
          have a4 : w10f.cell? ⟨w.heap.size, 4, none⟩ = some (.int .i64 (L : Int)) := Xr10.cell 4 rfl
          have y0 : w10f.cell? ⟨wr.heap.size, 0, none⟩ = some (.slice p1 p2 p3) := XF10.cell 0 rfl
          have y1 : w10f.cell? ⟨wr.heap.size, 1, none⟩ = some (.int .i64 (fr : Int)) := XF10.cell 1 rfl
          have y2 : w10f.cell? ⟨wr.heap.size, 2, none⟩ = some (.slice p4 p5 p6) := XF10.cell 2 rfl
          have y3 : w10f.cell? ⟨wr.heap.size, 3, none⟩ = some (.slice p7 p8 p9) := XF10.cell 3 rfl
          have CB1 := CB w10f BF10
          clear CB
          go_upto_region 14 with (first | (refine wpList_load_mid rfl 49 _ rfl g (o + k * 4) rfl [.slice p1 p2 p3, .int .i64 (fr : Int), .slice p4 p5 p6, .slice p7 p8 p9] _ r0 Tryd.underlying49 rfl (by exact Tryd.infoPg) ?_) | (refine wpList_store_row rfl 49 _ _ rfl wr.heap.size #[.slice p1 p2 p3, .int .i64 (fr : Int), .slice p4 p5 p6, .slice p7 p8 p9] rfl rfl 49 _ XE10 (by exact Tryd.infoPg) rfl (by simp [Value.oneCell']) ?_; rw [hwf10]))
          clear hwe10 hwf10 XE10 r0
          go_wp2_with fail
          refine CB1.mono ?_
          clear CB1 a0 a1 a2 a3 a4 y0 y1 y2 y3
          rintro e w12 ⟨rfl, B12⟩
          have X012 := Xr10.below B12
          have XP12 := XF10.below B12
          have D12 := below_then D10 B12
          have y0 : w12.cell? ⟨wr.heap.size, 0, none⟩ = some (.slice p1 p2 p3) := XP12.cell 0 rfl
          have y1 : w12.cell? ⟨wr.heap.size, 1, none⟩ = some (.int .i64 (fr : Int)) := XP12.cell 1 rfl
          have a4 : w12.cell? ⟨w.heap.size, 4, none⟩ = some (.int .i64 (L : Int)) := X012.cell 4 rfl
          have a1 : w12.cell? ⟨w.heap.size, 1, none⟩ = some (.int .i64 (D : Int)) := X012.cell 1 rfl
          clear BF10 Xr10 D10 XF10 Xr B12
          by_cases hc0 : 0 ≤ cut
          · obtain ⟨cu, rfl⟩ : ∃ n : Nat, cut = (n : Int) := ⟨cut.toNat, by omega⟩
            by_cases hcl : cu < PB.length
            · have hcl2 : (cu : Int) < 2 + ((p2 : Int) + (q3' : Int)) := by omega
              have HRD0 := HCUT.out cu hcl
              obtain ⟨cd, hcd⟩ : ∃ cd, rdS V D L (PB.take cu) = cd := ⟨_, rfl⟩
              have CRD0 := fun (wv : World) => CRA wv (PB.take cu) (by rw [List.length_take]; omega)
              rw [hcd] at HRD0 CRD0
              clear hcd HCUT CRA
              go_upto_region 19 with fail
              clear y0 y1 a4 a1 XP12 hcl
              rcases HRD0 with hcd | hcd
              · subst hcd
                have CRD := fun (wv : World) (_ : Below w7.heap.size w7 wv) => CRD0 wv
                clear CRD0
                have BD : Below w12.heap.size w12 w12.drew := (Below.refl _ w12).drew
                have XD := X012.below BD
                have DD := below_then D12 BD
                refine wp_region_held_drew (S := fun w' => Blk w' w.heap.size 23 #[.int .i64 (V : Int), .int .i64 (D : Int), .int .i64 (Hd : Int), .int .i64 (H : Int), .int .i64 (L : Int)]) (by kernel_rfl) (XD) (fun hHeld => ?_)
                generalize hA : w12.drew = wd at *
                clear hA X012 D12 BD
                refine wpAnyH_take (i := 0) (v := (.agg #[.int .i64 (V : Int), .int .i64 (D : Int), .int .i64 (Hd : Int), .int .i64 (H : Int), .int .i64 (L : Int)])) rfl (by kernel_rfl) (by kernel_rfl) (by kernel_rfl) (fun _ _ _ h => h) (Or.inl ⟨by rfl, ?_⟩) (by assumption) ?_
                · intro w' hSw
                  have a0 : w'.cell? ⟨w.heap.size, 0, none⟩ = some (.int .i64 (V : Int)) := hSw.cell 0 rfl
                  have a1 : w'.cell? ⟨w.heap.size, 1, none⟩ = some (.int .i64 (D : Int)) := hSw.cell 1 rfl
                  have a2 : w'.cell? ⟨w.heap.size, 2, none⟩ = some (.int .i64 (Hd : Int)) := hSw.cell 2 rfl
                  have a3 : w'.cell? ⟨w.heap.size, 3, none⟩ = some (.int .i64 (H : Int)) := hSw.cell 3 rfl
                  have a4 : w'.cell? ⟨w.heap.size, 4, none⟩ = some (.int .i64 (L : Int)) := hSw.cell 4 rfl
                  go_simp
                simp only [List.getElem_toArray, List.getElem_cons_zero, Act.put, List.setIfInBounds_toArray, List.set_cons_zero, List.set_cons_succ]
                refine wpAnyH_take (i := 1) (v := (.string (txt PB))) rfl (by kernel_rfl) (by kernel_rfl) (by kernel_rfl) (fun _ _ _ h => h) (Or.inl ⟨by rfl, ?_⟩) (by assumption) ?_
                · intro w' hSw
                  go_simp
                simp only [List.getElem_toArray, List.getElem_cons_succ, List.getElem_cons_zero, Act.put, List.setIfInBounds_toArray, List.set_cons_zero, List.set_cons_succ]
                refine wpAnyH_take (i := 2) (v := (.int .i64 (cu : Int))) rfl (by kernel_rfl) (by kernel_rfl) (by kernel_rfl) (fun _ _ _ h => h) (Or.inl ⟨by rfl, ?_⟩) (by assumption) ?_
                · intro w' hSw
                  go_simp
                simp only [List.getElem_toArray, List.getElem_cons_succ, List.getElem_cons_zero, Act.put, List.setIfInBounds_toArray, List.set_cons_zero, List.set_cons_succ]
                refine wpAnyH_take (i := 3) (v := (.string (txt (PB.take cu)))) rfl (by kernel_rfl) (by kernel_rfl) (by kernel_rfl) (fun _ _ _ h => h) (Or.inl ⟨by rfl, ?_⟩) (by assumption) ?_
                · intro w' hSw
                  (go_simp; rw [extract_txt, if_pos (by omega)]; rfl)
                simp only [List.getElem_toArray, List.getElem_cons_succ, List.getElem_cons_zero, Act.put, List.setIfInBounds_toArray, List.set_cons_zero, List.set_cons_succ]
                refine wpAnyH_ready (rs := [4, 8]) (by kernel_rfl) (by simp) ?_
                refine AllReadyH.cons rfl (fun Kc hKc => ?_) (AllReadyH.cons rfl (fun Kc hKc => ?_) AllReadyH.nil)
                · simp only [List.getElem_toArray, List.getElem_cons_succ, List.getElem_cons_zero]
                  rw [if_pos (by rfl)]
                  go_wp2_with fail
                  refine (CRD wd DD).mono ?_
                  rintro e wr2 ⟨⟨⟨r1, r2, r3⟩, rf, ⟨r4, r5, r6⟩, ⟨r7, r8, r9⟩⟩, rfl, NR, BRD⟩
                  have XR2 := XD.below BRD
                  have DR2 := DD.trans (BRD.mono DD.size)
                  rw [show PgV.cells ⟨⟨r1, r2, r3⟩, rf, ⟨r4, r5, r6⟩, ⟨r7, r8, r9⟩⟩ = #[.slice r1 r2 r3, .int .i64 rf, .slice r4 r5 r6, .slice r7 r8 r9] from rfl]
                  have hr2 : r2 = 0 := NR.now.t.row.len.symm
                  subst hr2
                  go_wp2_with fail
                  refine hKc.out _ _ XR2 (fun hHeld => ?_)
                  clear hKc Kc
                  refine wpAnyH_take (i := 5) (v := (.tuple #[.agg #[.slice r1 0 r3, .int .i64 rf, .slice r4 r5 r6, .slice r7 r8 r9], .int .i64 11])) rfl (by kernel_rfl) (by kernel_rfl) (by kernel_rfl) (fun _ _ _ h => h) (Or.inl ⟨by rfl, ?_⟩) (by assumption) ?_
                  · intro w' hSw
                    go_simp
                  simp only [List.getElem_toArray, List.getElem_cons_succ, List.getElem_cons_zero, Act.put, List.setIfInBounds_toArray, List.set_cons_zero, List.set_cons_succ]
                  refine wpAnyH_take (i := 6) (v := (.agg #[.slice r1 0 r3, .int .i64 rf, .slice r4 r5 r6, .slice r7 r8 r9])) rfl (by kernel_rfl) (by kernel_rfl) (by kernel_rfl) (fun _ _ _ h => h) (Or.inl ⟨by rfl, ?_⟩) (by assumption) ?_
                  · intro w' hSw
                    go_simp
                  simp only [List.getElem_toArray, List.getElem_cons_succ, List.getElem_cons_zero, Act.put, List.setIfInBounds_toArray, List.set_cons_zero, List.set_cons_succ]
                  refine wpAnyH_take (i := 7) (v := (.int .i64 11)) rfl (by kernel_rfl) (by kernel_rfl) (by kernel_rfl) (fun _ _ _ h => h) (Or.inl ⟨by rfl, ?_⟩) (by assumption) ?_
                  · intro w' hSw
                    go_simp
                  simp only [List.getElem_toArray, List.getElem_cons_succ, List.getElem_cons_zero, Act.put, List.setIfInBounds_toArray, List.set_cons_zero, List.set_cons_succ]
                  refine wpAnyH_ready (rs := [8]) (by kernel_rfl) (by simp) ?_
                  refine AllReadyH.cons rfl (fun Kc hKc => ?_) AllReadyH.nil
                  simp only [List.getElem_toArray, List.getElem_cons_succ, List.getElem_cons_zero]
                  rw [if_pos (by rfl)]
                  go_wp2_with fail
                  have XZ2 := blk_new wr2 49 #[.slice none 0 0, .int .i64 0, .slice none 0 0, .slice none 0 0]
                  have BZ2 : Below wr2.heap.size wr2 (wr2.alloc (.cells #[.slice none 0 0, .int .i64 0, .slice none 0 0, .slice none 0 0] 49)) := (Below.refl _ _).alloc (Nat.le_refl _) _
                  have XRZ := XR2.below BZ2
                  have DRZ := below_then DR2 BZ2
                  have hlc := XR2.lt
                  have hdz := DR2.size
                  generalize hwz2 : wr2.alloc (.cells #[.slice none 0 0, .int .i64 0, .slice none 0 0, .slice none 0 0] 49) = wz2 at *
                  refine hKc.out _ _ XRZ (fun hHeld => ?_)
                  clear hKc Kc hwz2
                  refine wpAnyH_ready (rs := [9]) (by kernel_rfl) (by simp) ?_
                  refine AllReadyH.cons rfl (fun Kc hKc => ?_) AllReadyH.nil
                  simp only [List.getElem_toArray, List.getElem_cons_succ, List.getElem_cons_zero]
                  rw [if_pos (by rfl)]
                  refine wp_store_row 49 _ _ rfl wr2.heap.size #[.slice r1 0 r3, .int .i64 rf, .slice r4 r5 r6, .slice r7 r8 r9] rfl rfl 49 _ XZ2 Tryd.infoPg rfl (by simp [Value.oneCell']) ?_
                  have XS := XZ2.row #[.slice r1 0 r3, .int .i64 rf, .slice r4 r5 r6, .slice r7 r8 r9]
                  have XC := Blk.of_block XRZ (setRow_other wz2 (wr2.heap.size) w.heap.size #[.slice r1 0 r3, .int .i64 rf, .slice r4 r5 r6, .slice r7 r8 r9] (by omega))
                  have DS := below_setRow DRZ (by omega : w7.heap.size ≤ wr2.heap.size) #[.slice r1 0 r3, .int .i64 rf, .slice r4 r5 r6, .slice r7 r8 r9]
                  refine hKc.out _ _ XC (fun hHeld => ?_)
                  clear hKc Kc
                  refine wpAnyH_ready (rs := [10]) (by kernel_rfl) (by simp) ?_
                  refine AllReadyH.cons rfl (fun Kc hKc => ?_) AllReadyH.nil
                  simp only [List.getElem_toArray, List.getElem_cons_succ, List.getElem_cons_zero]
                  rw [if_pos (by rfl)]
                  go_wp2_with fail
                  refine hKc.out _ _ XC (fun hHeld => ?_)
                  clear hKc Kc
                  refine wpAnyH_done (by kernel_rfl) ?_ _
                  have z0 := XS.cell 0 (v := .slice r1 0 r3) rfl
                  go_wp2_with fail
                  go_roundg (NP - (k + 1))
                  case measure => omega
                  case rel => exact ⟨k + 1, by omega, rfl, by go_num, DS⟩
                · simp only [List.getElem_toArray, List.getElem_cons_succ, List.getElem_cons_zero]
                  rw [if_pos (by rfl)]
                  go_wp2_with fail
                  have XZ2 := blk_new wd 49 #[.slice none 0 0, .int .i64 0, .slice none 0 0, .slice none 0 0]
                  have BZ2 : Below wd.heap.size wd (wd.alloc (.cells #[.slice none 0 0, .int .i64 0, .slice none 0 0, .slice none 0 0] 49)) := (Below.refl _ _).alloc (Nat.le_refl _) _
                  have XRZ := XD.below BZ2
                  have DRZ := below_then DD BZ2
                  have hlc := XD.lt
                  have hdz := DD.size
                  generalize hwz2 : wd.alloc (.cells #[.slice none 0 0, .int .i64 0, .slice none 0 0, .slice none 0 0] 49) = wz2 at *
                  refine hKc.out _ _ XRZ (fun hHeld => ?_)
                  clear hKc Kc hwz2
                  refine wpAnyH_ready (rs := [4]) (by kernel_rfl) (by simp) ?_
                  refine AllReadyH.cons rfl (fun Kc hKc => ?_) AllReadyH.nil
                  simp only [List.getElem_toArray, List.getElem_cons_succ, List.getElem_cons_zero]
                  rw [if_pos (by rfl)]
                  go_wp2_with fail
                  refine (CRD wz2 DRZ).mono ?_
                  rintro e wr2 ⟨⟨⟨r1, r2, r3⟩, rf, ⟨r4, r5, r6⟩, ⟨r7, r8, r9⟩⟩, rfl, NR, BRD⟩
                  have XR2 := XRZ.below BRD
                  have DR2 := DRZ.trans (BRD.mono DRZ.size)
                  rw [show PgV.cells ⟨⟨r1, r2, r3⟩, rf, ⟨r4, r5, r6⟩, ⟨r7, r8, r9⟩⟩ = #[.slice r1 r2 r3, .int .i64 rf, .slice r4 r5 r6, .slice r7 r8 r9] from rfl]
                  have hr2 : r2 = 0 := NR.now.t.row.len.symm
                  subst hr2
                  go_wp2_with fail
                  refine hKc.out _ _ XR2 (fun hHeld => ?_)
                  clear hKc Kc
                  have XZ3 := XZ2.below BRD
                  refine wpAnyH_take (i := 5) (v := (.tuple #[.agg #[.slice r1 0 r3, .int .i64 rf, .slice r4 r5 r6, .slice r7 r8 r9], .int .i64 11])) rfl (by kernel_rfl) (by kernel_rfl) (by kernel_rfl) (fun _ _ _ h => h) (Or.inl ⟨by rfl, ?_⟩) (by assumption) ?_
                  · intro w' hSw
                    go_simp
                  simp only [List.getElem_toArray, List.getElem_cons_succ, List.getElem_cons_zero, Act.put, List.setIfInBounds_toArray, List.set_cons_zero, List.set_cons_succ]
                  refine wpAnyH_take (i := 6) (v := (.agg #[.slice r1 0 r3, .int .i64 rf, .slice r4 r5 r6, .slice r7 r8 r9])) rfl (by kernel_rfl) (by kernel_rfl) (by kernel_rfl) (fun _ _ _ h => h) (Or.inl ⟨by rfl, ?_⟩) (by assumption) ?_
                  · intro w' hSw
                    go_simp
                  simp only [List.getElem_toArray, List.getElem_cons_succ, List.getElem_cons_zero, Act.put, List.setIfInBounds_toArray, List.set_cons_zero, List.set_cons_succ]
                  refine wpAnyH_take (i := 7) (v := (.int .i64 11)) rfl (by kernel_rfl) (by kernel_rfl) (by kernel_rfl) (fun _ _ _ h => h) (Or.inl ⟨by rfl, ?_⟩) (by assumption) ?_
                  · intro w' hSw
                    go_simp
                  simp only [List.getElem_toArray, List.getElem_cons_succ, List.getElem_cons_zero, Act.put, List.setIfInBounds_toArray, List.set_cons_zero, List.set_cons_succ]
                  refine wpAnyH_ready (rs := [9]) (by kernel_rfl) (by simp) ?_
                  refine AllReadyH.cons rfl (fun Kc hKc => ?_) AllReadyH.nil
                  simp only [List.getElem_toArray, List.getElem_cons_succ, List.getElem_cons_zero]
                  rw [if_pos (by rfl)]
                  refine wp_store_row 49 _ _ rfl wd.heap.size #[.slice r1 0 r3, .int .i64 rf, .slice r4 r5 r6, .slice r7 r8 r9] rfl rfl 49 _ XZ3 Tryd.infoPg rfl (by simp [Value.oneCell']) ?_
                  have XS := XZ3.row #[.slice r1 0 r3, .int .i64 rf, .slice r4 r5 r6, .slice r7 r8 r9]
                  have XC := Blk.of_block XR2 (setRow_other wr2 (wd.heap.size) w.heap.size #[.slice r1 0 r3, .int .i64 rf, .slice r4 r5 r6, .slice r7 r8 r9] (by omega))
                  have DS := below_setRow DR2 (by omega : w7.heap.size ≤ wd.heap.size) #[.slice r1 0 r3, .int .i64 rf, .slice r4 r5 r6, .slice r7 r8 r9]
                  refine hKc.out _ _ XC (fun hHeld => ?_)
                  clear hKc Kc
                  refine wpAnyH_ready (rs := [10]) (by kernel_rfl) (by simp) ?_
                  refine AllReadyH.cons rfl (fun Kc hKc => ?_) AllReadyH.nil
                  simp only [List.getElem_toArray, List.getElem_cons_succ, List.getElem_cons_zero]
                  rw [if_pos (by rfl)]
                  go_wp2_with fail
                  refine hKc.out _ _ XC (fun hHeld => ?_)
                  clear hKc Kc
                  refine wpAnyH_done (by kernel_rfl) ?_ _
                  have z0 := XS.cell 0 (v := .slice r1 0 r3) rfl
                  go_wp2_with fail
                  go_roundg (NP - (k + 1))
                  case measure => omega
                  case rel => exact ⟨k + 1, by omega, rfl, by go_num, DS⟩
              · subst hcd
                have CRD := fun (wv : World) (_ : Below w7.heap.size w7 wv) => CRD0 wv
                clear CRD0
                have BD : Below w12.heap.size w12 w12.drew := (Below.refl _ w12).drew
                have XD := X012.below BD
                have DD := below_then D12 BD
                refine wp_region_held_drew (S := fun w' => Blk w' w.heap.size 23 #[.int .i64 (V : Int), .int .i64 (D : Int), .int .i64 (Hd : Int), .int .i64 (H : Int), .int .i64 (L : Int)]) (by kernel_rfl) (XD) (fun hHeld => ?_)
                generalize hA : w12.drew = wd at *
                clear hA X012 D12 BD
                refine wpAnyH_take (i := 0) (v := (.agg #[.int .i64 (V : Int), .int .i64 (D : Int), .int .i64 (Hd : Int), .int .i64 (H : Int), .int .i64 (L : Int)])) rfl (by kernel_rfl) (by kernel_rfl) (by kernel_rfl) (fun _ _ _ h => h) (Or.inl ⟨by rfl, ?_⟩) (by assumption) ?_
                · intro w' hSw
                  have a0 : w'.cell? ⟨w.heap.size, 0, none⟩ = some (.int .i64 (V : Int)) := hSw.cell 0 rfl
                  have a1 : w'.cell? ⟨w.heap.size, 1, none⟩ = some (.int .i64 (D : Int)) := hSw.cell 1 rfl
                  have a2 : w'.cell? ⟨w.heap.size, 2, none⟩ = some (.int .i64 (Hd : Int)) := hSw.cell 2 rfl
                  have a3 : w'.cell? ⟨w.heap.size, 3, none⟩ = some (.int .i64 (H : Int)) := hSw.cell 3 rfl
                  have a4 : w'.cell? ⟨w.heap.size, 4, none⟩ = some (.int .i64 (L : Int)) := hSw.cell 4 rfl
                  go_simp
                simp only [List.getElem_toArray, List.getElem_cons_zero, Act.put, List.setIfInBounds_toArray, List.set_cons_zero, List.set_cons_succ]
                refine wpAnyH_take (i := 1) (v := (.string (txt PB))) rfl (by kernel_rfl) (by kernel_rfl) (by kernel_rfl) (fun _ _ _ h => h) (Or.inl ⟨by rfl, ?_⟩) (by assumption) ?_
                · intro w' hSw
                  go_simp
                simp only [List.getElem_toArray, List.getElem_cons_succ, List.getElem_cons_zero, Act.put, List.setIfInBounds_toArray, List.set_cons_zero, List.set_cons_succ]
                refine wpAnyH_take (i := 2) (v := (.int .i64 (cu : Int))) rfl (by kernel_rfl) (by kernel_rfl) (by kernel_rfl) (fun _ _ _ h => h) (Or.inl ⟨by rfl, ?_⟩) (by assumption) ?_
                · intro w' hSw
                  go_simp
                simp only [List.getElem_toArray, List.getElem_cons_succ, List.getElem_cons_zero, Act.put, List.setIfInBounds_toArray, List.set_cons_zero, List.set_cons_succ]
                refine wpAnyH_take (i := 3) (v := (.string (txt (PB.take cu)))) rfl (by kernel_rfl) (by kernel_rfl) (by kernel_rfl) (fun _ _ _ h => h) (Or.inl ⟨by rfl, ?_⟩) (by assumption) ?_
                · intro w' hSw
                  (go_simp; rw [extract_txt, if_pos (by omega)]; rfl)
                simp only [List.getElem_toArray, List.getElem_cons_succ, List.getElem_cons_zero, Act.put, List.setIfInBounds_toArray, List.set_cons_zero, List.set_cons_succ]
                refine wpAnyH_ready (rs := [4, 8]) (by kernel_rfl) (by simp) ?_
                refine AllReadyH.cons rfl (fun Kc hKc => ?_) (AllReadyH.cons rfl (fun Kc hKc => ?_) AllReadyH.nil)
                · simp only [List.getElem_toArray, List.getElem_cons_succ, List.getElem_cons_zero]
                  rw [if_pos (by rfl)]
                  go_wp2_with fail
                  refine (CRD wd DD).mono ?_
                  rintro e wr2 ⟨⟨⟨r1, r2, r3⟩, rf, ⟨r4, r5, r6⟩, ⟨r7, r8, r9⟩⟩, rfl, NR, BRD⟩
                  have XR2 := XD.below BRD
                  have DR2 := DD.trans (BRD.mono DD.size)
                  rw [show PgV.cells ⟨⟨r1, r2, r3⟩, rf, ⟨r4, r5, r6⟩, ⟨r7, r8, r9⟩⟩ = #[.slice r1 r2 r3, .int .i64 rf, .slice r4 r5 r6, .slice r7 r8 r9] from rfl]
                  have hr2 : r2 = 0 := NR.now.t.row.len.symm
                  subst hr2
                  go_wp2_with fail
                  refine hKc.out _ _ XR2 (fun hHeld => ?_)
                  clear hKc Kc
                  refine wpAnyH_take (i := 5) (v := (.tuple #[.agg #[.slice r1 0 r3, .int .i64 rf, .slice r4 r5 r6, .slice r7 r8 r9], .int .i64 6])) rfl (by kernel_rfl) (by kernel_rfl) (by kernel_rfl) (fun _ _ _ h => h) (Or.inl ⟨by rfl, ?_⟩) (by assumption) ?_
                  · intro w' hSw
                    go_simp
                  simp only [List.getElem_toArray, List.getElem_cons_succ, List.getElem_cons_zero, Act.put, List.setIfInBounds_toArray, List.set_cons_zero, List.set_cons_succ]
                  refine wpAnyH_take (i := 6) (v := (.agg #[.slice r1 0 r3, .int .i64 rf, .slice r4 r5 r6, .slice r7 r8 r9])) rfl (by kernel_rfl) (by kernel_rfl) (by kernel_rfl) (fun _ _ _ h => h) (Or.inl ⟨by rfl, ?_⟩) (by assumption) ?_
                  · intro w' hSw
                    go_simp
                  simp only [List.getElem_toArray, List.getElem_cons_succ, List.getElem_cons_zero, Act.put, List.setIfInBounds_toArray, List.set_cons_zero, List.set_cons_succ]
                  refine wpAnyH_take (i := 7) (v := (.int .i64 6)) rfl (by kernel_rfl) (by kernel_rfl) (by kernel_rfl) (fun _ _ _ h => h) (Or.inl ⟨by rfl, ?_⟩) (by assumption) ?_
                  · intro w' hSw
                    go_simp
                  simp only [List.getElem_toArray, List.getElem_cons_succ, List.getElem_cons_zero, Act.put, List.setIfInBounds_toArray, List.set_cons_zero, List.set_cons_succ]
                  refine wpAnyH_ready (rs := [8]) (by kernel_rfl) (by simp) ?_
                  refine AllReadyH.cons rfl (fun Kc hKc => ?_) AllReadyH.nil
                  simp only [List.getElem_toArray, List.getElem_cons_succ, List.getElem_cons_zero]
                  rw [if_pos (by rfl)]
                  go_wp2_with fail
                  have XZ2 := blk_new wr2 49 #[.slice none 0 0, .int .i64 0, .slice none 0 0, .slice none 0 0]
                  have BZ2 : Below wr2.heap.size wr2 (wr2.alloc (.cells #[.slice none 0 0, .int .i64 0, .slice none 0 0, .slice none 0 0] 49)) := (Below.refl _ _).alloc (Nat.le_refl _) _
                  have XRZ := XR2.below BZ2
                  have DRZ := below_then DR2 BZ2
                  have hlc := XR2.lt
                  have hdz := DR2.size
                  generalize hwz2 : wr2.alloc (.cells #[.slice none 0 0, .int .i64 0, .slice none 0 0, .slice none 0 0] 49) = wz2 at *
                  refine hKc.out _ _ XRZ (fun hHeld => ?_)
                  clear hKc Kc hwz2
                  refine wpAnyH_ready (rs := [9]) (by kernel_rfl) (by simp) ?_
                  refine AllReadyH.cons rfl (fun Kc hKc => ?_) AllReadyH.nil
                  simp only [List.getElem_toArray, List.getElem_cons_succ, List.getElem_cons_zero]
                  rw [if_pos (by rfl)]
                  refine wp_store_row 49 _ _ rfl wr2.heap.size #[.slice r1 0 r3, .int .i64 rf, .slice r4 r5 r6, .slice r7 r8 r9] rfl rfl 49 _ XZ2 Tryd.infoPg rfl (by simp [Value.oneCell']) ?_
                  have XS := XZ2.row #[.slice r1 0 r3, .int .i64 rf, .slice r4 r5 r6, .slice r7 r8 r9]
                  have XC := Blk.of_block XRZ (setRow_other wz2 (wr2.heap.size) w.heap.size #[.slice r1 0 r3, .int .i64 rf, .slice r4 r5 r6, .slice r7 r8 r9] (by omega))
                  have DS := below_setRow DRZ (by omega : w7.heap.size ≤ wr2.heap.size) #[.slice r1 0 r3, .int .i64 rf, .slice r4 r5 r6, .slice r7 r8 r9]
                  refine hKc.out _ _ XC (fun hHeld => ?_)
                  clear hKc Kc
                  refine wpAnyH_ready (rs := [10]) (by kernel_rfl) (by simp) ?_
                  refine AllReadyH.cons rfl (fun Kc hKc => ?_) AllReadyH.nil
                  simp only [List.getElem_toArray, List.getElem_cons_succ, List.getElem_cons_zero]
                  rw [if_pos (by rfl)]
                  go_wp2_with fail
                  refine hKc.out _ _ XC (fun hHeld => ?_)
                  clear hKc Kc
                  refine wpAnyH_done (by kernel_rfl) ?_ _
                  have z0 := XS.cell 0 (v := .slice r1 0 r3) rfl
                  go_wp2_with fail
                  go_roundg (NP - (k + 1))
                  case measure => omega
                  case rel => exact ⟨k + 1, by omega, rfl, by go_num, DS⟩
                · simp only [List.getElem_toArray, List.getElem_cons_succ, List.getElem_cons_zero]
                  rw [if_pos (by rfl)]
                  go_wp2_with fail
                  have XZ2 := blk_new wd 49 #[.slice none 0 0, .int .i64 0, .slice none 0 0, .slice none 0 0]
                  have BZ2 : Below wd.heap.size wd (wd.alloc (.cells #[.slice none 0 0, .int .i64 0, .slice none 0 0, .slice none 0 0] 49)) := (Below.refl _ _).alloc (Nat.le_refl _) _
                  have XRZ := XD.below BZ2
                  have DRZ := below_then DD BZ2
                  have hlc := XD.lt
                  have hdz := DD.size
                  generalize hwz2 : wd.alloc (.cells #[.slice none 0 0, .int .i64 0, .slice none 0 0, .slice none 0 0] 49) = wz2 at *
                  refine hKc.out _ _ XRZ (fun hHeld => ?_)
                  clear hKc Kc hwz2
                  refine wpAnyH_ready (rs := [4]) (by kernel_rfl) (by simp) ?_
                  refine AllReadyH.cons rfl (fun Kc hKc => ?_) AllReadyH.nil
                  simp only [List.getElem_toArray, List.getElem_cons_succ, List.getElem_cons_zero]
                  rw [if_pos (by rfl)]
                  go_wp2_with fail
                  refine (CRD wz2 DRZ).mono ?_
                  rintro e wr2 ⟨⟨⟨r1, r2, r3⟩, rf, ⟨r4, r5, r6⟩, ⟨r7, r8, r9⟩⟩, rfl, NR, BRD⟩
                  have XR2 := XRZ.below BRD
                  have DR2 := DRZ.trans (BRD.mono DRZ.size)
                  rw [show PgV.cells ⟨⟨r1, r2, r3⟩, rf, ⟨r4, r5, r6⟩, ⟨r7, r8, r9⟩⟩ = #[.slice r1 r2 r3, .int .i64 rf, .slice r4 r5 r6, .slice r7 r8 r9] from rfl]
                  have hr2 : r2 = 0 := NR.now.t.row.len.symm
                  subst hr2
                  go_wp2_with fail
                  refine hKc.out _ _ XR2 (fun hHeld => ?_)
                  clear hKc Kc
                  have XZ3 := XZ2.below BRD
                  refine wpAnyH_take (i := 5) (v := (.tuple #[.agg #[.slice r1 0 r3, .int .i64 rf, .slice r4 r5 r6, .slice r7 r8 r9], .int .i64 6])) rfl (by kernel_rfl) (by kernel_rfl) (by kernel_rfl) (fun _ _ _ h => h) (Or.inl ⟨by rfl, ?_⟩) (by assumption) ?_
                  · intro w' hSw
                    go_simp
                  simp only [List.getElem_toArray, List.getElem_cons_succ, List.getElem_cons_zero, Act.put, List.setIfInBounds_toArray, List.set_cons_zero, List.set_cons_succ]
                  refine wpAnyH_take (i := 6) (v := (.agg #[.slice r1 0 r3, .int .i64 rf, .slice r4 r5 r6, .slice r7 r8 r9])) rfl (by kernel_rfl) (by kernel_rfl) (by kernel_rfl) (fun _ _ _ h => h) (Or.inl ⟨by rfl, ?_⟩) (by assumption) ?_
                  · intro w' hSw
                    go_simp
                  simp only [List.getElem_toArray, List.getElem_cons_succ, List.getElem_cons_zero, Act.put, List.setIfInBounds_toArray, List.set_cons_zero, List.set_cons_succ]
                  refine wpAnyH_take (i := 7) (v := (.int .i64 6)) rfl (by kernel_rfl) (by kernel_rfl) (by kernel_rfl) (fun _ _ _ h => h) (Or.inl ⟨by rfl, ?_⟩) (by assumption) ?_
                  · intro w' hSw
                    go_simp
                  simp only [List.getElem_toArray, List.getElem_cons_succ, List.getElem_cons_zero, Act.put, List.setIfInBounds_toArray, List.set_cons_zero, List.set_cons_succ]
                  refine wpAnyH_ready (rs := [9]) (by kernel_rfl) (by simp) ?_
                  refine AllReadyH.cons rfl (fun Kc hKc => ?_) AllReadyH.nil
                  simp only [List.getElem_toArray, List.getElem_cons_succ, List.getElem_cons_zero]
                  rw [if_pos (by rfl)]
                  refine wp_store_row 49 _ _ rfl wd.heap.size #[.slice r1 0 r3, .int .i64 rf, .slice r4 r5 r6, .slice r7 r8 r9] rfl rfl 49 _ XZ3 Tryd.infoPg rfl (by simp [Value.oneCell']) ?_
                  have XS := XZ3.row #[.slice r1 0 r3, .int .i64 rf, .slice r4 r5 r6, .slice r7 r8 r9]
                  have XC := Blk.of_block XR2 (setRow_other wr2 (wd.heap.size) w.heap.size #[.slice r1 0 r3, .int .i64 rf, .slice r4 r5 r6, .slice r7 r8 r9] (by omega))
                  have DS := below_setRow DR2 (by omega : w7.heap.size ≤ wd.heap.size) #[.slice r1 0 r3, .int .i64 rf, .slice r4 r5 r6, .slice r7 r8 r9]
                  refine hKc.out _ _ XC (fun hHeld => ?_)
                  clear hKc Kc
                  refine wpAnyH_ready (rs := [10]) (by kernel_rfl) (by simp) ?_
                  refine AllReadyH.cons rfl (fun Kc hKc => ?_) AllReadyH.nil
                  simp only [List.getElem_toArray, List.getElem_cons_succ, List.getElem_cons_zero]
                  rw [if_pos (by rfl)]
                  go_wp2_with fail
                  refine hKc.out _ _ XC (fun hHeld => ?_)
                  clear hKc Kc
                  refine wpAnyH_done (by kernel_rfl) ?_ _
                  have z0 := XS.cell 0 (v := .slice r1 0 r3) rfl
                  go_wp2_with fail
                  go_roundg (NP - (k + 1))
                  case measure => omega
                  case rel => exact ⟨k + 1, by omega, rfl, by go_num, DS⟩
            · have hcl2 : ¬ (cu : Int) < 2 + ((p2 : Int) + (q3' : Int)) := by omega
              clear HCUT CRA
              go_wp2_with fail
              go_roundg (NP - (k + 1))
              case measure => omega
              case rel => exact ⟨k + 1, by omega, rfl, by go_num, D12⟩
          · clear HCUT CRA
            go_wp2_with fail
            go_roundg (NP - (k + 1))
            case measure => omega
            case rel => exact ⟨k + 1, by omega, rfl, by go_num, D12⟩
        · obtain rfl : NP = k := by omega
          go_wp2_with fail
          have DW := below_then HD7.out BB
          refine (CW _ DW).mono ?_
          rintro e wq ⟨rfl, Bq⟩
          go_wp2
          go_ret
          exact ⟨rfl, below_then DW Bq⟩
  · have hq' : (q == 0) = false := by simpa using hq
    go_wp2_with (refine wpList_store_row rfl 32 _ _ rfl w2.heap.size ws rfl rfl 32 _ XZ (by rw [siz]; exact Tryd.infoW) (by rw [siz]; rfl) one ?_; rw [hwy])
    go_wp2_with fail
    refine (CW _ D3).mono ?_
    rintro e wq ⟨rfl, Bq⟩
    go_wp2
    go_ret
    exact ⟨rfl, below_then D3 Bq⟩
end Go.Proofs.YtcanjlofnpnhkaaDoor

/- The given statement on BlockSizes: at every input the law returns true and its arguments read as before; the listed table lies as the program's text lays it (the card ties it). -/
namespace Go.Proofs.YtcanjlofnpnhkaaDoor.blockSizes
open Go.ChangeShapes Go.WideShapes Go.ChangeAt Go.WideMaps Go.WideElems Go.RowKit
set_option linter.unusedVariables false
abbrev lst : List (String × DataW Unit) := Rows.blockSizesRow.laid
theorem door_met (os : Os) (args : Array Value) : laidMetH Tryd.prog lst ((World.doorLaid Tryd.prog 14 os).forCall (fun _ _ => 0) ⟨#[], args, []⟩).memory :=
  laidMetH_of_parts3 (fuel := 8) (laidMet_of_run' 8 (by kernel_rfl) (by kernel_rfl)) (by kernel_rfl) (by kernel_rfl)
set_option maxRecDepth 100000 in
theorem lifted (os : Os) (started : os.Started) (H : Type) (enc : TypeId × Value → H) :
    ReturnsInHanded {} Tryd.checked os 4 .any (fun w args => (Rows.blockSizesSpec.pre enc Tryd.prog Tryd.f4 [] false w args ∧ laidMetH Tryd.prog lst w) ∧ sizedMet enc Tryd.prog Tryd.f4 (OpenSpec.ofChange Rows.blockSizesSpec) false w args)
      (Rows.blockSizesSpec.post enc Tryd.prog Tryd.f4 false true false false) := by
  refine returnsInHanded_of_change_and (C := Tryd.checked) (X := fun w _ => laidMetH Tryd.prog lst w) (fun _ _ _ hh h => h.of_heap hh) Tryd.own started (by kernel_rfl) Tryd.func4
    (ChangeSpec.witness_shaped (enc := enc) (C := Tryd.checked) (os := os) (X := fun w _ => laidMetH Tryd.prog lst w) false (World.doorLaid Tryd.prog 14 os) #[.agg #[.int .i64 0, .int .i64 0, .int .i64 0, .int .i64 0, .int .i64 0], .int .u64 0, .slice none 0 0, .int .i64 0, .int .i64 0] 8 rfl (World.shaped_of_RefB (by kernel_rfl) (by kernel_rfl)) (by kernel_rfl) (by kernel_rfl) (by kernel_rfl) (door_met os _)) ?_
  intro W base args ds gs before hval0 hW _ _ hL _
  have hval : ∀ (j : Nat) t v, Tryd.f4.params[j]? = some t → args[j]? = some v → Value.okWide Tryd.prog W .any base t v := hval0
  have hW' := hW
  obtain ⟨p, q, hA0, hV, rfl, _, _⟩ := hW
  have hA : DataW.TrodAll enc Tryd.prog W 0 (fun _ => true) true Tryd.f4.params.toList args.toList ds p := hA0
  rw [Tryd.params4] at hA hval
  obtain ⟨v0, vs0, d0, ds0, p0, q0, hargs, rfl, rfl, h0, r0⟩ := trodAll_cons hA
  obtain ⟨v1, vs1, d1, ds1, p1, q1, rfl, rfl, rfl, h1, r1⟩ := trodAll_cons r0
  obtain ⟨v2, vs2, d2, ds2, p2, q2, rfl, rfl, rfl, h2, r2⟩ := trodAll_cons r1
  obtain ⟨v3, vs3, d3, ds3, p3, q3, rfl, rfl, rfl, h3, r3⟩ := trodAll_cons r2
  obtain ⟨v4, vs4, d4, ds4, p4, q4, rfl, rfl, rfl, h4, r4⟩ := trodAll_cons r3
  obtain ⟨rfl, rfl, rfl⟩ := trodAll_nil r4
  obtain rfl : args = #[v0, v1, v2, v3, v4] := by cases args; simp_all
  obtain ⟨rfl, rfl⟩ := trodVars_none hV
  have k0 := h0
  obtain ⟨C0, rfl, g0⟩ := viewCfg (hval 0 _ v0 rfl rfl) h0
  have k1 := h1
  obtain ⟨a1, rfl, rfl, rfl, w1⟩ := open_int Tryd.underlying24 (hval 1 24 v1 rfl rfl) h1
  have b1 := bounds_u64 w1
  have k2 := h2
  obtain ⟨a2, n2, c2, Z2, rfl, g2⟩ := viewI (hval 2 _ v2 rfl rfl) h2
  have k3 := h3
  obtain ⟨a3, rfl, rfl, rfl, w3⟩ := open_int Tryd.underlying3 (hval 3 3 v3 rfl rfl) h3
  have b3 := bounds_i64 w3
  have k4 := h4
  obtain ⟨a4, rfl, rfl, rfl, w4⟩ := open_int Tryd.underlying3 (hval 4 3 v4 rfl rfl) h4
  have b4 := bounds_i64 w4
  clear hA0 hval0
  simp only [List.append_nil] at hW'
  have hlt : ∀ x ∈ p0 ++ p2, x.block < W.heap.size := fun x hx => by
    have hx2 := hx
    exact hW'.lt x (by grind)
  refine (blockSizes_walk C0 a1 a2 n2 c2 Z2 a3 a4 W g0 b1 g2 b3 b4 (tab_of_laid hL)).mono fun e W' ⟨he, hb⟩ => ?_
  subst he
  exact ⟨_, rfl, _, _, _, [], _, [], hW', trodAll_mk1 (shut_bool Tryd.underlying4 true), trodAll_cons_mk (Below.trod Tryd.laidOut (by kernel_rfl) (of_decide_eq_true (by kernel_rfl)) k0 hb (fun x hx => hlt x (by simp [hx]))) (trodAll_cons_mk (shut_int Tryd.underlying24 w1) (trodAll_cons_mk (Below.trod Tryd.laidOut (by kernel_rfl) (of_decide_eq_true (by kernel_rfl)) k2 hb (fun x hx => hlt x (by simp [hx]))) (trodAll_cons_mk (shut_int Tryd.underlying3 w3) (trodAll_cons_mk (shut_int Tryd.underlying3 w4) trodAll_mk0)))), rfl, hb.frame _, fun h => by cases h⟩
theorem row_holds : Rows.BlockSizesSaid :=
  OpenClaim.holds_of_wide 4 Tryd.f4 rfl rfl rfl rfl rfl rfl rfl ⟨rfl, rfl, rfl, rfl, rfl⟩ rfl rfl rfl rfl rfl (by kernel_rfl) Tryd.func4 (by kernel_rfl)
    (of_decide_eq_true (by kernel_rfl)) (by unfold Func.isWrapper; first | (rw [if_pos (by decide +kernel)]; kernel_rfl) | (rw [if_neg (by decide +kernel)]; exact ⟨rfl, rfl⟩))
    (fun os started H enc _ => lifted os started H enc)
/-- The given statement. -/
theorem card_holds : Rows.BlockSizesCardSaid :=
  Claim7.holds_tied_plain_at .later [] [.data] true (true, "cadaa6e1542cb5f2e9ffa5fc68ed7a10fceb70e4cdf2e65b9d312008de0cb7a9") false
    row_holds (fun _ h => by cases h) (by kernel_rfl) (fun _ h => by cases h) blockSizes_row_tie rfl ⟨rfl, rfl⟩ (by kernel_rfl) rfl
    (fun f fn hf hfn => by
      obtain rfl : f = 4 := Option.some.inj ((show Tryd.prog.funcNamed Rows.blockSizesRow.func = some 4 by kernel_rfl).symm.trans hf) |>.symm
      obtain rfl : fn = Tryd.f4 := (Option.some.inj (Tryd.func4.symm.trans hfn)).symm
      exact ⟨by kernel_rfl, fun j t ht => by
        rw [Tryd.params4] at ht
        have hm : t ∈ [23, 24, 25, 3, 3] := by simpa using Array.mem_of_getElem? ht
        have hall : ([23, 24, 25, 3, 3].all fun u => !Tryd.prog.wantsStandIn u) = true := by kernel_rfl
        exact (show Tryd.prog.wantsStandIn t = false by simpa using List.all_eq_true.1 hall t hm)⟩)
    (by kernel_rfl)
end Go.Proofs.YtcanjlofnpnhkaaDoor.blockSizes
namespace Go.Proofs.YtcanjlofnpnhkaaDoor
theorem blockSizes_holds : Rows.BlockSizesCardSaid := blockSizes.card_holds
#print axioms blockSizes_holds
end Go.Proofs.YtcanjlofnpnhkaaDoor
