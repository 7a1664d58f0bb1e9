/- The given statement on StepKeeps: at every input the law returns true and its arguments read as before; the listed table lies as the program's text lays it (the card ties it). -/
import Derived.Test.YthmpfmclbmhkfaaDoorPk9
import Derived.Deep.CutRange
import Derived.Test.YthmpfmclbmhkfaaDoorRows
import Derived.Test.YthmpfmclbmhkfaaDoorCards
import Derived.Test.YthmpfmclbmhkfaaDoorTie
import Derived.Test.YthmpfmclbmhkfaaDoorPk3
import Derived.ProofKit
import Derived.Carry
import Derived.LaidMore
import Derived.OpenShut
import Derived.Stop.Joined
import Derived.SevenTiedAt
/- A view that was gone on from stays, and may be gone on from otherwise: the walk. -/
namespace Go.Proofs.YthmpfmclbmhkfaaDoor
open Go.ChangeShapes Go.WideShapes Go.ChangeAt Go.RowKit
theorem load_was {w : World} {g : Nat} {a b c : Value} (h : Blk w g 46 #[a, b, c]) : (loadVar 46 ⟨g, 0, none⟩).run Tryd.prog w = .ok (.agg #[a, b, c]) w :=
  run_loadVar_row w g _ _ _ _ _ h Tryd.underlying46 rfl Tryd.infoRV
/-- What stands behind the first view. -/
structure SK (w wc : World) (V D Hd H L : Nat) (WW : Wt) (bs : List Bk) (M : Mdl) (ws cw : Array Value) (gW gX : Nat) (v2 : VwV) (X : Vw) : Prop where
  x0 : Blk wc w.heap.size 23 #[.int .i64 (V : Int), .int .i64 (D : Int), .int .i64 (Hd : Int), .int .i64 (H : Int), .int .i64 (L : Int)]
  x1 : Blk wc gW 32 ws
  xv : Blk wc gX 42 cw
  gd : Good wc V D Hd H L WW bs M
  vw : VwAt wc v2 X
  kp : Below w.heap.size w wc
theorem SK.below {w wc wd : World} {V D Hd H L : Nat} {WW : Wt} {bs : List Bk} {M : Mdl} {ws cw : Array Value} {gW gX : Nat} {v2 : VwV} {X : Vw} (h : SK w wc V D Hd H L WW bs M ws cw gW gX v2 X) (hb : Below wc.heap.size wc wd) : SK w wd V D Hd H L WW bs M ws cw gW gX v2 X := ⟨h.x0.below hb, h.x1.below hb, h.xv.below hb, h.gd.below hb, h.vw.below hb, below_then h.kp hb⟩
set_option maxRecDepth 100000 in
set_option maxHeartbeats 32000000 in
theorem stepKeeps_walk (C : Cfg) (sd : Int) (a1 : Option Addr) (n1 c1 : Nat) (Z1 : List Int) (a b : Int) (w : World) (hC : C.Ok) (bs : 0 ≤ sd ∧ sd ≤ 18446744073709551615) (h1 : IArg w a1 n1 c1 Z1) (_ba : -9223372036854775808 ≤ a ∧ a ≤ 9223372036854775807) (_bb : -9223372036854775808 ≤ b ∧ b ≤ 9223372036854775807) (hT : Tab w) :
   Calls Tryd.prog 3 #[C.val, .int .u64 sd, .slice a1 n1 c1, .int .i64 a, .int .i64 b] w fun e w' => e = .returned (.bool true) ∧ Below w.heap.size w w' := by
  obtain ⟨seed, rfl⟩ : ∃ n : Nat, sd = n := ⟨sd.toNat, by omega⟩
  have hsd : seed < 18446744073709551616 := by omega
  clear bs
  have HT : Hid (∀ wv, Below w.heap.size w wv → Tab wv) := fun wv hb => hT.next hb
  have CW := fun (wv : World) (hb : Below w.heap.size w wv) => sawake_any wv (HT.out wv hb)
  have CF1 := fun (wv : World) (hb : Below w.heap.size w wv) => few8_any a1 n1 c1 Z1 6 wv (h1.below hb) (by omega)
  have s1 : ∀ k, -9223372036854775808 ≤ el (Z1.take 6) k ∧ el (Z1.take 6) k ≤ 9223372036854775807 := fun k => by
    rcases Nat.lt_or_ge k 6 with h | h
    · rw [el_take h]; exact h1.row.small k
    · rw [el_over (by rw [List.length_take]; omega)]; omega
  have hP8 : (Z1.take 6).length ≤ 8 := by rw [List.length_take]; omega
  have M0 := fun wv => make_gen C hC seed hsd wv
  have CS := fun wv => small8_any C.V C.D C.Hd C.H C.L wv
  have hu : ∀ C : Cfg, cfgC C.V C.D C.Hd C.H C.L = #[.int .i64 C.V, .int .i64 C.D, .int .i64 C.Hd, .int .i64 C.H, .int .i64 C.L] := fun _ => rfl
  unfold Cfg.val at *
  rw [hu] at M0 CS ⊢
  clear hT h1 hC
  have X0 := blk_new w 23 #[.int .i64 C.V, .int .i64 C.D, .int .i64 C.Hd, .int .i64 C.H, .int .i64 C.L]
  have B0 : Below w.heap.size w (w.alloc (.cells #[.int .i64 C.V, .int .i64 C.D, .int .i64 C.Hd, .int .i64 C.H, .int .i64 C.L] 23)) := (Below.refl _ _).alloc (Nat.le_refl _) _
  have z0 : w.heap.size < (w.alloc (.cells #[.int .i64 C.V, .int .i64 C.D, .int .i64 C.Hd, .int .i64 C.H, .int .i64 C.L] 23)).heap.size := by simp
  generalize hw0 : w.alloc (.cells #[.int .i64 C.V, .int .i64 C.D, .int .i64 C.Hd, .int .i64 C.H, .int .i64 C.L] 23) = w0 at *
  go_enter Tryd.func3, Tryd.ntmps3
  go_wp2_with fail
  refine (CF1 _ B0).mono ?_
  rintro e w1 ⟨b1, kq, rfl, O1, B1⟩
  generalize Z1.take 6 = P at *
  obtain ⟨l1, hl1⟩ : ∃ l1, P.length = l1 := ⟨_, rfl⟩
  have HL1 : Hid (P.length = l1) := hl1
  rw [hl1] at O1 hP8 ⊢
  clear hl1
  have D1 := below_then B0 B1
  replace X0 := X0.below B1
  clear hw0 CF1 B0 B1
  obtain ⟨x1, y1, e1, I1⟩ := IOwn.arg O1 s1
  simp only [Value.slice.injEq, true_and] at e1
  obtain ⟨rfl, rfl⟩ := e1
  have gw0 : w.heap.size < w0.heap.size := z0
  clear O1 z0
  have a0 : w1.cell? ⟨w.heap.size, 0, none⟩ = some (.int .i64 C.V) := X0.cell 0 rfl
  have a1 : w1.cell? ⟨w.heap.size, 1, none⟩ = some (.int .i64 C.D) := X0.cell 1 rfl
  have a2 : w1.cell? ⟨w.heap.size, 2, none⟩ = some (.int .i64 C.Hd) := X0.cell 2 rfl
  have a3 : w1.cell? ⟨w.heap.size, 3, none⟩ = some (.int .i64 C.H) := X0.cell 3 rfl
  have a4 : w1.cell? ⟨w.heap.size, 4, none⟩ = some (.int .i64 C.L) := X0.cell 4 rfl
  go_wp2_with fail
  refine (M0 w1).mono ?_
  rintro e w2 ⟨ws, q, rfl, MM, B2⟩
  replace X0 := X0.below B2
  replace I1 := I1.below B2
  have D2 := below_then D1 B2
  clear a0 a1 a2 a3 a4 B2 D1
  have siz := MM.size
  have one := MM.one
  have XZ := blk_new w2 32 #[.int .i64 0, .int .i64 0, .slice none 0 0, .slice none 0 0, .slice none 0 0, .int .i64 0, .int .i64 0, .slice none 0 0]
  have BZ : Below w2.heap.size w2 (w2.alloc (.cells #[.int .i64 0, .int .i64 0, .slice none 0 0, .slice none 0 0, .slice none 0 0, .int .i64 0, .int .i64 0, .slice none 0 0] 32)) := (Below.refl _ _).alloc (Nat.le_refl _) _
  generalize hwz : w2.alloc (.cells #[.int .i64 0, .int .i64 0, .slice none 0 0, .slice none 0 0, .slice none 0 0, .int .i64 0, .int .i64 0, .slice none 0 0] 32) = wz at *
  have X1 := XZ.row ws
  have BR := below_setRow BZ (Nat.le_refl _) ws
  generalize hwy : wz.setRow w2.heap.size ws = wy at *
  replace X0 := X0.below BR
  replace I1 := I1.below BR
  replace MM := MM.below BR
  have D3 := below_then D2 BR
  have a0 : wy.cell? ⟨w.heap.size, 0, none⟩ = some (.int .i64 C.V) := X0.cell 0 rfl
  have a1 : wy.cell? ⟨w.heap.size, 1, none⟩ = some (.int .i64 C.D) := X0.cell 1 rfl
  have a2 : wy.cell? ⟨w.heap.size, 2, none⟩ = some (.int .i64 C.Hd) := X0.cell 2 rfl
  have a3 : wy.cell? ⟨w.heap.size, 3, none⟩ = some (.int .i64 C.H) := X0.cell 3 rfl
  have a4 : wy.cell? ⟨w.heap.size, 4, none⟩ = some (.int .i64 C.L) := X0.cell 4 rfl
  by_cases hq : q = 0
  · subst hq
    obtain ⟨V, D, Hd, H, L, ge, gB, gl, go, e1, e2, e3, e4, e5, hcs, MW⟩ := MM.ok rfl
    have hsh : shapeN V D Hd H L = 0 := by rw [← e1, ← e2, ← e3, ← e4, ← e5]; exact MM.err.symm
    obtain ⟨bs, GD⟩ := made_good (Hd := Hd) MW hsh
    have hws : (mkW V D L ge gB gl go).cells = ws := by rw [hcs]; rfl
    obtain ⟨VV, DD, HHd, HH, LL⟩ := C
    simp only at e1 e2 e3 e4 e5
    subst e1 e2 e3 e4 e5
    have hk := shape_ok hsh
    have GD2 : Good wy V D Hd H L (mkW V D L ge gB gl go) bs (mdlS seed V D H L) := GD
    generalize mdlS seed V D H L = M at *
    generalize hWW : mkW V D L ge gB gl go = WW at *
    clear MM MW hcs GD hWW
    have AO := fun (vv : VwV) (X : Vw) (ao : Option Addr) (n ca : Nat) (A : List Int) (wv : World) (g1 : Tab wv) (g2 : Good wv V D Hd H L WW bs M) (g3 : VwAt wv vv X) (g4 : VwFit V D L X) (g5 : IArg wv ao n ca A) (g6 : promptN V A = 0) (g7 : X.T.length + A.length ≤ 128) => all_ok V D Hd H L WW bs M vv X ao n ca A wv g1 g2 g3 g4 g5 g6 g7
    have AB := fun (cv : Array Value) (ao : Option Addr) (n ca : Nat) (A : List Int) (wv : World) (g5 : IArg wv ao n ca A) (g6 : promptN V A ≠ 0) => all_bad V D Hd H L ws cv ao n ca A wv g5 g6
    have FD := fun (vv : VwV) (X : Vw) (tok : Int) (wv : World) (g1 : Tab wv) (gl : X.T.length ≤ 127) (g2 : Good wv V D Hd H L WW bs M) (g3 : VwAt wv vv X) (g4 : VwFit V D L X) => feed_any V D Hd H L WW bs M vv X tok wv g1 gl g2 g3 g4
    rw [hws] at AO FD
    unfold cfgC at AO AB FD
    clear hws
    go_wp2_with (refine wpList_store_row rfl 32 _ _ rfl w2.heap.size ws rfl rfl 32 _ XZ (by rw [siz]; exact Tryd.infoW) (by rw [siz]; rfl) one ?_; rw [hwy])
    refine (CS _).mono ?_
    rintro e w4 ⟨rfl, B4⟩
    replace X0 := X0.below B4
    replace X1 := X1.below B4
    have AP := I1.below B4
    have G4 := GD2.below B4
    have D4 := below_then D3 B4
    clear a0 a1 a2 a3 a4 hwz hwy XZ BZ BR CS D2 D3 B4 I1 GD2
    generalize smallN (D : Int) (H : Int) (L : Int) = sq at *
    have a0 : w4.cell? ⟨w.heap.size, 0, none⟩ = some (.int .i64 (V : Int)) := X0.cell 0 rfl
    have a1 : w4.cell? ⟨w.heap.size, 1, none⟩ = some (.int .i64 (D : Int)) := X0.cell 1 rfl
    have a2 : w4.cell? ⟨w.heap.size, 2, none⟩ = some (.int .i64 (Hd : Int)) := X0.cell 2 rfl
    have a3 : w4.cell? ⟨w.heap.size, 3, none⟩ = some (.int .i64 (H : Int)) := X0.cell 3 rfl
    have a4 : w4.cell? ⟨w.heap.size, 4, none⟩ = some (.int .i64 (L : Int)) := X0.cell 4 rfl
    by_cases hs0 : sq = 0
    · subst hs0
      go_wp2_with fail
      refine (CW _ D4).mono ?_
      rintro e wq ⟨rfl, Bq⟩
      go_wp2
      go_ret
      exact ⟨rfl, below_then D4 Bq⟩
    · have hs0' : (sq == 0) = false := by simpa using hs0
      by_cases hqa : promptN V P = 0
      rotate_left
      · have A6 := AB #[.slice none 0 0, .slice none 0 0, .slice none 0 0] (some ⟨b1, 0, none⟩) l1 kq P w4 AP hqa
        unfold noV at A6
        generalize promptN V P = pq at *
        have hqb : (pq == 0) = false := by simpa using hqa
        have hall : Array.all (#[.slice none 0 0, .slice none 0 0, .slice none 0 0] : Array Value) (fun v => v.oneCell') = true := by simp [Value.oneCell']
        go_wp2_with (refine wpList_load_row rfl 32 _ rfl w2.heap.size rfl 32 ws (0, 0) _ X1 Tryd.underlying32 rfl (by rw [siz]; exact Tryd.infoW) ?_)
        refine A6.mono ?_
        rintro e w6 ⟨rfl, B6⟩
        have D6 := below_then D4 B6
        obtain ⟨XE9, XF9, BF9, _⟩ := var3 w6 42 #[.slice none 0 0, .slice none 0 0, .slice none 0 0] #[.slice none 0 0, .slice none 0 0, .slice none 0 0]
        generalize hwe9 : w6.alloc (.cells #[.slice none 0 0, .slice none 0 0, .slice none 0 0] 42) = w9g at *
        generalize hwf9 : w9g.setRow w6.heap.size #[.slice none 0 0, .slice none 0 0, .slice none 0 0] = w9f at *
        have D7 := below_then D6 BF9
        clear a0 a1 a2 a3 a4 A6 X0 X1
        go_wp2_with (refine wpList_store_row rfl 42 _ _ rfl w6.heap.size _ rfl rfl 42 _ XE9 Tryd.infoV rfl hall ?_; rw [hwf9])
        refine (CW _ D7).mono ?_
        rintro e wq ⟨rfl, Bq⟩
        go_wp2
        go_ret
        exact ⟨rfl, below_then D7 Bq⟩
      obtain ⟨pp1, pp2, pp3⟩ := prompt_ok hqa
      have hL1 := HL1.out
      obtain ⟨q1, q2, q3, q4, q5, q6, q7, q8, q9, q10⟩ := hk
      have hfit : VwFit (V : Int) D L (feedAll M D H Hd L noX P) := feedAll_fit (noX_fit _ _ _) pp3 (by show 0 + _ ≤ _; omega)
      have EM := (feed_full (M := M) (H := H) (Hd := Hd) pp3 pp1 pp2 (noX_fit (V : Int) D L)).1
      have A6 := AO ⟨⟨none, 0, 0⟩, ⟨none, 0, 0⟩, ⟨none, 0, 0⟩⟩ noX (some ⟨b1, 0, none⟩) l1 kq P w4 (HT.out _ D4) G4 (noV_at _) (noX_fit _ _ _) AP hqa (by show 0 + _ ≤ _; omega)
      unfold VwV.cells Sl.v at A6
      simp only at A6
      have hX127 : (feedAll M D H Hd L noX P).T.length ≤ 8 := by rw [EM, hL1]; omega
      obtain ⟨X, hXe⟩ : ∃ X, X = feedAll M D H Hd L noX P := ⟨_, rfl⟩
      rw [← hXe] at A6 hfit hX127
      generalize likAt M V D H Hd L noX P P.length = LK at *
      obtain ⟨ea, hea⟩ : ∃ ea, fErr V a = ea := ⟨_, rfl⟩
      obtain ⟨eb, heb⟩ : ∃ eb, fErr V b = eb := ⟨_, rfl⟩
      have HFE_a : Hid (fErr V a = ea) := hea
      have HFE_b : Hid (fErr V b = eb) := heb
      clear hXe EM AO AB pp1 pp2 pp3 hqa hea heb
      have hD32 : D ≤ 32 := by omega
      have hL4 : L ≤ 4 := by omega
      replace hX127 : X.T.length ≤ 127 := by omega
      go_wp2_with (refine wpList_load_row rfl 32 _ rfl w2.heap.size rfl 32 ws (0, 0) _ X1 Tryd.underlying32 rfl (by rw [siz]; exact Tryd.infoW) ?_)
      refine A6.mono ?_
      rintro e w6 ⟨v2, g6, rfl, N6, F6, B6⟩
      rw [show (#[.slice v2.t.ao v2.t.n v2.t.c, .slice v2.k.ao v2.k.n v2.k.c, .slice v2.v.ao v2.v.n v2.v.c] : Array Value) = v2.cells from rfl]
      have one2 := vwv_one v2
      have siz2 := vwv_size v2
      have HCP : Hid (∀ wv : World, VwAt wv v2 X → Calls Tryd.prog 10 #[.agg v2.cells] wv fun e w' => ∃ v9 : VwV, e = .returned (.agg v9.cells) ∧ VwAt w' v9 X ∧ Below wv.heap.size wv w') := fun wv hv => scopyV_any V D L v2 X wv hv hfit (by omega) hD32 hL4
      obtain ⟨cw, hcw⟩ : ∃ cw, v2.cells = cw := ⟨_, rfl⟩
      rw [hcw] at one2 siz2 ⊢
      have D6 := below_then D4 B6
      clear a0 a1 a2 a3 a4 A6 F6
      obtain ⟨XE6, XF6, BF6, _⟩ := var3 w6 42 #[.slice none 0 0, .slice none 0 0, .slice none 0 0] cw
      generalize hwe6 : w6.alloc (.cells #[.slice none 0 0, .slice none 0 0, .slice none 0 0] 42) = w6g at *
      generalize hwf6 : w6g.setRow w6.heap.size cw = w6f at *
      have S : SK w w6f V D Hd H L WW bs M ws cw w2.heap.size w6.heap.size v2 X := ⟨(X0.below B6).below BF6, (X1.below B6).below BF6, XF6, (G4.below B6).below BF6, N6.now.below BF6, below_then D6 BF6⟩
      clear X0 X1 XF6 G4 AP N6 D6 D4 BF6 B6
      have CC := HCP.out w6f S.vw
      rw [hcw] at CC
      have XV := S.xv
      go_wp2_with (first | (refine wpList_store_row rfl 42 _ _ rfl w6.heap.size cw rfl rfl 42 _ XE6 (by rw [siz2]; exact Tryd.infoV) (by rw [siz2]; rfl) one2 ?_; rw [hwf6]) | (refine wpList_load_row rfl 42 _ rfl w6.heap.size rfl 42 cw (0, 0) _ XV Tryd.underlying42 rfl (by rw [siz2]; exact Tryd.infoV) ?_))
      refine CC.mono ?_
      rintro e w7 ⟨v9, rfl, VC, B7⟩
      clear CC XV hwe6 hwf6 XE6 HCP
      have TDC := told9_fit V D L v9 X w7 VC hfit hD32 hL4
      go_wp2_with fail
      refine TDC.mono ?_
      rintro e w8 ⟨t1, k1, u1, rfl, TA, B8⟩
      replace S := (S.below B7).below B8
      clear TDC VC B7 B8
      have onew : Array.all (#[t1.v, k1.v, u1.v] : Array Value) (fun v => v.oneCell') = true := by simp [Value.oneCell', Sl.v]
      obtain ⟨XE8, XF8, BF8, _⟩ := var3 w8 46 #[.slice none 0 0, .slice none 0 0, .slice none 0 0] #[t1.v, k1.v, u1.v]
      generalize hwe8 : w8.alloc (.cells #[.slice none 0 0, .slice none 0 0, .slice none 0 0] 46) = w8g at *
      generalize hwf8 : w8g.setRow w8.heap.size #[t1.v, k1.v, u1.v] = w8f at *
      replace S := S.below BF8
      replace TA := TA.below BF8
      have XW := XF8
      have a0 : w8f.cell? ⟨w.heap.size, 0, none⟩ = some (.int .i64 (V : Int)) := S.x0.cell 0 rfl
      have a1 : w8f.cell? ⟨w.heap.size, 1, none⟩ = some (.int .i64 (D : Int)) := S.x0.cell 1 rfl
      have a2 : w8f.cell? ⟨w.heap.size, 2, none⟩ = some (.int .i64 (Hd : Int)) := S.x0.cell 2 rfl
      have a3 : w8f.cell? ⟨w.heap.size, 3, none⟩ = some (.int .i64 (H : Int)) := S.x0.cell 3 rfl
      have a4 : w8f.cell? ⟨w.heap.size, 4, none⟩ = some (.int .i64 (L : Int)) := S.x0.cell 4 rfl
      have X1 := S.x1
      have XV := S.xv
      have CF := FD v2 X a w8f (HT.out _ S.kp) hX127 S.gd S.vw hfit
      rw [hcw, HFE_a.out] at CF
      go_wp2_with (first | (refine wpList_store_row rfl 46 _ _ rfl w8.heap.size #[t1.v, k1.v, u1.v] rfl rfl 46 _ XE8 Tryd.infoRV rfl onew ?_; rw [hwf8]) | (refine wpList_load_row rfl 32 _ rfl w2.heap.size rfl 32 ws (0, 0) _ X1 Tryd.underlying32 rfl (by rw [siz]; exact Tryd.infoW) ?_) | (refine wpList_load_row rfl 42 _ rfl w6.heap.size rfl 42 cw (0, 0) _ XV Tryd.underlying42 rfl (by rw [siz2]; exact Tryd.infoV) ?_))
      refine CF.mono ?_
      rintro e w9e ⟨v3, lk9, rfl, N9, BB9⟩
      have one9 := vwv_one v3
      have siz9 := vwv_size v3
      clear a0 a1 a2 a3 a4 X1 XV CF
      obtain ⟨XE9, XF9, BF9, _⟩ := var3 w9e 42 #[.slice none 0 0, .slice none 0 0, .slice none 0 0] v3.cells
      generalize hwe9 : w9e.alloc (.cells #[.slice none 0 0, .slice none 0 0, .slice none 0 0] 42) = w9g at *
      generalize hwf9 : w9g.setRow w9e.heap.size v3.cells = w9f at *
      have BT9 := below_then BB9 BF9
      replace S := S.below BT9
      replace N9 := N9.below BF9
      clear hwe8 hwf8 XE8 XF8 BF8 onew
      replace TA := TA.below BT9
      replace XW := XW.below BT9
      have V3 := N9.now
      have X3 := XF9
      clear N9 XF9 BT9 BB9 BF9
      go_upto_region 10 with (refine wpList_store_row rfl 42 _ _ rfl w9e.heap.size v3.cells rfl rfl 42 _ XE9 (by rw [siz9]; exact Tryd.infoV) (by rw [siz9]; rfl) one9 ?_; rw [hwf9])
      clear hwe9 hwf9 XE9
      have S0 := S.below ((Below.refl _ _).drew)
      have W0 := XW.below ((Below.refl _ _).drew)
      have T0 := TA.below ((Below.refl _ _).drew)
      have KB0 : Below w9f.heap.size w9f w9f.drew := (Below.refl _ _).drew
      refine wp_region_held_drew (S := fun w' => Blk w' w6.heap.size 42 cw ∧ Blk w' w8.heap.size 46 #[t1.v, k1.v, u1.v]) (by kernel_rfl) (⟨S0.xv, W0⟩) (fun hHeld => ?_)
      generalize hA : w9f.drew = wA1 at *
      clear hA
      refine wpAnyH_take (i := 0) (v := (.agg cw)) rfl (by kernel_rfl) (by kernel_rfl) (by kernel_rfl) (fun _ _ _ h => h) (Or.inl ⟨by rfl, ?_⟩) (by assumption) ?_
      · intro w' hSw
        exact yield_row 42 _ rfl w6.heap.size rfl cw (load_v hSw.1 siz2)
      simp only [List.getElem_toArray, List.getElem_cons_zero, Act.put, List.setIfInBounds_toArray, List.set_cons_zero, List.set_cons_succ]
      refine wpAnyH_take (i := 2) (v := (.agg #[t1.v, k1.v, u1.v])) rfl (by kernel_rfl) (by kernel_rfl) (by kernel_rfl) (fun _ _ _ h => h) (Or.inl ⟨by rfl, ?_⟩) (by assumption) ?_
      · intro w' hSw
        exact yield_row 46 _ rfl w8.heap.size rfl _ (load_was hSw.2)
      simp only [List.getElem_toArray, List.getElem_cons_succ, List.getElem_cons_zero, Act.put, List.setIfInBounds_toArray, List.set_cons_zero, List.set_cons_succ]
      refine wpAnyH_ready (rs := [1]) (by kernel_rfl) (by simp) ?_
      refine AllReadyH.cons rfl (fun Kc hKc => ?_) AllReadyH.nil
      simp only [List.getElem_toArray, List.getElem_cons_succ, List.getElem_cons_zero]
      rw [if_pos (by rfl)]
      go_wp2_with fail
      have TD := told9_fit V D L v2 X wA1 S0.vw hfit hD32 hL4
      rw [hcw] at TD
      refine TD.mono ?_
      rintro e wB1 ⟨t9, k9, u9, rfl, T9, EB⟩
      have S1 := S0.below EB
      have W1 := W0.below EB
      have T1 := T0.below EB
      clear TD
      go_wp2_with fail
      refine hKc.out _ _ (⟨S1.xv, W1⟩) (fun hHeld => ?_)
      clear hKc Kc
      refine wpAnyH_ready (rs := [3]) (by kernel_rfl) (by simp) ?_
      refine AllReadyH.cons rfl (fun Kc hKc => ?_) AllReadyH.nil
      simp only [List.getElem_toArray, List.getElem_cons_succ, List.getElem_cons_zero]
      rw [if_pos (by rfl)]
      go_wp2_with fail
      refine (viewSame_eq t9 k9 u9 t1 k1 u1 X wB1 T9 T1).mono ?_
      rintro e wC1 ⟨rfl, EC⟩
      have S2 := S1.below EC
      have W2 := W1.below EC
      have T2 := T1.below EC
      go_wp2_with fail
      refine hKc.out _ _ (⟨S2.xv, W2⟩) (fun hHeld => ?_)
      clear hKc Kc
      refine wpAnyH_take (i := 4) (v := (.bool false)) rfl (by kernel_rfl) (by kernel_rfl) (by kernel_rfl) (fun _ _ _ h => h) (Or.inl ⟨by rfl, ?_⟩) (by assumption) ?_
      · intro w' hSw
        go_simp
      simp only [List.getElem_toArray, List.getElem_cons_succ, List.getElem_cons_zero, Act.put, List.setIfInBounds_toArray, List.set_cons_zero, List.set_cons_succ]
      refine wpAnyH_done (by kernel_rfl) ?_ _
      have KB1 := below_then (below_then KB0 EB) EC
      clear S XW TA S0 W0 T0 S1 W1 T1 T9 hHeld KB0
      have S := S2
      have XW := W2
      have TA := T2
      clear S2 W2 T2
      replace V3 := V3.below KB1
      replace X3 := X3.below KB1
      clear KB1
      have HB12' : SK w wC1 V D Hd H L WW bs M ws cw w2.heap.size w6.heap.size v2 X ∧ Blk wC1 w8.heap.size 46 #[t1.v, k1.v, u1.v] ∧ ToldAt wC1 t1 k1 u1 X ∧ Blk wC1 w9e.heap.size 42 v3.cells ∧ VwAt wC1 v3 (fView M V D H Hd L X a) := ⟨S, XW, TA, X3, V3⟩
      have a0 : wC1.cell? ⟨w.heap.size, 0, none⟩ = some (.int .i64 (V : Int)) := S.x0.cell 0 rfl
      have a1 : wC1.cell? ⟨w.heap.size, 1, none⟩ = some (.int .i64 (D : Int)) := S.x0.cell 1 rfl
      have a2 : wC1.cell? ⟨w.heap.size, 2, none⟩ = some (.int .i64 (Hd : Int)) := S.x0.cell 2 rfl
      have a3 : wC1.cell? ⟨w.heap.size, 3, none⟩ = some (.int .i64 (H : Int)) := S.x0.cell 3 rfl
      have a4 : wC1.cell? ⟨w.heap.size, 4, none⟩ = some (.int .i64 (L : Int)) := S.x0.cell 4 rfl
      have X1 := S.x1
      have XV := S.xv
      have CF := FD v2 X b wC1 (HT.out _ S.kp) hX127 S.gd S.vw hfit
      rw [hcw, HFE_b.out] at CF
      go_wp2_with (first | (refine wpList_load_row rfl 32 _ rfl w2.heap.size rfl 32 ws (0, 0) _ X1 Tryd.underlying32 rfl (by rw [siz]; exact Tryd.infoW) ?_) | (refine wpList_load_row rfl 42 _ rfl w6.heap.size rfl 42 cw (0, 0) _ XV Tryd.underlying42 rfl (by rw [siz2]; exact Tryd.infoV) ?_))
      refine CF.mono ?_
      rintro e w12e ⟨v4, lk12, rfl, N12, BB12⟩
      have one12 := vwv_one v4
      have siz12 := vwv_size v4
      clear a0 a1 a2 a3 a4 X1 XV CF
      obtain ⟨XE12, XF12, BF12, _⟩ := var3 w12e 42 #[.slice none 0 0, .slice none 0 0, .slice none 0 0] v4.cells
      generalize hwe12 : w12e.alloc (.cells #[.slice none 0 0, .slice none 0 0, .slice none 0 0] 42) = w12g at *
      generalize hwf12 : w12g.setRow w12e.heap.size v4.cells = w12f at *
      have BT12 := below_then BB12 BF12
      replace S := S.below BT12
      replace N12 := N12.below BF12
      replace TA := TA.below BT12
      replace XW := XW.below BT12
      replace V3 := V3.below BT12
      replace X3 := X3.below BT12
      have fitB : VwFit V D L (fView M V D H Hd L X b) := fView_fit hfit hX127
      have HB12 : Hid (SK w wC1 V D Hd H L WW bs M ws cw w2.heap.size w6.heap.size v2 X ∧ Blk wC1 w8.heap.size 46 #[t1.v, k1.v, u1.v] ∧ ToldAt wC1 t1 k1 u1 X ∧ Blk wC1 w9e.heap.size 42 v3.cells ∧ VwAt wC1 v3 (fView M V D H Hd L X a)) := HB12'
      have HBT : Hid (Below wC1.heap.size wC1 w12f) := BT12
      go_upto_region 13 with (refine wpList_store_row rfl 42 _ _ rfl w12e.heap.size v4.cells rfl rfl 42 _ XE12 (by rw [siz12]; exact Tryd.infoV) (by rw [siz12]; rfl) one12 ?_; rw [hwf12])
      clear hwe12 hwf12 XE12 HB12'
      have S0 := S.below ((Below.refl _ _).drew)
      have W0 := XW.below ((Below.refl _ _).drew)
      have T0 := TA.below ((Below.refl _ _).drew)
      have KB0 : Below w12f.heap.size w12f w12f.drew := (Below.refl _ _).drew
      refine wp_region_held_drew (S := fun w' => Blk w' w6.heap.size 42 cw ∧ Blk w' w8.heap.size 46 #[t1.v, k1.v, u1.v]) (by kernel_rfl) (⟨S0.xv, W0⟩) (fun hHeld => ?_)
      generalize hA : w12f.drew = wA2 at *
      clear hA
      refine wpAnyH_take (i := 0) (v := (.agg cw)) rfl (by kernel_rfl) (by kernel_rfl) (by kernel_rfl) (fun _ _ _ h => h) (Or.inl ⟨by rfl, ?_⟩) (by assumption) ?_
      · intro w' hSw
        exact yield_row 42 _ rfl w6.heap.size rfl cw (load_v hSw.1 siz2)
      simp only [List.getElem_toArray, List.getElem_cons_zero, Act.put, List.setIfInBounds_toArray, List.set_cons_zero, List.set_cons_succ]
      refine wpAnyH_take (i := 2) (v := (.agg #[t1.v, k1.v, u1.v])) rfl (by kernel_rfl) (by kernel_rfl) (by kernel_rfl) (fun _ _ _ h => h) (Or.inl ⟨by rfl, ?_⟩) (by assumption) ?_
      · intro w' hSw
        exact yield_row 46 _ rfl w8.heap.size rfl _ (load_was hSw.2)
      simp only [List.getElem_toArray, List.getElem_cons_succ, List.getElem_cons_zero, Act.put, List.setIfInBounds_toArray, List.set_cons_zero, List.set_cons_succ]
      refine wpAnyH_ready (rs := [1]) (by kernel_rfl) (by simp) ?_
      refine AllReadyH.cons rfl (fun Kc hKc => ?_) AllReadyH.nil
      simp only [List.getElem_toArray, List.getElem_cons_succ, List.getElem_cons_zero]
      rw [if_pos (by rfl)]
      go_wp2_with fail
      have TD := told9_fit V D L v2 X wA2 S0.vw hfit hD32 hL4
      rw [hcw] at TD
      refine TD.mono ?_
      rintro e wB2 ⟨t9, k9, u9, rfl, T9, EB⟩
      have S1 := S0.below EB
      have W1 := W0.below EB
      have T1 := T0.below EB
      clear TD
      go_wp2_with fail
      refine hKc.out _ _ (⟨S1.xv, W1⟩) (fun hHeld => ?_)
      clear hKc Kc
      refine wpAnyH_ready (rs := [3]) (by kernel_rfl) (by simp) ?_
      refine AllReadyH.cons rfl (fun Kc hKc => ?_) AllReadyH.nil
      simp only [List.getElem_toArray, List.getElem_cons_succ, List.getElem_cons_zero]
      rw [if_pos (by rfl)]
      go_wp2_with fail
      refine (viewSame_eq t9 k9 u9 t1 k1 u1 X wB2 T9 T1).mono ?_
      rintro e wC2 ⟨rfl, EC⟩
      have S2 := S1.below EC
      have W2 := W1.below EC
      have T2 := T1.below EC
      go_wp2_with fail
      refine hKc.out _ _ (⟨S2.xv, W2⟩) (fun hHeld => ?_)
      clear hKc Kc
      refine wpAnyH_take (i := 4) (v := (.bool false)) rfl (by kernel_rfl) (by kernel_rfl) (by kernel_rfl) (fun _ _ _ h => h) (Or.inl ⟨by rfl, ?_⟩) (by assumption) ?_
      · intro w' hSw
        go_simp
      simp only [List.getElem_toArray, List.getElem_cons_succ, List.getElem_cons_zero, Act.put, List.setIfInBounds_toArray, List.set_cons_zero, List.set_cons_succ]
      refine wpAnyH_done (by kernel_rfl) ?_ _
      have KB2 := below_then (below_then KB0 EB) EC
      clear S XW TA S0 W0 T0 S1 W1 T1 T9 hHeld KB0
      have S := S2
      have XW := W2
      have TA := T2
      clear S2 W2 T2
      clear S XW TA V3 X3
      have N12' := N12.below KB2
      have XB := XF12.below KB2
      have HBT2 : Hid (Below wC1.heap.size wC1 wC2) := below_then HBT.out KB2
      clear N12 XF12 KB2 HBT BB12 BT12
      -- what may be written over
      have hlB : (fView M V D H Hd L X b).T.length = if tokB V b = true then X.T.length + 1 else 0 := by
        unfold fView
        split
        · show (X.T ++ [_]).length = _
          simp
        · rfl
      obtain ⟨nB, hnB⟩ : ∃ nB, (fView M V D H Hd L X b).T.length = nB := ⟨_, rfl⟩
      obtain ⟨lB, hlB2⟩ : ∃ lB, (fView M V D H Hd L X b).K.length = lB := ⟨_, rfl⟩
      have hn0 : lB ≠ 0 → 1 ≤ nB := fun h => by
        have := fitB.k
        rw [hlB2, hnB] at this
        by_cases h9 : nB = 0
        · rw [if_pos h9] at this; exact absurd this h
        · omega
      have hvv : (fView M V D H Hd L X b).V.length = lB := by rw [fitB.v, ← hlB2, fitB.k]
      have NK : New wC1.heap.size wC2 (fun w => CubeAt w v4.k.ao lB (fView M V D H Hd L X b).K) := N12'.imp fun _ h => by have h9 := h.k.len; rw [hlB2] at h9; rw [h9]; exact h.k
      have NV : New wC1.heap.size wC2 (fun w => CubeAt w v4.v.ao lB (fView M V D H Hd L X b).V) := N12'.imp fun _ h => by have h9 := h.v.len; rw [hvv] at h9; rw [h9]; exact h.v
      have hkn : v4.k.n = lB := by have h9 := N12'.now.k.len; omega
      have hvn2 : v4.v.n = lB := by have h9 := N12'.now.v.len; omega
      have hlB4 : lB ≤ 4 := by rw [← hlB2, fitB.k]; split <;> omega
      have SKk : SkelA wC1.heap.size wC2 v4.k.ao lB nB D := by
        by_cases h0 : lB = 0
        · subst h0; exact fun l hl => by omega
        · exact skelA_new NK (fun R hR => by have := fitB.ks R hR; rw [hnB] at this; exact this) (hn0 h0) (by omega)
      have SKv : SkelA wC1.heap.size wC2 v4.v.ao lB nB D := by
        by_cases h0 : lB = 0
        · subst h0; exact fun l hl => by omega
        · exact skelA_new NV (fun R hR => by have := fitB.vs R hR; rw [hnB] at this; exact this) (hn0 h0) (by omega)
      have hnB8 : nB ≤ 128 := by have h9 := fitB.most; rw [hnB] at h9; exact h9
      clear NK NV N12' hlB hvv
      have c1 : wC2.cell? ⟨w12e.heap.size, 1, none⟩ = some (.slice v4.k.ao lB v4.k.c) := by rw [← hkn]; exact XB.cell 1 rfl
      have c2 : wC2.cell? ⟨w12e.heap.size, 2, none⟩ = some (.slice v4.v.ao lB v4.v.c) := by rw [← hvn2]; exact XB.cell 2 rfl
      clear XB hkn hvn2 fitB
      generalize v4.k.ao = ka at *
      generalize v4.k.c = kc at *
      generalize v4.v.ao = va at *
      generalize v4.v.c = vc at *
      have HSX : Hid (∀ wv, Nums wC1.heap.size wC2 wv → wv.cell? ⟨w12e.heap.size, 1, none⟩ = some (.slice ka lB kc) ∧ wv.cell? ⟨w12e.heap.size, 2, none⟩ = some (.slice va lB vc)) := fun wv h => ⟨h.slice c1, h.slice c2⟩
      go_upto_region 16 with fail
      clear c1 c2
      go_loopg [92] lB (fun r s92 wr => ∃ l : Nat, l ≤ lB ∧ r = lB - l ∧ s92 = .int .i64 (l : Int) ∧ Nums wC1.heap.size wC2 wr)
      case atStart => exact ⟨0, by omega, by omega, rfl, Nums.refl _ _⟩
      case round =>
        obtain ⟨l, hll, rfl, rfl, NN⟩ := hrel
        by_cases hlt : l < lB
        · obtain ⟨c1, c2⟩ := HSX.out _ NN
          obtain ⟨kb, ko, gl, ol, cl, rfl, k1', KI⟩ := SKk l hlt
          obtain ⟨vb, vo, vl, pl, dl, rfl, v1', VI⟩ := SKv l hlt
          have k2' := NN.slice k1'
          go_upto_region 19 with fail
          clear c1 c2 k2'
          have HK1 : Hid (∀ wv, Nums wC1.heap.size wC2 wv → wv.cell? ⟨kb, ko + l, none⟩ = some (.slice (some ⟨gl, ol, none⟩) nB cl) ∧ wv.cell? ⟨vb, vo + l, none⟩ = some (.slice (some ⟨vl, pl, none⟩) nB dl)) := fun wv h => ⟨h.slice k1', h.slice v1'⟩
          go_loopg [102] nB (fun r s102 wr => ∃ i : Nat, i ≤ nB ∧ r = nB - i ∧ s102 = .int .i64 (i : Int) ∧ Nums wC1.heap.size wC2 wr)
          case atStart => exact ⟨0, by omega, by omega, rfl, NN⟩
          case round =>
            clear NN
            obtain ⟨i, hil, rfl, rfl, NN⟩ := hrel
            by_cases hit : i < nB
            · obtain ⟨c1, c2⟩ := HSX.out _ NN
              obtain ⟨k2', v2'⟩ := HK1.out _ NN
              obtain ⟨rb, ro, rc, k3, KJ⟩ := KI i hit
              obtain ⟨ub, uo, uc, v3', VJ⟩ := VI i hit
              have k3' := NN.slice k3
              go_upto_region 22 with fail
              clear c1 c2 k2' v2' k3'
              have HK2 : Hid (∀ wv, Nums wC1.heap.size wC2 wv → wv.cell? ⟨gl, ol + i, none⟩ = some (.slice (some ⟨rb, ro, none⟩) D rc) ∧ wv.cell? ⟨vl, pl + i, none⟩ = some (.slice (some ⟨ub, uo, none⟩) D uc)) := fun wv h => ⟨h.slice k3, h.slice v3'⟩
              go_loopg [115] D (fun r s115 wr => ∃ j : Nat, j ≤ D ∧ r = D - j ∧ s115 = .int .i64 (j : Int) ∧ Nums wC1.heap.size wC2 wr)
              case atStart => exact ⟨0, by omega, by omega, rfl, NN⟩
              case round =>
                clear NN
                obtain ⟨j, hjl, rfl, rfl, NN⟩ := hrel
                by_cases hjt : j < D
                · obtain ⟨c1, c2⟩ := HSX.out _ NN
                  obtain ⟨k2', v2'⟩ := HK1.out _ NN
                  obtain ⟨k4', v4'⟩ := HK2.out _ NN
                  obtain ⟨x, e1, i1, z1, y1⟩ := KJ j hjt
                  obtain ⟨u, e2, i2, z2, y2⟩ := VJ j hjt
                  obtain ⟨x', f1, j1⟩ := NN.num e1 i1
                  have z1' : wr.frozen? ⟨rb, ro + j, none⟩ = false := by rw [NN.fro]; exact z1
                  have NS := NN.set e1 y1 (i32_wrap (x' + 5))
                  generalize hyy : IntKind.i32.wrap (x' + 5) = xx at *
                  go_upto_region 25 with fail
                  generalize hws' : wr.setCell ⟨rb, ro + j, none⟩ (.int .i32 xx) = wt at *
                  clear c1 c2 k2' v2' k4' v4' f1 z1' hws' hyy
                  obtain ⟨c1, c2⟩ := HSX.out _ NS
                  obtain ⟨k2', v2'⟩ := HK1.out _ NS
                  obtain ⟨k4', v4'⟩ := HK2.out _ NS
                  obtain ⟨u', f2, j2⟩ := NS.num e2 i2
                  have z2' : wt.frozen? ⟨ub, uo + j, none⟩ = false := by rw [NS.fro]; exact z2
                  have NT := NS.set e2 y2 (i32_wrap (u' + 7))
                  generalize hyz : IntKind.i32.wrap (u' + 7) = uu at *
                  go_wp2_with fail
                  go_roundg (D - (j + 1))
                  case measure => omega
                  case rel => exact ⟨j + 1, by omega, rfl, by go_num, NT⟩
                · obtain rfl : D = j := by omega
                  go_wp2_with fail
                  go_roundg (nB - (i + 1))
                  case measure => omega
                  case rel => exact ⟨i + 1, by omega, rfl, by go_num, NN⟩
            · obtain rfl : nB = i := by omega
              go_wp2_with fail
              go_roundg (lB - (l + 1))
              case measure => omega
              case rel => exact ⟨l + 1, by omega, rfl, by go_num, NN⟩
        · obtain rfl : lB = l := by omega
          have BN := HBT2.out.trans NN.kp
          obtain ⟨S, XW, TA, X3, V3⟩ := HB12.out
          replace S := S.below BN
          replace XW := XW.below BN
          replace TA := TA.below BN
          replace X3 := X3.below BN
          replace V3 := V3.below BN
          clear HBT2 HB12 HSX SKk SKv NN BN
          have a0 : wr.cell? ⟨w.heap.size, 0, none⟩ = some (.int .i64 (V : Int)) := S.x0.cell 0 rfl
          have a1 : wr.cell? ⟨w.heap.size, 1, none⟩ = some (.int .i64 (D : Int)) := S.x0.cell 1 rfl
          have a2 : wr.cell? ⟨w.heap.size, 2, none⟩ = some (.int .i64 (Hd : Int)) := S.x0.cell 2 rfl
          have a3 : wr.cell? ⟨w.heap.size, 3, none⟩ = some (.int .i64 (H : Int)) := S.x0.cell 3 rfl
          have a4 : wr.cell? ⟨w.heap.size, 4, none⟩ = some (.int .i64 (L : Int)) := S.x0.cell 4 rfl
          have X1 := S.x1
          have XV := S.xv
          have CF := FD v2 X a wr (HT.out _ S.kp) hX127 S.gd S.vw hfit
          rw [hcw, HFE_a.out] at CF
          go_wp2_with (first | (refine wpList_load_row rfl 32 _ rfl w2.heap.size rfl 32 ws (0, 0) _ X1 Tryd.underlying32 rfl (by rw [siz]; exact Tryd.infoW) ?_) | (refine wpList_load_row rfl 42 _ rfl w6.heap.size rfl 42 cw (0, 0) _ XV Tryd.underlying42 rfl (by rw [siz2]; exact Tryd.infoV) ?_))
          refine CF.mono ?_
          rintro e w29e ⟨v5, lk29, rfl, N29, BB29⟩
          have one29 := vwv_one v5
          have siz29 := vwv_size v5
          clear a0 a1 a2 a3 a4 X1 XV CF
          obtain ⟨XE29, XF29, BF29, _⟩ := var3 w29e 42 #[.slice none 0 0, .slice none 0 0, .slice none 0 0] v5.cells
          generalize hwe29 : w29e.alloc (.cells #[.slice none 0 0, .slice none 0 0, .slice none 0 0] 42) = w29g at *
          generalize hwf29 : w29g.setRow w29e.heap.size v5.cells = w29f at *
          have BT29 := below_then BB29 BF29
          replace S := S.below BT29
          replace N29 := N29.below BF29
          replace TA := TA.below BT29
          replace XW := XW.below BT29
          replace V3 := V3.below BT29
          replace X3 := X3.below BT29
          have V5 := N29.now
          have X5 := XF29
          clear N29 XF29 BT29 BB29 BF29
          go_upto_region 30 with (refine wpList_store_row rfl 42 _ _ rfl w29e.heap.size v5.cells rfl rfl 42 _ XE29 (by rw [siz29]; exact Tryd.infoV) (by rw [siz29]; rfl) one29 ?_; rw [hwf29])
          clear hwe29 hwf29 XE29
          have fitA : VwFit V D L (fView M V D H Hd L X a) := fView_fit hfit hX127
          by_cases hbt : tokB V b = true
          · obtain rfl : 0 = eb := by rw [← HFE_b.out]; unfold fErr; rw [if_pos hbt]
            go_wp2_with fail
            replace S := S.below ((Below.refl _ _).drew)
            replace XW := XW.below ((Below.refl _ _).drew)
            replace TA := TA.below ((Below.refl _ _).drew)
            replace X3 := X3.below ((Below.refl _ _).drew)
            replace V3 := V3.below ((Below.refl _ _).drew)
            replace X5 := X5.below ((Below.refl _ _).drew)
            replace V5 := V5.below ((Below.refl _ _).drew)
            refine wp_region_held_drew (S := fun w' => Blk w' w.heap.size 23 #[.int .i64 (V : Int), .int .i64 (D : Int), .int .i64 (Hd : Int), .int .i64 (H : Int), .int .i64 (L : Int)] ∧ Blk w' w6.heap.size 42 cw ∧ Blk w' w8.heap.size 46 #[t1.v, k1.v, u1.v] ∧ Blk w' w9e.heap.size 42 v3.cells ∧ Blk w' w29e.heap.size 42 v5.cells) (by kernel_rfl) (⟨S.x0, S.xv, XW, X3, X5⟩) (fun hHeld => ?_)
            generalize hA : w29f.drew = wA at *
            clear hA
            refine wpAnyH_ready (rs := [0]) (by kernel_rfl) (by simp) ?_
            refine AllReadyH.cons rfl (fun Kc hKc => ?_) AllReadyH.nil
            simp only [List.getElem_toArray, List.getElem_cons_zero]
            rw [if_pos (by rfl)]
            go_wp2_with fail
            refine (CW _ S.kp).mono ?_
            rintro e x1 ⟨rfl, E1⟩
            replace S := S.below E1
            replace XW := XW.below E1
            replace TA := TA.below E1
            replace X3 := X3.below E1
            replace V3 := V3.below E1
            replace X5 := X5.below E1
            replace V5 := V5.below E1
            go_wp2_with fail
            refine hKc.out _ _ (⟨S.x0, S.xv, XW, X3, X5⟩) (fun hHeld => ?_)
            clear hKc Kc
            refine wpAnyH_take (i := 1) (v := (.bool true)) rfl (by kernel_rfl) (by kernel_rfl) (by kernel_rfl) (fun _ _ _ h => h) (Or.inl ⟨by rfl, ?_⟩) (by assumption) ?_
            · intro w' hSw
              go_simp
            simp only [List.getElem_toArray, List.getElem_cons_succ, List.getElem_cons_zero, Act.put, List.setIfInBounds_toArray, List.set_cons_zero, List.set_cons_succ]
            refine wpAnyH_take (i := 2) (v := (.int .i64 ea)) rfl (by kernel_rfl) (by kernel_rfl) (by kernel_rfl) (fun _ _ _ h => h) (Or.inl ⟨by rfl, ?_⟩) (by assumption) ?_
            · intro w' hSw
              go_simp
            simp only [List.getElem_toArray, List.getElem_cons_succ, List.getElem_cons_zero, Act.put, List.setIfInBounds_toArray, List.set_cons_zero, List.set_cons_succ]
            refine wpAnyH_take (i := 3) (v := (.int .i64 ea)) rfl (by kernel_rfl) (by kernel_rfl) (by kernel_rfl) (fun _ _ _ h => h) (Or.inl ⟨by rfl, ?_⟩) (by assumption) ?_
            · intro w' hSw
              go_simp
            simp only [List.getElem_toArray, List.getElem_cons_succ, List.getElem_cons_zero, Act.put, List.setIfInBounds_toArray, List.set_cons_zero, List.set_cons_succ]
            refine wpAnyH_take (i := 4) (v := (.bool true)) rfl (by kernel_rfl) (by kernel_rfl) (by kernel_rfl) (fun _ _ _ h => h) (Or.inl ⟨by rfl, ?_⟩) (by assumption) ?_
            · intro w' hSw
              go_simp
            simp only [List.getElem_toArray, List.getElem_cons_succ, List.getElem_cons_zero, Act.put, List.setIfInBounds_toArray, List.set_cons_zero, List.set_cons_succ]
            refine wpAnyH_take (i := 5) (v := (.bool true)) rfl (by kernel_rfl) (by kernel_rfl) (by kernel_rfl) (fun _ _ _ h => h) (Or.inl ⟨by rfl, ?_⟩) (by assumption) ?_
            · intro w' hSw
              go_simp
            simp only [List.getElem_toArray, List.getElem_cons_succ, List.getElem_cons_zero, Act.put, List.setIfInBounds_toArray, List.set_cons_zero, List.set_cons_succ]
            refine wpAnyH_take (i := 6) (v := (.bool true)) rfl (by kernel_rfl) (by kernel_rfl) (by kernel_rfl) (fun _ _ _ h => h) (Or.inl ⟨by rfl, ?_⟩) (by assumption) ?_
            · intro w' hSw
              go_simp
            simp only [List.getElem_toArray, List.getElem_cons_succ, List.getElem_cons_zero, Act.put, List.setIfInBounds_toArray, List.set_cons_zero, List.set_cons_succ]
            refine wpAnyH_take (i := 7) (v := (.agg cw)) rfl (by kernel_rfl) (by kernel_rfl) (by kernel_rfl) (fun _ _ _ h => h) (Or.inl ⟨by rfl, ?_⟩) (by assumption) ?_
            · intro w' hSw
              exact yield_row 42 _ rfl w6.heap.size rfl cw (load_v hSw.2.1 siz2)
            simp only [List.getElem_toArray, List.getElem_cons_succ, List.getElem_cons_zero, Act.put, List.setIfInBounds_toArray, List.set_cons_zero, List.set_cons_succ]
            refine wpAnyH_take (i := 9) (v := (.agg #[t1.v, k1.v, u1.v])) rfl (by kernel_rfl) (by kernel_rfl) (by kernel_rfl) (fun _ _ _ h => h) (Or.inl ⟨by rfl, ?_⟩) (by assumption) ?_
            · intro w' hSw
              exact yield_row 46 _ rfl w8.heap.size rfl _ (load_was hSw.2.2.1)
            simp only [List.getElem_toArray, List.getElem_cons_succ, List.getElem_cons_zero, Act.put, List.setIfInBounds_toArray, List.set_cons_zero, List.set_cons_succ]
            refine wpAnyH_ready (rs := [8]) (by kernel_rfl) (by simp) ?_
            refine AllReadyH.cons rfl (fun Kc hKc => ?_) AllReadyH.nil
            simp only [List.getElem_toArray, List.getElem_cons_succ, List.getElem_cons_zero]
            rw [if_pos (by rfl)]
            go_wp2_with fail
            have TD := told9_fit V D L v2 X x1 S.vw hfit hD32 hL4
            rw [hcw] at TD
            refine TD.mono ?_
            rintro e x2 ⟨t9, k9, u9, rfl, T9, E2⟩
            replace S := S.below E2
            replace XW := XW.below E2
            replace TA := TA.below E2
            replace X3 := X3.below E2
            replace V3 := V3.below E2
            replace X5 := X5.below E2
            replace V5 := V5.below E2
            go_wp2_with fail
            refine hKc.out _ _ (⟨S.x0, S.xv, XW, X3, X5⟩) (fun hHeld => ?_)
            clear hKc Kc
            refine wpAnyH_ready (rs := [10]) (by kernel_rfl) (by simp) ?_
            refine AllReadyH.cons rfl (fun Kc hKc => ?_) AllReadyH.nil
            simp only [List.getElem_toArray, List.getElem_cons_succ, List.getElem_cons_zero]
            rw [if_pos (by rfl)]
            go_wp2_with fail
            refine (viewSame_eq t9 k9 u9 t1 k1 u1 X x2 T9 TA).mono ?_
            rintro e x3 ⟨rfl, E3⟩
            clear TD T9
            replace S := S.below E3
            replace XW := XW.below E3
            replace TA := TA.below E3
            replace X3 := X3.below E3
            replace V3 := V3.below E3
            replace X5 := X5.below E3
            replace V5 := V5.below E3
            go_wp2_with fail
            refine hKc.out _ _ (⟨S.x0, S.xv, XW, X3, X5⟩) (fun hHeld => ?_)
            clear hKc Kc
            refine wpAnyH_take (i := 11) (v := (.bool true)) rfl (by kernel_rfl) (by kernel_rfl) (by kernel_rfl) (fun _ _ _ h => h) (Or.inl ⟨by rfl, ?_⟩) (by assumption) ?_
            · intro w' hSw
              go_simp
            simp only [List.getElem_toArray, List.getElem_cons_succ, List.getElem_cons_zero, Act.put, List.setIfInBounds_toArray, List.set_cons_zero, List.set_cons_succ]
            refine wpAnyH_take (i := 12) (v := (.bool true)) rfl (by kernel_rfl) (by kernel_rfl) (by kernel_rfl) (fun _ _ _ h => h) (Or.inl ⟨by rfl, ?_⟩) (by assumption) ?_
            · intro w' hSw
              go_simp
            simp only [List.getElem_toArray, List.getElem_cons_succ, List.getElem_cons_zero, Act.put, List.setIfInBounds_toArray, List.set_cons_zero, List.set_cons_succ]
            refine wpAnyH_take (i := 13) (v := (.agg v3.cells)) rfl (by kernel_rfl) (by kernel_rfl) (by kernel_rfl) (fun _ _ _ h => h) (Or.inl ⟨by rfl, ?_⟩) (by assumption) ?_
            · intro w' hSw
              exact yield_row 42 _ rfl w9e.heap.size rfl _ (load_v hSw.2.2.2.1 siz9)
            simp only [List.getElem_toArray, List.getElem_cons_succ, List.getElem_cons_zero, Act.put, List.setIfInBounds_toArray, List.set_cons_zero, List.set_cons_succ]
            refine wpAnyH_take (i := 15) (v := (.agg v5.cells)) rfl (by kernel_rfl) (by kernel_rfl) (by kernel_rfl) (fun _ _ _ h => h) (Or.inl ⟨by rfl, ?_⟩) (by assumption) ?_
            · intro w' hSw
              exact yield_row 42 _ rfl w29e.heap.size rfl _ (load_v hSw.2.2.2.2 siz29)
            simp only [List.getElem_toArray, List.getElem_cons_succ, List.getElem_cons_zero, Act.put, List.setIfInBounds_toArray, List.set_cons_zero, List.set_cons_succ]
            refine wpAnyH_ready (rs := [14]) (by kernel_rfl) (by simp) ?_
            refine AllReadyH.cons rfl (fun Kc hKc => ?_) AllReadyH.nil
            simp only [List.getElem_toArray, List.getElem_cons_succ, List.getElem_cons_zero]
            rw [if_pos (by rfl)]
            go_wp2_with fail
            refine (told9_fit V D L v3 _ x3 V3 fitA hD32 hL4).mono ?_
            rintro e x4 ⟨t4, k4, u4, rfl, T4, E4⟩
            replace S := S.below E4
            replace XW := XW.below E4
            replace TA := TA.below E4
            replace X3 := X3.below E4
            replace V3 := V3.below E4
            replace X5 := X5.below E4
            replace V5 := V5.below E4
            go_wp2_with fail
            refine hKc.out _ _ (⟨S.x0, S.xv, XW, X3, X5⟩) (fun hHeld => ?_)
            clear hKc Kc
            refine wpAnyH_ready (rs := [16]) (by kernel_rfl) (by simp) ?_
            refine AllReadyH.cons rfl (fun Kc hKc => ?_) AllReadyH.nil
            simp only [List.getElem_toArray, List.getElem_cons_succ, List.getElem_cons_zero]
            rw [if_pos (by rfl)]
            go_wp2_with fail
            refine (told9_fit V D L v5 _ x4 V5 fitA hD32 hL4).mono ?_
            rintro e x5 ⟨t5, k5, u5, rfl, T5, E5⟩
            replace T4 := T4.below E5
            replace S := S.below E5
            replace XW := XW.below E5
            replace TA := TA.below E5
            replace X3 := X3.below E5
            replace V3 := V3.below E5
            replace X5 := X5.below E5
            replace V5 := V5.below E5
            go_wp2_with fail
            refine hKc.out _ _ (⟨S.x0, S.xv, XW, X3, X5⟩) (fun hHeld => ?_)
            clear hKc Kc
            refine wpAnyH_ready (rs := [17]) (by kernel_rfl) (by simp) ?_
            refine AllReadyH.cons rfl (fun Kc hKc => ?_) AllReadyH.nil
            simp only [List.getElem_toArray, List.getElem_cons_succ, List.getElem_cons_zero]
            rw [if_pos (by rfl)]
            go_wp2_with fail
            refine (viewSame_eq t4 k4 u4 t5 k5 u5 _ x5 T4 T5).mono ?_
            rintro e x6 ⟨rfl, E6⟩
            replace S := S.below E6
            replace XW := XW.below E6
            replace TA := TA.below E6
            replace X3 := X3.below E6
            replace V3 := V3.below E6
            replace X5 := X5.below E6
            replace V5 := V5.below E6
            go_wp2_with fail
            refine hKc.out _ _ (⟨S.x0, S.xv, XW, X3, X5⟩) (fun hHeld => ?_)
            clear hKc Kc
            refine wpAnyH_take (i := 18) (v := (.bool true)) rfl (by kernel_rfl) (by kernel_rfl) (by kernel_rfl) (fun _ _ _ h => h) (Or.inl ⟨by rfl, ?_⟩) (by assumption) ?_
            · intro w' hSw
              go_simp
            simp only [List.getElem_toArray, List.getElem_cons_succ, List.getElem_cons_zero, Act.put, List.setIfInBounds_toArray, List.set_cons_zero, List.set_cons_succ]
            refine wpAnyH_take (i := 19) (v := (.bool true)) rfl (by kernel_rfl) (by kernel_rfl) (by kernel_rfl) (fun _ _ _ h => h) (Or.inl ⟨by rfl, ?_⟩) (by assumption) ?_
            · intro w' hSw
              go_simp
            simp only [List.getElem_toArray, List.getElem_cons_succ, List.getElem_cons_zero, Act.put, List.setIfInBounds_toArray, List.set_cons_zero, List.set_cons_succ]
            refine wpAnyH_take (i := 20) (v := (.int .i64 0)) rfl (by kernel_rfl) (by kernel_rfl) (by kernel_rfl) (fun _ _ _ h => h) (Or.inl ⟨by rfl, ?_⟩) (by assumption) ?_
            · intro w' hSw
              go_simp
            simp only [List.getElem_toArray, List.getElem_cons_succ, List.getElem_cons_zero, Act.put, List.setIfInBounds_toArray, List.set_cons_zero, List.set_cons_succ]
            refine wpAnyH_take (i := 21) (v := (.bool true)) rfl (by kernel_rfl) (by kernel_rfl) (by kernel_rfl) (fun _ _ _ h => h) (Or.inl ⟨by rfl, ?_⟩) (by assumption) ?_
            · intro w' hSw
              go_simp
            simp only [List.getElem_toArray, List.getElem_cons_succ, List.getElem_cons_zero, Act.put, List.setIfInBounds_toArray, List.set_cons_zero, List.set_cons_succ]
            refine wpAnyH_take (i := 22) (v := (.bool true)) rfl (by kernel_rfl) (by kernel_rfl) (by kernel_rfl) (fun _ _ _ h => h) (Or.inl ⟨by rfl, ?_⟩) (by assumption) ?_
            · intro w' hSw
              go_simp
            simp only [List.getElem_toArray, List.getElem_cons_succ, List.getElem_cons_zero, Act.put, List.setIfInBounds_toArray, List.set_cons_zero, List.set_cons_succ]
            refine wpAnyH_take (i := 23) (v := undef) rfl (by kernel_rfl) (by kernel_rfl) (by kernel_rfl) (fun _ _ _ h => h) (Or.inr ⟨by rfl, rfl⟩) (by assumption) ?_
            simp only [List.getElem_toArray, List.getElem_cons_succ, List.getElem_cons_zero, Act.put, List.setIfInBounds_toArray, List.set_cons_zero, List.set_cons_succ]
            refine wpAnyH_take (i := 24) (v := undef) rfl (by kernel_rfl) (by kernel_rfl) (by kernel_rfl) (fun _ _ _ h => h) (Or.inr ⟨by rfl, rfl⟩) (by assumption) ?_
            simp only [List.getElem_toArray, List.getElem_cons_succ, List.getElem_cons_zero, Act.put, List.setIfInBounds_toArray, List.set_cons_zero, List.set_cons_succ]
            refine wpAnyH_take (i := 25) (v := (.bool true)) rfl (by kernel_rfl) (by kernel_rfl) (by kernel_rfl) (fun _ _ _ h => h) (Or.inl ⟨by rfl, ?_⟩) (by assumption) ?_
            · intro w' hSw
              go_simp
            simp only [List.getElem_toArray, List.getElem_cons_succ, List.getElem_cons_zero, Act.put, List.setIfInBounds_toArray, List.set_cons_zero, List.set_cons_succ]
            refine wpAnyH_take (i := 26) (v := (.bool true)) rfl (by kernel_rfl) (by kernel_rfl) (by kernel_rfl) (fun _ _ _ h => h) (Or.inl ⟨by rfl, ?_⟩) (by assumption) ?_
            · intro w' hSw
              go_simp
            simp only [List.getElem_toArray, List.getElem_cons_succ, List.getElem_cons_zero, Act.put, List.setIfInBounds_toArray, List.set_cons_zero, List.set_cons_succ]
            refine wpAnyH_take (i := 27) (v := undef) rfl (by kernel_rfl) (by kernel_rfl) (by kernel_rfl) (fun _ _ _ h => h) (Or.inr ⟨by rfl, rfl⟩) (by assumption) ?_
            simp only [List.getElem_toArray, List.getElem_cons_succ, List.getElem_cons_zero, Act.put, List.setIfInBounds_toArray, List.set_cons_zero, List.set_cons_succ]
            refine wpAnyH_take (i := 28) (v := undef) rfl (by kernel_rfl) (by kernel_rfl) (by kernel_rfl) (fun _ _ _ h => h) (Or.inr ⟨by rfl, rfl⟩) (by assumption) ?_
            simp only [List.getElem_toArray, List.getElem_cons_succ, List.getElem_cons_zero, Act.put, List.setIfInBounds_toArray, List.set_cons_zero, List.set_cons_succ]
            refine wpAnyH_take (i := 29) (v := undef) rfl (by kernel_rfl) (by kernel_rfl) (by kernel_rfl) (fun _ _ _ h => h) (Or.inr ⟨by rfl, rfl⟩) (by assumption) ?_
            simp only [List.getElem_toArray, List.getElem_cons_succ, List.getElem_cons_zero, Act.put, List.setIfInBounds_toArray, List.set_cons_zero, List.set_cons_succ]
            refine wpAnyH_take (i := 30) (v := undef) rfl (by kernel_rfl) (by kernel_rfl) (by kernel_rfl) (fun _ _ _ h => h) (Or.inr ⟨by rfl, rfl⟩) (by assumption) ?_
            simp only [List.getElem_toArray, List.getElem_cons_succ, List.getElem_cons_zero, Act.put, List.setIfInBounds_toArray, List.set_cons_zero, List.set_cons_succ]
            refine wpAnyH_take (i := 31) (v := (.bool true)) rfl (by kernel_rfl) (by kernel_rfl) (by kernel_rfl) (fun _ _ _ h => h) (Or.inl ⟨by rfl, ?_⟩) (by assumption) ?_
            · intro w' hSw
              go_simp
            simp only [List.getElem_toArray, List.getElem_cons_succ, List.getElem_cons_zero, Act.put, List.setIfInBounds_toArray, List.set_cons_zero, List.set_cons_succ]
            refine wpAnyH_take (i := 32) (v := (.bool true)) rfl (by kernel_rfl) (by kernel_rfl) (by kernel_rfl) (fun _ _ _ h => h) (Or.inl ⟨by rfl, ?_⟩) (by assumption) ?_
            · intro w' hSw
              go_simp
            simp only [List.getElem_toArray, List.getElem_cons_succ, List.getElem_cons_zero, Act.put, List.setIfInBounds_toArray, List.set_cons_zero, List.set_cons_succ]
            refine wpAnyH_take (i := 33) (v := (.bool true)) rfl (by kernel_rfl) (by kernel_rfl) (by kernel_rfl) (fun _ _ _ h => h) (Or.inl ⟨by rfl, ?_⟩) (by assumption) ?_
            · intro w' hSw
              go_simp
            simp only [List.getElem_toArray, List.getElem_cons_succ, List.getElem_cons_zero, Act.put, List.setIfInBounds_toArray, List.set_cons_zero, List.set_cons_succ]
            refine wpAnyH_done (by kernel_rfl) ?_ _
            go_wp2
            go_ret
            exact ⟨rfl, S.kp⟩
          · obtain rfl : 7 = eb := by rw [← HFE_b.out]; unfold fErr; rw [if_neg hbt]
            by_cases hb0 : b < 0
            · skip
              go_wp2_with fail
              replace S := S.below ((Below.refl _ _).drew)
              replace XW := XW.below ((Below.refl _ _).drew)
              replace TA := TA.below ((Below.refl _ _).drew)
              replace X3 := X3.below ((Below.refl _ _).drew)
              replace V3 := V3.below ((Below.refl _ _).drew)
              replace X5 := X5.below ((Below.refl _ _).drew)
              replace V5 := V5.below ((Below.refl _ _).drew)
              refine wp_region_held_drew (S := fun w' => Blk w' w.heap.size 23 #[.int .i64 (V : Int), .int .i64 (D : Int), .int .i64 (Hd : Int), .int .i64 (H : Int), .int .i64 (L : Int)] ∧ Blk w' w6.heap.size 42 cw ∧ Blk w' w8.heap.size 46 #[t1.v, k1.v, u1.v] ∧ Blk w' w9e.heap.size 42 v3.cells ∧ Blk w' w29e.heap.size 42 v5.cells) (by kernel_rfl) (⟨S.x0, S.xv, XW, X3, X5⟩) (fun hHeld => ?_)
              generalize hA : w29f.drew = wA at *
              clear hA
              refine wpAnyH_ready (rs := [0]) (by kernel_rfl) (by simp) ?_
              refine AllReadyH.cons rfl (fun Kc hKc => ?_) AllReadyH.nil
              simp only [List.getElem_toArray, List.getElem_cons_zero]
              rw [if_pos (by rfl)]
              go_wp2_with fail
              refine (CW _ S.kp).mono ?_
              rintro e x1 ⟨rfl, E1⟩
              replace S := S.below E1
              replace XW := XW.below E1
              replace TA := TA.below E1
              replace X3 := X3.below E1
              replace V3 := V3.below E1
              replace X5 := X5.below E1
              replace V5 := V5.below E1
              go_wp2_with fail
              refine hKc.out _ _ (⟨S.x0, S.xv, XW, X3, X5⟩) (fun hHeld => ?_)
              clear hKc Kc
              refine wpAnyH_take (i := 1) (v := (.bool true)) rfl (by kernel_rfl) (by kernel_rfl) (by kernel_rfl) (fun _ _ _ h => h) (Or.inl ⟨by rfl, ?_⟩) (by assumption) ?_
              · intro w' hSw
                go_simp
              simp only [List.getElem_toArray, List.getElem_cons_succ, List.getElem_cons_zero, Act.put, List.setIfInBounds_toArray, List.set_cons_zero, List.set_cons_succ]
              refine wpAnyH_take (i := 2) (v := (.int .i64 ea)) rfl (by kernel_rfl) (by kernel_rfl) (by kernel_rfl) (fun _ _ _ h => h) (Or.inl ⟨by rfl, ?_⟩) (by assumption) ?_
              · intro w' hSw
                go_simp
              simp only [List.getElem_toArray, List.getElem_cons_succ, List.getElem_cons_zero, Act.put, List.setIfInBounds_toArray, List.set_cons_zero, List.set_cons_succ]
              refine wpAnyH_take (i := 3) (v := (.int .i64 ea)) rfl (by kernel_rfl) (by kernel_rfl) (by kernel_rfl) (fun _ _ _ h => h) (Or.inl ⟨by rfl, ?_⟩) (by assumption) ?_
              · intro w' hSw
                go_simp
              simp only [List.getElem_toArray, List.getElem_cons_succ, List.getElem_cons_zero, Act.put, List.setIfInBounds_toArray, List.set_cons_zero, List.set_cons_succ]
              refine wpAnyH_take (i := 4) (v := (.bool true)) rfl (by kernel_rfl) (by kernel_rfl) (by kernel_rfl) (fun _ _ _ h => h) (Or.inl ⟨by rfl, ?_⟩) (by assumption) ?_
              · intro w' hSw
                go_simp
              simp only [List.getElem_toArray, List.getElem_cons_succ, List.getElem_cons_zero, Act.put, List.setIfInBounds_toArray, List.set_cons_zero, List.set_cons_succ]
              refine wpAnyH_take (i := 5) (v := (.bool true)) rfl (by kernel_rfl) (by kernel_rfl) (by kernel_rfl) (fun _ _ _ h => h) (Or.inl ⟨by rfl, ?_⟩) (by assumption) ?_
              · intro w' hSw
                go_simp
              simp only [List.getElem_toArray, List.getElem_cons_succ, List.getElem_cons_zero, Act.put, List.setIfInBounds_toArray, List.set_cons_zero, List.set_cons_succ]
              refine wpAnyH_take (i := 6) (v := (.bool true)) rfl (by kernel_rfl) (by kernel_rfl) (by kernel_rfl) (fun _ _ _ h => h) (Or.inl ⟨by rfl, ?_⟩) (by assumption) ?_
              · intro w' hSw
                go_simp
              simp only [List.getElem_toArray, List.getElem_cons_succ, List.getElem_cons_zero, Act.put, List.setIfInBounds_toArray, List.set_cons_zero, List.set_cons_succ]
              refine wpAnyH_take (i := 7) (v := (.agg cw)) rfl (by kernel_rfl) (by kernel_rfl) (by kernel_rfl) (fun _ _ _ h => h) (Or.inl ⟨by rfl, ?_⟩) (by assumption) ?_
              · intro w' hSw
                exact yield_row 42 _ rfl w6.heap.size rfl cw (load_v hSw.2.1 siz2)
              simp only [List.getElem_toArray, List.getElem_cons_succ, List.getElem_cons_zero, Act.put, List.setIfInBounds_toArray, List.set_cons_zero, List.set_cons_succ]
              refine wpAnyH_take (i := 9) (v := (.agg #[t1.v, k1.v, u1.v])) rfl (by kernel_rfl) (by kernel_rfl) (by kernel_rfl) (fun _ _ _ h => h) (Or.inl ⟨by rfl, ?_⟩) (by assumption) ?_
              · intro w' hSw
                exact yield_row 46 _ rfl w8.heap.size rfl _ (load_was hSw.2.2.1)
              simp only [List.getElem_toArray, List.getElem_cons_succ, List.getElem_cons_zero, Act.put, List.setIfInBounds_toArray, List.set_cons_zero, List.set_cons_succ]
              refine wpAnyH_ready (rs := [8]) (by kernel_rfl) (by simp) ?_
              refine AllReadyH.cons rfl (fun Kc hKc => ?_) AllReadyH.nil
              simp only [List.getElem_toArray, List.getElem_cons_succ, List.getElem_cons_zero]
              rw [if_pos (by rfl)]
              go_wp2_with fail
              have TD := told9_fit V D L v2 X x1 S.vw hfit hD32 hL4
              rw [hcw] at TD
              refine TD.mono ?_
              rintro e x2 ⟨t9, k9, u9, rfl, T9, E2⟩
              replace S := S.below E2
              replace XW := XW.below E2
              replace TA := TA.below E2
              replace X3 := X3.below E2
              replace V3 := V3.below E2
              replace X5 := X5.below E2
              replace V5 := V5.below E2
              go_wp2_with fail
              refine hKc.out _ _ (⟨S.x0, S.xv, XW, X3, X5⟩) (fun hHeld => ?_)
              clear hKc Kc
              refine wpAnyH_ready (rs := [10]) (by kernel_rfl) (by simp) ?_
              refine AllReadyH.cons rfl (fun Kc hKc => ?_) AllReadyH.nil
              simp only [List.getElem_toArray, List.getElem_cons_succ, List.getElem_cons_zero]
              rw [if_pos (by rfl)]
              go_wp2_with fail
              refine (viewSame_eq t9 k9 u9 t1 k1 u1 X x2 T9 TA).mono ?_
              rintro e x3 ⟨rfl, E3⟩
              clear TD T9
              replace S := S.below E3
              replace XW := XW.below E3
              replace TA := TA.below E3
              replace X3 := X3.below E3
              replace V3 := V3.below E3
              replace X5 := X5.below E3
              replace V5 := V5.below E3
              go_wp2_with fail
              refine hKc.out _ _ (⟨S.x0, S.xv, XW, X3, X5⟩) (fun hHeld => ?_)
              clear hKc Kc
              refine wpAnyH_take (i := 11) (v := (.bool true)) rfl (by kernel_rfl) (by kernel_rfl) (by kernel_rfl) (fun _ _ _ h => h) (Or.inl ⟨by rfl, ?_⟩) (by assumption) ?_
              · intro w' hSw
                go_simp
              simp only [List.getElem_toArray, List.getElem_cons_succ, List.getElem_cons_zero, Act.put, List.setIfInBounds_toArray, List.set_cons_zero, List.set_cons_succ]
              refine wpAnyH_take (i := 12) (v := (.bool true)) rfl (by kernel_rfl) (by kernel_rfl) (by kernel_rfl) (fun _ _ _ h => h) (Or.inl ⟨by rfl, ?_⟩) (by assumption) ?_
              · intro w' hSw
                go_simp
              simp only [List.getElem_toArray, List.getElem_cons_succ, List.getElem_cons_zero, Act.put, List.setIfInBounds_toArray, List.set_cons_zero, List.set_cons_succ]
              refine wpAnyH_take (i := 13) (v := (.agg v3.cells)) rfl (by kernel_rfl) (by kernel_rfl) (by kernel_rfl) (fun _ _ _ h => h) (Or.inl ⟨by rfl, ?_⟩) (by assumption) ?_
              · intro w' hSw
                exact yield_row 42 _ rfl w9e.heap.size rfl _ (load_v hSw.2.2.2.1 siz9)
              simp only [List.getElem_toArray, List.getElem_cons_succ, List.getElem_cons_zero, Act.put, List.setIfInBounds_toArray, List.set_cons_zero, List.set_cons_succ]
              refine wpAnyH_take (i := 15) (v := (.agg v5.cells)) rfl (by kernel_rfl) (by kernel_rfl) (by kernel_rfl) (fun _ _ _ h => h) (Or.inl ⟨by rfl, ?_⟩) (by assumption) ?_
              · intro w' hSw
                exact yield_row 42 _ rfl w29e.heap.size rfl _ (load_v hSw.2.2.2.2 siz29)
              simp only [List.getElem_toArray, List.getElem_cons_succ, List.getElem_cons_zero, Act.put, List.setIfInBounds_toArray, List.set_cons_zero, List.set_cons_succ]
              refine wpAnyH_ready (rs := [14]) (by kernel_rfl) (by simp) ?_
              refine AllReadyH.cons rfl (fun Kc hKc => ?_) AllReadyH.nil
              simp only [List.getElem_toArray, List.getElem_cons_succ, List.getElem_cons_zero]
              rw [if_pos (by rfl)]
              go_wp2_with fail
              refine (told9_fit V D L v3 _ x3 V3 fitA hD32 hL4).mono ?_
              rintro e x4 ⟨t4, k4, u4, rfl, T4, E4⟩
              replace S := S.below E4
              replace XW := XW.below E4
              replace TA := TA.below E4
              replace X3 := X3.below E4
              replace V3 := V3.below E4
              replace X5 := X5.below E4
              replace V5 := V5.below E4
              go_wp2_with fail
              refine hKc.out _ _ (⟨S.x0, S.xv, XW, X3, X5⟩) (fun hHeld => ?_)
              clear hKc Kc
              refine wpAnyH_ready (rs := [16]) (by kernel_rfl) (by simp) ?_
              refine AllReadyH.cons rfl (fun Kc hKc => ?_) AllReadyH.nil
              simp only [List.getElem_toArray, List.getElem_cons_succ, List.getElem_cons_zero]
              rw [if_pos (by rfl)]
              go_wp2_with fail
              refine (told9_fit V D L v5 _ x4 V5 fitA hD32 hL4).mono ?_
              rintro e x5 ⟨t5, k5, u5, rfl, T5, E5⟩
              replace T4 := T4.below E5
              replace S := S.below E5
              replace XW := XW.below E5
              replace TA := TA.below E5
              replace X3 := X3.below E5
              replace V3 := V3.below E5
              replace X5 := X5.below E5
              replace V5 := V5.below E5
              go_wp2_with fail
              refine hKc.out _ _ (⟨S.x0, S.xv, XW, X3, X5⟩) (fun hHeld => ?_)
              clear hKc Kc
              refine wpAnyH_ready (rs := [17]) (by kernel_rfl) (by simp) ?_
              refine AllReadyH.cons rfl (fun Kc hKc => ?_) AllReadyH.nil
              simp only [List.getElem_toArray, List.getElem_cons_succ, List.getElem_cons_zero]
              rw [if_pos (by rfl)]
              go_wp2_with fail
              refine (viewSame_eq t4 k4 u4 t5 k5 u5 _ x5 T4 T5).mono ?_
              rintro e x6 ⟨rfl, E6⟩
              replace S := S.below E6
              replace XW := XW.below E6
              replace TA := TA.below E6
              replace X3 := X3.below E6
              replace V3 := V3.below E6
              replace X5 := X5.below E6
              replace V5 := V5.below E6
              go_wp2_with fail
              refine hKc.out _ _ (⟨S.x0, S.xv, XW, X3, X5⟩) (fun hHeld => ?_)
              clear hKc Kc
              refine wpAnyH_take (i := 18) (v := (.bool true)) rfl (by kernel_rfl) (by kernel_rfl) (by kernel_rfl) (fun _ _ _ h => h) (Or.inl ⟨by rfl, ?_⟩) (by assumption) ?_
              · intro w' hSw
                go_simp
              simp only [List.getElem_toArray, List.getElem_cons_succ, List.getElem_cons_zero, Act.put, List.setIfInBounds_toArray, List.set_cons_zero, List.set_cons_succ]
              refine wpAnyH_take (i := 19) (v := (.bool true)) rfl (by kernel_rfl) (by kernel_rfl) (by kernel_rfl) (fun _ _ _ h => h) (Or.inl ⟨by rfl, ?_⟩) (by assumption) ?_
              · intro w' hSw
                go_simp
              simp only [List.getElem_toArray, List.getElem_cons_succ, List.getElem_cons_zero, Act.put, List.setIfInBounds_toArray, List.set_cons_zero, List.set_cons_succ]
              refine wpAnyH_take (i := 20) (v := (.int .i64 7)) rfl (by kernel_rfl) (by kernel_rfl) (by kernel_rfl) (fun _ _ _ h => h) (Or.inl ⟨by rfl, ?_⟩) (by assumption) ?_
              · intro w' hSw
                go_simp
              simp only [List.getElem_toArray, List.getElem_cons_succ, List.getElem_cons_zero, Act.put, List.setIfInBounds_toArray, List.set_cons_zero, List.set_cons_succ]
              refine wpAnyH_take (i := 21) (v := (.bool false)) rfl (by kernel_rfl) (by kernel_rfl) (by kernel_rfl) (fun _ _ _ h => h) (Or.inl ⟨by rfl, ?_⟩) (by assumption) ?_
              · intro w' hSw
                go_simp
              simp only [List.getElem_toArray, List.getElem_cons_succ, List.getElem_cons_zero, Act.put, List.setIfInBounds_toArray, List.set_cons_zero, List.set_cons_succ]
              refine wpAnyH_take (i := 22) (v := (.bool false)) rfl (by kernel_rfl) (by kernel_rfl) (by kernel_rfl) (fun _ _ _ h => h) (Or.inl ⟨by rfl, ?_⟩) (by assumption) ?_
              · intro w' hSw
                go_simp
              simp only [List.getElem_toArray, List.getElem_cons_succ, List.getElem_cons_zero, Act.put, List.setIfInBounds_toArray, List.set_cons_zero, List.set_cons_succ]
              refine wpAnyH_take (i := 23) (v := (.int .i64 b)) rfl (by kernel_rfl) (by kernel_rfl) (by kernel_rfl) (fun _ _ _ h => h) (Or.inl ⟨by rfl, ?_⟩) (by assumption) ?_
              · intro w' hSw
                go_simp
              simp only [List.getElem_toArray, List.getElem_cons_succ, List.getElem_cons_zero, Act.put, List.setIfInBounds_toArray, List.set_cons_zero, List.set_cons_succ]
              refine wpAnyH_take (i := 24) (v := (.bool true)) rfl (by kernel_rfl) (by kernel_rfl) (by kernel_rfl) (fun _ _ _ h => h) (Or.inl ⟨by rfl, ?_⟩) (by assumption) ?_
              · intro w' hSw
                go_simp
              simp only [List.getElem_toArray, List.getElem_cons_succ, List.getElem_cons_zero, Act.put, List.setIfInBounds_toArray, List.set_cons_zero, List.set_cons_succ]
              refine wpAnyH_take (i := 25) (v := (.bool true)) rfl (by kernel_rfl) (by kernel_rfl) (by kernel_rfl) (fun _ _ _ h => h) (Or.inl ⟨by rfl, ?_⟩) (by assumption) ?_
              · intro w' hSw
                go_simp
              simp only [List.getElem_toArray, List.getElem_cons_succ, List.getElem_cons_zero, Act.put, List.setIfInBounds_toArray, List.set_cons_zero, List.set_cons_succ]
              refine wpAnyH_take (i := 26) (v := (.bool true)) rfl (by kernel_rfl) (by kernel_rfl) (by kernel_rfl) (fun _ _ _ h => h) (Or.inl ⟨by rfl, ?_⟩) (by assumption) ?_
              · intro w' hSw
                go_simp
              simp only [List.getElem_toArray, List.getElem_cons_succ, List.getElem_cons_zero, Act.put, List.setIfInBounds_toArray, List.set_cons_zero, List.set_cons_succ]
              refine wpAnyH_take (i := 27) (v := undef) rfl (by kernel_rfl) (by kernel_rfl) (by kernel_rfl) (fun _ _ _ h => h) (Or.inr ⟨by rfl, rfl⟩) (by assumption) ?_
              simp only [List.getElem_toArray, List.getElem_cons_succ, List.getElem_cons_zero, Act.put, List.setIfInBounds_toArray, List.set_cons_zero, List.set_cons_succ]
              refine wpAnyH_take (i := 28) (v := undef) rfl (by kernel_rfl) (by kernel_rfl) (by kernel_rfl) (fun _ _ _ h => h) (Or.inr ⟨by rfl, rfl⟩) (by assumption) ?_
              simp only [List.getElem_toArray, List.getElem_cons_succ, List.getElem_cons_zero, Act.put, List.setIfInBounds_toArray, List.set_cons_zero, List.set_cons_succ]
              refine wpAnyH_take (i := 29) (v := undef) rfl (by kernel_rfl) (by kernel_rfl) (by kernel_rfl) (fun _ _ _ h => h) (Or.inr ⟨by rfl, rfl⟩) (by assumption) ?_
              simp only [List.getElem_toArray, List.getElem_cons_succ, List.getElem_cons_zero, Act.put, List.setIfInBounds_toArray, List.set_cons_zero, List.set_cons_succ]
              refine wpAnyH_take (i := 30) (v := undef) rfl (by kernel_rfl) (by kernel_rfl) (by kernel_rfl) (fun _ _ _ h => h) (Or.inr ⟨by rfl, rfl⟩) (by assumption) ?_
              simp only [List.getElem_toArray, List.getElem_cons_succ, List.getElem_cons_zero, Act.put, List.setIfInBounds_toArray, List.set_cons_zero, List.set_cons_succ]
              refine wpAnyH_take (i := 31) (v := (.bool true)) rfl (by kernel_rfl) (by kernel_rfl) (by kernel_rfl) (fun _ _ _ h => h) (Or.inl ⟨by rfl, ?_⟩) (by assumption) ?_
              · intro w' hSw
                go_simp
              simp only [List.getElem_toArray, List.getElem_cons_succ, List.getElem_cons_zero, Act.put, List.setIfInBounds_toArray, List.set_cons_zero, List.set_cons_succ]
              refine wpAnyH_take (i := 32) (v := (.bool true)) rfl (by kernel_rfl) (by kernel_rfl) (by kernel_rfl) (fun _ _ _ h => h) (Or.inl ⟨by rfl, ?_⟩) (by assumption) ?_
              · intro w' hSw
                go_simp
              simp only [List.getElem_toArray, List.getElem_cons_succ, List.getElem_cons_zero, Act.put, List.setIfInBounds_toArray, List.set_cons_zero, List.set_cons_succ]
              refine wpAnyH_take (i := 33) (v := (.bool true)) rfl (by kernel_rfl) (by kernel_rfl) (by kernel_rfl) (fun _ _ _ h => h) (Or.inl ⟨by rfl, ?_⟩) (by assumption) ?_
              · intro w' hSw
                go_simp
              simp only [List.getElem_toArray, List.getElem_cons_succ, List.getElem_cons_zero, Act.put, List.setIfInBounds_toArray, List.set_cons_zero, List.set_cons_succ]
              refine wpAnyH_done (by kernel_rfl) ?_ _
              go_wp2
              go_ret
              exact ⟨rfl, S.kp⟩
            · have hbV : (V : Int) ≤ b := by
                unfold tokB at hbt
                have : ¬ (0 ≤ b ∧ b < V) := by simpa using hbt
                omega
              go_wp2_with fail
              replace S := S.below ((Below.refl _ _).drew)
              replace XW := XW.below ((Below.refl _ _).drew)
              replace TA := TA.below ((Below.refl _ _).drew)
              replace X3 := X3.below ((Below.refl _ _).drew)
              replace V3 := V3.below ((Below.refl _ _).drew)
              replace X5 := X5.below ((Below.refl _ _).drew)
              replace V5 := V5.below ((Below.refl _ _).drew)
              refine wp_region_held_drew (S := fun w' => Blk w' w.heap.size 23 #[.int .i64 (V : Int), .int .i64 (D : Int), .int .i64 (Hd : Int), .int .i64 (H : Int), .int .i64 (L : Int)] ∧ Blk w' w6.heap.size 42 cw ∧ Blk w' w8.heap.size 46 #[t1.v, k1.v, u1.v] ∧ Blk w' w9e.heap.size 42 v3.cells ∧ Blk w' w29e.heap.size 42 v5.cells) (by kernel_rfl) (⟨S.x0, S.xv, XW, X3, X5⟩) (fun hHeld => ?_)
              generalize hA : w29f.drew = wA at *
              clear hA
              refine wpAnyH_ready (rs := [0]) (by kernel_rfl) (by simp) ?_
              refine AllReadyH.cons rfl (fun Kc hKc => ?_) AllReadyH.nil
              simp only [List.getElem_toArray, List.getElem_cons_zero]
              rw [if_pos (by rfl)]
              go_wp2_with fail
              refine (CW _ S.kp).mono ?_
              rintro e x1 ⟨rfl, E1⟩
              replace S := S.below E1
              replace XW := XW.below E1
              replace TA := TA.below E1
              replace X3 := X3.below E1
              replace V3 := V3.below E1
              replace X5 := X5.below E1
              replace V5 := V5.below E1
              go_wp2_with fail
              refine hKc.out _ _ (⟨S.x0, S.xv, XW, X3, X5⟩) (fun hHeld => ?_)
              clear hKc Kc
              refine wpAnyH_take (i := 1) (v := (.bool true)) rfl (by kernel_rfl) (by kernel_rfl) (by kernel_rfl) (fun _ _ _ h => h) (Or.inl ⟨by rfl, ?_⟩) (by assumption) ?_
              · intro w' hSw
                go_simp
              simp only [List.getElem_toArray, List.getElem_cons_succ, List.getElem_cons_zero, Act.put, List.setIfInBounds_toArray, List.set_cons_zero, List.set_cons_succ]
              refine wpAnyH_take (i := 2) (v := (.int .i64 ea)) rfl (by kernel_rfl) (by kernel_rfl) (by kernel_rfl) (fun _ _ _ h => h) (Or.inl ⟨by rfl, ?_⟩) (by assumption) ?_
              · intro w' hSw
                go_simp
              simp only [List.getElem_toArray, List.getElem_cons_succ, List.getElem_cons_zero, Act.put, List.setIfInBounds_toArray, List.set_cons_zero, List.set_cons_succ]
              refine wpAnyH_take (i := 3) (v := (.int .i64 ea)) rfl (by kernel_rfl) (by kernel_rfl) (by kernel_rfl) (fun _ _ _ h => h) (Or.inl ⟨by rfl, ?_⟩) (by assumption) ?_
              · intro w' hSw
                go_simp
              simp only [List.getElem_toArray, List.getElem_cons_succ, List.getElem_cons_zero, Act.put, List.setIfInBounds_toArray, List.set_cons_zero, List.set_cons_succ]
              refine wpAnyH_take (i := 4) (v := (.bool true)) rfl (by kernel_rfl) (by kernel_rfl) (by kernel_rfl) (fun _ _ _ h => h) (Or.inl ⟨by rfl, ?_⟩) (by assumption) ?_
              · intro w' hSw
                go_simp
              simp only [List.getElem_toArray, List.getElem_cons_succ, List.getElem_cons_zero, Act.put, List.setIfInBounds_toArray, List.set_cons_zero, List.set_cons_succ]
              refine wpAnyH_take (i := 5) (v := (.bool true)) rfl (by kernel_rfl) (by kernel_rfl) (by kernel_rfl) (fun _ _ _ h => h) (Or.inl ⟨by rfl, ?_⟩) (by assumption) ?_
              · intro w' hSw
                go_simp
              simp only [List.getElem_toArray, List.getElem_cons_succ, List.getElem_cons_zero, Act.put, List.setIfInBounds_toArray, List.set_cons_zero, List.set_cons_succ]
              refine wpAnyH_take (i := 6) (v := (.bool true)) rfl (by kernel_rfl) (by kernel_rfl) (by kernel_rfl) (fun _ _ _ h => h) (Or.inl ⟨by rfl, ?_⟩) (by assumption) ?_
              · intro w' hSw
                go_simp
              simp only [List.getElem_toArray, List.getElem_cons_succ, List.getElem_cons_zero, Act.put, List.setIfInBounds_toArray, List.set_cons_zero, List.set_cons_succ]
              refine wpAnyH_take (i := 7) (v := (.agg cw)) rfl (by kernel_rfl) (by kernel_rfl) (by kernel_rfl) (fun _ _ _ h => h) (Or.inl ⟨by rfl, ?_⟩) (by assumption) ?_
              · intro w' hSw
                exact yield_row 42 _ rfl w6.heap.size rfl cw (load_v hSw.2.1 siz2)
              simp only [List.getElem_toArray, List.getElem_cons_succ, List.getElem_cons_zero, Act.put, List.setIfInBounds_toArray, List.set_cons_zero, List.set_cons_succ]
              refine wpAnyH_take (i := 9) (v := (.agg #[t1.v, k1.v, u1.v])) rfl (by kernel_rfl) (by kernel_rfl) (by kernel_rfl) (fun _ _ _ h => h) (Or.inl ⟨by rfl, ?_⟩) (by assumption) ?_
              · intro w' hSw
                exact yield_row 46 _ rfl w8.heap.size rfl _ (load_was hSw.2.2.1)
              simp only [List.getElem_toArray, List.getElem_cons_succ, List.getElem_cons_zero, Act.put, List.setIfInBounds_toArray, List.set_cons_zero, List.set_cons_succ]
              refine wpAnyH_ready (rs := [8]) (by kernel_rfl) (by simp) ?_
              refine AllReadyH.cons rfl (fun Kc hKc => ?_) AllReadyH.nil
              simp only [List.getElem_toArray, List.getElem_cons_succ, List.getElem_cons_zero]
              rw [if_pos (by rfl)]
              go_wp2_with fail
              have TD := told9_fit V D L v2 X x1 S.vw hfit hD32 hL4
              rw [hcw] at TD
              refine TD.mono ?_
              rintro e x2 ⟨t9, k9, u9, rfl, T9, E2⟩
              replace S := S.below E2
              replace XW := XW.below E2
              replace TA := TA.below E2
              replace X3 := X3.below E2
              replace V3 := V3.below E2
              replace X5 := X5.below E2
              replace V5 := V5.below E2
              go_wp2_with fail
              refine hKc.out _ _ (⟨S.x0, S.xv, XW, X3, X5⟩) (fun hHeld => ?_)
              clear hKc Kc
              refine wpAnyH_ready (rs := [10]) (by kernel_rfl) (by simp) ?_
              refine AllReadyH.cons rfl (fun Kc hKc => ?_) AllReadyH.nil
              simp only [List.getElem_toArray, List.getElem_cons_succ, List.getElem_cons_zero]
              rw [if_pos (by rfl)]
              go_wp2_with fail
              refine (viewSame_eq t9 k9 u9 t1 k1 u1 X x2 T9 TA).mono ?_
              rintro e x3 ⟨rfl, E3⟩
              clear TD T9
              replace S := S.below E3
              replace XW := XW.below E3
              replace TA := TA.below E3
              replace X3 := X3.below E3
              replace V3 := V3.below E3
              replace X5 := X5.below E3
              replace V5 := V5.below E3
              go_wp2_with fail
              refine hKc.out _ _ (⟨S.x0, S.xv, XW, X3, X5⟩) (fun hHeld => ?_)
              clear hKc Kc
              refine wpAnyH_take (i := 11) (v := (.bool true)) rfl (by kernel_rfl) (by kernel_rfl) (by kernel_rfl) (fun _ _ _ h => h) (Or.inl ⟨by rfl, ?_⟩) (by assumption) ?_
              · intro w' hSw
                go_simp
              simp only [List.getElem_toArray, List.getElem_cons_succ, List.getElem_cons_zero, Act.put, List.setIfInBounds_toArray, List.set_cons_zero, List.set_cons_succ]
              refine wpAnyH_take (i := 12) (v := (.bool true)) rfl (by kernel_rfl) (by kernel_rfl) (by kernel_rfl) (fun _ _ _ h => h) (Or.inl ⟨by rfl, ?_⟩) (by assumption) ?_
              · intro w' hSw
                go_simp
              simp only [List.getElem_toArray, List.getElem_cons_succ, List.getElem_cons_zero, Act.put, List.setIfInBounds_toArray, List.set_cons_zero, List.set_cons_succ]
              refine wpAnyH_take (i := 13) (v := (.agg v3.cells)) rfl (by kernel_rfl) (by kernel_rfl) (by kernel_rfl) (fun _ _ _ h => h) (Or.inl ⟨by rfl, ?_⟩) (by assumption) ?_
              · intro w' hSw
                exact yield_row 42 _ rfl w9e.heap.size rfl _ (load_v hSw.2.2.2.1 siz9)
              simp only [List.getElem_toArray, List.getElem_cons_succ, List.getElem_cons_zero, Act.put, List.setIfInBounds_toArray, List.set_cons_zero, List.set_cons_succ]
              refine wpAnyH_take (i := 15) (v := (.agg v5.cells)) rfl (by kernel_rfl) (by kernel_rfl) (by kernel_rfl) (fun _ _ _ h => h) (Or.inl ⟨by rfl, ?_⟩) (by assumption) ?_
              · intro w' hSw
                exact yield_row 42 _ rfl w29e.heap.size rfl _ (load_v hSw.2.2.2.2 siz29)
              simp only [List.getElem_toArray, List.getElem_cons_succ, List.getElem_cons_zero, Act.put, List.setIfInBounds_toArray, List.set_cons_zero, List.set_cons_succ]
              refine wpAnyH_ready (rs := [14]) (by kernel_rfl) (by simp) ?_
              refine AllReadyH.cons rfl (fun Kc hKc => ?_) AllReadyH.nil
              simp only [List.getElem_toArray, List.getElem_cons_succ, List.getElem_cons_zero]
              rw [if_pos (by rfl)]
              go_wp2_with fail
              refine (told9_fit V D L v3 _ x3 V3 fitA hD32 hL4).mono ?_
              rintro e x4 ⟨t4, k4, u4, rfl, T4, E4⟩
              replace S := S.below E4
              replace XW := XW.below E4
              replace TA := TA.below E4
              replace X3 := X3.below E4
              replace V3 := V3.below E4
              replace X5 := X5.below E4
              replace V5 := V5.below E4
              go_wp2_with fail
              refine hKc.out _ _ (⟨S.x0, S.xv, XW, X3, X5⟩) (fun hHeld => ?_)
              clear hKc Kc
              refine wpAnyH_ready (rs := [16]) (by kernel_rfl) (by simp) ?_
              refine AllReadyH.cons rfl (fun Kc hKc => ?_) AllReadyH.nil
              simp only [List.getElem_toArray, List.getElem_cons_succ, List.getElem_cons_zero]
              rw [if_pos (by rfl)]
              go_wp2_with fail
              refine (told9_fit V D L v5 _ x4 V5 fitA hD32 hL4).mono ?_
              rintro e x5 ⟨t5, k5, u5, rfl, T5, E5⟩
              replace T4 := T4.below E5
              replace S := S.below E5
              replace XW := XW.below E5
              replace TA := TA.below E5
              replace X3 := X3.below E5
              replace V3 := V3.below E5
              replace X5 := X5.below E5
              replace V5 := V5.below E5
              go_wp2_with fail
              refine hKc.out _ _ (⟨S.x0, S.xv, XW, X3, X5⟩) (fun hHeld => ?_)
              clear hKc Kc
              refine wpAnyH_ready (rs := [17]) (by kernel_rfl) (by simp) ?_
              refine AllReadyH.cons rfl (fun Kc hKc => ?_) AllReadyH.nil
              simp only [List.getElem_toArray, List.getElem_cons_succ, List.getElem_cons_zero]
              rw [if_pos (by rfl)]
              go_wp2_with fail
              refine (viewSame_eq t4 k4 u4 t5 k5 u5 _ x5 T4 T5).mono ?_
              rintro e x6 ⟨rfl, E6⟩
              replace S := S.below E6
              replace XW := XW.below E6
              replace TA := TA.below E6
              replace X3 := X3.below E6
              replace V3 := V3.below E6
              replace X5 := X5.below E6
              replace V5 := V5.below E6
              go_wp2_with fail
              refine hKc.out _ _ (⟨S.x0, S.xv, XW, X3, X5⟩) (fun hHeld => ?_)
              clear hKc Kc
              refine wpAnyH_take (i := 18) (v := (.bool true)) rfl (by kernel_rfl) (by kernel_rfl) (by kernel_rfl) (fun _ _ _ h => h) (Or.inl ⟨by rfl, ?_⟩) (by assumption) ?_
              · intro w' hSw
                go_simp
              simp only [List.getElem_toArray, List.getElem_cons_succ, List.getElem_cons_zero, Act.put, List.setIfInBounds_toArray, List.set_cons_zero, List.set_cons_succ]
              refine wpAnyH_take (i := 19) (v := (.bool true)) rfl (by kernel_rfl) (by kernel_rfl) (by kernel_rfl) (fun _ _ _ h => h) (Or.inl ⟨by rfl, ?_⟩) (by assumption) ?_
              · intro w' hSw
                go_simp
              simp only [List.getElem_toArray, List.getElem_cons_succ, List.getElem_cons_zero, Act.put, List.setIfInBounds_toArray, List.set_cons_zero, List.set_cons_succ]
              refine wpAnyH_take (i := 20) (v := (.int .i64 7)) rfl (by kernel_rfl) (by kernel_rfl) (by kernel_rfl) (fun _ _ _ h => h) (Or.inl ⟨by rfl, ?_⟩) (by assumption) ?_
              · intro w' hSw
                go_simp
              simp only [List.getElem_toArray, List.getElem_cons_succ, List.getElem_cons_zero, Act.put, List.setIfInBounds_toArray, List.set_cons_zero, List.set_cons_succ]
              refine wpAnyH_take (i := 21) (v := (.bool false)) rfl (by kernel_rfl) (by kernel_rfl) (by kernel_rfl) (fun _ _ _ h => h) (Or.inl ⟨by rfl, ?_⟩) (by assumption) ?_
              · intro w' hSw
                go_simp
              simp only [List.getElem_toArray, List.getElem_cons_succ, List.getElem_cons_zero, Act.put, List.setIfInBounds_toArray, List.set_cons_zero, List.set_cons_succ]
              refine wpAnyH_take (i := 22) (v := (.bool false)) rfl (by kernel_rfl) (by kernel_rfl) (by kernel_rfl) (fun _ _ _ h => h) (Or.inl ⟨by rfl, ?_⟩) (by assumption) ?_
              · intro w' hSw
                go_simp
              simp only [List.getElem_toArray, List.getElem_cons_succ, List.getElem_cons_zero, Act.put, List.setIfInBounds_toArray, List.set_cons_zero, List.set_cons_succ]
              refine wpAnyH_take (i := 23) (v := (.int .i64 b)) rfl (by kernel_rfl) (by kernel_rfl) (by kernel_rfl) (fun _ _ _ h => h) (Or.inl ⟨by rfl, ?_⟩) (by assumption) ?_
              · intro w' hSw
                go_simp
              simp only [List.getElem_toArray, List.getElem_cons_succ, List.getElem_cons_zero, Act.put, List.setIfInBounds_toArray, List.set_cons_zero, List.set_cons_succ]
              refine wpAnyH_take (i := 24) (v := (.bool false)) rfl (by kernel_rfl) (by kernel_rfl) (by kernel_rfl) (fun _ _ _ h => h) (Or.inl ⟨by rfl, ?_⟩) (by assumption) ?_
              · intro w' hSw
                go_simp
              simp only [List.getElem_toArray, List.getElem_cons_succ, List.getElem_cons_zero, Act.put, List.setIfInBounds_toArray, List.set_cons_zero, List.set_cons_succ]
              refine wpAnyH_take (i := 25) (v := (.bool false)) rfl (by kernel_rfl) (by kernel_rfl) (by kernel_rfl) (fun _ _ _ h => h) (Or.inl ⟨by rfl, ?_⟩) (by assumption) ?_
              · intro w' hSw
                go_simp
              simp only [List.getElem_toArray, List.getElem_cons_succ, List.getElem_cons_zero, Act.put, List.setIfInBounds_toArray, List.set_cons_zero, List.set_cons_succ]
              refine wpAnyH_take (i := 26) (v := (.bool false)) rfl (by kernel_rfl) (by kernel_rfl) (by kernel_rfl) (fun _ _ _ h => h) (Or.inl ⟨by rfl, ?_⟩) (by assumption) ?_
              · intro w' hSw
                go_simp
              simp only [List.getElem_toArray, List.getElem_cons_succ, List.getElem_cons_zero, Act.put, List.setIfInBounds_toArray, List.set_cons_zero, List.set_cons_succ]
              refine wpAnyH_take (i := 27) (v := (.int .i64 b)) rfl (by kernel_rfl) (by kernel_rfl) (by kernel_rfl) (fun _ _ _ h => h) (Or.inl ⟨by rfl, ?_⟩) (by assumption) ?_
              · intro w' hSw
                go_simp
              simp only [List.getElem_toArray, List.getElem_cons_succ, List.getElem_cons_zero, Act.put, List.setIfInBounds_toArray, List.set_cons_zero, List.set_cons_succ]
              refine wpAnyH_take (i := 28) (v := (.pointer (some ⟨w.heap.size, 0, none⟩))) rfl (by kernel_rfl) (by kernel_rfl) (by kernel_rfl) (fun _ _ _ h => h) (Or.inl ⟨by rfl, ?_⟩) (by assumption) ?_
              · intro w' hSw
                go_simp
              simp only [List.getElem_toArray, List.getElem_cons_succ, List.getElem_cons_zero, Act.put, List.setIfInBounds_toArray, List.set_cons_zero, List.set_cons_succ]
              refine wpAnyH_take (i := 29) (v := (.int .i64 (V : Int))) rfl (by kernel_rfl) (by kernel_rfl) (by kernel_rfl) (fun _ _ _ h => h) (Or.inl ⟨by rfl, ?_⟩) (by assumption) ?_
              · intro w' hSw
                have cc0 : w'.cell? ⟨w.heap.size, 0, none⟩ = some (.int .i64 (V : Int)) := hSw.1.cell 0 rfl
                go_simp
              simp only [List.getElem_toArray, List.getElem_cons_succ, List.getElem_cons_zero, Act.put, List.setIfInBounds_toArray, List.set_cons_zero, List.set_cons_succ]
              refine wpAnyH_take (i := 30) (v := (.bool true)) rfl (by kernel_rfl) (by kernel_rfl) (by kernel_rfl) (fun _ _ _ h => h) (Or.inl ⟨by rfl, ?_⟩) (by assumption) ?_
              · intro w' hSw
                go_simp
              simp only [List.getElem_toArray, List.getElem_cons_succ, List.getElem_cons_zero, Act.put, List.setIfInBounds_toArray, List.set_cons_zero, List.set_cons_succ]
              refine wpAnyH_take (i := 31) (v := (.bool true)) rfl (by kernel_rfl) (by kernel_rfl) (by kernel_rfl) (fun _ _ _ h => h) (Or.inl ⟨by rfl, ?_⟩) (by assumption) ?_
              · intro w' hSw
                go_simp
              simp only [List.getElem_toArray, List.getElem_cons_succ, List.getElem_cons_zero, Act.put, List.setIfInBounds_toArray, List.set_cons_zero, List.set_cons_succ]
              refine wpAnyH_take (i := 32) (v := (.bool true)) rfl (by kernel_rfl) (by kernel_rfl) (by kernel_rfl) (fun _ _ _ h => h) (Or.inl ⟨by rfl, ?_⟩) (by assumption) ?_
              · intro w' hSw
                go_simp
              simp only [List.getElem_toArray, List.getElem_cons_succ, List.getElem_cons_zero, Act.put, List.setIfInBounds_toArray, List.set_cons_zero, List.set_cons_succ]
              refine wpAnyH_take (i := 33) (v := (.bool true)) rfl (by kernel_rfl) (by kernel_rfl) (by kernel_rfl) (fun _ _ _ h => h) (Or.inl ⟨by rfl, ?_⟩) (by assumption) ?_
              · intro w' hSw
                go_simp
              simp only [List.getElem_toArray, List.getElem_cons_succ, List.getElem_cons_zero, Act.put, List.setIfInBounds_toArray, List.set_cons_zero, List.set_cons_succ]
              refine wpAnyH_done (by kernel_rfl) ?_ _
              go_wp2
              go_ret
              exact ⟨rfl, S.kp⟩
  · have hq' : (q == 0) = false := by simpa using hq
    go_wp2_with (refine wpList_store_row rfl 32 _ _ rfl w2.heap.size ws rfl rfl 32 _ XZ (by rw [siz]; exact Tryd.infoW) (by rw [siz]; rfl) one ?_; rw [hwy])
    go_wp2_with fail
    refine (CW _ D3).mono ?_
    rintro e wq ⟨rfl, Bq⟩
    go_wp2
    go_ret
    exact ⟨rfl, below_then D3 Bq⟩
end Go.Proofs.YthmpfmclbmhkfaaDoor

/- The given statement on StepKeeps: at every input the law returns true and its arguments read as before; the listed table lies as the program's text lays it (the card ties it). -/
namespace Go.Proofs.YthmpfmclbmhkfaaDoor.stepKeeps
open Go.ChangeShapes Go.WideShapes Go.ChangeAt Go.WideMaps Go.WideElems Go.RowKit
set_option linter.unusedVariables false
abbrev lst : List (String × DataW Unit) := Rows.stepKeepsRow.laid
theorem door_met (os : Os) (args : Array Value) : laidMetH Tryd.prog lst ((World.doorLaid Tryd.prog 14 os).forCall (fun _ _ => 0) ⟨#[], args, []⟩).memory :=
  laidMetH_of_parts3 (fuel := 8) (laidMet_of_run' 8 (by kernel_rfl) (by kernel_rfl)) (by kernel_rfl) (by kernel_rfl)
set_option maxRecDepth 100000 in
theorem lifted (os : Os) (started : os.Started) (H : Type) (enc : TypeId × Value → H) :
    ReturnsInHanded {} Tryd.checked os 3 .any (fun w args => (Rows.stepKeepsSpec.pre enc Tryd.prog Tryd.f3 [] false w args ∧ laidMetH Tryd.prog lst w) ∧ sizedMet enc Tryd.prog Tryd.f3 (OpenSpec.ofChange Rows.stepKeepsSpec) false w args)
      (Rows.stepKeepsSpec.post enc Tryd.prog Tryd.f3 false true false false) := by
  refine returnsInHanded_of_change_and (C := Tryd.checked) (X := fun w _ => laidMetH Tryd.prog lst w) (fun _ _ _ hh h => h.of_heap hh) Tryd.own started (by kernel_rfl) Tryd.func3
    (ChangeSpec.witness_shaped (enc := enc) (C := Tryd.checked) (os := os) (X := fun w _ => laidMetH Tryd.prog lst w) false (World.doorLaid Tryd.prog 14 os) #[.agg #[.int .i64 0, .int .i64 0, .int .i64 0, .int .i64 0, .int .i64 0], .int .u64 0, .slice none 0 0, .int .i64 0, .int .i64 0] 8 rfl (World.shaped_of_RefB (by kernel_rfl) (by kernel_rfl)) (by kernel_rfl) (by kernel_rfl) (by kernel_rfl) (door_met os _)) ?_
  intro W base args ds gs before hval0 hW _ _ hL _
  have hval : ∀ (j : Nat) t v, Tryd.f3.params[j]? = some t → args[j]? = some v → Value.okWide Tryd.prog W .any base t v := hval0
  have hW' := hW
  obtain ⟨p, q, hA0, hV, rfl, _, _⟩ := hW
  have hA : DataW.TrodAll enc Tryd.prog W 0 (fun _ => true) true Tryd.f3.params.toList args.toList ds p := hA0
  rw [Tryd.params3] at hA hval
  obtain ⟨v0, vs0, d0, ds0, p0, q0, hargs, rfl, rfl, h0, r0⟩ := trodAll_cons hA
  obtain ⟨v1, vs1, d1, ds1, p1, q1, rfl, rfl, rfl, h1, r1⟩ := trodAll_cons r0
  obtain ⟨v2, vs2, d2, ds2, p2, q2, rfl, rfl, rfl, h2, r2⟩ := trodAll_cons r1
  obtain ⟨v3, vs3, d3, ds3, p3, q3, rfl, rfl, rfl, h3, r3⟩ := trodAll_cons r2
  obtain ⟨v4, vs4, d4, ds4, p4, q4, rfl, rfl, rfl, h4, r4⟩ := trodAll_cons r3
  obtain ⟨rfl, rfl, rfl⟩ := trodAll_nil r4
  obtain rfl : args = #[v0, v1, v2, v3, v4] := by cases args; simp_all
  obtain ⟨rfl, rfl⟩ := trodVars_none hV
  have k0 := h0
  obtain ⟨C0, rfl, g0⟩ := viewCfg (hval 0 _ v0 rfl rfl) h0
  have k1 := h1
  obtain ⟨a1, rfl, rfl, rfl, w1⟩ := open_int Tryd.underlying24 (hval 1 24 v1 rfl rfl) h1
  have b1 := bounds_u64 w1
  have k2 := h2
  obtain ⟨a2, n2, c2, Z2, rfl, g2⟩ := viewI (hval 2 _ v2 rfl rfl) h2
  have k3 := h3
  obtain ⟨a3, rfl, rfl, rfl, w3⟩ := open_int Tryd.underlying3 (hval 3 3 v3 rfl rfl) h3
  have b3 := bounds_i64 w3
  have k4 := h4
  obtain ⟨a4, rfl, rfl, rfl, w4⟩ := open_int Tryd.underlying3 (hval 4 3 v4 rfl rfl) h4
  have b4 := bounds_i64 w4
  clear hA0 hval0
  simp only [List.append_nil] at hW'
  have hlt : ∀ x ∈ p0 ++ p2, x.block < W.heap.size := fun x hx => by
    have hx2 := hx
    exact hW'.lt x (by grind)
  refine (stepKeeps_walk C0 a1 a2 n2 c2 Z2 a3 a4 W g0 b1 g2 b3 b4 (tab_of_laid hL)).mono fun e W' ⟨he, hb⟩ => ?_
  subst he
  exact ⟨_, rfl, _, _, _, [], _, [], hW', trodAll_mk1 (shut_bool Tryd.underlying4 true), trodAll_cons_mk (Below.trod Tryd.laidOut (by kernel_rfl) (of_decide_eq_true (by kernel_rfl)) k0 hb (fun x hx => hlt x (by simp [hx]))) (trodAll_cons_mk (shut_int Tryd.underlying24 w1) (trodAll_cons_mk (Below.trod Tryd.laidOut (by kernel_rfl) (of_decide_eq_true (by kernel_rfl)) k2 hb (fun x hx => hlt x (by simp [hx]))) (trodAll_cons_mk (shut_int Tryd.underlying3 w3) (trodAll_cons_mk (shut_int Tryd.underlying3 w4) trodAll_mk0)))), rfl, hb.frame _, fun h => by cases h⟩
theorem row_holds : Rows.StepKeepsSaid :=
  OpenClaim.holds_of_wide 3 Tryd.f3 rfl rfl rfl rfl rfl rfl rfl ⟨rfl, rfl, rfl, rfl, rfl⟩ rfl rfl rfl rfl rfl (by kernel_rfl) Tryd.func3 (by kernel_rfl)
    (of_decide_eq_true (by kernel_rfl)) (by unfold Func.isWrapper; first | (rw [if_pos (by decide +kernel)]; kernel_rfl) | (rw [if_neg (by decide +kernel)]; exact ⟨rfl, rfl⟩))
    (fun os started H enc _ => lifted os started H enc)
/-- The given statement. -/
theorem card_holds : Rows.StepKeepsCardSaid :=
  Claim7.holds_tied_plain_at .later [] [.data] true (true, "85a4cf77923b619ea0e03e379116a15a33bb42dfd728ab091d2259ddd69a9c40") false
    row_holds (fun _ h => by cases h) (by kernel_rfl) (fun _ h => by cases h) stepKeeps_row_tie rfl ⟨rfl, rfl⟩ (by kernel_rfl) rfl
    (fun f fn hf hfn => by
      obtain rfl : f = 3 := Option.some.inj ((show Tryd.prog.funcNamed Rows.stepKeepsRow.func = some 3 by kernel_rfl).symm.trans hf) |>.symm
      obtain rfl : fn = Tryd.f3 := (Option.some.inj (Tryd.func3.symm.trans hfn)).symm
      exact ⟨by kernel_rfl, fun j t ht => by
        rw [Tryd.params3] at ht
        have hm : t ∈ [23, 24, 25, 3, 3] := by simpa using Array.mem_of_getElem? ht
        have hall : ([23, 24, 25, 3, 3].all fun u => !Tryd.prog.wantsStandIn u) = true := by kernel_rfl
        exact (show Tryd.prog.wantsStandIn t = false by simpa using List.all_eq_true.1 hall t hm)⟩)
    (by kernel_rfl)
end Go.Proofs.YthmpfmclbmhkfaaDoor.stepKeeps
namespace Go.Proofs.YthmpfmclbmhkfaaDoor
theorem stepKeeps_holds : Rows.StepKeepsCardSaid := stepKeeps.card_holds
#print axioms stepKeeps_holds
end Go.Proofs.YthmpfmclbmhkfaaDoor
