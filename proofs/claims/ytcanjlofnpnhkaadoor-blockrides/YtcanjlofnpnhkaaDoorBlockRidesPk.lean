/- The given statement on BlockRides: at every input the law returns true and its arguments read as before; the listed table lies as the program's text lays it (the card ties it). -/
import Derived.Test.YtcanjlofnpnhkaaDoorPk10
import Derived.Test.YtcanjlofnpnhkaaDoorPk11
import Derived.Test.YtcanjlofnpnhkaaDoorPk7
import Derived.Test.YtcanjlofnpnhkaaDoorRows
import Derived.Test.YtcanjlofnpnhkaaDoorCards
import Derived.Test.YtcanjlofnpnhkaaDoorTie
import Derived.Test.YtcanjlofnpnhkaaDoorPk3
import Derived.ProofKit
import Derived.Carry
import Derived.LaidMore
import Derived.OpenShut
import Derived.Stop.Joined
import Derived.SevenTiedAt
/- Package block: BlockRides: the walk. -/
namespace Go.Proofs.YtcanjlofnpnhkaaDoor
open Go.ChangeShapes Go.WideShapes Go.ChangeAt Go.RowKit
theorem ownPg_empty (w : World) (s : Nat) : OwnPg (w.alloc (.cells #[] 49)) w.heap.size s (.slice (some ⟨w.heap.size, 0, none⟩) 0 0) [] :=
  ⟨[], ⟨rfl, Or.inr ⟨w.heap.size, 0, #[], rfl, Nat.le_refl _, heap_alloc_new _ _, Nat.le_refl _, by decide, rfl, rfl⟩⟩, rfl, fun t X h => by simp at h⟩
theorem pages_F (X : Vw) (page : Nat) : ∀ k, k * page ≤ 4096 → ∀ b ∈ pagesOf X page k, -9223372036854775808 ≤ b.F ∧ b.F ≤ 9223372036854775807
  | 0, _, b, hb => by cases hb
  | k + 1, h, b, hb => by
    have h2 : (k + 1) * page = k * page + page := Nat.succ_mul k page
    rcases List.mem_append.1 (show b ∈ pagesOf X page k ++ [pgOf X (k * page) (min ((k + 1) * page) X.T.length)] from hb) with q | q
    · exact pages_F X page k (by omega) b q
    · rw [List.mem_singleton] at q
      subst q
      show -9223372036854775808 ≤ ((k * page : Nat) : Int) ∧ ((k * page : Nat) : Int) ≤ 9223372036854775807
      omega
/-- What is liked behind a token. -/
def likZ (M : Mdl) (V D H Hd L : Nat) (X : Vw) (tok : Int) : List Int := if tokB V tok = true then likR M V D (feedX M D H Hd L X tok.toNat) else []
/-- Feed at any token, with what it likes. -/
theorem feedL_any (V D Hd H L : Nat) (W : Wt) (bs : List Bk) (M : Mdl) (v : VwV) (X : Vw) (tok : Int) (w : World) (hT : Tab w) (hl : X.T.length ≤ 127) (hG : Good w V D Hd H L W bs M) (hv : VwAt w v X) (hf : VwFit V D L X) :
   Calls Tryd.prog 14 #[.agg (cfgC V D Hd H L), .agg W.cells, .agg v.cells, .int .i64 tok] w fun e w' => ∃ vv ao, e = .returned (.tuple #[.agg (VwV.cells vv), .slice ao (likZ M V D H Hd L X tok).length (likZ M V D H Hd L X tok).length, .int .i64 (fErr V tok)]) ∧ RowAt w' ao (likZ M V D H Hd L X tok).length (likZ M V D H Hd L X tok) ∧ Below w.heap.size w w' := by
  unfold fErr likZ
  by_cases ht : tokB V tok = true
  · rw [if_pos ht, if_pos ht]
    have h2 : 0 ≤ tok ∧ tok < V := by unfold tokB at ht; simpa using ht
    obtain ⟨t, rfl⟩ : ∃ t : Nat, tok = t := ⟨tok.toNat, by omega⟩
    refine (feed_ok V D Hd H L W bs M v X t w hT hl (by omega) hG hv hf).mono ?_
    rintro e w' ⟨vv, g, rfl, N, F, B⟩
    have hl := F.len
    exact ⟨vv, _, by rw [show ((t : Int)).toNat = t by omega, hl], by rw [show ((t : Int)).toNat = t by omega, hl]; exact F.rowAt, B⟩
  · rw [if_neg ht, if_neg ht]
    refine (feed_tok V D Hd H L W bs M v X tok w hl (by simpa using ht) hG hv hf).mono ?_
    rintro e w' ⟨rfl, B⟩
    exact ⟨⟨⟨none, 0, 0⟩, ⟨none, 0, 0⟩, ⟨none, 0, 0⟩⟩, none, rfl, RowAt.nil _ _, B⟩
set_option maxRecDepth 100000 in
set_option maxHeartbeats 32000000 in
theorem blockRides_walk (C : Cfg) (sd : Int) (a1 : Option Addr) (n1 c1 : Nat) (Z1 : List Int) (pg nx : Int) (w : World) (hC : C.Ok) (bs : 0 ≤ sd ∧ sd ≤ 18446744073709551615) (h1 : IArg w a1 n1 c1 Z1) (bpg : -9223372036854775808 ≤ pg ∧ pg ≤ 9223372036854775807) (_bnx : -9223372036854775808 ≤ nx ∧ nx ≤ 9223372036854775807) (hT : Tab w) :
   Calls Tryd.prog 3 #[C.val, .int .u64 sd, .slice a1 n1 c1, .int .i64 pg, .int .i64 nx] w fun e w' => e = .returned (.bool true) ∧ Below w.heap.size w w' := by
  obtain ⟨seed, rfl⟩ : ∃ n : Nat, sd = n := ⟨sd.toNat, by omega⟩
  have hsd : seed < 18446744073709551616 := by omega
  clear bs
  have HT : Hid (∀ wv, Below w.heap.size w wv → Tab wv) := fun wv hb => hT.next hb
  have CW := fun (wv : World) (hb : Below w.heap.size w wv) => (fun (w : World) (_ : Tab w) => awake11_any w) wv (HT.out wv hb)
  have CF1 := fun (wv : World) (hb : Below w.heap.size w wv) => few8_any a1 n1 c1 Z1 8 wv (h1.below hb) (by omega)
  have s1 : ∀ k, -9223372036854775808 ≤ el (Z1.take 8) k ∧ el (Z1.take 8) k ≤ 9223372036854775807 := fun k => by
    rcases Nat.lt_or_ge k 8 with h | h
    · rw [el_take h]; exact h1.row.small k
    · rw [el_over (by rw [List.length_take]; omega)]; omega
  have hP8 : (Z1.take 8).length ≤ 8 := by rw [List.length_take]; omega
  have M0 := fun wv => make_gen C hC seed hsd wv
  have CS := fun wv => small8_any C.V C.D C.Hd C.H C.L wv
  have hu : ∀ C : Cfg, cfgC C.V C.D C.Hd C.H C.L = #[.int .i64 C.V, .int .i64 C.D, .int .i64 C.Hd, .int .i64 C.H, .int .i64 C.L] := fun _ => rfl
  unfold Cfg.val at *
  rw [hu] at M0 CS ⊢
  clear hT h1 hC
  have X0 := blk_new w 23 #[.int .i64 C.V, .int .i64 C.D, .int .i64 C.Hd, .int .i64 C.H, .int .i64 C.L]
  have B0 : Below w.heap.size w (w.alloc (.cells #[.int .i64 C.V, .int .i64 C.D, .int .i64 C.Hd, .int .i64 C.H, .int .i64 C.L] 23)) := (Below.refl _ _).alloc (Nat.le_refl _) _
  have z0 : w.heap.size < (w.alloc (.cells #[.int .i64 C.V, .int .i64 C.D, .int .i64 C.Hd, .int .i64 C.H, .int .i64 C.L] 23)).heap.size := by simp
  generalize hw0 : w.alloc (.cells #[.int .i64 C.V, .int .i64 C.D, .int .i64 C.Hd, .int .i64 C.H, .int .i64 C.L] 23) = w0 at *
  go_enter Tryd.func3, Tryd.ntmps3
  go_wp2_with fail
  refine (CF1 _ B0).mono ?_
  rintro e w1 ⟨b1, kq, rfl, O1, B1⟩
  generalize Z1.take 8 = P at *
  obtain ⟨l1, hl1⟩ : ∃ l1, P.length = l1 := ⟨_, rfl⟩
  have HL1 : Hid (P.length = l1) := hl1
  rw [hl1] at O1 hP8 ⊢
  clear hl1
  have D1 := below_then B0 B1
  replace X0 := X0.below B1
  clear hw0 CF1 B0 B1
  obtain ⟨x1, y1, e1, I1⟩ := IOwn.arg O1 s1
  simp only [Value.slice.injEq, true_and] at e1
  obtain ⟨rfl, rfl⟩ := e1
  have gw0 : w.heap.size < w0.heap.size := z0
  clear O1 z0
  have a0 : w1.cell? ⟨w.heap.size, 0, none⟩ = some (.int .i64 C.V) := X0.cell 0 rfl
  have a1 : w1.cell? ⟨w.heap.size, 1, none⟩ = some (.int .i64 C.D) := X0.cell 1 rfl
  have a2 : w1.cell? ⟨w.heap.size, 2, none⟩ = some (.int .i64 C.Hd) := X0.cell 2 rfl
  have a3 : w1.cell? ⟨w.heap.size, 3, none⟩ = some (.int .i64 C.H) := X0.cell 3 rfl
  have a4 : w1.cell? ⟨w.heap.size, 4, none⟩ = some (.int .i64 C.L) := X0.cell 4 rfl
  go_wp2_with fail
  refine (M0 w1).mono ?_
  rintro e w2 ⟨ws, q, rfl, MM, B2⟩
  replace X0 := X0.below B2
  replace I1 := I1.below B2
  have D2 := below_then D1 B2
  clear a0 a1 a2 a3 a4 B2 D1
  have siz := MM.size
  have one := MM.one
  have XZ := blk_new w2 32 #[.int .i64 0, .int .i64 0, .slice none 0 0, .slice none 0 0, .slice none 0 0, .int .i64 0, .int .i64 0, .slice none 0 0]
  have BZ : Below w2.heap.size w2 (w2.alloc (.cells #[.int .i64 0, .int .i64 0, .slice none 0 0, .slice none 0 0, .slice none 0 0, .int .i64 0, .int .i64 0, .slice none 0 0] 32)) := (Below.refl _ _).alloc (Nat.le_refl _) _
  generalize hwz : w2.alloc (.cells #[.int .i64 0, .int .i64 0, .slice none 0 0, .slice none 0 0, .slice none 0 0, .int .i64 0, .int .i64 0, .slice none 0 0] 32) = wz at *
  have X1 := XZ.row ws
  have BR := below_setRow BZ (Nat.le_refl _) ws
  generalize hwy : wz.setRow w2.heap.size ws = wy at *
  replace X0 := X0.below BR
  replace I1 := I1.below BR
  replace MM := MM.below BR
  have D3 := below_then D2 BR
  have a0 : wy.cell? ⟨w.heap.size, 0, none⟩ = some (.int .i64 C.V) := X0.cell 0 rfl
  have a1 : wy.cell? ⟨w.heap.size, 1, none⟩ = some (.int .i64 C.D) := X0.cell 1 rfl
  have a2 : wy.cell? ⟨w.heap.size, 2, none⟩ = some (.int .i64 C.Hd) := X0.cell 2 rfl
  have a3 : wy.cell? ⟨w.heap.size, 3, none⟩ = some (.int .i64 C.H) := X0.cell 3 rfl
  have a4 : wy.cell? ⟨w.heap.size, 4, none⟩ = some (.int .i64 C.L) := X0.cell 4 rfl
  by_cases hq : q = 0
  · subst hq
    obtain ⟨V, D, Hd, H, L, ge, gB, gl, go, e1, e2, e3, e4, e5, hcs, MW⟩ := MM.ok rfl
    have hsh : shapeN V D Hd H L = 0 := by rw [← e1, ← e2, ← e3, ← e4, ← e5]; exact MM.err.symm
    obtain ⟨bs, GD⟩ := made_good (Hd := Hd) MW hsh
    have hws : (mkW V D L ge gB gl go).cells = ws := by rw [hcs]; rfl
    obtain ⟨VV, DD, HHd, HH, LL⟩ := C
    simp only at e1 e2 e3 e4 e5
    subst e1 e2 e3 e4 e5
    have hk := shape_ok hsh
    have GD2 : Good wy V D Hd H L (mkW V D L ge gB gl go) bs (mdlS seed V D H L) := GD
    generalize mdlS seed V D H L = M at *
    generalize hWW : mkW V D L ge gB gl go = WW at *
    clear MM MW hcs GD hWW
    have AO := fun (vv : VwV) (X : Vw) (ao : Option Addr) (n ca : Nat) (A : List Int) (wv : World) (g1 : Tab wv) (g2 : Good wv V D Hd H L WW bs M) (g3 : VwAt wv vv X) (g4 : VwFit V D L X) (g5 : IArg wv ao n ca A) (g6 : promptN V A = 0) (g7 : X.T.length + A.length ≤ 128) => all_ok V D Hd H L WW bs M vv X ao n ca A wv g1 g2 g3 g4 g5 g6 g7
    have AB := fun (cv : Array Value) (ao : Option Addr) (n ca : Nat) (A : List Int) (wv : World) (g5 : IArg wv ao n ca A) (g6 : promptN V A ≠ 0) => all_bad V D Hd H L ws cv ao n ca A wv g5 g6
    have FD := fun (vv : VwV) (X : Vw) (tok : Int) (wv : World) (g1 : Tab wv) (gl : X.T.length ≤ 127) (g2 : Good wv V D Hd H L WW bs M) (g3 : VwAt wv vv X) (g4 : VwFit V D L X) => feedL_any V D Hd H L WW bs M vv X tok wv g1 gl g2 g3 g4
    rw [hws] at AO FD
    unfold cfgC at AO AB FD
    clear hws
    go_wp2_with (refine wpList_store_row rfl 32 _ _ rfl w2.heap.size ws rfl rfl 32 _ XZ (by rw [siz]; exact Tryd.infoW) (by rw [siz]; rfl) one ?_; rw [hwy])
    refine (CS _).mono ?_
    rintro e w4 ⟨rfl, B4⟩
    replace X0 := X0.below B4
    replace X1 := X1.below B4
    have AP := I1.below B4
    have G4 := GD2.below B4
    have D4 := below_then D3 B4
    clear a0 a1 a2 a3 a4 hwz hwy XZ BZ BR CS D2 D3 B4 I1 GD2
    generalize smallN (D : Int) (H : Int) (L : Int) = sq at *
    have a0 : w4.cell? ⟨w.heap.size, 0, none⟩ = some (.int .i64 (V : Int)) := X0.cell 0 rfl
    have a1 : w4.cell? ⟨w.heap.size, 1, none⟩ = some (.int .i64 (D : Int)) := X0.cell 1 rfl
    have a2 : w4.cell? ⟨w.heap.size, 2, none⟩ = some (.int .i64 (Hd : Int)) := X0.cell 2 rfl
    have a3 : w4.cell? ⟨w.heap.size, 3, none⟩ = some (.int .i64 (H : Int)) := X0.cell 3 rfl
    have a4 : w4.cell? ⟨w.heap.size, 4, none⟩ = some (.int .i64 (L : Int)) := X0.cell 4 rfl
    by_cases hs0 : sq = 0
    · subst hs0
      go_wp2_with fail
      refine (CW _ D4).mono ?_
      rintro e wq ⟨rfl, Bq⟩
      go_wp2
      go_ret
      exact ⟨rfl, below_then D4 Bq⟩
    · have hs0' : (sq == 0) = false := by simpa using hs0
      by_cases hqa : promptN V P = 0
      rotate_left
      · have A6 := AB #[.slice none 0 0, .slice none 0 0, .slice none 0 0] (some ⟨b1, 0, none⟩) l1 kq P w4 AP hqa
        unfold noV at A6
        generalize promptN V P = pq at *
        have hqb : (pq == 0) = false := by simpa using hqa
        go_wp2_with (refine wpList_load_row rfl 32 _ rfl w2.heap.size rfl 32 ws (0, 0) _ X1 Tryd.underlying32 rfl (by rw [siz]; exact Tryd.infoW) ?_)
        refine A6.mono ?_
        rintro e w6 ⟨rfl, B6⟩
        have D6 := below_then D4 B6
        obtain ⟨XE9, XF9, BF9, _⟩ := var3 w6 42 #[.slice none 0 0, .slice none 0 0, .slice none 0 0] #[.slice none 0 0, .slice none 0 0, .slice none 0 0]
        generalize hwe9 : w6.alloc (.cells #[.slice none 0 0, .slice none 0 0, .slice none 0 0] 42) = w9g at *
        generalize hwf9 : w9g.setRow w6.heap.size #[.slice none 0 0, .slice none 0 0, .slice none 0 0] = w9f at *
        have D7 := below_then D6 BF9
        clear a0 a1 a2 a3 a4 A6
        have X09 := (X0.below B6).below BF9
        have a0 : w9f.cell? ⟨w.heap.size, 0, none⟩ = some (.int .i64 (V : Int)) := X09.cell 0 rfl
        have a1 : w9f.cell? ⟨w.heap.size, 1, none⟩ = some (.int .i64 (D : Int)) := X09.cell 1 rfl
        have a2 : w9f.cell? ⟨w.heap.size, 2, none⟩ = some (.int .i64 (Hd : Int)) := X09.cell 2 rfl
        have a3 : w9f.cell? ⟨w.heap.size, 3, none⟩ = some (.int .i64 (H : Int)) := X09.cell 3 rfl
        have a4 : w9f.cell? ⟨w.heap.size, 4, none⟩ = some (.int .i64 (L : Int)) := X09.cell 4 rfl
        have y0 : w9f.cell? ⟨w6.heap.size, 0, none⟩ = some (.slice none 0 0) := XF9.cell 0 rfl
        have y1 : w9f.cell? ⟨w6.heap.size, 1, none⟩ = some (.slice none 0 0) := XF9.cell 1 rfl
        have y2 : w9f.cell? ⟨w6.heap.size, 2, none⟩ = some (.slice none 0 0) := XF9.cell 2 rfl
        clear X1 X0 XF9 X09
        by_cases hpg : pg < 1 ∨ 16 < pg
        · have SB := split_bad V D Hd H L none 0 0 none 0 0 none 0 0 pg w9f hpg
          unfold cfgC at SB
          go_wp2_with (refine wpList_store_row rfl 42 _ _ rfl w6.heap.size #[.slice none 0 0, .slice none 0 0, .slice none 0 0] rfl rfl 42 _ XE9 (by exact Tryd.infoV) rfl (by simp [Value.oneCell']) ?_; rw [hwf9])
          refine SB.mono ?_
          rintro e wa ⟨rfl, Ba⟩
          clear hwe9 hwf9 XE9 a0 a1 a2 a3 a4 y0 y1 y2 SB
          have Da := below_then D7 Ba
          go_wp2_with fail
          refine (CW _ Da).mono ?_
          rintro e wq ⟨rfl, Bq⟩
          go_wp2
          go_ret
          exact ⟨rfl, below_then Da Bq⟩
        · obtain ⟨pn, rfl⟩ : ∃ n : Nat, pg = (n : Int) := ⟨pg.toNat, by omega⟩
          have SG := split_any V D Hd H L ⟨⟨none, 0, 0⟩, ⟨none, 0, 0⟩, ⟨none, 0, 0⟩⟩ noX pn w9f (noV_at _) (noX_fit _ _ _) (by omega) (by omega) (by omega) (by omega)
          rw [show pageN noX.T.length pn = 0 from pageN_zero (by omega)] at SG
          unfold cfgC at SG
          rw [show VwV.cells ⟨⟨none, 0, 0⟩, ⟨none, 0, 0⟩, ⟨none, 0, 0⟩⟩ = #[.slice none 0 0, .slice none 0 0, .slice none 0 0] from rfl] at SG
          go_wp2_with (refine wpList_store_row rfl 42 _ _ rfl w6.heap.size #[.slice none 0 0, .slice none 0 0, .slice none 0 0] rfl rfl 42 _ XE9 (by exact Tryd.infoV) rfl (by simp [Value.oneCell']) ?_; rw [hwf9])
          refine SG.mono ?_
          rintro e wa ⟨ga, gc, rfl, _, Ba⟩
          clear hwe9 hwf9 XE9 a0 a1 a2 a3 a4 y0 y1 y2 SG
          have Da := below_then D7 Ba
          go_wp2_with fail
          refine (CW _ Da).mono ?_
          rintro e wq ⟨rfl, Bq⟩
          go_wp2
          go_ret
          exact ⟨rfl, below_then Da Bq⟩
      obtain ⟨pp1, pp2, pp3⟩ := prompt_ok hqa
      have hL1 := HL1.out
      obtain ⟨q1, q2, q3, q4, q5, q6, q7, q8, q9, q10⟩ := hk
      have hfit : VwFit (V : Int) D L (feedAll M D H Hd L noX P) := feedAll_fit (noX_fit _ _ _) pp3 (by show 0 + _ ≤ _; omega)
      have EM := (feed_full (M := M) (H := H) (Hd := Hd) pp3 pp1 pp2 (noX_fit (V : Int) D L)).1
      have A6 := AO ⟨⟨none, 0, 0⟩, ⟨none, 0, 0⟩, ⟨none, 0, 0⟩⟩ noX (some ⟨b1, 0, none⟩) l1 kq P w4 (HT.out _ D4) G4 (noV_at _) (noX_fit _ _ _) AP hqa (by show 0 + _ ≤ _; omega)
      unfold VwV.cells Sl.v at A6
      simp only at A6
      have hXT : (feedAll M D H Hd L noX P).T.length = l1 := by rw [EM]; exact hL1
      obtain ⟨X, hXe⟩ : ∃ X, X = feedAll M D H Hd L noX P := ⟨_, rfl⟩
      rw [← hXe] at A6 hfit hXT
      generalize likAt M V D H Hd L noX P P.length = LK at *
      clear hXe EM AO AB pp1 pp2 pp3 hqa hL1
      have hD32 : D ≤ 32 := by omega
      have hL4 : L ≤ 4 := by omega
      have hV64 : V ≤ 64 := by omega
      go_wp2_with (refine wpList_load_row rfl 32 _ rfl w2.heap.size rfl 32 ws (0, 0) _ X1 Tryd.underlying32 rfl (by rw [siz]; exact Tryd.infoW) ?_)
      refine A6.mono ?_
      rintro e w6 ⟨⟨⟨ta, tn, tz⟩, ⟨ka, kn, kz⟩, ⟨va, vn, vz⟩⟩, g6, rfl, N6, F6, B6⟩
      try simp only at N6
      have D6 := below_then D4 B6
      clear a0 a1 a2 a3 a4 A6 F6
      obtain ⟨XE6, XF6, BF6, _⟩ := var3 w6 42 #[.slice none 0 0, .slice none 0 0, .slice none 0 0] #[.slice ta tn tz, .slice ka kn kz, .slice va vn vz]
      generalize hwe6 : w6.alloc (.cells #[.slice none 0 0, .slice none 0 0, .slice none 0 0] 42) = w6g at *
      generalize hwf6 : w6g.setRow w6.heap.size #[.slice ta tn tz, .slice ka kn kz, .slice va vn vz] = w6f at *
      have X06 := (X0.below B6).below BF6
      have X16 := (X1.below B6).below BF6
      have VW := N6.now.below BF6
      have G6 := (G4.below B6).below BF6
      have D6f := below_then D6 BF6
      have a0 : w6f.cell? ⟨w.heap.size, 0, none⟩ = some (.int .i64 (V : Int)) := X06.cell 0 rfl
      have a1 : w6f.cell? ⟨w.heap.size, 1, none⟩ = some (.int .i64 (D : Int)) := X06.cell 1 rfl
      have a2 : w6f.cell? ⟨w.heap.size, 2, none⟩ = some (.int .i64 (Hd : Int)) := X06.cell 2 rfl
      have a3 : w6f.cell? ⟨w.heap.size, 3, none⟩ = some (.int .i64 (H : Int)) := X06.cell 3 rfl
      have a4 : w6f.cell? ⟨w.heap.size, 4, none⟩ = some (.int .i64 (L : Int)) := X06.cell 4 rfl
      have y0 : w6f.cell? ⟨w6.heap.size, 0, none⟩ = some (.slice ta tn tz) := XF6.cell 0 rfl
      have y1 : w6f.cell? ⟨w6.heap.size, 1, none⟩ = some (.slice ka kn kz) := XF6.cell 1 rfl
      have y2 : w6f.cell? ⟨w6.heap.size, 2, none⟩ = some (.slice va vn vz) := XF6.cell 2 rfl
      clear X0 X1 AP G4 N6 B6 D4 D6 BF6
      by_cases hpg : pg < 1 ∨ 16 < pg
      · have SB := split_bad V D Hd H L ta tn tz ka kn kz va vn vz pg w6f hpg
        unfold cfgC at SB
        go_wp2_with (refine wpList_store_row rfl 42 _ _ rfl w6.heap.size #[.slice ta tn tz, .slice ka kn kz, .slice va vn vz] rfl rfl 42 _ XE6 (by exact Tryd.infoV) rfl (by simp [Value.oneCell']) ?_; rw [hwf6])
        refine SB.mono ?_
        rintro e wa ⟨rfl, Ba⟩
        clear hwe6 hwf6 XE6 a0 a1 a2 a3 a4 y0 y1 y2 SB
        have Da := below_then D6f Ba
        go_wp2_with fail
        refine (CW _ Da).mono ?_
        rintro e wq ⟨rfl, Bq⟩
        go_wp2
        go_ret
        exact ⟨rfl, below_then Da Bq⟩
      obtain ⟨pn, rfl⟩ : ∃ n : Nat, pg = (n : Int) := ⟨pg.toNat, by omega⟩
      have hp1 : 1 ≤ pn := by omega
      have hp2 : pn ≤ 16 := by omega
      have SG := split_any V D Hd H L ⟨⟨ta, tn, tz⟩, ⟨ka, kn, kz⟩, ⟨va, vn, vz⟩⟩ X pn w6f VW hfit (by omega) (by omega) (by omega) (by omega)
      unfold cfgC at SG
      rw [show VwV.cells ⟨⟨ta, tn, tz⟩, ⟨ka, kn, kz⟩, ⟨va, vn, vz⟩⟩ = #[.slice ta tn tz, .slice ka kn kz, .slice va vn vz] from rfl] at SG
      obtain ⟨NP, hNP⟩ : ∃ NP, pageN X.T.length pn = NP := ⟨_, rfl⟩
      rw [hNP] at SG
      rw [hXT] at hNP
      have hNPl : NP ≤ l1 := by rw [← hNP]; exact pageN_le _ _ hp1
      have HNP : Hid (pageN l1 pn = NP) := hNP
      have HXT : Hid (X.T.length = l1) := hXT
      have hquo : ((l1 : Int) + (pn : Int) - 1).tdiv (pn : Int) = (NP : Int) := by rw [← hNP]; exact pageN_quo _ _ hp1
      have hpn0 : ((pn : Int) == 0) = false := by simp; omega
      clear hNP hXT hpg
      go_wp2_with (refine wpList_store_row rfl 42 _ _ rfl w6.heap.size #[.slice ta tn tz, .slice ka kn kz, .slice va vn vz] rfl rfl 42 _ XE6 (by exact Tryd.infoV) rfl (by simp [Value.oneCell']) ?_; rw [hwf6])
      refine SG.mono ?_
      rintro e w7 ⟨ga, gc, rfl, N7, B7⟩
      have PG := N7.now
      have X07 := X06.below B7
      have D7 := below_then D6f B7
      clear hwe6 hwf6 XE6 a0 a1 a2 a3 a4 y0 y1 y2 SG N7
      have HPG : Hid (∀ wv, Below w7.heap.size w7 wv → PgsAt wv ⟨ga, NP, gc⟩ (pagesOf X pn NP)) := fun wv hb => PG.below hb
      have HST : Hid (∀ wv, Below w7.heap.size w7 wv → Blk wv w.heap.size 23 #[.int .i64 (V : Int), .int .i64 (D : Int), .int .i64 (Hd : Int), .int .i64 (H : Int), .int .i64 (L : Int)] ∧ Blk wv w2.heap.size 32 ws ∧ Blk wv w6.heap.size 42 #[.slice ta tn tz, .slice ka kn kz, .slice va vn vz] ∧ Good wv V D Hd H L WW bs M ∧ VwAt wv ⟨⟨ta, tn, tz⟩, ⟨ka, kn, kz⟩, ⟨va, vn, vz⟩⟩ X) := fun wv hb => ⟨X07.below hb, (X16.below B7).below hb, (XF6.below B7).below hb, (G6.below B7).below hb, (VW.below B7).below hb⟩
      have HD7 : Hid (Below w.heap.size w w7) := D7
      have HFT : Hid (VwFit (V : Int) D L X) := hfit
      have HJN : Hid (jnS (V : Int) D L noVw (pagesOf X pn NP) = (0, X)) := by
        have := jn_all hfit hp1 hp2
        rw [HXT.out, HNP.out] at this
        exact this
      have hX8 : X.T.length ≤ 8 := by rw [HXT.out]; omega
      have hx7 := X07.lt
      have hx72 := (X16.below B7).lt
      have hx76 := (XF6.below B7).lt
      clear PG X07 D7 hfit D6f X06 X16 G6 VW B7 XF6
      go_wp2_with fail
      clear hquo
      go_loopg [18, 85] NP (fun r s18 s85 wr => ∃ (k : Nat) (u : Value), k ≤ NP ∧ r = NP - k ∧ s85 = .int .i64 (k : Int) ∧ s18 = u ∧ OwnPg wr w7.heap.size w7.heap.size u (pagesOf X pn k) ∧ Below w7.heap.size w7 wr)
      case atStart => exact ⟨0, _, by omega, by omega, rfl, rfl, ownPg_empty w7 _, (Below.refl _ _).alloc (Nat.le_refl _) _⟩
      case round =>
        obtain ⟨k, u, hk, rfl, rfl, hu, OP, BB⟩ := hrel
        have hu2 := hu.symm
        subst hu2
        clear hu
        by_cases hkn : k < NP
        · obtain ⟨g, o, e5, hc⟩ := (HPG.out wr BB).cells (by show 0 < NP; omega)
          have e5' : ga = some ⟨g, o, none⟩ := e5
          subst e5'
          obtain ⟨⟨⟨p1, p2, p3⟩, pf, ⟨p4, p5, p6⟩, ⟨p7, p8, p9⟩⟩, r0, PA⟩ := hc k _ (pagesOf_at X pn NP k hkn)
          have hfl := (pageN_lt hp1 (n := l1) (k := k)).2 (by rw [HNP.out]; exact hkn)
          have hks : (k + 1) * pn = k * pn + pn := Nat.succ_mul k pn
          rw [HXT.out] at PA
          obtain ⟨fr, hfr⟩ : ∃ fr, k * pn = fr := ⟨_, rfl⟩
          rw [hks, hfr] at PA
          rw [hfr] at hfl
          obtain ⟨to', hto⟩ : ∃ t, min (fr + pn) l1 = t := ⟨_, rfl⟩
          rw [hto] at PA
          have HPS : Hid (pagesOf X pn (k + 1) = pagesOf X pn k ++ [pgOf X fr to']) := by
            show pagesOf X pn k ++ [pgOf X (k * pn) (min ((k + 1) * pn) X.T.length)] = _
            rw [hks, hfr, HXT.out, hto]
          have hto1 : fr < to' := by omega
          have hto2 : to' ≤ l1 := by omega
          have hto3 : to' - fr ≤ 16 := by omega
          have hpl : (pagesOf X pn k).length = k := pagesOf_len X pn k
          clear hfr hks hto hc
          have ck := pg_ok HFT.out hto1 (by rw [HXT.out]; exact hto2) hto3
          have epf : pf = (fr : Int) := PA.f
          subst epf
          have sK := cube_small PA.k
          have sV := cube_small PA.v
          have plen := page_len ck sK sV
          have PBK := page_back ck sK sV (by omega) hD32 hL4
          have hTl : (pgOf X fr to').T.length = to' := by show (X.T.take to').length = _; rw [List.length_take, HXT.out]; omega
          rw [hTl, show (pgOf X fr to').F.toNat = fr from by show ((fr : Nat) : Int).toNat = fr; omega] at plen
          have q1' : 8 * (to' - fr) * L * D ≤ 16384 := Nat.le_trans (Nat.mul_le_mul (Nat.mul_le_mul (by omega : 8 * (to' - fr) ≤ 128) hL4) hD32) (by decide)
          have PL : (pageB (pgOf X fr to')).length ≤ 20000 := by rw [pageB_form, List.length_cons, List.length_cons, plen]; omega
          have hcs : (cubeB (pgOf X fr to').K).length + (cubeB (pgOf X fr to').V).length ≤ 900000 := by
            have := PL
            rw [pageB_form, List.length_cons, List.length_cons, List.length_append, List.length_append] at this
            omega
          have CB := fun (wv : World) (hb : Below wr.heap.size wr wv) => bytes_ok V D Hd H L _ _ wv (PA.below hb) (by show -9223372036854775808 ≤ (fr : Int) ∧ (fr : Int) ≤ 9223372036854775807; omega) ck hcs
          have CRA := fun (wv : World) => read_any V D Hd H L (pageB (pgOf X fr to')) wv (by omega) (by omega) (by omega)
          rw [PBK] at CRA
          simp only at CRA
          unfold cfgC at CB CRA
          rw [show PgV.cells ⟨⟨p1, p2, p3⟩, (fr : Int), ⟨p4, p5, p6⟩, ⟨p7, p8, p9⟩⟩ = #[.slice p1 p2 p3, .int .i64 (fr : Int), .slice p4 p5 p6, .slice p7 p8 p9] from rfl] at r0 CB
          generalize pageB (pgOf X fr to') = PB at *
          clear hcs sK sV plen hTl ck PA PBK q1' PL
          have hszr := BB.size
          have Xr := (HST.out wr BB).1
          obtain ⟨XE10, XF10, BF10, _⟩ := var3 wr 49 #[.slice none 0 0, .int .i64 0, .slice none 0 0, .slice none 0 0] #[.slice p1 p2 p3, .int .i64 (fr : Int), .slice p4 p5 p6, .slice p7 p8 p9]
          generalize hwe10 : wr.alloc (.cells #[.slice none 0 0, .int .i64 0, .slice none 0 0, .slice none 0 0] 49) = w10g at *
          generalize hwf10 : w10g.setRow wr.heap.size #[.slice p1 p2 p3, .int .i64 (fr : Int), .slice p4 p5 p6, .slice p7 p8 p9] = w10f at *
          have Xr10 := Xr.below BF10
          have a0 : w10f.cell? ⟨w.heap.size, 0, none⟩ = some (.int .i64 (V : Int)) := Xr10.cell 0 rfl
          have a1 : w10f.cell? ⟨w.heap.size, 1, none⟩ = some (.int .i64 (D : Int)) := Xr10.cell 1 rfl
          have a2 : w10f.cell? ⟨w.heap.size, 2, none⟩ = some (.int .i64 (Hd : Int)) := Xr10.cell 2 rfl
          have a3 : w10f.cell? ⟨w.heap.size, 3, none⟩ = some (.int .i64 (H : Int)) := Xr10.cell 3 rfl
          have a4 : w10f.cell? ⟨w.heap.size, 4, none⟩ = some (.int .i64 (L : Int)) := Xr10.cell 4 rfl
          have y0 : w10f.cell? ⟨wr.heap.size, 0, none⟩ = some (.slice p1 p2 p3) := XF10.cell 0 rfl
          have y1 : w10f.cell? ⟨wr.heap.size, 1, none⟩ = some (.int .i64 (fr : Int)) := XF10.cell 1 rfl
          have y2 : w10f.cell? ⟨wr.heap.size, 2, none⟩ = some (.slice p4 p5 p6) := XF10.cell 2 rfl
          have y3 : w10f.cell? ⟨wr.heap.size, 3, none⟩ = some (.slice p7 p8 p9) := XF10.cell 3 rfl
          have CB1 := CB w10f BF10
          clear CB
          go_upto_region 13 with (first | (refine wpList_load_mid rfl 49 _ rfl g (o + k * 4) rfl [.slice p1 p2 p3, .int .i64 (fr : Int), .slice p4 p5 p6, .slice p7 p8 p9] _ r0 Tryd.underlying49 rfl (by exact Tryd.infoPg) ?_) | (refine wpList_store_row rfl 49 _ _ rfl wr.heap.size #[.slice p1 p2 p3, .int .i64 (fr : Int), .slice p4 p5 p6, .slice p7 p8 p9] rfl rfl 49 _ XE10 (by exact Tryd.infoPg) rfl (by simp [Value.oneCell']) ?_; rw [hwf10]))
          clear hwe10 hwf10 XE10 r0
          go_wp2_with fail
          refine CB1.mono ?_
          clear CB1 a0 a1 a2 a3 a4 y0 y1 y2 y3
          rintro e w12 ⟨rfl, B12⟩
          have X012 := Xr10.below B12
          have B1r := below_then BF10 B12
          clear Xr10 XF10 Xr B12 BF10
          have a0 : w12.cell? ⟨w.heap.size, 0, none⟩ = some (.int .i64 (V : Int)) := X012.cell 0 rfl
          have a1 : w12.cell? ⟨w.heap.size, 1, none⟩ = some (.int .i64 (D : Int)) := X012.cell 1 rfl
          have a2 : w12.cell? ⟨w.heap.size, 2, none⟩ = some (.int .i64 (Hd : Int)) := X012.cell 2 rfl
          have a3 : w12.cell? ⟨w.heap.size, 3, none⟩ = some (.int .i64 (H : Int)) := X012.cell 3 rfl
          have a4 : w12.cell? ⟨w.heap.size, 4, none⟩ = some (.int .i64 (L : Int)) := X012.cell 4 rfl
          have CR1 := CRA w12
          clear CRA
          go_wp2_with fail
          refine CR1.mono ?_
          clear CR1 a0 a1 a2 a3 a4
          rintro e w13 ⟨⟨⟨x1, x2, x3⟩, xf, ⟨x4, x5, x6⟩, ⟨x7, x8, x9⟩⟩, rfl, NX, B13⟩
          rw [show PgV.cells ⟨⟨x1, x2, x3⟩, xf, ⟨x4, x5, x6⟩, ⟨x7, x8, x9⟩⟩ = #[.slice x1 x2 x3, .int .i64 xf, .slice x4 x5 x6, .slice x7 x8 x9] from rfl]
          have B2r := below_then B1r B13
          obtain ⟨XE14, XF14, BF14, _⟩ := var3 w13 49 #[.slice none 0 0, .int .i64 0, .slice none 0 0, .slice none 0 0] #[.slice x1 x2 x3, .int .i64 xf, .slice x4 x5 x6, .slice x7 x8 x9]
          generalize hwe14 : w13.alloc (.cells #[.slice none 0 0, .int .i64 0, .slice none 0 0, .slice none 0 0] 49) = w14g at *
          generalize hwf14 : w14g.setRow w13.heap.size #[.slice x1 x2 x3, .int .i64 xf, .slice x4 x5 x6, .slice x7 x8 x9] = w14f at *
          have B3r := below_then B2r BF14
          have NX2 := NX.below BF14
          have BA : Below w14f.heap.size w14f (w14f.alloc (.cells #[.slice x1 x2 x3, .int .i64 xf, .slice x4 x5 x6, .slice x7 x8 x9] 49)) := (Below.refl _ _).alloc (Nat.le_refl _) _
          have s14 : w14f.heap.size = w13.heap.size + 1 := by rw [← hwf14, ← hwe14]; simp
          have CN := blk_new w14f 49 #[.slice x1 x2 x3, .int .i64 xf, .slice x4 x5 x6, .slice x7 x8 x9]
          rw [s14] at CN
          generalize hw15 : w14f.alloc (.cells #[.slice x1 x2 x3, .int .i64 xf, .slice x4 x5 x6, .slice x7 x8 x9] 49) = w15 at *
          have B4r := below_then B3r BA
          have O4 := OP.below B4r
          have hs12 := B1r.size
          have H4 : Hangs (offV w7.heap.size u) w15 (fun w => PgAt w ⟨⟨x1, x2, x3⟩, xf, ⟨x4, x5, x6⟩, ⟨x7, x8, x9⟩⟩ (pgOf X fr to')) := Hangs.mono (NX2.below BA) fun b _ h => by
            have h' : w12.heap.size ≤ b := h
            refine ⟨by omega, fun e => ?_⟩
            have := (OP.lt e).2
            omega
          have hs4 := B4r.size
          clear s14 NX NX2 OP B1r B2r B3r BF14 B13 X012
          go_wp2_with (first | (refine wpList_store_row rfl 49 _ _ rfl w13.heap.size #[.slice x1 x2 x3, .int .i64 xf, .slice x4 x5 x6, .slice x7 x8 x9] rfl rfl 49 _ XE14 (by exact Tryd.infoPg) rfl (by simp [Value.oneCell']) ?_; rw [hwf14]) | (refine wpList_load_row rfl 49 _ rfl w13.heap.size rfl 49 #[.slice x1 x2 x3, .int .i64 xf, .slice x4 x5 x6, .slice x7 x8 x9] (0, 0) _ XF14 Tryd.underlying49 rfl (by exact Tryd.infoPg) ?_) | (at_builtin; refine wpList_append_pg rfl _ _ rfl w7.heap.size w7.heap.size u (pagesOf X pn k) k hpl rfl (by exact O4) (w13.heap.size + 1) ⟨⟨x1, x2, x3⟩, xf, ⟨x4, x5, x6⟩, ⟨x7, x8, x9⟩⟩ (pgOf X fr to') rfl (by exact CN) (by exact H4) (by omega) (by omega) ?_; intro ea ec w16 O5 G5 N5))
          go_roundg (NP - (k + 1))
          case measure => omega
          case rel =>
            have B5 : Below w7.heap.size w7 w16 := (BB.trans (B4r.mono hszr)).grown G5 (by omega) (fun g e => (O4.lt e).1)
            exact ⟨k + 1, _, by omega, by omega, by go_num, rfl, by rw [HPS.out]; exact O5, B5⟩
        · obtain rfl : NP = k := by omega
          obtain ⟨qa, qc, e9⟩ := OP.form
          rw [pagesOf_len] at e9
          subst e9
          have PJ := (OP.new (by omega) (Nat.le_refl _)).now
          have JC := join_any V D Hd H L ⟨qa, NP, qc⟩ (pagesOf X pn NP) wr PJ (pages_F X pn NP (by have := Nat.mul_le_mul hNPl hp2; omega)) (by omega) (by omega)
          rw [HJN.out] at JC
          unfold cfgC Sl.v at JC
          simp only at JC
          obtain ⟨X0, X1, -, -, -⟩ := HST.out wr BB
          clear PJ OP
          have a0 : wr.cell? ⟨w.heap.size, 0, none⟩ = some (.int .i64 (V : Int)) := X0.cell 0 rfl
          have a1 : wr.cell? ⟨w.heap.size, 1, none⟩ = some (.int .i64 (D : Int)) := X0.cell 1 rfl
          have a2 : wr.cell? ⟨w.heap.size, 2, none⟩ = some (.int .i64 (Hd : Int)) := X0.cell 2 rfl
          have a3 : wr.cell? ⟨w.heap.size, 3, none⟩ = some (.int .i64 (H : Int)) := X0.cell 3 rfl
          have a4 : wr.cell? ⟨w.heap.size, 4, none⟩ = some (.int .i64 (L : Int)) := X0.cell 4 rfl
          go_wp2_with fail
          refine JC.mono ?_
          clear JC a0 a1 a2 a3 a4
          rintro e w20 ⟨⟨⟨m1, m2, m3⟩, ⟨m4, m5, m6⟩, ⟨m7, m8, m9⟩⟩, rfl, NU, B20⟩
          rw [show VwV.cells ⟨⟨m1, m2, m3⟩, ⟨m4, m5, m6⟩, ⟨m7, m8, m9⟩⟩ = #[.slice m1 m2 m3, .slice m4 m5 m6, .slice m7 m8 m9] from rfl]
          have BB2 := BB.trans (B20.mono BB.size)
          obtain ⟨XE25, XF25, BF25, _⟩ := var3 w20 42 #[.slice none 0 0, .slice none 0 0, .slice none 0 0] #[.slice m1 m2 m3, .slice m4 m5 m6, .slice m7 m8 m9]
          generalize hwe25 : w20.alloc (.cells #[.slice none 0 0, .slice none 0 0, .slice none 0 0] 42) = w25g at *
          generalize hwf25 : w25g.setRow w20.heap.size #[.slice m1 m2 m3, .slice m4 m5 m6, .slice m7 m8 m9] = w25f at *
          have BB3 := BB2.trans (BF25.mono BB2.size)
          have UW := NU.now.below BF25
          clear X0 X1 NU B20
          obtain ⟨X0, X1, XV, GD, VW⟩ := HST.out w25f BB3
          have CF := FD ⟨⟨ta, tn, tz⟩, ⟨ka, kn, kz⟩, ⟨va, vn, vz⟩⟩ X nx w25f (HT.out _ (below_then HD7.out BB3)) (by omega) GD VW HFT.out
          have CF2 := fun (wv : World) (hb : Below w25f.heap.size w25f wv) => FD ⟨⟨m1, m2, m3⟩, ⟨m4, m5, m6⟩, ⟨m7, m8, m9⟩⟩ X nx wv (HT.out _ (below_then HD7.out (BB3.trans (hb.mono BB3.size)))) (by omega) (GD.below hb) (UW.below hb) HFT.out
          unfold VwV.cells Sl.v at CF CF2
          simp only at CF CF2
          generalize likZ M V D H Hd L X nx = Z at *
          obtain ⟨zn, hzn⟩ : ∃ zn, Z.length = zn := ⟨_, rfl⟩
          rw [hzn] at CF CF2
          obtain ⟨fe, hfe⟩ : ∃ fe, fErr V nx = fe := ⟨_, rfl⟩
          rw [hfe] at CF CF2
          clear FD hfe hzn
          have a0 : w25f.cell? ⟨w.heap.size, 0, none⟩ = some (.int .i64 (V : Int)) := X0.cell 0 rfl
          have a1 : w25f.cell? ⟨w.heap.size, 1, none⟩ = some (.int .i64 (D : Int)) := X0.cell 1 rfl
          have a2 : w25f.cell? ⟨w.heap.size, 2, none⟩ = some (.int .i64 (Hd : Int)) := X0.cell 2 rfl
          have a3 : w25f.cell? ⟨w.heap.size, 3, none⟩ = some (.int .i64 (H : Int)) := X0.cell 3 rfl
          have a4 : w25f.cell? ⟨w.heap.size, 4, none⟩ = some (.int .i64 (L : Int)) := X0.cell 4 rfl
          have y0 : w25f.cell? ⟨w6.heap.size, 0, none⟩ = some (.slice ta tn tz) := XV.cell 0 rfl
          have y1 : w25f.cell? ⟨w6.heap.size, 1, none⟩ = some (.slice ka kn kz) := XV.cell 1 rfl
          have y2 : w25f.cell? ⟨w6.heap.size, 2, none⟩ = some (.slice va vn vz) := XV.cell 2 rfl
          go_wp2_with (first | (refine wpList_store_row rfl 42 _ _ rfl w20.heap.size #[.slice m1 m2 m3, .slice m4 m5 m6, .slice m7 m8 m9] rfl rfl 42 _ XE25 (by exact Tryd.infoV) rfl (by simp [Value.oneCell']) ?_; rw [hwf25]) | (refine wpList_load_row rfl 32 _ rfl w2.heap.size rfl 32 ws (0, 0) _ X1 Tryd.underlying32 rfl (by rw [siz]; exact Tryd.infoW) ?_))
          refine CF.mono ?_
          clear CF a0 a1 a2 a3 a4 y0 y1 y2 X0 X1 XV GD VW hwe25 hwf25 XE25
          rintro e w30 ⟨v3, lk1, rfl, R1, B30⟩
          have one31 := vwv_one v3
          have siz31 := vwv_size v3
          obtain ⟨XE31, XF31, BF31, _⟩ := var3 w30 42 #[.slice none 0 0, .slice none 0 0, .slice none 0 0] v3.cells
          generalize hwe31 : w30.alloc (.cells #[.slice none 0 0, .slice none 0 0, .slice none 0 0] 42) = w31g at *
          generalize hwf31 : w31g.setRow w30.heap.size v3.cells = w31f at *
          have B31 := below_then B30 BF31
          have R31 := R1.below BF31
          have BB4 := BB3.trans (B31.mono BB3.size)
          have XU := XF25.below B31
          have UW2 := UW.below B31
          have CF3 := CF2 w31f B31
          clear CF2 R1 XF25 UW B30 B31 BF25
          obtain ⟨X0, X1, XV, -, -⟩ := HST.out w31f BB4
          have a0 : w31f.cell? ⟨w.heap.size, 0, none⟩ = some (.int .i64 (V : Int)) := X0.cell 0 rfl
          have a1 : w31f.cell? ⟨w.heap.size, 1, none⟩ = some (.int .i64 (D : Int)) := X0.cell 1 rfl
          have a2 : w31f.cell? ⟨w.heap.size, 2, none⟩ = some (.int .i64 (Hd : Int)) := X0.cell 2 rfl
          have a3 : w31f.cell? ⟨w.heap.size, 3, none⟩ = some (.int .i64 (H : Int)) := X0.cell 3 rfl
          have a4 : w31f.cell? ⟨w.heap.size, 4, none⟩ = some (.int .i64 (L : Int)) := X0.cell 4 rfl
          have y0 : w31f.cell? ⟨w20.heap.size, 0, none⟩ = some (.slice m1 m2 m3) := XU.cell 0 rfl
          have y1 : w31f.cell? ⟨w20.heap.size, 1, none⟩ = some (.slice m4 m5 m6) := XU.cell 1 rfl
          have y2 : w31f.cell? ⟨w20.heap.size, 2, none⟩ = some (.slice m7 m8 m9) := XU.cell 2 rfl
          go_wp2_with (first | (refine wpList_store_row rfl 42 _ _ rfl w30.heap.size v3.cells rfl rfl 42 _ XE31 (by rw [siz31]; exact Tryd.infoV) (by rw [siz31]; rfl) one31 ?_; rw [hwf31]) | (refine wpList_load_row rfl 32 _ rfl w2.heap.size rfl 32 ws (0, 0) _ X1 Tryd.underlying32 rfl (by rw [siz]; exact Tryd.infoW) ?_))
          refine CF3.mono ?_
          clear CF3 a0 a1 a2 a3 a4 y0 y1 y2 X0 X1 XV hwe31 hwf31 XE31
          rintro e w32 ⟨v4, lk2, rfl, R2, B32⟩
          have one33 := vwv_one v4
          have siz33 := vwv_size v4
          obtain ⟨XE33, XF33, BF33, _⟩ := var3 w32 42 #[.slice none 0 0, .slice none 0 0, .slice none 0 0] v4.cells
          generalize hwe33 : w32.alloc (.cells #[.slice none 0 0, .slice none 0 0, .slice none 0 0] 42) = w33g at *
          generalize hwf33 : w33g.setRow w32.heap.size v4.cells = w33f at *
          have B33 := below_then B32 BF33
          have R33 := R2.below BF33
          have BB5 := BB4.trans (B33.mono BB4.size)
          have XU2 := XU.below B33
          have R31b := R31.below B33
          have UW3 := UW2.below B33
          clear XU R31 UW2 R2 B32 B33 BF31 XF31 XF33
          obtain ⟨-, -, XV, -, VW⟩ := HST.out w33f BB5
          go_upto_region 22 with (refine wpList_store_row rfl 42 _ _ rfl w32.heap.size v4.cells rfl rfl 42 _ XE33 (by rw [siz33]; exact Tryd.infoV) (by rw [siz33]; rfl) one33 ?_; rw [hwf33])
          clear hwe33 hwf33 XE33 BF33
          have BD : Below w33f.heap.size w33f w33f.drew := (Below.refl _ w33f).drew
          have XU0 := XU2.below BD
          have XV0 := XV.below BD
          have UW0 := UW3.below BD
          have VW0 := VW.below BD
          have R310 := R31b.below BD
          have R330 := R33.below BD
          have BD5 := BB5.trans (BD.mono BB5.size)
          refine wp_region_held_drew (S := fun w' => Blk w' w20.heap.size 42 #[.slice m1 m2 m3, .slice m4 m5 m6, .slice m7 m8 m9] ∧ Blk w' w6.heap.size 42 #[.slice ta tn tz, .slice ka kn kz, .slice va vn vz]) (by kernel_rfl) (⟨XU0, XV0⟩) (fun hHeld => ?_)
          generalize hA : w33f.drew = wA at *
          clear hA XU2 XV UW3 VW R31b R33 BD BB5
          refine wpAnyH_take (i := 0) (v := (.int .i64 0)) rfl (by kernel_rfl) (by kernel_rfl) (by kernel_rfl) (fun _ _ _ h => h) (Or.inl ⟨by rfl, ?_⟩) (by assumption) ?_
          · intro w' hSw
            go_simp
          simp only [List.getElem_toArray, List.getElem_cons_zero, Act.put, List.setIfInBounds_toArray, List.set_cons_zero, List.set_cons_succ]
          refine wpAnyH_take (i := 1) (v := (.bool false)) rfl (by kernel_rfl) (by kernel_rfl) (by kernel_rfl) (fun _ _ _ h => h) (Or.inl ⟨by rfl, ?_⟩) (by assumption) ?_
          · intro w' hSw
            go_simp
          simp only [List.getElem_toArray, List.getElem_cons_succ, List.getElem_cons_zero, Act.put, List.setIfInBounds_toArray, List.set_cons_zero, List.set_cons_succ]
          refine wpAnyH_take (i := 2) (v := (.bool false)) rfl (by kernel_rfl) (by kernel_rfl) (by kernel_rfl) (fun _ _ _ h => h) (Or.inl ⟨by rfl, ?_⟩) (by assumption) ?_
          · intro w' hSw
            go_simp
          simp only [List.getElem_toArray, List.getElem_cons_succ, List.getElem_cons_zero, Act.put, List.setIfInBounds_toArray, List.set_cons_zero, List.set_cons_succ]
          refine wpAnyH_take (i := 3) (v := (.int .i64 fe)) rfl (by kernel_rfl) (by kernel_rfl) (by kernel_rfl) (fun _ _ _ h => h) (Or.inl ⟨by rfl, ?_⟩) (by assumption) ?_
          · intro w' hSw
            go_simp
          simp only [List.getElem_toArray, List.getElem_cons_succ, List.getElem_cons_zero, Act.put, List.setIfInBounds_toArray, List.set_cons_zero, List.set_cons_succ]
          refine wpAnyH_take (i := 4) (v := (.int .i64 fe)) rfl (by kernel_rfl) (by kernel_rfl) (by kernel_rfl) (fun _ _ _ h => h) (Or.inl ⟨by rfl, ?_⟩) (by assumption) ?_
          · intro w' hSw
            go_simp
          simp only [List.getElem_toArray, List.getElem_cons_succ, List.getElem_cons_zero, Act.put, List.setIfInBounds_toArray, List.set_cons_zero, List.set_cons_succ]
          refine wpAnyH_take (i := 5) (v := (.bool false)) rfl (by kernel_rfl) (by kernel_rfl) (by kernel_rfl) (fun _ _ _ h => h) (Or.inl ⟨by rfl, ?_⟩) (by assumption) ?_
          · intro w' hSw
            go_simp
          simp only [List.getElem_toArray, List.getElem_cons_succ, List.getElem_cons_zero, Act.put, List.setIfInBounds_toArray, List.set_cons_zero, List.set_cons_succ]
          refine wpAnyH_take (i := 6) (v := (.bool false)) rfl (by kernel_rfl) (by kernel_rfl) (by kernel_rfl) (fun _ _ _ h => h) (Or.inl ⟨by rfl, ?_⟩) (by assumption) ?_
          · intro w' hSw
            go_simp
          simp only [List.getElem_toArray, List.getElem_cons_succ, List.getElem_cons_zero, Act.put, List.setIfInBounds_toArray, List.set_cons_zero, List.set_cons_succ]
          refine wpAnyH_take (i := 7) (v := (.bool false)) rfl (by kernel_rfl) (by kernel_rfl) (by kernel_rfl) (fun _ _ _ h => h) (Or.inl ⟨by rfl, ?_⟩) (by assumption) ?_
          · intro w' hSw
            go_simp
          simp only [List.getElem_toArray, List.getElem_cons_succ, List.getElem_cons_zero, Act.put, List.setIfInBounds_toArray, List.set_cons_zero, List.set_cons_succ]
          refine wpAnyH_take (i := 8) (v := (.slice lk1 zn zn)) rfl (by kernel_rfl) (by kernel_rfl) (by kernel_rfl) (fun _ _ _ h => h) (Or.inl ⟨by rfl, ?_⟩) (by assumption) ?_
          · intro w' hSw
            go_simp
          simp only [List.getElem_toArray, List.getElem_cons_succ, List.getElem_cons_zero, Act.put, List.setIfInBounds_toArray, List.set_cons_zero, List.set_cons_succ]
          refine wpAnyH_take (i := 9) (v := (.int .i64 (zn : Int))) rfl (by kernel_rfl) (by kernel_rfl) (by kernel_rfl) (fun _ _ _ h => h) (Or.inl ⟨by rfl, ?_⟩) (by assumption) ?_
          · intro w' hSw
            go_simp
          simp only [List.getElem_toArray, List.getElem_cons_succ, List.getElem_cons_zero, Act.put, List.setIfInBounds_toArray, List.set_cons_zero, List.set_cons_succ]
          refine wpAnyH_take (i := 10) (v := (.slice lk2 zn zn)) rfl (by kernel_rfl) (by kernel_rfl) (by kernel_rfl) (fun _ _ _ h => h) (Or.inl ⟨by rfl, ?_⟩) (by assumption) ?_
          · intro w' hSw
            go_simp
          simp only [List.getElem_toArray, List.getElem_cons_succ, List.getElem_cons_zero, Act.put, List.setIfInBounds_toArray, List.set_cons_zero, List.set_cons_succ]
          refine wpAnyH_take (i := 11) (v := (.int .i64 (zn : Int))) rfl (by kernel_rfl) (by kernel_rfl) (by kernel_rfl) (fun _ _ _ h => h) (Or.inl ⟨by rfl, ?_⟩) (by assumption) ?_
          · intro w' hSw
            go_simp
          simp only [List.getElem_toArray, List.getElem_cons_succ, List.getElem_cons_zero, Act.put, List.setIfInBounds_toArray, List.set_cons_zero, List.set_cons_succ]
          refine wpAnyH_take (i := 12) (v := (.bool false)) rfl (by kernel_rfl) (by kernel_rfl) (by kernel_rfl) (fun _ _ _ h => h) (Or.inl ⟨by rfl, ?_⟩) (by assumption) ?_
          · intro w' hSw
            go_simp
          simp only [List.getElem_toArray, List.getElem_cons_succ, List.getElem_cons_zero, Act.put, List.setIfInBounds_toArray, List.set_cons_zero, List.set_cons_succ]
          refine wpAnyH_take (i := 13) (v := (.bool false)) rfl (by kernel_rfl) (by kernel_rfl) (by kernel_rfl) (fun _ _ _ h => h) (Or.inl ⟨by rfl, ?_⟩) (by assumption) ?_
          · intro w' hSw
            go_simp
          simp only [List.getElem_toArray, List.getElem_cons_succ, List.getElem_cons_zero, Act.put, List.setIfInBounds_toArray, List.set_cons_zero, List.set_cons_succ]
          refine wpAnyH_take (i := 14) (v := (.bool false)) rfl (by kernel_rfl) (by kernel_rfl) (by kernel_rfl) (fun _ _ _ h => h) (Or.inl ⟨by rfl, ?_⟩) (by assumption) ?_
          · intro w' hSw
            go_simp
          simp only [List.getElem_toArray, List.getElem_cons_succ, List.getElem_cons_zero, Act.put, List.setIfInBounds_toArray, List.set_cons_zero, List.set_cons_succ]
          refine wpAnyH_take (i := 15) (v := (.agg #[.slice m1 m2 m3, .slice m4 m5 m6, .slice m7 m8 m9])) rfl (by kernel_rfl) (by kernel_rfl) (by kernel_rfl) (fun _ _ _ h => h) (Or.inl ⟨by rfl, ?_⟩) (by assumption) ?_
          · intro w' hSw
            exact yield_row 42 _ rfl w20.heap.size rfl _ (load_v hSw.1 rfl)
          simp only [List.getElem_toArray, List.getElem_cons_succ, List.getElem_cons_zero, Act.put, List.setIfInBounds_toArray, List.set_cons_zero, List.set_cons_succ]
          refine wpAnyH_take (i := 17) (v := (.agg #[.slice ta tn tz, .slice ka kn kz, .slice va vn vz])) rfl (by kernel_rfl) (by kernel_rfl) (by kernel_rfl) (fun _ _ _ h => h) (Or.inl ⟨by rfl, ?_⟩) (by assumption) ?_
          · intro w' hSw
            exact yield_row 42 _ rfl w6.heap.size rfl _ (load_v hSw.2 rfl)
          simp only [List.getElem_toArray, List.getElem_cons_succ, List.getElem_cons_zero, Act.put, List.setIfInBounds_toArray, List.set_cons_zero, List.set_cons_succ]
          refine wpAnyH_ready (rs := [16]) (by kernel_rfl) (by simp) ?_
          refine AllReadyH.cons rfl (fun Kc hKc => ?_) AllReadyH.nil
          simp only [List.getElem_toArray, List.getElem_cons_succ, List.getElem_cons_zero]
          rw [if_pos (by rfl)]
          go_wp2_with fail
          have TD := told9_fit V D L ⟨⟨m1, m2, m3⟩, ⟨m4, m5, m6⟩, ⟨m7, m8, m9⟩⟩ X wA UW0 HFT.out hD32 hL4
          unfold VwV.cells Sl.v at TD
          refine TD.mono ?_
          rintro e wB ⟨t9, k9, u9, rfl, T9, EB⟩
          have XU1 := XU0.below EB
          have XV1 := XV0.below EB
          have VW1 := VW0.below EB
          clear TD
          go_wp2_with fail
          refine hKc.out _ _ (⟨XU1, XV1⟩) (fun hHeld => ?_)
          clear hKc Kc
          refine wpAnyH_ready (rs := [18]) (by kernel_rfl) (by simp) ?_
          refine AllReadyH.cons rfl (fun Kc hKc => ?_) AllReadyH.nil
          simp only [List.getElem_toArray, List.getElem_cons_succ, List.getElem_cons_zero]
          rw [if_pos (by rfl)]
          go_wp2_with fail
          have TD := told9_fit V D L ⟨⟨ta, tn, tz⟩, ⟨ka, kn, kz⟩, ⟨va, vn, vz⟩⟩ X wB VW1 HFT.out hD32 hL4
          unfold VwV.cells Sl.v at TD
          refine TD.mono ?_
          rintro e wB2 ⟨t8, k8, u8, rfl, T8, EB2⟩
          have XU1b := XU1.below EB2
          have XV1b := XV1.below EB2
          have T9b := T9.below EB2
          clear TD
          go_wp2_with fail
          refine hKc.out _ _ (⟨XU1b, XV1b⟩) (fun hHeld => ?_)
          clear hKc Kc
          refine wpAnyH_ready (rs := [19]) (by kernel_rfl) (by simp) ?_
          refine AllReadyH.cons rfl (fun Kc hKc => ?_) AllReadyH.nil
          simp only [List.getElem_toArray, List.getElem_cons_succ, List.getElem_cons_zero]
          rw [if_pos (by rfl)]
          go_wp2_with fail
          refine (viewSame_eq t9 k9 u9 t8 k8 u8 X wB2 T9b T8).mono ?_
          rintro e wC ⟨rfl, EC⟩
          have XU2 := XU1b.below EC
          have XV := XV1b.below EC
          go_wp2_with fail
          refine hKc.out _ _ (⟨XU2, XV⟩) (fun hHeld => ?_)
          clear hKc Kc
          refine wpAnyH_take (i := 20) (v := (.bool false)) rfl (by kernel_rfl) (by kernel_rfl) (by kernel_rfl) (fun _ _ _ h => h) (Or.inl ⟨by rfl, ?_⟩) (by assumption) ?_
          · intro w' hSw
            go_simp
          simp only [List.getElem_toArray, List.getElem_cons_succ, List.getElem_cons_zero, Act.put, List.setIfInBounds_toArray, List.set_cons_zero, List.set_cons_succ]
          refine wpAnyH_take (i := 21) (v := (.bool false)) rfl (by kernel_rfl) (by kernel_rfl) (by kernel_rfl) (fun _ _ _ h => h) (Or.inl ⟨by rfl, ?_⟩) (by assumption) ?_
          · intro w' hSw
            go_simp
          simp only [List.getElem_toArray, List.getElem_cons_succ, List.getElem_cons_zero, Act.put, List.setIfInBounds_toArray, List.set_cons_zero, List.set_cons_succ]
          refine wpAnyH_done (by kernel_rfl) ?_ _
          have EA := below_then (below_then EB EB2) EC
          have BB6 := BD5.trans (EA.mono BD5.size)
          have R31b := R310.below EA
          have R33 := R330.below EA
          have UW3 := UW0.below EA
          have VW := VW0.below EA
          clear EB EB2 EC EA hHeld XU0 XV0 XU1 XV1 XU1b XV1b T9 T9b T8 VW0 VW1 UW0 R310 R330 BD5
          go_wp2_with fail
          have HR1 : Hid (∀ wv, Below wC.heap.size wC wv → RowAt wv lk1 zn Z ∧ RowAt wv lk2 zn Z) := fun wv hb => ⟨R31b.below hb, R33.below hb⟩
          have HBB : Hid (Below w7.heap.size w7 wC) := BB6
          clear R31b R33 BB6 XU2 XV VW UW3
          go_loopg [160] zn (fun r s160 wr => ∃ i : Nat, i ≤ zn ∧ r = zn - i ∧ s160 = .int .i64 (i : Int) ∧ Below wC.heap.size wC wr)
          case atStart => exact ⟨0, by omega, by omega, rfl, Below.refl _ _⟩
          case round =>
            obtain ⟨i, hi, rfl, rfl, BE⟩ := hrel
            by_cases hin : i < zn
            · obtain ⟨ra, rb⟩ := HR1.out _ BE
              obtain ⟨b8, o8, rfl, c8⟩ := ra.cells (by omega)
              obtain ⟨b9, o9, rfl, c9⟩ := rb.cells (by omega)
              have hmx := ra.max
              have q8 := c8 i hin
              have q9 := c9 i hin
              clear c8 c9 ra rb
              generalize el Z i = zz at *
              go_upto_region 27 with fail
              go_quiet (fail)
              go_wp2_with fail
              go_roundg (zn - (i + 1))
              case measure => omega
              case rel => exact ⟨i + 1, by omega, rfl, by go_num, below_drewN BE _⟩
            · obtain rfl : zn = i := by omega
              go_wp2_with fail
              have DW := below_then HD7.out (HBB.out.trans (BE.mono HBB.out.size))
              refine (CW _ DW).mono ?_
              rintro e wq ⟨rfl, Bq⟩
              go_wp2
              go_ret
              exact ⟨rfl, below_then DW Bq⟩
  · have hq' : (q == 0) = false := by simpa using hq
    go_wp2_with (refine wpList_store_row rfl 32 _ _ rfl w2.heap.size ws rfl rfl 32 _ XZ (by rw [siz]; exact Tryd.infoW) (by rw [siz]; rfl) one ?_; rw [hwy])
    go_wp2_with fail
    refine (CW _ D3).mono ?_
    rintro e wq ⟨rfl, Bq⟩
    go_wp2
    go_ret
    exact ⟨rfl, below_then D3 Bq⟩
end Go.Proofs.YtcanjlofnpnhkaaDoor

/- The given statement on BlockRides: at every input the law returns true and its arguments read as before; the listed table lies as the program's text lays it (the card ties it). -/
namespace Go.Proofs.YtcanjlofnpnhkaaDoor.blockRides
open Go.ChangeShapes Go.WideShapes Go.ChangeAt Go.WideMaps Go.WideElems Go.RowKit
set_option linter.unusedVariables false
abbrev lst : List (String × DataW Unit) := Rows.blockRidesRow.laid
theorem door_met (os : Os) (args : Array Value) : laidMetH Tryd.prog lst ((World.doorLaid Tryd.prog 14 os).forCall (fun _ _ => 0) ⟨#[], args, []⟩).memory :=
  laidMetH_of_parts3 (fuel := 8) (laidMet_of_run' 8 (by kernel_rfl) (by kernel_rfl)) (by kernel_rfl) (by kernel_rfl)
set_option maxRecDepth 100000 in
theorem lifted (os : Os) (started : os.Started) (H : Type) (enc : TypeId × Value → H) :
    ReturnsInHanded {} Tryd.checked os 3 .any (fun w args => (Rows.blockRidesSpec.pre enc Tryd.prog Tryd.f3 [] false w args ∧ laidMetH Tryd.prog lst w) ∧ sizedMet enc Tryd.prog Tryd.f3 (OpenSpec.ofChange Rows.blockRidesSpec) false w args)
      (Rows.blockRidesSpec.post enc Tryd.prog Tryd.f3 false true false false) := by
  refine returnsInHanded_of_change_and (C := Tryd.checked) (X := fun w _ => laidMetH Tryd.prog lst w) (fun _ _ _ hh h => h.of_heap hh) Tryd.own started (by kernel_rfl) Tryd.func3
    (ChangeSpec.witness_shaped (enc := enc) (C := Tryd.checked) (os := os) (X := fun w _ => laidMetH Tryd.prog lst w) false (World.doorLaid Tryd.prog 14 os) #[.agg #[.int .i64 0, .int .i64 0, .int .i64 0, .int .i64 0, .int .i64 0], .int .u64 0, .slice none 0 0, .int .i64 0, .int .i64 0] 8 rfl (World.shaped_of_RefB (by kernel_rfl) (by kernel_rfl)) (by kernel_rfl) (by kernel_rfl) (by kernel_rfl) (door_met os _)) ?_
  intro W base args ds gs before hval0 hW _ _ hL _
  have hval : ∀ (j : Nat) t v, Tryd.f3.params[j]? = some t → args[j]? = some v → Value.okWide Tryd.prog W .any base t v := hval0
  have hW' := hW
  obtain ⟨p, q, hA0, hV, rfl, _, _⟩ := hW
  have hA : DataW.TrodAll enc Tryd.prog W 0 (fun _ => true) true Tryd.f3.params.toList args.toList ds p := hA0
  rw [Tryd.params3] at hA hval
  obtain ⟨v0, vs0, d0, ds0, p0, q0, hargs, rfl, rfl, h0, r0⟩ := trodAll_cons hA
  obtain ⟨v1, vs1, d1, ds1, p1, q1, rfl, rfl, rfl, h1, r1⟩ := trodAll_cons r0
  obtain ⟨v2, vs2, d2, ds2, p2, q2, rfl, rfl, rfl, h2, r2⟩ := trodAll_cons r1
  obtain ⟨v3, vs3, d3, ds3, p3, q3, rfl, rfl, rfl, h3, r3⟩ := trodAll_cons r2
  obtain ⟨v4, vs4, d4, ds4, p4, q4, rfl, rfl, rfl, h4, r4⟩ := trodAll_cons r3
  obtain ⟨rfl, rfl, rfl⟩ := trodAll_nil r4
  obtain rfl : args = #[v0, v1, v2, v3, v4] := by cases args; simp_all
  obtain ⟨rfl, rfl⟩ := trodVars_none hV
  have k0 := h0
  obtain ⟨C0, rfl, g0⟩ := viewCfg (hval 0 _ v0 rfl rfl) h0
  have k1 := h1
  obtain ⟨a1, rfl, rfl, rfl, w1⟩ := open_int Tryd.underlying24 (hval 1 24 v1 rfl rfl) h1
  have b1 := bounds_u64 w1
  have k2 := h2
  obtain ⟨a2, n2, c2, Z2, rfl, g2⟩ := viewI (hval 2 _ v2 rfl rfl) h2
  have k3 := h3
  obtain ⟨a3, rfl, rfl, rfl, w3⟩ := open_int Tryd.underlying3 (hval 3 3 v3 rfl rfl) h3
  have b3 := bounds_i64 w3
  have k4 := h4
  obtain ⟨a4, rfl, rfl, rfl, w4⟩ := open_int Tryd.underlying3 (hval 4 3 v4 rfl rfl) h4
  have b4 := bounds_i64 w4
  clear hA0 hval0
  simp only [List.append_nil] at hW'
  have hlt : ∀ x ∈ p0 ++ p2, x.block < W.heap.size := fun x hx => by
    have hx2 := hx
    exact hW'.lt x (by grind)
  refine (blockRides_walk C0 a1 a2 n2 c2 Z2 a3 a4 W g0 b1 g2 b3 b4 (tab_of_laid hL)).mono fun e W' ⟨he, hb⟩ => ?_
  subst he
  exact ⟨_, rfl, _, _, _, [], _, [], hW', trodAll_mk1 (shut_bool Tryd.underlying4 true), trodAll_cons_mk (Below.trod Tryd.laidOut (by kernel_rfl) (of_decide_eq_true (by kernel_rfl)) k0 hb (fun x hx => hlt x (by simp [hx]))) (trodAll_cons_mk (shut_int Tryd.underlying24 w1) (trodAll_cons_mk (Below.trod Tryd.laidOut (by kernel_rfl) (of_decide_eq_true (by kernel_rfl)) k2 hb (fun x hx => hlt x (by simp [hx]))) (trodAll_cons_mk (shut_int Tryd.underlying3 w3) (trodAll_cons_mk (shut_int Tryd.underlying3 w4) trodAll_mk0)))), rfl, hb.frame _, fun h => by cases h⟩
theorem row_holds : Rows.BlockRidesSaid :=
  OpenClaim.holds_of_wide 3 Tryd.f3 rfl rfl rfl rfl rfl rfl rfl ⟨rfl, rfl, rfl, rfl, rfl⟩ rfl rfl rfl rfl rfl (by kernel_rfl) Tryd.func3 (by kernel_rfl)
    (of_decide_eq_true (by kernel_rfl)) (by unfold Func.isWrapper; first | (rw [if_pos (by decide +kernel)]; kernel_rfl) | (rw [if_neg (by decide +kernel)]; exact ⟨rfl, rfl⟩))
    (fun os started H enc _ => lifted os started H enc)
/-- The given statement. -/
theorem card_holds : Rows.BlockRidesCardSaid :=
  Claim7.holds_tied_plain_at .later [] [.data] true (true, "cadaa6e1542cb5f2e9ffa5fc68ed7a10fceb70e4cdf2e65b9d312008de0cb7a9") false
    row_holds (fun _ h => by cases h) (by kernel_rfl) (fun _ h => by cases h) blockRides_row_tie rfl ⟨rfl, rfl⟩ (by kernel_rfl) rfl
    (fun f fn hf hfn => by
      obtain rfl : f = 3 := Option.some.inj ((show Tryd.prog.funcNamed Rows.blockRidesRow.func = some 3 by kernel_rfl).symm.trans hf) |>.symm
      obtain rfl : fn = Tryd.f3 := (Option.some.inj (Tryd.func3.symm.trans hfn)).symm
      exact ⟨by kernel_rfl, fun j t ht => by
        rw [Tryd.params3] at ht
        have hm : t ∈ [23, 24, 25, 3, 3] := by simpa using Array.mem_of_getElem? ht
        have hall : ([23, 24, 25, 3, 3].all fun u => !Tryd.prog.wantsStandIn u) = true := by kernel_rfl
        exact (show Tryd.prog.wantsStandIn t = false by simpa using List.all_eq_true.1 hall t hm)⟩)
    (by kernel_rfl)
end Go.Proofs.YtcanjlofnpnhkaaDoor.blockRides
namespace Go.Proofs.YtcanjlofnpnhkaaDoor
theorem blockRides_holds : Rows.BlockRidesCardSaid := blockRides.card_holds
#print axioms blockRides_holds
end Go.Proofs.YtcanjlofnpnhkaaDoor
