/- The given statement on TillerSpeaks: at every input the law returns true and its arguments read as before; the listed table lies as the program's text lays it (the card ties it). -/
import Derived.Test.YtpecklilkieffaaDoorSpkMathPk
import Derived.Test.YtpecklilkieffaaDoorPk7
import Derived.Test.YtpecklilkieffaaDoorRows
import Derived.Test.YtpecklilkieffaaDoorCards
import Derived.Test.YtpecklilkieffaaDoorTie
import Derived.Test.YtpecklilkieffaaDoorPk8
import Derived.Test.YtpecklilkieffaaDoorPk3
import Derived.ProofKit
import Derived.Carry
import Derived.LaidMore
import Derived.OpenShut
import Derived.Stop.Joined
import Derived.SevenTiedAt
/- An answer that is spoken token by token out of a view: the walk. -/
namespace Go.Proofs.YtpecklilkieffaaDoor
open Go.ChangeShapes Go.WideShapes Go.ChangeAt Go.RowKit
theorem spk_some {w : World} {B n : Nat} {e : TypeId} {v : Value} {xs : List Value} (h : w.ownsRow B e 1 v n xs) (hn : 0 < n) : ∃ g c, v = .slice (some ⟨g, 0, none⟩) n c := by
  rcases h.2 with ⟨_, h0⟩ | ⟨g, cap, cur, hv, _⟩
  · omega
  · exact ⟨g, cap, hv⟩
theorem spk_len (M : Mdl) (D H Hd L : Nat) : ∀ (A : List Int) (X : Vw), (feedAll M D H Hd L X A).T.length = X.T.length + A.length
  | [], X => rfl
  | a :: A, X => by
    show (feedAll M D H Hd L (feedV M D H Hd L X a.toNat) A).T.length = _
    rw [spk_len M D H Hd L A]
    unfold feedV
    simp
    omega
theorem spk_noV (w : World) : VwAt w ⟨⟨none, 0, 0⟩, ⟨none, 0, 0⟩, ⟨none, 0, 0⟩⟩ noX := ⟨iarg_nil _, ⟨rfl, by show 0 ≤ _; omega, fun h => absurd (show 0 < 0 from h) (by omega)⟩, ⟨rfl, by show 0 ≤ _; omega, fun h => absurd (show 0 < 0 from h) (by omega)⟩⟩
theorem scut_fed {M : Mdl} {V D H Hd L : Nat} {A : List Int} (v2 : VwV) (n : Nat) (w : World) (hv : VwAt w v2 (feedAll M D H Hd L noX A)) (hA : A.all (tokB V) = true) (h1 : 1 ≤ A.length) (hl : A.length ≤ 128) (hn : n ≤ A.length) (hL : L ≤ 4096) (hD : D ≤ 4096) :
   Calls Tryd.prog 11 #[.agg v2.cells, .int .i64 (n : Int)] w fun e w' => ∃ v3 : VwV, e = .returned (.agg v3.cells) ∧ New w.heap.size w' (fun w => VwAt w v3 (feedAll M D H Hd L noX (A.take n))) ∧ Below w.heap.size w w' := by
  have EM := feed_full (M := M) (H := H) (Hd := Hd) hA h1 hl (noX_fit (V : Int) D L)
  have hfit : VwFit (V : Int) D L (feedAll M D H Hd L noX A) := feedAll_fit (noX_fit _ _ _) hA (by show 0 + _ ≤ _; omega)
  rcases Nat.eq_zero_or_pos n with rfl | h0
  · refine (scut_zero v2 _ w hv (by rw [EM.1]; omega)).mono ?_
    rintro e w' ⟨rfl, B⟩
    exact ⟨⟨⟨none, 0, 0⟩, ⟨none, 0, 0⟩, ⟨none, 0, 0⟩⟩, rfl, fun wz _ => spk_noV wz, B⟩
  · rw [← cut_feedAll h0 hn hA hl (noX_fit (V : Int) D L)]
    exact scut_any v2 _ n w hv h0 (by rw [EM.1]; omega) (by rw [EM.1]; omega) (by have := hfit.k; rw [EM.1] at this; rw [this]; split <;> omega) (by have := hfit.v; rw [EM.1] at this; rw [this]; split <;> omega) (fun R hR => ⟨by rw [(hfit.ks R hR).1, EM.1]; omega, fun t ht => by rw [(hfit.ks R hR).2 t (by rw [EM.1]; omega)]; omega⟩) (fun R hR => ⟨by rw [(hfit.vs R hR).1, EM.1]; omega, fun t ht => by rw [(hfit.vs R hR).2 t (by rw [EM.1]; omega)]; omega⟩)
/-- Within the loop: the view that is fed, and what is spoken. -/
structure SK (wU wr : World) (gU : Nat) (vu : VwV) (X : Vw) (ga : Option Addr) (k gc : Nat) (Yk : List Int) : Prop where
  xu : Blk wr gU 46 vu.cells
  vw : VwAt wr vu X
  og : IOwn wr (gU + 1) (.slice ga k gc) k Yk
  kp : Below gU wU wr
theorem over_lit : overB [0] 9 = true := by decide
theorem next_lit : amax [1, 2, 2] 3 = 1 := by decide
theorem ilit_one (w : World) (x : Int) (hx : -9223372036854775808 ≤ x ∧ x ≤ 9223372036854775807) : IRowAt (w.alloc (.cells #[.int .i64 x] 3)) (some ⟨w.heap.size, 0, none⟩) 1 [x] := by
  have h := blk_new w 3 #[.int .i64 x]
  refine ⟨rfl, by omega, fun k => ?_, fun _ => ⟨_, _, rfl, fun t ht => ?_⟩⟩
  · match k with
    | 0 => exact hx
    | k + 1 => show _ ≤ (0 : Int) ∧ (0 : Int) ≤ _; omega
  · obtain rfl : t = 0 := by omega
    exact h.cell 0 rfl
theorem rlit_three (w : World) : RowAt (w.alloc (.cells #[.int .i32 1, .int .i32 2, .int .i32 2] 28)) (some ⟨w.heap.size, 0, none⟩) 3 [1, 2, 2] := by
  have h := blk_new w 28 #[.int .i32 1, .int .i32 2, .int .i32 2]
  refine ⟨rfl, by omega, ?_, fun _ => ⟨_, _, rfl, fun t ht => ?_⟩⟩
  · intro y hy
    simp at hy
    omega
  · match t with
    | 0 => exact h.cell 0 rfl
    | 1 => exact h.cell 1 rfl
    | 2 => exact h.cell 2 rfl
    | t + 3 => omega
set_option maxRecDepth 100000 in
set_option maxHeartbeats 1600000 in
theorem tillerSpeaks_walk (C : Cfg) (sd : Int) (a1 : Option Addr) (n1 c1 : Nat) (Z1 : List Int) (most cu : Int) (w : World) (hC : C.Ok) (bs : 0 ≤ sd ∧ sd ≤ 18446744073709551615) (h1 : IArg w a1 n1 c1 Z1) (_bm : -9223372036854775808 ≤ most ∧ most ≤ 9223372036854775807) (bn : -9223372036854775808 ≤ cu ∧ cu ≤ 9223372036854775807) (hT : Tab w) :
   Calls Tryd.prog 3 #[C.val, .int .u64 sd, .slice a1 n1 c1, .int .i64 most, .int .i64 cu] w fun e w' => e = .returned (.bool true) ∧ Below w.heap.size w w' := by
  obtain ⟨seed, rfl⟩ : ∃ n : Nat, sd = n := ⟨sd.toNat, by omega⟩
  have hsd : seed < 18446744073709551616 := by omega
  clear bs
  have HT : Hid (∀ wv, Below w.heap.size w wv → Tab wv) := fun wv hb => hT.next hb
  have CF1 := fun (wv : World) (hb : Below w.heap.size w wv) => few8_any a1 n1 c1 Z1 8 wv (h1.below hb) (by omega)
  have s1 : ∀ k, -9223372036854775808 ≤ el (Z1.take 8) k ∧ el (Z1.take 8) k ≤ 9223372036854775807 := fun k => by
    rcases Nat.lt_or_ge k 8 with h | h
    · rw [el_take h]; exact h1.row.small k
    · rw [el_over (by rw [List.length_take]; omega)]; omega
  have hP8 : (Z1.take 8).length ≤ 8 := by rw [List.length_take]; omega
  have M0 := fun wv => make_gen C hC seed hsd wv
  have CS := fun wv => small8_any C.V C.D C.Hd C.H C.L wv
  have hu : ∀ C : Cfg, cfgC C.V C.D C.Hd C.H C.L = #[.int .i64 C.V, .int .i64 C.D, .int .i64 C.Hd, .int .i64 C.H, .int .i64 C.L] := fun _ => rfl
  unfold Cfg.val at *
  rw [hu] at M0 CS ⊢
  clear hT h1 hC
  have X0 := blk_new w 23 #[.int .i64 C.V, .int .i64 C.D, .int .i64 C.Hd, .int .i64 C.H, .int .i64 C.L]
  have B0 : Below w.heap.size w (w.alloc (.cells #[.int .i64 C.V, .int .i64 C.D, .int .i64 C.Hd, .int .i64 C.H, .int .i64 C.L] 23)) := (Below.refl _ _).alloc (Nat.le_refl _) _
  generalize hw0 : w.alloc (.cells #[.int .i64 C.V, .int .i64 C.D, .int .i64 C.Hd, .int .i64 C.H, .int .i64 C.L] 23) = w0 at *
  go_enter Tryd.func3, Tryd.ntmps3
  go_wp2_with fail
  have J1 := ilit_one w0 0 (by omega)
  refine (over_any _ _ _ [0] 9 _ J1).mono ?_
  rintro e v1 ⟨rfl, rfl⟩
  have BA : Below w.heap.size w (w0.alloc (.cells #[.int .i64 0] 3)) := B0.alloc (by have := B0.size; omega) _
  replace X0 := X0.below ((Below.refl _ _).alloc (Nat.le_refl _) (.cells #[.int .i64 0] 3))
  clear hw0
  generalize hv1 : w0.alloc (.cells #[.int .i64 0] 3) = v1 at *
  clear J1 hv1
  rw [over_lit]
  go_wp2_with fail
  have J2 := rlit_three v1
  refine (gnext_any _ _ _ [1, 2, 2] _ J2).mono ?_
  rintro e v2 ⟨rfl, rfl⟩
  have BC : Below w.heap.size w (v1.alloc (.cells #[.int .i32 1, .int .i32 2, .int .i32 2] 28)) := BA.alloc (by have := BA.size; omega) _
  replace X0 := X0.below ((Below.refl _ _).alloc (Nat.le_refl _) (.cells #[.int .i32 1, .int .i32 2, .int .i32 2] 28))
  generalize hv2 : v1.alloc (.cells #[.int .i32 1, .int .i32 2, .int .i32 2] 28) = v2 at *
  clear J2 hv2 BA B0
  rw [next_lit]
  go_wp2_with fail
  refine (CF1 _ BC).mono ?_
  rintro e w1 ⟨b1, kq, rfl, O1, B1⟩
  generalize Z1.take 8 = P at *
  obtain ⟨l1, hl1⟩ : ∃ l1, P.length = l1 := ⟨_, rfl⟩
  have HL1 : Hid (P.length = l1) := hl1
  rw [hl1] at O1 hP8 ⊢
  clear hl1
  have D1 := below_then BC B1
  replace X0 := X0.below B1
  clear CF1 BC B1
  obtain ⟨x1, y1, e1, I1⟩ := IOwn.arg O1 s1
  simp only [Value.slice.injEq, true_and] at e1
  obtain ⟨rfl, rfl⟩ := e1
  have HI : Hid (∀ wv, Below w1.heap.size w1 wv → IArg wv (some ⟨b1, 0, none⟩) l1 kq P) := fun wv hb => I1.below hb
  clear O1 I1
  have a0 : w1.cell? ⟨w.heap.size, 0, none⟩ = some (.int .i64 C.V) := X0.cell 0 rfl
  have a1 : w1.cell? ⟨w.heap.size, 1, none⟩ = some (.int .i64 C.D) := X0.cell 1 rfl
  have a2 : w1.cell? ⟨w.heap.size, 2, none⟩ = some (.int .i64 C.Hd) := X0.cell 2 rfl
  have a3 : w1.cell? ⟨w.heap.size, 3, none⟩ = some (.int .i64 C.H) := X0.cell 3 rfl
  have a4 : w1.cell? ⟨w.heap.size, 4, none⟩ = some (.int .i64 C.L) := X0.cell 4 rfl
  go_wp2_with fail
  refine (M0 w1).mono ?_
  rintro e w2 ⟨ws, q, rfl, MM, B2⟩
  replace X0 := X0.below B2
  have E2 := B2
  have D2 := below_then D1 B2
  clear a0 a1 a2 a3 a4 M0 B2 D1
  have siz := MM.size
  have one := MM.one
  have XZ := blk_new w2 35 #[.int .i64 0, .int .i64 0, .slice none 0 0, .slice none 0 0, .slice none 0 0, .int .i64 0, .int .i64 0, .slice none 0 0]
  have BZ : Below w2.heap.size w2 (w2.alloc (.cells #[.int .i64 0, .int .i64 0, .slice none 0 0, .slice none 0 0, .slice none 0 0, .int .i64 0, .int .i64 0, .slice none 0 0] 35)) := (Below.refl _ _).alloc (Nat.le_refl _) _
  generalize hwz : w2.alloc (.cells #[.int .i64 0, .int .i64 0, .slice none 0 0, .slice none 0 0, .slice none 0 0, .int .i64 0, .int .i64 0, .slice none 0 0] 35) = wz at *
  have X1 := XZ.row ws
  have BR := below_setRow BZ (Nat.le_refl _) ws
  generalize hwy : wz.setRow w2.heap.size ws = wy at *
  replace X0 := X0.below BR
  replace MM := MM.below BR
  have D3 := below_then D2 BR
  have E3 := below_then E2 BR
  have a0 : wy.cell? ⟨w.heap.size, 0, none⟩ = some (.int .i64 C.V) := X0.cell 0 rfl
  have a1 : wy.cell? ⟨w.heap.size, 1, none⟩ = some (.int .i64 C.D) := X0.cell 1 rfl
  have a2 : wy.cell? ⟨w.heap.size, 2, none⟩ = some (.int .i64 C.Hd) := X0.cell 2 rfl
  have a3 : wy.cell? ⟨w.heap.size, 3, none⟩ = some (.int .i64 C.H) := X0.cell 3 rfl
  have a4 : wy.cell? ⟨w.heap.size, 4, none⟩ = some (.int .i64 C.L) := X0.cell 4 rfl
  by_cases hq : q = 0
  · subst hq
    obtain ⟨V, D, Hd, H, L, ge, gB, gl, go, e1, e2, e3, e4, e5, hcs, MW⟩ := MM.ok rfl
    have hsh : shapeN V D Hd H L = 0 := by rw [← e1, ← e2, ← e3, ← e4, ← e5]; exact MM.err.symm
    obtain ⟨bs, GD⟩ := made_good (Hd := Hd) MW hsh
    have hws : (mkW V D L ge gB gl go).cells = ws := by rw [hcs]; rfl
    obtain ⟨VV, DD, HHd, HH, LL⟩ := C
    simp only at e1 e2 e3 e4 e5
    subst e1 e2 e3 e4 e5
    have GDM : Good wy V D Hd H L (mkW V D L ge gB gl go) bs (mdlS seed V D H L) := GD
    have hk := shape_ok hsh
    generalize mdlS seed V D H L = M at *
    generalize hWW : mkW V D L ge gB gl go = WW at *
    clear MM MW hcs GD hWW
    have RO := fun (wv : World) (hg : Good wv V D Hd H L WW bs M) (hT : Tab wv) (ao : Option Addr) (n ca : Nat) (Q : List Int) (mo : Int) (ha : IArg wv ao n ca Q) (hq : askedN V Q mo = 0) => run_ok V D Hd H L WW bs M ao n ca Q mo wv hg ha hT hq
    have RB := fun (wv : World) (hg : Good wv V D Hd H L WW bs M) (ao : Option Addr) (n ca : Nat) (Q : List Int) (mo : Int) (ha : IArg wv ao n ca Q) (hq : askedN V Q mo ≠ 0) => run_bad V D Hd H L WW bs M ao n ca Q mo wv hg ha hq
    have AO := fun (vv : VwV) (X : Vw) (ao : Option Addr) (n ca : Nat) (A : List Int) (wv : World) (g1 : Tab wv) (g2 : Good wv V D Hd H L WW bs M) (g3 : VwAt wv vv X) (g4 : VwFit V D L X) (g5 : IArg wv ao n ca A) (g6 : promptN V A = 0) (g7 : X.T.length + A.length ≤ 128) => all_ok V D Hd H L WW bs M vv X ao n ca A wv g1 g2 g3 g4 g5 g6 g7
    have FE := fun (v : VwV) (X : Vw) (tok : Nat) (wv : World) (g1 : Tab wv) (g2 : X.T.length ≤ 127) (g3 : tok < V) (g4 : Good wv V D Hd H L WW bs M) (g5 : VwAt wv v X) (g6 : VwFit V D L X) => feed_ok V D Hd H L WW bs M v X tok wv g1 g2 g3 g4 g5 g6
    rw [hws] at RO RB AO FE
    unfold cfgC at RO RB AO FE
    clear hws
    go_wp2_with (refine wpList_store_row rfl 35 _ _ rfl w2.heap.size ws rfl rfl 35 _ XZ (by rw [siz]; exact Tryd.infoW) (by rw [siz]; rfl) one ?_; rw [hwy])
    refine (CS _).mono ?_
    rintro e w4 ⟨rfl, B4⟩
    replace X0 := X0.below B4
    replace X1 := X1.below B4
    have G4 := GDM.below B4
    have D4 := below_then D3 B4
    have E4 := below_then E3 B4
    clear a0 a1 a2 a3 a4 hwz hwy XZ BZ BR CS D2 D3 E2 E3 GDM B4
    generalize smallN (D : Int) (H : Int) (L : Int) = sq at *
    by_cases hs0 : sq = 0
    · subst hs0
      go_wp2
      go_ret
      exact ⟨rfl, D4⟩
    · have hs0' : (sq == 0) = false := by simpa using hs0
      by_cases hm : 6 < most
      · skip
        go_wp2
        go_ret
        exact ⟨rfl, D4⟩
      · have hm' : ¬ 6 < most := hm
        have a0 : w4.cell? ⟨w.heap.size, 0, none⟩ = some (.int .i64 (V : Int)) := X0.cell 0 rfl
        have a1 : w4.cell? ⟨w.heap.size, 1, none⟩ = some (.int .i64 (D : Int)) := X0.cell 1 rfl
        have a2 : w4.cell? ⟨w.heap.size, 2, none⟩ = some (.int .i64 (Hd : Int)) := X0.cell 2 rfl
        have a3 : w4.cell? ⟨w.heap.size, 3, none⟩ = some (.int .i64 (H : Int)) := X0.cell 3 rfl
        have a4 : w4.cell? ⟨w.heap.size, 4, none⟩ = some (.int .i64 (L : Int)) := X0.cell 4 rfl
        have I4 := HI.out w4 E4
        by_cases hqa : askedN V P most = 0
        · obtain ⟨p1, p2, p3⟩ := asked_ok hqa
          obtain ⟨pp1, pp2, pp3⟩ := prompt_ok p1
          have hP0 : P ≠ [] := by rintro rfl; simp at pp1
          have EY : Hid (∀ i, (runS M V D H Hd L P i).Y = runY M V D H Hd L P i) := fun i => (runS_inv M V D H Hd L P hP0 i).1
          have YB : Hid (∀ i k, -9223372036854775808 ≤ el (runY M V D H Hd L P i) k ∧ el (runY M V D H Hd L P i) k ≤ 9223372036854775807) := fun i k => by
            rw [← (runS_inv M V D H Hd L P hP0 i).1]
            exact runS_yb M V D H Hd L P (by omega) (by omega) i k
          rw [HL1.out] at pp1 pp2 p3
          have C5 := RO w4 G4 (HT.out _ D4) _ _ _ P most I4 hqa
          go_wp2_with (refine wpList_load_row rfl 35 _ rfl w2.heap.size rfl 35 ws (0, 0) _ X1 Tryd.underlying35 rfl (by rw [siz]; exact Tryd.infoW) ?_)
          refine C5.mono ?_
          rintro e w5 ⟨j, ya, yc, rfl, O5, k1, k2, B5⟩
          rw [EY.out] at O5 k1
          replace k2 : ∀ i, i < j → overB (runY M V D H Hd L P i) most = false := fun i hi => by rw [← EY.out]; exact k2 i hi
          have hj1 : 1 ≤ j := by
            rcases Nat.eq_zero_or_pos j with h | h
            · subst h
              have e0 : runY M V D H Hd L P 0 = [] := rfl
              rw [e0] at k1
              unfold overB endB at k1
              simp at k1
              omega
            · exact h
          have hjm : (j : Int) ≤ most := by
            have := over_not (k2 (j - 1) (by omega))
            rw [runY_len] at this
            omega
          obtain ⟨yb, yc', e0⟩ := spk_some O5 (by omega)
          simp only [Value.slice.injEq, true_and] at e0
          obtain ⟨rfl, rfl⟩ := e0
          obtain ⟨x2, y2, e2, AY⟩ := IOwn.arg O5 (fun k => YB.out j k)
          simp only [Value.slice.injEq, true_and] at e2
          obtain ⟨rfl, rfl⟩ := e2
          replace X0 := X0.below B5
          replace X1 := X1.below B5
          have G5 := G4.below B5
          have I5 := I4.below B5
          have D5 := below_then D4 B5
          clear a0 a1 a2 a3 a4 C5 G4 D4 E4 B5 I4 O5 RO RB EY
          have B6 : Below w5.heap.size w5 (w5.alloc (.cells #[] 3)) := (Below.refl _ _).alloc (Nat.le_refl _) _
          have O6 : (w5.alloc (.cells #[] 3)).ownsRow w5.heap.size 3 1 (.slice (some ⟨w5.heap.size, 0, none⟩) 0 0) 0 [] := World.ownsRow_made w5 #[] 0 (Nat.le_refl _) (by decide) rfl
          have s6 : w5.heap.size ≤ (w5.alloc (.cells #[] 3)).heap.size := by simp
          have hv6 := (I5.below B6).row.vals
          have hlY : (runY M V D H Hd L P j).length = j := runY_len M V D H Hd L P j
          have hlP := HL1.out
          obtain ⟨i0, hi0, hz0, hz1, hz2⟩ := info_parts Tryd.infoInt
          generalize hY : runY M V D H Hd L P j = Y at *
          go_upto_region 11 with (first
            | (at_builtin; refine wpList_append_own _ rfl _ _ 25 rfl w5.heap.size 3 i0 (.int .i64 0) 1 8 Tryd.underlying25 hi0 hz0 hz1 hz2 rfl (by decide) _ l1 _ rfl O7 ⟨yb, 0, none⟩ j yc (Y.map (Value.int .i64)) rfl (by simp; omega) hv7 (ints_oneCell _ _) (by unfold maxLen; omega) (by omega) (by omega) ?_; intro v8 w8 O8 G8 N8; obtain ⟨g8, c8, rfl⟩ := spk_some O8 (by omega))
            | (at_builtin; refine wpList_append_own _ rfl _ _ 25 rfl w5.heap.size 3 i0 (.int .i64 0) 1 8 Tryd.underlying25 hi0 hz0 hz1 hz2 rfl (by decide) _ 0 [] rfl O6 ⟨b1, 0, none⟩ l1 kq (P.map (Value.int .i64)) rfl (by simp; omega) hv6 (ints_oneCell _ _) (by unfold maxLen; omega) (by omega) (by omega) ?_; intro v7 w7 O7 G7 N7; rw [Nat.zero_add, List.nil_append] at O7; have s7 := G7.size; have b7 := B6.grown G7 s6 (fun q hq => by have := Option.some.inj hq; simp at this; omega); have hv7 := (AY.below b7).row.vals))
          have b8 := b7.grown G8 (by omega) (fun q hq => (World.ownsRow.lt O7 q hq).1)
          have O8' : IOwn w8 w5.heap.size (.slice (some ⟨g8, 0, none⟩) (l1 + j) c8) (l1 + j) (P ++ Y) := by unfold IOwn; rw [List.map_append]; exact O8
          have hsm : ∀ k, -9223372036854775808 ≤ el (P ++ Y) k ∧ el (P ++ Y) k ≤ 9223372036854775807 := fun k => by
            rcases Nat.lt_or_ge k P.length with h | h
            · rw [el_append_left h]; exact s1 k
            · obtain ⟨t, rfl⟩ : ∃ t, k = P.length + t := ⟨k - P.length, by omega⟩
              rw [el_append_right, ← hY]; exact YB.out j t
          obtain ⟨x3, y3, e3, A8⟩ := IOwn.arg O8' hsm
          simp only [Value.slice.injEq, true_and] at e3
          obtain ⟨rfl, rfl⟩ := e3
          replace X0 := X0.below b8
          replace X1 := X1.below b8
          replace G5 := G5.below b8
          replace I5 := I5.below b8
          replace AY := AY.below b8
          replace D5 := below_then D5 b8
          clear B6 O6 s6 hv6 O7 b7 hv7 O8 O8' G7 G8 N7 N8 s7 b8 hi0 hz0 hz1 hz2
          have hlA : (P ++ Y).length = l1 + j := by rw [List.length_append, hlP, hlY]
          have tkA : (P ++ Y).all (tokB V) = true := by rw [List.all_append, pp3, ← hY, runY_toks M (by omega)]; rfl
          have hpA : promptN V (P ++ Y) = 0 := by
            unfold promptN
            rw [hlA, if_neg (by omega), if_neg (by omega), if_pos tkA]
          have C9 := AO ⟨⟨none, 0, 0⟩, ⟨none, 0, 0⟩, ⟨none, 0, 0⟩⟩ noX (some ⟨g8, 0, none⟩) (l1 + j) c8 (P ++ Y) w8 (HT.out _ D5) G5 (spk_noV _) (noX_fit _ _ _) A8 hpA (by show 0 + _ ≤ _; omega)
          unfold VwV.cells Sl.v at C9
          simp only at C9
          have a0 : w8.cell? ⟨w.heap.size, 0, none⟩ = some (.int .i64 (V : Int)) := X0.cell 0 rfl
          have a1 : w8.cell? ⟨w.heap.size, 1, none⟩ = some (.int .i64 (D : Int)) := X0.cell 1 rfl
          have a2 : w8.cell? ⟨w.heap.size, 2, none⟩ = some (.int .i64 (Hd : Int)) := X0.cell 2 rfl
          have a3 : w8.cell? ⟨w.heap.size, 3, none⟩ = some (.int .i64 (H : Int)) := X0.cell 3 rfl
          have a4 : w8.cell? ⟨w.heap.size, 4, none⟩ = some (.int .i64 (L : Int)) := X0.cell 4 rfl
          go_wp2_with (refine wpList_load_row rfl 35 _ rfl w2.heap.size rfl 35 ws (0, 0) _ X1 Tryd.underlying35 rfl (by rw [siz]; exact Tryd.infoW) ?_)
          refine C9.mono ?_
          rintro e w9 ⟨v2, g9, rfl, N9, F9, B9⟩
          rw [show (#[.slice v2.t.ao v2.t.n v2.t.c, .slice v2.k.ao v2.k.n v2.k.c, .slice v2.v.ao v2.v.n v2.v.c] : Array Value) = v2.cells from rfl]
          have one2 := vwv_one v2
          have siz2 := vwv_size v2
          have V9 := N9.now
          clear N9 F9 C9 a0 a1 a2 a3 a4
          have CC := fun (n : Nat) (wv : World) (h : VwAt wv v2 (feedAll M D H Hd L noX (P ++ Y))) (hn : n ≤ (P ++ Y).length) => scut_fed v2 n wv h tkA (by omega) (by omega) hn (by omega) (by omega)
          have HV9 : Hid (∀ wv, Below w9.heap.size w9 wv → VwAt wv v2 (feedAll M D H Hd L noX (P ++ Y))) := fun wv hb => V9.below hb
          generalize hcw : v2.cells = cw at *
          have D9 := below_then D5 B9
          replace X0 := X0.below B9
          replace X1 := X1.below B9
          replace G5 := G5.below B9
          replace I5 := I5.below B9
          replace AY := AY.below B9
          replace A8 := A8.below B9
          have XA := blk_new w9 46 #[.slice none 0 0, .slice none 0 0, .slice none 0 0]
          have BA : Below w9.heap.size w9 (w9.alloc (.cells #[.slice none 0 0, .slice none 0 0, .slice none 0 0] 46)) := (Below.refl _ _).alloc (Nat.le_refl _) _
          generalize hwa : w9.alloc (.cells #[.slice none 0 0, .slice none 0 0, .slice none 0 0] 46) = wa at *
          have XB := XA.row cw
          have BB := below_setRow BA (Nat.le_refl _) cw
          generalize hwb : wa.setRow w9.heap.size cw = wb at *
          have D10 := below_then D9 BB
          replace X0 := X0.below BB
          replace X1 := X1.below BB
          replace G5 := G5.below BB
          replace I5 := I5.below BB
          replace AY := AY.below BB
          replace A8 := A8.below BB
          clear V9 D5 D9 B9
          by_cases hc1 : cu < 1
          · go_wp2_with (refine wpList_store_row rfl 46 _ _ rfl w9.heap.size cw rfl rfl 46 _ XA (by rw [siz2]; exact Tryd.infoV) (by rw [siz2]; rfl) one2 ?_; rw [hwb])
            go_ret
            exact ⟨rfl, D10⟩
          · by_cases hc2 : (l1 : Int) < cu
            · go_wp2_with (refine wpList_store_row rfl 46 _ _ rfl w9.heap.size cw rfl rfl 46 _ XA (by rw [siz2]; exact Tryd.infoV) (by rw [siz2]; rfl) one2 ?_; rw [hwb])
              go_ret
              exact ⟨rfl, D10⟩
            · obtain ⟨n0, hn0⟩ : ∃ n0 : Nat, cu = (n0 : Int) + 1 := ⟨(cu - 1).toNat, by omega⟩
              subst hn0
              have ew : IntKind.i64.wrap ((n0 : Int) + 1 - 1) = (n0 : Int) := by rw [Int.add_sub_cancel]; exact wrap_in (by omega)
              have C11 := CC n0 wb (HV9.out _ BB) (by omega)
              go_wp2_with (first | (refine wpList_store_row rfl 46 _ _ rfl w9.heap.size cw rfl rfl 46 _ XA (by rw [siz2]; exact Tryd.infoV) (by rw [siz2]; rfl) one2 ?_; rw [hwb]) | (refine wpList_load_row rfl 46 _ rfl w9.heap.size rfl 46 cw (0, 0) _ XB Tryd.underlying46 rfl (by rw [siz2]; exact Tryd.infoV) ?_))
              refine C11.mono ?_
              rintro e w11 ⟨vu, rfl, N11, B11⟩
              have one3 := vwv_one vu
              have siz3 := vwv_size vu
              have D11 := below_then D10 B11
              replace X0 := X0.below B11
              replace X1 := X1.below B11
              replace G5 := G5.below B11
              replace AY := AY.below B11
              replace A8 := A8.below B11
              have XC := blk_new w11 46 #[.slice none 0 0, .slice none 0 0, .slice none 0 0]
              have BC : Below w11.heap.size w11 (w11.alloc (.cells #[.slice none 0 0, .slice none 0 0, .slice none 0 0] 46)) := (Below.refl _ _).alloc (Nat.le_refl _) _
              have HX0 : Hid (∀ wv, Below w11.heap.size w11 wv → Blk wv w.heap.size 23 #[.int .i64 (V : Int), .int .i64 (D : Int), .int .i64 (Hd : Int), .int .i64 (H : Int), .int .i64 (L : Int)]) := fun wv hb => X0.below hb
              have HX1 : Hid (∀ wv, Below w11.heap.size w11 wv → Blk wv w2.heap.size 35 ws) := fun wv hb => X1.below hb
              have HGD : Hid (∀ wv, Below w11.heap.size w11 wv → Good wv V D Hd H L WW bs M) := fun wv hb => G5.below hb
              have HAY : Hid (∀ wv, Below w11.heap.size w11 wv → IArg wv (some ⟨yb, 0, none⟩) j yc Y) := fun wv hb => AY.below hb
              have HA8 : Hid (∀ wv, Below w11.heap.size w11 wv → IArg wv (some ⟨g8, 0, none⟩) (l1 + j) c8 (P ++ Y)) := fun wv hb => A8.below hb
              have HD : Hid (∀ wv, Below w11.heap.size w11 wv → Below w.heap.size w wv) := fun wv hb => below_then D11 hb
              clear X0 X1 G5 AY A8 D10 D11 C11 I5 XB BA hwa hwb XA B11 BB CC HV9
              generalize hwc : w11.alloc (.cells #[.slice none 0 0, .slice none 0 0, .slice none 0 0] 46) = wc at *
              have VU : Hid (∀ wz, (∀ b, b ≠ w11.heap.size → b < w11.heap.size → wz.heap[b]? = w11.heap[b]?) → VwAt wz vu (feedAll M D H Hd L noX ((P ++ Y).take n0))) := fun wz hz => N11 wz (fun b _ hb => hz b (by omega) hb)
              have XD := XC.row vu.cells
              have BD := below_setRow BC (Nat.le_refl _) vu.cells
              have zc := XC.lt
              generalize hwd : wc.setRow w11.heap.size vu.cells = wd at *
              have BG : Below wd.heap.size wd (wd.alloc (.cells #[] 3)) := (Below.refl _ _).alloc (Nat.le_refl _) _
              have OG : (wd.alloc (.cells #[] 3)).ownsRow wd.heap.size 3 1 (.slice (some ⟨wd.heap.size, 0, none⟩) 0 0) 0 [] := World.ownsRow_made wd #[] 0 (Nat.le_refl _) (by decide) rfl
              have zd := XD.lt
              have S0 : SK w11 (wd.alloc (.cells #[] 3)) w11.heap.size vu (feedAll M D H Hd L noX ((P ++ Y).take n0)) (some ⟨wd.heap.size, 0, none⟩) 0 0 [] := ⟨XD.below BG, (VU.out wd (fun b _ hb => BD.block b hb)).below BG, owns_mono OG (by omega) (fun _ _ => rfl), below_then BD BG⟩
              clear VU N11 XD BD BG OG
              go_wp2_with (refine wpList_store_row rfl 46 _ _ rfl w11.heap.size vu.cells rfl rfl 46 _ XC (by rw [siz3]; exact Tryd.infoV) (by rw [siz3]; rfl) one3 ?_; rw [hwd])
              have hcov : (n0 : Int) + 1 ≤ (l1 : Int) := by omega
              clear hc1 hc2
              have HYJ : Hid (runY M V D H Hd L P j = Y) := hY
              have hlY' := hlY
              clear hY
              go_loopg [20, 21] (l1 + j - n0) (fun gg s20 s21 wr => ∃ (i : Nat) (vu : VwV) (ga : Option Addr) (gc : Nat), n0 ≤ i ∧ i ≤ l1 + j ∧ gg = l1 + j - i ∧ s21 = .int .i64 (i : Int) ∧ s20 = .slice ga (spkN l1 j i) gc ∧ SK w11 wr w11.heap.size vu (feedAll M D H Hd L noX ((P ++ Y).take i)) ga (spkN l1 j i) gc (runY M V D H Hd L P (spkN l1 j i)))
              case atStart => exact ⟨n0, vu, _, _, Nat.le_refl _, by omega, rfl, rfl, by rw [spkN_first (by omega)], by rw [spkN_first (by omega)]; exact S0⟩
              case round =>
                obtain ⟨i, vx, ga, gc, hi0, hi1, rfl, rfl, rfl, S⟩ := hrel
                clear S0 XC BC hwc hwd zc zd one3 siz3
                by_cases hlt : i < l1 + j
                · have htk : ∃ tn : Nat, el (P ++ Y) i = tn ∧ tn < V := by
                    have hm : el (P ++ Y) i ∈ P ++ Y := by unfold el; rw [List.getD_eq_getElem?_getD, List.getElem?_eq_getElem (by omega)]; exact List.getElem_mem _
                    have := of_decide_eq_true (List.all_eq_true.1 tkA _ hm)
                    exact ⟨(el (P ++ Y) i).toNat, by omega, by omega⟩
                  obtain ⟨tn, etn, htn⟩ := htk
                  have lnX : (feedAll M D H Hd L noX ((P ++ Y).take i)).T.length ≤ 127 := by rw [spk_len, List.length_take]; show 0 + _ ≤ _; omega
                  have ftX : VwFit V D L (feedAll M D H Hd L noX ((P ++ Y).take i)) := feedAll_fit (noX_fit _ _ _) (by have h := tkA; rw [← List.take_append_drop i (P ++ Y), List.all_append, Bool.and_eq_true] at h; exact h.1) (by show 0 + _ ≤ _; rw [List.length_take]; omega)
                  have F1 := fun (wv : World) (g1 : Tab wv) (g4 : Good wv V D Hd H L WW bs M) (g5 : VwAt wv vx (feedAll M D H Hd L noX ((P ++ Y).take i))) => FE vx _ tn wv g1 lnX htn g4 g5 ftX
                  have HF : Hid (feedV M D H Hd L (feedAll M D H Hd L noX ((P ++ Y).take i)) tn = feedAll M D H Hd L noX ((P ++ Y).take (i + 1))) := by
                    have h := spk_feed M D H Hd L noX (A := P ++ Y) (i := i) (by omega)
                    rw [etn] at h
                    exact h
                  have HLK : Hid (∀ m, m ≤ j → i = l1 + m - 1 → amax (likR M V D (feedX M D H Hd L (feedAll M D H Hd L noX ((P ++ Y).take i)) tn)) V = nextT M V D H Hd L (P ++ runY M V D H Hd L P m)) := fun m hm hi => by
                    have h := spk_next M V D H Hd L P hP0 hm
                    rw [HYJ.out, hlP, ← hi, etn] at h
                    exact h
                  rw [HF.out] at F1
                  generalize likR M V D (feedX M D H Hd L (feedAll M D H Hd L noX ((P ++ Y).take i)) tn) = lk at *
                  have XU := S.xu
                  have VW := S.vw
                  have OG := S.og
                  have KB := S.kp
                  have ltu := XU.lt
                  have one3 := vwv_one vx
                  have siz3 := vwv_size vx
                  have HA9 : Hid (∀ wv, Below w11.heap.size w11 wv → wv.cell? ⟨g8, i, none⟩ = some (.int .i64 (tn : Int))) := fun wv hb => by
                    obtain ⟨b', o', e', hc'⟩ := (HA8.out wv hb).row.cells (by omega)
                    simp only [Option.some.injEq, Addr.mk.injEq, and_true] at e'
                    obtain ⟨rfl, rfl⟩ := e'
                    have := hc' i hlt
                    rw [Nat.zero_add, etn] at this
                    exact this
                  clear S
                  generalize vx.cells = cv at *
                  have hlt' : (i : Int) < ((l1 + j : Nat) : Int) := by omega
                  go_upto_region 19 with fail
                  replace XU := XU.below ((Below.refl _ _).drew)
                  replace VW := VW.below ((Below.refl _ _).drew)
                  replace OG := owns_below OG ((Below.refl _ _).drew)
                  replace KB := KB.drew
                  replace ltu : w11.heap.size < wr.drew.heap.size := ltu
                  have zX : wr.heap.size ≤ wr.drew.heap.size := Nat.le_refl _
                  have LTW : Hid (w11.heap.size < wr.heap.size) := XU.lt
                  have OGL : Hid (∀ b, (Value.slice ga (spkN l1 j i) gc).ownBlock = some b → b < wr.heap.size) := fun b hb => (OG.lt b hb).2
                  refine wp_region_held_drew (S := fun w' => Below w11.heap.size w11 w' ∧ Blk w' w11.heap.size 46 cv) (by kernel_rfl) (⟨KB, XU⟩) (fun hHeld => ?_)
                  generalize hA : wr.drew = wA at *
                  clear hA
                  refine wpAnyH_take (i := 0) (v := (.agg #[.int .i64 (V : Int), .int .i64 (D : Int), .int .i64 (Hd : Int), .int .i64 (H : Int), .int .i64 (L : Int)])) rfl (by kernel_rfl) (by kernel_rfl) (by kernel_rfl) (fun _ _ _ h => h) (Or.inl ⟨by rfl, ?_⟩) (by assumption) ?_
                  · intro w' hSw
                    have cc0 : w'.cell? ⟨w.heap.size, 0, none⟩ = some (.int .i64 (V : Int)) := (HX0.out _ hSw.1).cell 0 rfl
                    have cc1 : w'.cell? ⟨w.heap.size, 1, none⟩ = some (.int .i64 (D : Int)) := (HX0.out _ hSw.1).cell 1 rfl
                    have cc2 : w'.cell? ⟨w.heap.size, 2, none⟩ = some (.int .i64 (Hd : Int)) := (HX0.out _ hSw.1).cell 2 rfl
                    have cc3 : w'.cell? ⟨w.heap.size, 3, none⟩ = some (.int .i64 (H : Int)) := (HX0.out _ hSw.1).cell 3 rfl
                    have cc4 : w'.cell? ⟨w.heap.size, 4, none⟩ = some (.int .i64 (L : Int)) := (HX0.out _ hSw.1).cell 4 rfl
                    go_simp
                  simp only [List.getElem_toArray, List.getElem_cons_zero, Act.put, List.setIfInBounds_toArray, List.set_cons_zero, List.set_cons_succ]
                  refine wpAnyH_take (i := 1) (v := (.agg ws)) rfl (by kernel_rfl) (by kernel_rfl) (by kernel_rfl) (fun _ _ _ h => h) (Or.inl ⟨by rfl, ?_⟩) (by assumption) ?_
                  · intro w' hSw
                    exact yield_row 35 _ rfl w2.heap.size rfl ws (load_w (HX1.out _ hSw.1) siz)
                  simp only [List.getElem_toArray, List.getElem_cons_succ, List.getElem_cons_zero, Act.put, List.setIfInBounds_toArray, List.set_cons_zero, List.set_cons_succ]
                  refine wpAnyH_take (i := 2) (v := (.agg cv)) rfl (by kernel_rfl) (by kernel_rfl) (by kernel_rfl) (fun _ _ _ h => h) (Or.inl ⟨by rfl, ?_⟩) (by assumption) ?_
                  · intro w' hSw
                    exact yield_row 46 _ rfl w11.heap.size rfl cv (load_v hSw.2 siz3)
                  simp only [List.getElem_toArray, List.getElem_cons_succ, List.getElem_cons_zero, Act.put, List.setIfInBounds_toArray, List.set_cons_zero, List.set_cons_succ]
                  refine wpAnyH_take (i := 3) (v := (.slice (some ⟨g8, 0, none⟩) (l1 + j) c8)) rfl (by kernel_rfl) (by kernel_rfl) (by kernel_rfl) (fun _ _ _ h => h) (Or.inl ⟨by rfl, ?_⟩) (by assumption) ?_
                  · intro w' hSw
                    go_simp
                  simp only [List.getElem_toArray, List.getElem_cons_succ, List.getElem_cons_zero, Act.put, List.setIfInBounds_toArray, List.set_cons_zero, List.set_cons_succ]
                  refine wpAnyH_take (i := 4) (v := (.int .i64 (i : Int))) rfl (by kernel_rfl) (by kernel_rfl) (by kernel_rfl) (fun _ _ _ h => h) (Or.inl ⟨by rfl, ?_⟩) (by assumption) ?_
                  · intro w' hSw
                    go_simp
                  simp only [List.getElem_toArray, List.getElem_cons_succ, List.getElem_cons_zero, Act.put, List.setIfInBounds_toArray, List.set_cons_zero, List.set_cons_succ]
                  refine wpAnyH_take (i := 5) (v := (.pointer (some ⟨g8, i, none⟩))) rfl (by kernel_rfl) (by kernel_rfl) (by kernel_rfl) (fun _ _ _ h => h) (Or.inl ⟨by rfl, ?_⟩) (by assumption) ?_
                  · intro w' hSw
                    go_simp
                  simp only [List.getElem_toArray, List.getElem_cons_succ, List.getElem_cons_zero, Act.put, List.setIfInBounds_toArray, List.set_cons_zero, List.set_cons_succ]
                  refine wpAnyH_take (i := 6) (v := (.int .i64 (tn : Int))) rfl (by kernel_rfl) (by kernel_rfl) (by kernel_rfl) (fun _ _ _ h => h) (Or.inl ⟨by rfl, ?_⟩) (by assumption) ?_
                  · intro w' hSw
                    have cc := HA9.out _ hSw.1
                    go_simp
                  simp only [List.getElem_toArray, List.getElem_cons_succ, List.getElem_cons_zero, Act.put, List.setIfInBounds_toArray, List.set_cons_zero, List.set_cons_succ]
                  refine wpAnyH_ready (rs := [7, 12]) (by kernel_rfl) (by simp) ?_
                  refine AllReadyH.cons rfl (fun Kc hKc => ?_) (AllReadyH.cons rfl (fun Kc hKc => ?_) AllReadyH.nil)
                  · simp only [List.getElem_toArray, List.getElem_cons_succ, List.getElem_cons_zero]
                    rw [if_pos (by rfl)]
                    go_wp2_with fail
                    refine (F1 wA (HT.out _ (HD.out _ KB)) (HGD.out _ KB) VW).mono ?_
                    rintro e wN1 ⟨v2, g, rfl, N7, F7, EM⟩
                    have one2 := vwv_one v2
                    have siz2 := vwv_size v2
                    generalize hc2 : v2.cells = cw at *
                    clear VW F1
                    have zEM := EM.size
                    have gne : g ≠ wN1.heap.size := by have h1 := F7.base; have h2 := F7.lt; omega
                    have NV : Hangs (fun b => wr.heap.size ≤ b ∧ b ≠ wN1.heap.size) wN1 _ := Hangs.mono N7 (fun b hb hp => ⟨by show _ ≤ _; have hp' : _ ≤ b := hp; omega, by have hp' : _ ≤ b := hp; omega⟩)
                    clear N7
                    replace XU := XU.below EM
                    replace OG := owns_below OG EM
                    replace KB := below_then KB EM
                    replace zX := Nat.le_trans zX EM.size
                    refine hKc.out _ _ ⟨KB, XU⟩ (fun hHeld => ?_)
                    clear hKc Kc EM
                    refine wpAnyH_take (i := 8) (v := (.tuple #[.agg cw, .slice (some ⟨g, 0, none⟩) V V, .int .i64 0])) rfl (by kernel_rfl) (by kernel_rfl) (by kernel_rfl) (fun _ _ _ h => h) (Or.inl ⟨by rfl, ?_⟩) (by assumption) ?_
                    · intro w' hSw
                      go_simp
                    simp only [List.getElem_toArray, List.getElem_cons_succ, List.getElem_cons_zero, Act.put, List.setIfInBounds_toArray, List.set_cons_zero, List.set_cons_succ]
                    refine wpAnyH_take (i := 9) (v := (.agg cw)) rfl (by kernel_rfl) (by kernel_rfl) (by kernel_rfl) (fun _ _ _ h => h) (Or.inl ⟨by rfl, ?_⟩) (by assumption) ?_
                    · intro w' hSw
                      go_simp
                    simp only [List.getElem_toArray, List.getElem_cons_succ, List.getElem_cons_zero, Act.put, List.setIfInBounds_toArray, List.set_cons_zero, List.set_cons_succ]
                    refine wpAnyH_take (i := 10) (v := (.slice (some ⟨g, 0, none⟩) V V)) rfl (by kernel_rfl) (by kernel_rfl) (by kernel_rfl) (fun _ _ _ h => h) (Or.inl ⟨by rfl, ?_⟩) (by assumption) ?_
                    · intro w' hSw
                      go_simp
                    simp only [List.getElem_toArray, List.getElem_cons_succ, List.getElem_cons_zero, Act.put, List.setIfInBounds_toArray, List.set_cons_zero, List.set_cons_succ]
                    refine wpAnyH_take (i := 11) (v := (.int .i64 0)) rfl (by kernel_rfl) (by kernel_rfl) (by kernel_rfl) (fun _ _ _ h => h) (Or.inl ⟨by rfl, ?_⟩) (by assumption) ?_
                    · intro w' hSw
                      go_simp
                    simp only [List.getElem_toArray, List.getElem_cons_succ, List.getElem_cons_zero, Act.put, List.setIfInBounds_toArray, List.set_cons_zero, List.set_cons_succ]
                    refine wpAnyH_ready (rs := [12]) (by kernel_rfl) (by simp) ?_
                    refine AllReadyH.cons rfl (fun Kc hKc => ?_) AllReadyH.nil
                    simp only [List.getElem_toArray, List.getElem_cons_succ, List.getElem_cons_zero]
                    rw [if_pos (by rfl)]
                    go_wp2_with fail
                    have XA0 := blk_new wN1 46 #[.slice none 0 0, .slice none 0 0, .slice none 0 0]
                    have zA : wr.heap.size ≤ wN1.heap.size := zX
                    have EM : Below wN1.heap.size wN1 (wN1.alloc (.cells #[.slice none 0 0, .slice none 0 0, .slice none 0 0] 46)) := (Below.refl _ _).alloc (Nat.le_refl _) _
                    generalize hn : wN1.alloc (.cells #[.slice none 0 0, .slice none 0 0, .slice none 0 0] 46) = wN2 at *
                    replace XU := XU.below EM
                    replace OG := owns_below OG EM
                    replace KB := below_then KB EM
                    replace zX := Nat.le_trans zX EM.size
                    replace NV := Hangs.below NV EM
                    replace F7 := F7.below EM
                    have XA := XA0
                    clear XA0 hn
                    refine hKc.out _ _ ⟨KB, XU⟩ (fun hHeld => ?_)
                    clear hKc Kc EM
                    refine wpAnyH_ready (rs := [13]) (by kernel_rfl) (by simp) ?_
                    refine AllReadyH.cons rfl (fun Kc hKc => ?_) AllReadyH.nil
                    simp only [List.getElem_toArray, List.getElem_cons_succ, List.getElem_cons_zero]
                    rw [if_pos (by rfl)]
                    refine wp_store_row 46 _ _ rfl wN1.heap.size cw rfl rfl 46 _ XA (by rw [siz2]; exact Tryd.infoV) (by rw [siz2]; rfl) one2 ?_
                    have so : ∀ b, b ≠ wN1.heap.size → (wN2.setRow wN1.heap.size cw).heap[b]? = wN2.heap[b]? := fun b hb => setRow_other _ _ _ _ hb
                    replace XU := Blk.of_block XU (so _ (by omega))
                    replace F7 := F7.of_block (so _ gne)
                    have ogl := fun b hb => (OG.lt b hb).1
                    replace NV := Hangs.row NV (g := wN1.heap.size) (fun h => h.2 rfl) cw
                    replace OG := owns_mono OG (Nat.le_refl _) (fun b hb => so b (by have := OGL.out b hb; omega))
                    replace KB := below_setRow KB (show w11.heap.size ≤ wN1.heap.size by omega) cw
                    have XA := XA.row cw
                    have zS : wN2.heap.size = (wN2.setRow wN1.heap.size cw).heap.size := by simp [World.setRow]
                    generalize hn : wN2.setRow wN1.heap.size cw = wS at *
                    refine hKc.out _ _ ⟨KB, XU⟩ (fun hHeld => ?_)
                    clear hKc Kc hn so
                    refine wpAnyH_take (i := 14) (v := (.slice (some ⟨g, 0, none⟩) V V)) rfl (by kernel_rfl) (by kernel_rfl) (by kernel_rfl) (fun _ _ _ h => h) (Or.inl ⟨by rfl, ?_⟩) (by assumption) ?_
                    · intro w' hSw
                      go_simp
                    simp only [List.getElem_toArray, List.getElem_cons_succ, List.getElem_cons_zero, Act.put, List.setIfInBounds_toArray, List.set_cons_zero, List.set_cons_succ]
                    refine wpAnyH_take (i := 15) (v := (.int .i64 0)) rfl (by kernel_rfl) (by kernel_rfl) (by kernel_rfl) (fun _ _ _ h => h) (Or.inl ⟨by rfl, ?_⟩) (by assumption) ?_
                    · intro w' hSw
                      go_simp
                    simp only [List.getElem_toArray, List.getElem_cons_succ, List.getElem_cons_zero, Act.put, List.setIfInBounds_toArray, List.set_cons_zero, List.set_cons_succ]
                    refine wpAnyH_done (by kernel_rfl) ?_ _
                    clear hHeld
                    have ltS := XU.lt
                    have gbs := F7.base
                    have XT := XU.row cw
                    have so2 : ∀ b, b ≠ w11.heap.size → (wS.setRow w11.heap.size cw).heap[b]? = wS.heap[b]? := fun b hb => setRow_other _ _ _ _ hb
                    have NV2 := Hangs.row NV (g := w11.heap.size) (fun h => by have := h.1; have := LTW.out; omega) cw
                    have F8 := F7.of_block (so2 _ (by omega))
                    have OG2 := owns_mono OG (Nat.le_refl _) (fun b hb => so2 b (by have := (OG.lt b hb).1; omega))
                    have KB2 := below_setRow KB (Nat.le_refl _) cw
                    have zT : (wS.setRow w11.heap.size cw).heap.size = wS.heap.size := by simp [World.setRow]
                    generalize hn : wS.setRow w11.heap.size cw = wT at *
                    obtain ⟨ga', gc', eg, AG⟩ := IOwn.arg OG2 (fun k => YB.out _ k)
                    simp only [Value.slice.injEq, true_and] at eg
                    obtain ⟨rfl, rfl⟩ := eg
                    have CO := over_any ga (spkN l1 j i) gc _ most wT AG.row
                    have ew1 : IntKind.i64.wrap ((l1 : Int) - 1) = (l1 : Int) - 1 := wrap_in (by omega)
                    clear NV F7 OG KB so2 AG
                    by_cases hp : i + 1 < l1
                    · have hp' : ¬ ((l1 : Int) - 1 ≤ (i : Int)) := by omega
                      go_wp2_with (first | (refine wpList_load_row rfl 46 _ rfl (wN1.heap.size) rfl 46 cw (0, 0) _ XA Tryd.underlying46 rfl (by rw [siz2]; exact Tryd.infoV) ?_) | (refine wpList_store_row rfl 46 _ _ rfl w11.heap.size cw rfl rfl 46 _ XU (by rw [siz2]; exact Tryd.infoV) (by rw [siz2, siz3]) one2 ?_; rw [hn]))
                      go_roundg (l1 + j - (i + 1))
                      case measure => omega
                      case rel => exact ⟨i + 1, v2, ga, gc, by omega, by omega, rfl, by go_num, by rw [spkN_quiet hp], by rw [spkN_quiet hp]; exact ⟨by rw [hc2]; exact XT, NV2.now, OG2, KB2⟩⟩
                    · have hp' : (l1 : Int) - 1 ≤ (i : Int) := by omega
                      by_cases hs : spkN l1 j i < j
                      · rw [k2 _ hs] at CO
                        obtain ⟨q1, q2⟩ := spkN_on (by omega) hs
                        have hnx := HLK.out _ (Nat.le_of_lt hs) q2
                        have CN := gnext_any (some ⟨g, 0, none⟩) V V lk wT F8.rowAt
                        have tkb := amax_tok lk (V := V) (by omega)
                        have hY1 : Hid (runY M V D H Hd L P (spkN l1 j i + 1) = runY M V D H Hd L P (spkN l1 j i) ++ [nextT M V D H Hd L (P ++ runY M V D H Hd L P (spkN l1 j i))]) := rfl
                        rw [← hnx] at hY1
                        generalize amax lk V = tk at *
                        clear q2 hnx HLK
                        generalize spkN l1 j i = k at *
                        have XQ := blk_new wT 3 #[.int .i64 tk]
                        have EQ : Below wT.heap.size wT (wT.alloc (.cells #[.int .i64 tk] 3)) := (Below.refl _ _).alloc (Nat.le_refl _) _
                        have OG3 := owns_below OG2 EQ
                        have hxq := one_int (XQ.cell 0 (v := .int .i64 tk) rfl)
                        have zQ := EQ.size
                        obtain ⟨i0, hi0, hz0, hz1, hz2⟩ := info_parts Tryd.infoInt
                        have t1 : k + 1 ≤ maxLen := by unfold maxLen; omega
                        have t2 : (k + 1) * 8 ≤ 140737488355328 := by omega
                        have zR := LTW.out
                        have t3 : w11.heap.size + 1 ≤ (wT.alloc (.cells #[.int .i64 tk] 3)).heap.size := by omega
                        have OG4 : (wT.alloc (.cells #[.int .i64 tk] 3)).ownsRow (w11.heap.size + 1) 3 1 (.slice ga k gc) k ((runY M V D H Hd L P k).map (Value.int .i64)) := OG3
                        go_wp2_with (first | (at_builtin; refine wpList_append_own _ rfl _ _ 25 rfl (w11.heap.size + 1) 3 i0 (.int .i64 0) 1 8 Tryd.underlying25 hi0 hz0 hz1 hz2 rfl (by decide) _ k _ rfl OG4 ⟨wT.heap.size, 0, none⟩ 1 1 ([tk].map (Value.int .i64)) (by simp [Act.eval]) rfl hxq (ints_oneCell _ _) t1 t2 t3 ?_; intro v' wB O2 G2 N2; obtain ⟨ga2, gc2, rfl⟩ := owns_slice O2) | (refine wpList_load_row rfl 46 _ rfl (wN1.heap.size) rfl 46 cw (0, 0) _ XA Tryd.underlying46 rfl (by rw [siz2]; exact Tryd.infoV) ?_) | (refine wpList_store_row rfl 46 _ _ rfl w11.heap.size cw rfl rfl 46 _ XU (by rw [siz2]; exact Tryd.infoV) (by rw [siz2, siz3]) one2 ?_; rw [hn]) | (go_at_call 4; refine CO.mono ?_; rintro e w5 ⟨rfl, h5⟩; replace h5 := h5.symm; subst h5) | (go_at_call 5; refine CN.mono ?_; rintro e w6 ⟨rfl, h6⟩; replace h6 := h6.symm; subst h6))
                        go_roundg (l1 + j - (i + 1))
                        case measure => omega
                        case rel =>
                          have hown : ∀ b, Value.ownBlock (.slice ga k gc) = some b → w11.heap.size + 1 ≤ b ∧ b < wr.heap.size := fun b hb => ⟨(OG2.lt b hb).1, OGL.out b hb⟩
                          refine ⟨i + 1, v2, ga2, gc2, by omega, by omega, rfl, by go_num, by rw [q1], ?_⟩
                          rw [q1]
                          refine ⟨?_, ?_, ?_, ?_⟩
                          · rw [hc2]; exact Blk.of_block (XT.below EQ) (G2.block _ (XT.below EQ).lt (fun h => by have := hown _ h.symm; omega))
                          · exact (Hangs.grown (Hangs.below NV2 EQ) G2 (fun b hb h => by have := hown b h.symm; have := hb.1; omega)).now
                          · rw [hY1.out]; unfold IOwn; rw [List.map_append]; exact O2
                          · have b9 := below_then KB2 EQ
                            exact b9.grown G2 b9.size (fun q hq => by have := hown q hq; omega)
                      · obtain ⟨q1, q2⟩ := spkN_over hs
                        rw [show overB (runY M V D H Hd L P (spkN l1 j i)) most = true by rw [q2, HYJ.out]; exact k1] at CO
                        have Q1 : Hid (spkN l1 j (i + 1) = spkN l1 j i) := q1
                        clear q1 q2 HLK
                        go_wp2_with (first | (refine wpList_load_row rfl 46 _ rfl (wN1.heap.size) rfl 46 cw (0, 0) _ XA Tryd.underlying46 rfl (by rw [siz2]; exact Tryd.infoV) ?_) | (refine wpList_store_row rfl 46 _ _ rfl w11.heap.size cw rfl rfl 46 _ XU (by rw [siz2]; exact Tryd.infoV) (by rw [siz2, siz3]) one2 ?_; rw [hn]) | (go_at_call 4; refine CO.mono ?_; rintro e w5 ⟨rfl, h5⟩; replace h5 := h5.symm; subst h5))
                        go_roundg (l1 + j - (i + 1))
                        case measure => omega
                        case rel => exact ⟨i + 1, v2, ga, gc, by omega, by omega, rfl, by go_num, by rw [Q1.out], by rw [Q1.out]; exact ⟨by rw [hc2]; exact XT, NV2.now, OG2, KB2⟩⟩
                  · simp only [List.getElem_toArray, List.getElem_cons_succ, List.getElem_cons_zero]
                    rw [if_pos (by rfl)]
                    go_wp2_with fail
                    have XA0 := blk_new wA 46 #[.slice none 0 0, .slice none 0 0, .slice none 0 0]
                    have zA : wr.heap.size ≤ wA.heap.size := zX
                    have EM : Below wA.heap.size wA (wA.alloc (.cells #[.slice none 0 0, .slice none 0 0, .slice none 0 0] 46)) := (Below.refl _ _).alloc (Nat.le_refl _) _
                    generalize hn : wA.alloc (.cells #[.slice none 0 0, .slice none 0 0, .slice none 0 0] 46) = wN3 at *
                    replace XU := XU.below EM
                    replace OG := owns_below OG EM
                    replace KB := below_then KB EM
                    replace zX := Nat.le_trans zX EM.size
                    replace VW := VW.below EM
                    have XA := XA0
                    clear XA0 hn
                    refine hKc.out _ _ ⟨KB, XU⟩ (fun hHeld => ?_)
                    clear hKc Kc EM
                    refine wpAnyH_ready (rs := [7]) (by kernel_rfl) (by simp) ?_
                    refine AllReadyH.cons rfl (fun Kc hKc => ?_) AllReadyH.nil
                    simp only [List.getElem_toArray, List.getElem_cons_succ, List.getElem_cons_zero]
                    rw [if_pos (by rfl)]
                    go_wp2_with fail
                    refine (F1 wN3 (HT.out _ (HD.out _ KB)) (HGD.out _ KB) VW).mono ?_
                    rintro e wN4 ⟨v2, g, rfl, N7, F7, EM⟩
                    have one2 := vwv_one v2
                    have siz2 := vwv_size v2
                    generalize hc2 : v2.cells = cw at *
                    clear VW F1
                    have zAB := XA.lt
                    have zEM := EM.size
                    have gne : g ≠ wA.heap.size := by have h1 := F7.base; have h2 := F7.lt; omega
                    have NV : Hangs (fun b => wr.heap.size ≤ b ∧ b ≠ wA.heap.size) wN4 _ := Hangs.mono N7 (fun b hb hp => ⟨by show _ ≤ _; have hp' : _ ≤ b := hp; omega, by have hp' : _ ≤ b := hp; omega⟩)
                    clear N7
                    replace XU := XU.below EM
                    replace OG := owns_below OG EM
                    replace KB := below_then KB EM
                    replace zX := Nat.le_trans zX EM.size
                    have zAA := XA.lt
                    replace XA := XA.below EM
                    refine hKc.out _ _ ⟨KB, XU⟩ (fun hHeld => ?_)
                    clear hKc Kc EM
                    refine wpAnyH_take (i := 8) (v := (.tuple #[.agg cw, .slice (some ⟨g, 0, none⟩) V V, .int .i64 0])) rfl (by kernel_rfl) (by kernel_rfl) (by kernel_rfl) (fun _ _ _ h => h) (Or.inl ⟨by rfl, ?_⟩) (by assumption) ?_
                    · intro w' hSw
                      go_simp
                    simp only [List.getElem_toArray, List.getElem_cons_succ, List.getElem_cons_zero, Act.put, List.setIfInBounds_toArray, List.set_cons_zero, List.set_cons_succ]
                    refine wpAnyH_take (i := 9) (v := (.agg cw)) rfl (by kernel_rfl) (by kernel_rfl) (by kernel_rfl) (fun _ _ _ h => h) (Or.inl ⟨by rfl, ?_⟩) (by assumption) ?_
                    · intro w' hSw
                      go_simp
                    simp only [List.getElem_toArray, List.getElem_cons_succ, List.getElem_cons_zero, Act.put, List.setIfInBounds_toArray, List.set_cons_zero, List.set_cons_succ]
                    refine wpAnyH_take (i := 10) (v := (.slice (some ⟨g, 0, none⟩) V V)) rfl (by kernel_rfl) (by kernel_rfl) (by kernel_rfl) (fun _ _ _ h => h) (Or.inl ⟨by rfl, ?_⟩) (by assumption) ?_
                    · intro w' hSw
                      go_simp
                    simp only [List.getElem_toArray, List.getElem_cons_succ, List.getElem_cons_zero, Act.put, List.setIfInBounds_toArray, List.set_cons_zero, List.set_cons_succ]
                    refine wpAnyH_take (i := 11) (v := (.int .i64 0)) rfl (by kernel_rfl) (by kernel_rfl) (by kernel_rfl) (fun _ _ _ h => h) (Or.inl ⟨by rfl, ?_⟩) (by assumption) ?_
                    · intro w' hSw
                      go_simp
                    simp only [List.getElem_toArray, List.getElem_cons_succ, List.getElem_cons_zero, Act.put, List.setIfInBounds_toArray, List.set_cons_zero, List.set_cons_succ]
                    refine wpAnyH_ready (rs := [13]) (by kernel_rfl) (by simp) ?_
                    refine AllReadyH.cons rfl (fun Kc hKc => ?_) AllReadyH.nil
                    simp only [List.getElem_toArray, List.getElem_cons_succ, List.getElem_cons_zero]
                    rw [if_pos (by rfl)]
                    refine wp_store_row 46 _ _ rfl wA.heap.size cw rfl rfl 46 _ XA (by rw [siz2]; exact Tryd.infoV) (by rw [siz2]; rfl) one2 ?_
                    have so : ∀ b, b ≠ wA.heap.size → (wN4.setRow wA.heap.size cw).heap[b]? = wN4.heap[b]? := fun b hb => setRow_other _ _ _ _ hb
                    replace XU := Blk.of_block XU (so _ (by omega))
                    replace F7 := F7.of_block (so _ gne)
                    have ogl := fun b hb => (OG.lt b hb).1
                    replace NV := Hangs.row NV (g := wA.heap.size) (fun h => h.2 rfl) cw
                    replace OG := owns_mono OG (Nat.le_refl _) (fun b hb => so b (by have := OGL.out b hb; omega))
                    replace KB := below_setRow KB (show w11.heap.size ≤ wA.heap.size by omega) cw
                    have XA := XA.row cw
                    have zS : wN4.heap.size = (wN4.setRow wA.heap.size cw).heap.size := by simp [World.setRow]
                    generalize hn : wN4.setRow wA.heap.size cw = wS at *
                    refine hKc.out _ _ ⟨KB, XU⟩ (fun hHeld => ?_)
                    clear hKc Kc hn so
                    refine wpAnyH_take (i := 14) (v := (.slice (some ⟨g, 0, none⟩) V V)) rfl (by kernel_rfl) (by kernel_rfl) (by kernel_rfl) (fun _ _ _ h => h) (Or.inl ⟨by rfl, ?_⟩) (by assumption) ?_
                    · intro w' hSw
                      go_simp
                    simp only [List.getElem_toArray, List.getElem_cons_succ, List.getElem_cons_zero, Act.put, List.setIfInBounds_toArray, List.set_cons_zero, List.set_cons_succ]
                    refine wpAnyH_take (i := 15) (v := (.int .i64 0)) rfl (by kernel_rfl) (by kernel_rfl) (by kernel_rfl) (fun _ _ _ h => h) (Or.inl ⟨by rfl, ?_⟩) (by assumption) ?_
                    · intro w' hSw
                      go_simp
                    simp only [List.getElem_toArray, List.getElem_cons_succ, List.getElem_cons_zero, Act.put, List.setIfInBounds_toArray, List.set_cons_zero, List.set_cons_succ]
                    refine wpAnyH_done (by kernel_rfl) ?_ _
                    clear hHeld
                    have ltS := XU.lt
                    have gbs := F7.base
                    have XT := XU.row cw
                    have so2 : ∀ b, b ≠ w11.heap.size → (wS.setRow w11.heap.size cw).heap[b]? = wS.heap[b]? := fun b hb => setRow_other _ _ _ _ hb
                    have NV2 := Hangs.row NV (g := w11.heap.size) (fun h => by have := h.1; have := LTW.out; omega) cw
                    have F8 := F7.of_block (so2 _ (by omega))
                    have OG2 := owns_mono OG (Nat.le_refl _) (fun b hb => so2 b (by have := (OG.lt b hb).1; omega))
                    have KB2 := below_setRow KB (Nat.le_refl _) cw
                    have zT : (wS.setRow w11.heap.size cw).heap.size = wS.heap.size := by simp [World.setRow]
                    generalize hn : wS.setRow w11.heap.size cw = wT at *
                    obtain ⟨ga', gc', eg, AG⟩ := IOwn.arg OG2 (fun k => YB.out _ k)
                    simp only [Value.slice.injEq, true_and] at eg
                    obtain ⟨rfl, rfl⟩ := eg
                    have CO := over_any ga (spkN l1 j i) gc _ most wT AG.row
                    have ew1 : IntKind.i64.wrap ((l1 : Int) - 1) = (l1 : Int) - 1 := wrap_in (by omega)
                    clear NV F7 OG KB so2 AG
                    by_cases hp : i + 1 < l1
                    · have hp' : ¬ ((l1 : Int) - 1 ≤ (i : Int)) := by omega
                      go_wp2_with (first | (refine wpList_load_row rfl 46 _ rfl (wA.heap.size) rfl 46 cw (0, 0) _ XA Tryd.underlying46 rfl (by rw [siz2]; exact Tryd.infoV) ?_) | (refine wpList_store_row rfl 46 _ _ rfl w11.heap.size cw rfl rfl 46 _ XU (by rw [siz2]; exact Tryd.infoV) (by rw [siz2, siz3]) one2 ?_; rw [hn]))
                      go_roundg (l1 + j - (i + 1))
                      case measure => omega
                      case rel => exact ⟨i + 1, v2, ga, gc, by omega, by omega, rfl, by go_num, by rw [spkN_quiet hp], by rw [spkN_quiet hp]; exact ⟨by rw [hc2]; exact XT, NV2.now, OG2, KB2⟩⟩
                    · have hp' : (l1 : Int) - 1 ≤ (i : Int) := by omega
                      by_cases hs : spkN l1 j i < j
                      · rw [k2 _ hs] at CO
                        obtain ⟨q1, q2⟩ := spkN_on (by omega) hs
                        have hnx := HLK.out _ (Nat.le_of_lt hs) q2
                        have CN := gnext_any (some ⟨g, 0, none⟩) V V lk wT F8.rowAt
                        have tkb := amax_tok lk (V := V) (by omega)
                        have hY1 : Hid (runY M V D H Hd L P (spkN l1 j i + 1) = runY M V D H Hd L P (spkN l1 j i) ++ [nextT M V D H Hd L (P ++ runY M V D H Hd L P (spkN l1 j i))]) := rfl
                        rw [← hnx] at hY1
                        generalize amax lk V = tk at *
                        clear q2 hnx HLK
                        generalize spkN l1 j i = k at *
                        have XQ := blk_new wT 3 #[.int .i64 tk]
                        have EQ : Below wT.heap.size wT (wT.alloc (.cells #[.int .i64 tk] 3)) := (Below.refl _ _).alloc (Nat.le_refl _) _
                        have OG3 := owns_below OG2 EQ
                        have hxq := one_int (XQ.cell 0 (v := .int .i64 tk) rfl)
                        have zQ := EQ.size
                        obtain ⟨i0, hi0, hz0, hz1, hz2⟩ := info_parts Tryd.infoInt
                        have t1 : k + 1 ≤ maxLen := by unfold maxLen; omega
                        have t2 : (k + 1) * 8 ≤ 140737488355328 := by omega
                        have zR := LTW.out
                        have t3 : w11.heap.size + 1 ≤ (wT.alloc (.cells #[.int .i64 tk] 3)).heap.size := by omega
                        have OG4 : (wT.alloc (.cells #[.int .i64 tk] 3)).ownsRow (w11.heap.size + 1) 3 1 (.slice ga k gc) k ((runY M V D H Hd L P k).map (Value.int .i64)) := OG3
                        go_wp2_with (first | (at_builtin; refine wpList_append_own _ rfl _ _ 25 rfl (w11.heap.size + 1) 3 i0 (.int .i64 0) 1 8 Tryd.underlying25 hi0 hz0 hz1 hz2 rfl (by decide) _ k _ rfl OG4 ⟨wT.heap.size, 0, none⟩ 1 1 ([tk].map (Value.int .i64)) (by simp [Act.eval]) rfl hxq (ints_oneCell _ _) t1 t2 t3 ?_; intro v' wB O2 G2 N2; obtain ⟨ga2, gc2, rfl⟩ := owns_slice O2) | (refine wpList_load_row rfl 46 _ rfl (wA.heap.size) rfl 46 cw (0, 0) _ XA Tryd.underlying46 rfl (by rw [siz2]; exact Tryd.infoV) ?_) | (refine wpList_store_row rfl 46 _ _ rfl w11.heap.size cw rfl rfl 46 _ XU (by rw [siz2]; exact Tryd.infoV) (by rw [siz2, siz3]) one2 ?_; rw [hn]) | (go_at_call 4; refine CO.mono ?_; rintro e w5 ⟨rfl, h5⟩; replace h5 := h5.symm; subst h5) | (go_at_call 5; refine CN.mono ?_; rintro e w6 ⟨rfl, h6⟩; replace h6 := h6.symm; subst h6))
                        go_roundg (l1 + j - (i + 1))
                        case measure => omega
                        case rel =>
                          have hown : ∀ b, Value.ownBlock (.slice ga k gc) = some b → w11.heap.size + 1 ≤ b ∧ b < wr.heap.size := fun b hb => ⟨(OG2.lt b hb).1, OGL.out b hb⟩
                          refine ⟨i + 1, v2, ga2, gc2, by omega, by omega, rfl, by go_num, by rw [q1], ?_⟩
                          rw [q1]
                          refine ⟨?_, ?_, ?_, ?_⟩
                          · rw [hc2]; exact Blk.of_block (XT.below EQ) (G2.block _ (XT.below EQ).lt (fun h => by have := hown _ h.symm; omega))
                          · exact (Hangs.grown (Hangs.below NV2 EQ) G2 (fun b hb h => by have := hown b h.symm; have := hb.1; omega)).now
                          · rw [hY1.out]; unfold IOwn; rw [List.map_append]; exact O2
                          · have b9 := below_then KB2 EQ
                            exact b9.grown G2 b9.size (fun q hq => by have := hown q hq; omega)
                      · obtain ⟨q1, q2⟩ := spkN_over hs
                        rw [show overB (runY M V D H Hd L P (spkN l1 j i)) most = true by rw [q2, HYJ.out]; exact k1] at CO
                        have Q1 : Hid (spkN l1 j (i + 1) = spkN l1 j i) := q1
                        clear q1 q2 HLK
                        go_wp2_with (first | (refine wpList_load_row rfl 46 _ rfl (wA.heap.size) rfl 46 cw (0, 0) _ XA Tryd.underlying46 rfl (by rw [siz2]; exact Tryd.infoV) ?_) | (refine wpList_store_row rfl 46 _ _ rfl w11.heap.size cw rfl rfl 46 _ XU (by rw [siz2]; exact Tryd.infoV) (by rw [siz2, siz3]) one2 ?_; rw [hn]) | (go_at_call 4; refine CO.mono ?_; rintro e w5 ⟨rfl, h5⟩; replace h5 := h5.symm; subst h5))
                        go_roundg (l1 + j - (i + 1))
                        case measure => omega
                        case rel => exact ⟨i + 1, v2, ga, gc, by omega, by omega, rfl, by go_num, by rw [Q1.out], by rw [Q1.out]; exact ⟨by rw [hc2]; exact XT, NV2.now, OG2, KB2⟩⟩
                · obtain rfl : i = l1 + j := by omega
                  have q0 := spkN_last (p := l1) (m := j) (i := l1 + j) rfl
                  have OG := S.og
                  have KB := S.kp
                  have DD := HD.out wr KB
                  have IY := HAY.out wr KB
                  rw [q0, HYJ.out] at OG
                  obtain ⟨ao, cc, hv, IG⟩ := IOwn.arg OG (fun k => by have := YB.out j k; rwa [HYJ.out] at this)
                  injection hv with hv1 hv2 hv3
                  subst hv1
                  have RG := IG.row
                  have RY := IY.row
                  have RGF : Hid (∀ m, IRowAt (wr.drewN m) ga j Y) := fun m => RG.below (below_drewN (Below.refl _ _) m)
                  have RYF : Hid (∀ m, IRowAt (wr.drewN m) (some ⟨yb, 0, none⟩) j Y) := fun m => RY.below (below_drewN (Below.refl _ _) m)
                  have DDF : Hid (∀ m, Below w.heap.size w (wr.drewN m)) := fun m => below_drewN DD m
                  rw [q0]
                  clear RG RY DD S q0 OG KB IY IG hv2 hv3 hi0 hi1 hlt AO FE
                  go_wp2_with fail
                  go_loopg [145] j (fun r s145 wl => ∃ k : Nat, k ≤ j ∧ r = j - k ∧ s145 = .int .i64 k ∧ ∃ m, wl = wr.drewN m)
                  case atStart => exact ⟨0, by omega, by omega, rfl, 0, rfl⟩
                  case round =>
                    obtain ⟨k, hk9, rfl, rfl, m0, hw0⟩ := hrel
                    have RG := RGF.out m0
                    have RY := RYF.out m0
                    have DD := DDF.out m0
                    rw [← hw0] at RG RY DD
                    have HW : Hid (wr = _) := hw0
                    clear hw0
                    by_cases hlt : k < j
                    · obtain ⟨b, o, rfl, hc⟩ := RG.cells (by omega)
                      obtain ⟨b', o', eb, hc'⟩ := RY.cells (by omega)
                      simp only [Option.some.injEq, Addr.mk.injEq, and_true] at eb
                      obtain ⟨rfl, rfl⟩ := eb
                      have c1 := hc k hlt
                      have c2 := hc' k hlt
                      rw [Nat.zero_add] at c2
                      clear RG RY hc hc'
                      go_wp2_with fail
                      go_quiet (fail)
                      go_wp2_with fail
                      go_roundg (j - (k + 1))
                      case measure => omega
                      case rel => exact ⟨k + 1, by omega, rfl, by go_num, m0 + nq, by rw [HW.out, World.drewN_drewN]⟩
                    · obtain rfl : k = j := by omega
                      go_wp2_with fail
                      go_ret
                      exact ⟨rfl, DD⟩
        · have hqb := RB w4 G4 _ _ _ P most I4 hqa
          have hqa' : (askedN V P most == 0) = false := by simpa using hqa
          generalize askedN V P most = qa at *
          go_wp2_with (refine wpList_load_row rfl 35 _ rfl w2.heap.size rfl 35 ws (0, 0) _ X1 Tryd.underlying35 rfl (by rw [siz]; exact Tryd.infoW) ?_)
          refine hqb.mono ?_
          rintro e w5 ⟨rfl, B5⟩
          have D5 := below_then D4 B5
          clear a0 a1 a2 a3 a4
          go_wp2
          go_ret
          exact ⟨rfl, D5⟩
  · have hq' : (q == 0) = false := by simpa using hq
    go_wp2_with (refine wpList_store_row rfl 35 _ _ rfl w2.heap.size ws rfl rfl 35 _ XZ (by rw [siz]; exact Tryd.infoW) (by rw [siz]; rfl) one ?_; rw [hwy])
    go_ret
    exact ⟨rfl, D3⟩
end Go.Proofs.YtpecklilkieffaaDoor

/- The given statement on TillerSpeaks: at every input the law returns true and its arguments read as before; the listed table lies as the program's text lays it (the card ties it). -/
namespace Go.Proofs.YtpecklilkieffaaDoor.tillerSpeaks
open Go.ChangeShapes Go.WideShapes Go.ChangeAt Go.WideMaps Go.WideElems Go.RowKit
set_option linter.unusedVariables false
abbrev lst : List (String × DataW Unit) := Rows.tillerSpeaksRow.laid
theorem door_met (os : Os) (args : Array Value) : laidMetH Tryd.prog lst ((World.doorLaid Tryd.prog 14 os).forCall (fun _ _ => 0) ⟨#[], args, []⟩).memory :=
  laidMetH_of_parts3 (fuel := 8) (laidMet_of_run' 8 (by kernel_rfl) (by kernel_rfl)) (by kernel_rfl) (by kernel_rfl)
set_option maxRecDepth 100000 in
theorem lifted (os : Os) (started : os.Started) (H : Type) (enc : TypeId × Value → H) :
    ReturnsInHanded {} Tryd.checked os 3 .any (fun w args => (Rows.tillerSpeaksSpec.pre enc Tryd.prog Tryd.f3 [] false w args ∧ laidMetH Tryd.prog lst w) ∧ sizedMet enc Tryd.prog Tryd.f3 (OpenSpec.ofChange Rows.tillerSpeaksSpec) false w args)
      (Rows.tillerSpeaksSpec.post enc Tryd.prog Tryd.f3 false true false false) := by
  refine returnsInHanded_of_change_and (C := Tryd.checked) (X := fun w _ => laidMetH Tryd.prog lst w) (fun _ _ _ hh h => h.of_heap hh) Tryd.own started (by kernel_rfl) Tryd.func3
    (ChangeSpec.witness_shaped (enc := enc) (C := Tryd.checked) (os := os) (X := fun w _ => laidMetH Tryd.prog lst w) false (World.doorLaid Tryd.prog 14 os) #[.agg #[.int .i64 0, .int .i64 0, .int .i64 0, .int .i64 0, .int .i64 0], .int .u64 0, .slice none 0 0, .int .i64 0, .int .i64 0] 8 rfl (World.shaped_of_RefB (by kernel_rfl) (by kernel_rfl)) (by kernel_rfl) (by kernel_rfl) (by kernel_rfl) (door_met os _)) ?_
  intro W base args ds gs before hval0 hW _ _ hL _
  have hval : ∀ (j : Nat) t v, Tryd.f3.params[j]? = some t → args[j]? = some v → Value.okWide Tryd.prog W .any base t v := hval0
  have hW' := hW
  obtain ⟨p, q, hA0, hV, rfl, _, _⟩ := hW
  have hA : DataW.TrodAll enc Tryd.prog W 0 (fun _ => true) true Tryd.f3.params.toList args.toList ds p := hA0
  rw [Tryd.params3] at hA hval
  obtain ⟨v0, vs0, d0, ds0, p0, q0, hargs, rfl, rfl, h0, r0⟩ := trodAll_cons hA
  obtain ⟨v1, vs1, d1, ds1, p1, q1, rfl, rfl, rfl, h1, r1⟩ := trodAll_cons r0
  obtain ⟨v2, vs2, d2, ds2, p2, q2, rfl, rfl, rfl, h2, r2⟩ := trodAll_cons r1
  obtain ⟨v3, vs3, d3, ds3, p3, q3, rfl, rfl, rfl, h3, r3⟩ := trodAll_cons r2
  obtain ⟨v4, vs4, d4, ds4, p4, q4, rfl, rfl, rfl, h4, r4⟩ := trodAll_cons r3
  obtain ⟨rfl, rfl, rfl⟩ := trodAll_nil r4
  obtain rfl : args = #[v0, v1, v2, v3, v4] := by cases args; simp_all
  obtain ⟨rfl, rfl⟩ := trodVars_none hV
  have k0 := h0
  obtain ⟨C0, rfl, g0⟩ := viewCfg (hval 0 _ v0 rfl rfl) h0
  have k1 := h1
  obtain ⟨a1, rfl, rfl, rfl, w1⟩ := open_int Tryd.underlying24 (hval 1 24 v1 rfl rfl) h1
  have b1 := bounds_u64 w1
  have k2 := h2
  obtain ⟨a2, n2, c2, Z2, rfl, g2⟩ := viewI (hval 2 _ v2 rfl rfl) h2
  have k3 := h3
  obtain ⟨a3, rfl, rfl, rfl, w3⟩ := open_int Tryd.underlying3 (hval 3 3 v3 rfl rfl) h3
  have b3 := bounds_i64 w3
  have k4 := h4
  obtain ⟨a4, rfl, rfl, rfl, w4⟩ := open_int Tryd.underlying3 (hval 4 3 v4 rfl rfl) h4
  have b4 := bounds_i64 w4
  clear hA0 hval0
  simp only [List.append_nil] at hW'
  have hlt : ∀ x ∈ p0 ++ p2, x.block < W.heap.size := fun x hx => by
    have hx2 := hx
    exact hW'.lt x (by grind)
  refine (tillerSpeaks_walk C0 a1 a2 n2 c2 Z2 a3 a4 W g0 b1 g2 b3 b4 (tab_of_laid hL)).mono fun e W' ⟨he, hb⟩ => ?_
  subst he
  exact ⟨_, rfl, _, _, _, [], _, [], hW', trodAll_mk1 (shut_bool Tryd.underlying4 true), trodAll_cons_mk (Below.trod Tryd.laidOut (by kernel_rfl) (of_decide_eq_true (by kernel_rfl)) k0 hb (fun x hx => hlt x (by simp [hx]))) (trodAll_cons_mk (shut_int Tryd.underlying24 w1) (trodAll_cons_mk (Below.trod Tryd.laidOut (by kernel_rfl) (of_decide_eq_true (by kernel_rfl)) k2 hb (fun x hx => hlt x (by simp [hx]))) (trodAll_cons_mk (shut_int Tryd.underlying3 w3) (trodAll_cons_mk (shut_int Tryd.underlying3 w4) trodAll_mk0)))), rfl, hb.frame _, fun h => by cases h⟩
theorem row_holds : Rows.TillerSpeaksSaid :=
  OpenClaim.holds_of_wide 3 Tryd.f3 rfl rfl rfl rfl rfl rfl rfl ⟨rfl, rfl, rfl, rfl, rfl⟩ rfl rfl rfl rfl rfl (by kernel_rfl) Tryd.func3 (by kernel_rfl)
    (of_decide_eq_true (by kernel_rfl)) (by unfold Func.isWrapper; first | (rw [if_pos (by decide +kernel)]; kernel_rfl) | (rw [if_neg (by decide +kernel)]; exact ⟨rfl, rfl⟩))
    (fun os started H enc _ => lifted os started H enc)
/-- The given statement. -/
theorem card_holds : Rows.TillerSpeaksCardSaid :=
  Claim7.holds_tied_plain_at .later [] [.data] true (true, "415fe453fbd6bd848d33b2f31ff04260c502ee7440c3eb9a2e9b5ff10b16f54a") false
    row_holds (fun _ h => by cases h) (by kernel_rfl) (fun _ h => by cases h) tillerSpeaks_row_tie rfl ⟨rfl, rfl⟩ (by kernel_rfl) rfl
    (fun f fn hf hfn => by
      obtain rfl : f = 3 := Option.some.inj ((show Tryd.prog.funcNamed Rows.tillerSpeaksRow.func = some 3 by kernel_rfl).symm.trans hf) |>.symm
      obtain rfl : fn = Tryd.f3 := (Option.some.inj (Tryd.func3.symm.trans hfn)).symm
      exact ⟨by kernel_rfl, fun j t ht => by
        rw [Tryd.params3] at ht
        have hm : t ∈ [23, 24, 25, 3, 3] := by simpa using Array.mem_of_getElem? ht
        have hall : ([23, 24, 25, 3, 3].all fun u => !Tryd.prog.wantsStandIn u) = true := by kernel_rfl
        exact (show Tryd.prog.wantsStandIn t = false by simpa using List.all_eq_true.1 hall t hm)⟩)
    (by kernel_rfl)
end Go.Proofs.YtpecklilkieffaaDoor.tillerSpeaks
namespace Go.Proofs.YtpecklilkieffaaDoor
theorem tillerSpeaks_holds : Rows.TillerSpeaksCardSaid := tillerSpeaks.card_holds
#print axioms tillerSpeaks_holds
end Go.Proofs.YtpecklilkieffaaDoor
