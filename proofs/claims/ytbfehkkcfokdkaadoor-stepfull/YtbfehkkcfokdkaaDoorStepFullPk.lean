/- The given statement on StepFull: at every input the law returns true and its arguments read as before; the listed table lies as the program's text lays it (the card ties it). -/
import Derived.Test.YtbfehkkcfokdkaaDoorGP1Pk
import Derived.Test.YtbfehkkcfokdkaaDoorMdRShapePk
import Derived.Test.YtbfehkkcfokdkaaDoorRows
import Derived.Test.YtbfehkkcfokdkaaDoorCards
import Derived.Test.YtbfehkkcfokdkaaDoorTie
import Derived.Test.YtbfehkkcfokdkaaDoorPk7
import Derived.Test.YtbfehkkcfokdkaaDoorPk3
import Derived.ProofKit
import Derived.Carry
import Derived.LaidMore
import Derived.OpenShut
import Derived.Stop.Joined
import Derived.SevenTiedAt
/- All of a prompt answers as from the beginning; and in two parts: the walk. -/
namespace Go.Proofs.YtbfehkkcfokdkaaDoor
open Go.ChangeShapes Go.WideShapes Go.ChangeAt Go.RowKit
/-- What stands behind the prompt's view and likes. -/
structure SF (w wc : World) (V D Hd H L : Nat) (WW : Wt) (bs : List Bk) (M : Mdl) (ws cw : Array Value) (gW gX b1 l1 kq g6 : Nat) (P : List Int) (v2 : VwV) : Prop where
  x0 : Blk wc w.heap.size 23 #[.int .i64 (V : Int), .int .i64 (D : Int), .int .i64 (Hd : Int), .int .i64 (H : Int), .int .i64 (L : Int)]
  x1 : Blk wc gW 32 ws
  xb : Blk wc gX 42 cw
  gd : Good wc V D Hd H L WW bs M
  ap : IArg wc (some ⟨b1, 0, none⟩) l1 kq P
  vw : VwAt wc v2 (feedAll M D H Hd L noX P)
  lk : RowAt wc (some ⟨g6, 0, none⟩) V (likAt M V D H Hd L noX P P.length)
  kp : Below w.heap.size w wc
theorem SF.below {w wc wd : World} {V D Hd H L : Nat} {WW : Wt} {bs : List Bk} {M : Mdl} {ws cw : Array Value} {gW gX b1 l1 kq g6 : Nat} {P : List Int} {v2 : VwV} (h : SF w wc V D Hd H L WW bs M ws cw gW gX b1 l1 kq g6 P v2) (hb : Below wc.heap.size wc wd) : SF w wd V D Hd H L WW bs M ws cw gW gX b1 l1 kq g6 P v2 := ⟨h.x0.below hb, h.x1.below hb, h.xb.below hb, h.gd.below hb, h.ap.below hb, h.vw.below hb, h.lk.below hb, below_then h.kp hb⟩
/-- A view in its box, and its likes. -/
structure QQ (wc : World) (V D Hd H L : Nat) (M : Mdl) (g gl' : Nat) (v : VwV) (X : Vw) (A : List Int) : Prop where
  xb : Blk wc g 42 v.cells
  vw : VwAt wc v X
  lk : RowAt wc (some ⟨gl', 0, none⟩) V A
theorem QQ.below {wc wd : World} {V D Hd H L : Nat} {M : Mdl} {g gl' : Nat} {v : VwV} {X : Vw} {A : List Int} (h : QQ wc V D Hd H L M g gl' v X A) (hb : Below wc.heap.size wc wd) : QQ wd V D Hd H L M g gl' v X A := ⟨h.xb.below hb, h.vw.below hb, h.lk.below hb⟩
theorem drop_arg {w : World} {b n ca m : Nat} {A : List Int} (h : IArg w (some ⟨b, 0, none⟩) n ca A) (hm : m ≤ n) : IArg w (some ⟨b, m, none⟩) (n - m) (ca - m) (A.drop m) := by
  have h1 := h.drop hm
  rw [Nat.zero_add] at h1
  have := h.fit
  have := h.max
  exact ⟨h1, by omega, by omega, fun h => by cases h⟩
theorem prompt_of {V : Nat} {A : List Int} (h : A.all (tokB V) = true) (h1 : 1 ≤ A.length) (h2 : A.length ≤ 128) : promptN V A = 0 := by
  unfold promptN
  rw [if_neg (by omega), if_neg (by omega), if_pos h]
theorem lik_full {M : Mdl} {V D H Hd L : Nat} {P : List Int} (hP : P.all (tokB V) = true) (h0 : 1 ≤ P.length) : likAt M V D H Hd L noX P P.length = fullX M V D H Hd L P := by
  obtain ⟨k, hk⟩ : ∃ k, P.length = k + 1 := ⟨P.length - 1, by omega⟩
  have h0' : ∀ x ∈ P.take k, 0 ≤ x := fun x hx => by
    have := List.all_eq_true.1 hP x (List.mem_of_mem_take hx)
    unfold tokB at this
    have : 0 ≤ x ∧ x < V := by simpa using this
    exact this.1
  have hc : Cached M D H Hd L (feedAll M D H Hd L noX (P.take k)) ([] ++ P.take k) := cached_all _ (cached_none M D H Hd L) h0'
  rw [List.nil_append] at hc
  rw [hk]
  show likR M V D (feedX M D H Hd L (feedAll M D H Hd L noX (P.take k)) (el P k).toNat) = _
  rw [fullX_last hc]
  have e : P[k]? = some (el P k) := by unfold el; simp [List.getD_eq_getElem?_getD, List.getElem?_eq_getElem (show k < P.length by omega)]
  have : P.take k ++ [el P k] = P := by
    have h2 : P.take (k + 1) = P := List.take_of_length_le (by omega)
    rw [List.take_add_one, e] at h2
    exact h2
  rw [this]
set_option maxRecDepth 100000 in
set_option maxHeartbeats 32000000 in
theorem stepFull_walk (C : Cfg) (sd : Int) (a1 : Option Addr) (n1 c1 : Nat) (Z1 : List Int) (nn : Int) (w : World) (hC : C.Ok) (bs : 0 ≤ sd ∧ sd ≤ 18446744073709551615) (h1 : IArg w a1 n1 c1 Z1) (_bn : -9223372036854775808 ≤ nn ∧ nn ≤ 9223372036854775807) (hT : Tab w) :
   Calls Tryd.prog 3 #[C.val, .int .u64 sd, .slice a1 n1 c1, .int .i64 nn] w fun e w' => e = .returned (.bool true) ∧ Below w.heap.size w w' := by
  obtain ⟨seed, rfl⟩ : ∃ n : Nat, sd = n := ⟨sd.toNat, by omega⟩
  have hsd : seed < 18446744073709551616 := by omega
  clear bs
  have HT : Hid (∀ wv, Below w.heap.size w wv → Tab wv) := fun wv hb => hT.next hb
  have CW := fun (wv : World) (hb : Below w.heap.size w wv) => sawake_any wv (HT.out wv hb)
  have CF1 := fun (wv : World) (hb : Below w.heap.size w wv) => few8_any a1 n1 c1 Z1 8 wv (h1.below hb) (by omega)
  have s1 : ∀ k, -9223372036854775808 ≤ el (Z1.take 8) k ∧ el (Z1.take 8) k ≤ 9223372036854775807 := fun k => by
    rcases Nat.lt_or_ge k 8 with h | h
    · rw [el_take h]; exact h1.row.small k
    · rw [el_over (by rw [List.length_take]; omega)]; omega
  have hP8 : (Z1.take 8).length ≤ 8 := by rw [List.length_take]; omega
  have M0 := fun wv => make_gen C hC seed hsd wv
  have CS := fun wv => small8_any C.V C.D C.Hd C.H C.L wv
  have hu : ∀ C : Cfg, cfgC C.V C.D C.Hd C.H C.L = #[.int .i64 C.V, .int .i64 C.D, .int .i64 C.Hd, .int .i64 C.H, .int .i64 C.L] := fun _ => rfl
  unfold Cfg.val at *
  rw [hu] at M0 CS ⊢
  clear hT h1 hC
  have X0 := blk_new w 23 #[.int .i64 C.V, .int .i64 C.D, .int .i64 C.Hd, .int .i64 C.H, .int .i64 C.L]
  have B0 : Below w.heap.size w (w.alloc (.cells #[.int .i64 C.V, .int .i64 C.D, .int .i64 C.Hd, .int .i64 C.H, .int .i64 C.L] 23)) := (Below.refl _ _).alloc (Nat.le_refl _) _
  have z0 : w.heap.size < (w.alloc (.cells #[.int .i64 C.V, .int .i64 C.D, .int .i64 C.Hd, .int .i64 C.H, .int .i64 C.L] 23)).heap.size := by simp
  generalize hw0 : w.alloc (.cells #[.int .i64 C.V, .int .i64 C.D, .int .i64 C.Hd, .int .i64 C.H, .int .i64 C.L] 23) = w0 at *
  go_enter Tryd.func3, Tryd.ntmps3
  go_wp2_with fail
  refine (CF1 _ B0).mono ?_
  rintro e w1 ⟨b1, kq, rfl, O1, B1⟩
  generalize Z1.take 8 = P at *
  obtain ⟨l1, hl1⟩ : ∃ l1, P.length = l1 := ⟨_, rfl⟩
  have HL1 : Hid (P.length = l1) := hl1
  rw [hl1] at O1 hP8 ⊢
  clear hl1
  have D1 := below_then B0 B1
  replace X0 := X0.below B1
  clear hw0 CF1 B0 B1
  obtain ⟨x1, y1, e1, I1⟩ := IOwn.arg O1 s1
  simp only [Value.slice.injEq, true_and] at e1
  obtain ⟨rfl, rfl⟩ := e1
  have HI : Hid (∀ wv, Below w1.heap.size w1 wv → IOwn wv w0.heap.size (.slice (some ⟨b1, 0, none⟩) l1 kq) l1 P) := fun wv hb => owns_below O1 hb
  have ltb : b1 < w1.heap.size := (O1.lt b1 rfl).2
  have geb : w0.heap.size ≤ b1 := (O1.lt b1 rfl).1
  have gw0 : w.heap.size < w0.heap.size := z0
  clear O1 I1
  have a0 : w1.cell? ⟨w.heap.size, 0, none⟩ = some (.int .i64 C.V) := X0.cell 0 rfl
  have a1 : w1.cell? ⟨w.heap.size, 1, none⟩ = some (.int .i64 C.D) := X0.cell 1 rfl
  have a2 : w1.cell? ⟨w.heap.size, 2, none⟩ = some (.int .i64 C.Hd) := X0.cell 2 rfl
  have a3 : w1.cell? ⟨w.heap.size, 3, none⟩ = some (.int .i64 C.H) := X0.cell 3 rfl
  have a4 : w1.cell? ⟨w.heap.size, 4, none⟩ = some (.int .i64 C.L) := X0.cell 4 rfl
  go_wp2_with fail
  refine (M0 w1).mono ?_
  rintro e w2 ⟨ws, q, rfl, MM, B2⟩
  replace X0 := X0.below B2
  have E2 := B2
  have EW := B2
  have D2 := below_then D1 B2
  clear a0 a1 a2 a3 a4 M0 B2 D1
  have siz := MM.size
  have one := MM.one
  have XZ := blk_new w2 32 #[.int .i64 0, .int .i64 0, .slice none 0 0, .slice none 0 0, .slice none 0 0, .int .i64 0, .int .i64 0, .slice none 0 0]
  have BZ : Below w2.heap.size w2 (w2.alloc (.cells #[.int .i64 0, .int .i64 0, .slice none 0 0, .slice none 0 0, .slice none 0 0, .int .i64 0, .int .i64 0, .slice none 0 0] 32)) := (Below.refl _ _).alloc (Nat.le_refl _) _
  generalize hwz : w2.alloc (.cells #[.int .i64 0, .int .i64 0, .slice none 0 0, .slice none 0 0, .slice none 0 0, .int .i64 0, .int .i64 0, .slice none 0 0] 32) = wz at *
  have X1 := XZ.row ws
  have BR := below_setRow BZ (Nat.le_refl _) ws
  generalize hwy : wz.setRow w2.heap.size ws = wy at *
  replace X0 := X0.below BR
  replace MM := MM.below BR
  have D3 := below_then D2 BR
  have E3 := below_then E2 BR
  have a0 : wy.cell? ⟨w.heap.size, 0, none⟩ = some (.int .i64 C.V) := X0.cell 0 rfl
  have a1 : wy.cell? ⟨w.heap.size, 1, none⟩ = some (.int .i64 C.D) := X0.cell 1 rfl
  have a2 : wy.cell? ⟨w.heap.size, 2, none⟩ = some (.int .i64 C.Hd) := X0.cell 2 rfl
  have a3 : wy.cell? ⟨w.heap.size, 3, none⟩ = some (.int .i64 C.H) := X0.cell 3 rfl
  have a4 : wy.cell? ⟨w.heap.size, 4, none⟩ = some (.int .i64 C.L) := X0.cell 4 rfl
  by_cases hq : q = 0
  · subst hq
    obtain ⟨V, D, Hd, H, L, ge, gB, gl, go, e1, e2, e3, e4, e5, hcs, MW⟩ := MM.ok rfl
    have hsh : shapeN V D Hd H L = 0 := by rw [← e1, ← e2, ← e3, ← e4, ← e5]; exact MM.err.symm
    obtain ⟨bs, GD⟩ := made_good (Hd := Hd) MW hsh
    have hws : (mkW V D L ge gB gl go).cells = ws := by rw [hcs]; rfl
    obtain ⟨VV, DD, HHd, HH, LL⟩ := C
    simp only at e1 e2 e3 e4 e5
    subst e1 e2 e3 e4 e5
    have hk := shape_ok hsh
    have GD2 : Good wy V D Hd H L (mkW V D L ge gB gl go) bs (mdlS seed V D H L) := GD
    generalize mdlS seed V D H L = M at *
    generalize hWW : mkW V D L ge gB gl go = WW at *
    clear MM MW hcs GD hWW
    have AO := fun (vv : VwV) (X : Vw) (ao : Option Addr) (n ca : Nat) (A : List Int) (wv : World) (g1 : Tab wv) (g2 : Good wv V D Hd H L WW bs M) (g3 : VwAt wv vv X) (g4 : VwFit V D L X) (g5 : IArg wv ao n ca A) (g6 : promptN V A = 0) (g7 : X.T.length + A.length ≤ 128) => all_ok V D Hd H L WW bs M vv X ao n ca A wv g1 g2 g3 g4 g5 g6 g7
    have FO := fun (ao : Option Addr) (n ca : Nat) (A : List Int) (wv : World) (g2 : Good wv V D Hd H L WW bs M) (g5 : IArg wv ao n ca A) (g1 : Tab wv) (g6 : promptN V A = 0) => full_ok V D Hd H L WW bs M ao n ca A wv g2 g5 g1 g6
    have FB := fun (ao : Option Addr) (n ca : Nat) (A : List Int) (wv : World) (g2 : Good wv V D Hd H L WW bs M) (g5 : IArg wv ao n ca A) (g6 : promptN V A ≠ 0) => full_bad V D Hd H L WW bs M ao n ca A wv g2 g5 g6
    have AB := fun (cv : Array Value) (ao : Option Addr) (n ca : Nat) (A : List Int) (wv : World) (g5 : IArg wv ao n ca A) (g6 : promptN V A ≠ 0) => all_bad V D Hd H L ws cv ao n ca A wv g5 g6
    rw [hws] at AO FO FB
    unfold cfgC at AO FO FB AB
    clear hws
    go_wp2_with (refine wpList_store_row rfl 32 _ _ rfl w2.heap.size ws rfl rfl 32 _ XZ (by rw [siz]; exact Tryd.infoW) (by rw [siz]; rfl) one ?_; rw [hwy])
    refine (CS _).mono ?_
    rintro e w4 ⟨rfl, B4⟩
    replace X0 := X0.below B4
    replace X1 := X1.below B4
    have D4 := below_then D3 B4
    have G4 := GD2.below B4
    have E4 := below_then E3 B4
    clear a0 a1 a2 a3 a4 hwz hwy XZ BZ BR CS D2 D3 E2 E3 B4
    generalize smallN (D : Int) (H : Int) (L : Int) = sq at *
    have a0 : w4.cell? ⟨w.heap.size, 0, none⟩ = some (.int .i64 (V : Int)) := X0.cell 0 rfl
    have a1 : w4.cell? ⟨w.heap.size, 1, none⟩ = some (.int .i64 (D : Int)) := X0.cell 1 rfl
    have a2 : w4.cell? ⟨w.heap.size, 2, none⟩ = some (.int .i64 (Hd : Int)) := X0.cell 2 rfl
    have a3 : w4.cell? ⟨w.heap.size, 3, none⟩ = some (.int .i64 (H : Int)) := X0.cell 3 rfl
    have a4 : w4.cell? ⟨w.heap.size, 4, none⟩ = some (.int .i64 (L : Int)) := X0.cell 4 rfl
    by_cases hs0 : sq = 0
    · subst hs0
      go_wp2_with fail
      refine (CW _ D4).mono ?_
      rintro e wq ⟨rfl, Bq⟩
      go_wp2
      go_ret
      exact ⟨rfl, below_then D4 Bq⟩
    · have hs0' : (sq == 0) = false := by simpa using hs0
      have I4 := (HI.out w4 E4)
      obtain ⟨x5, y5, e5, AP⟩ := IOwn.arg I4 s1
      simp only [Value.slice.injEq, true_and] at e5
      obtain ⟨rfl, rfl⟩ := e5
      by_cases hqa : promptN V P = 0
      · skip
        obtain ⟨pp1, pp2, pp3⟩ := prompt_ok hqa
        have EM := feed_full (M := M) (H := H) (Hd := Hd) pp3 pp1 pp2 (noX_fit (V : Int) D L)
        have EL : likAt M V D H Hd L noX P P.length = fullX M V D H Hd L P := lik_full pp3 pp1
        have hfit : VwFit (V : Int) D L (feedAll M D H Hd L noX P) := feedAll_fit (noX_fit _ _ _) pp3 (by show 0 + _ ≤ _; omega)
        have TD : ∀ (v2 : VwV) (wv : World), VwAt wv v2 (feedAll M D H Hd L noX P) → Calls Tryd.prog 12 #[.agg v2.cells] wv fun e w' => ∃ t k v : Sl, e = .returned (.agg #[t.v, k.v, v.v]) ∧ ToldAt w' t k v (feedAll M D H Hd L noX P) ∧ Below wv.heap.size wv w' := by
          obtain ⟨q1, q2, q3, q4, q5, q6, q7, q8, q9, q10⟩ := hk
          exact fun v2 wv h => told9_any v2 _ wv h (by rw [EM.1]; omega) (by rw [hfit.k]; split <;> omega) (by rw [hfit.v]; split <;> omega) (fit_whole hfit (by omega)).1 (fit_whole hfit (by omega)).2
        have A6 := AO ⟨⟨none, 0, 0⟩, ⟨none, 0, 0⟩, ⟨none, 0, 0⟩⟩ noX (some ⟨b1, 0, none⟩) l1 kq P w4 (HT.out _ D4) G4 (noV_at _) (noX_fit _ _ _) AP hqa (by show 0 + _ ≤ _; omega)
        unfold VwV.cells Sl.v at A6
        simp only at A6
        have hall : Array.all (#[.slice none 0 0, .slice none 0 0, .slice none 0 0] : Array Value) (fun v => v.oneCell') = true := by simp [Value.oneCell']
        go_wp2_with (refine wpList_load_row rfl 32 _ rfl w2.heap.size rfl 32 ws (0, 0) _ X1 Tryd.underlying32 rfl (by rw [siz]; exact Tryd.infoW) ?_)
        refine A6.mono ?_
        rintro e w6 ⟨v2, g6, rfl, N6, F6, B6⟩
        rw [show (#[.slice v2.t.ao v2.t.n v2.t.c, .slice v2.k.ao v2.k.n v2.k.c, .slice v2.v.ao v2.v.n v2.v.c] : Array Value) = v2.cells from rfl]
        have one2 := vwv_one v2
        have siz2 := vwv_size v2
        have HV2 : Hid (∃ cw, cw = v2.cells) := ⟨_, rfl⟩
        replace TD := TD v2
        generalize hcw : v2.cells = cw at *
        have D6 := below_then D4 B6
        replace X0 := X0.below B6
        replace X1 := X1.below B6
        replace G4 := G4.below B6
        replace AP := AP.below B6
        have XA := blk_new w6 42 #[.slice none 0 0, .slice none 0 0, .slice none 0 0]
        have BA : Below w6.heap.size w6 (w6.alloc (.cells #[.slice none 0 0, .slice none 0 0, .slice none 0 0] 42)) := (Below.refl _ _).alloc (Nat.le_refl _) _
        generalize hwa : w6.alloc (.cells #[.slice none 0 0, .slice none 0 0, .slice none 0 0] 42) = wa at *
        have XB := XA.row cw
        have BB := below_setRow BA (Nat.le_refl _) cw
        generalize hwb : wa.setRow w6.heap.size cw = wb at *
        have D7 := below_then D6 BB
        replace X0 := X0.below BB
        replace X1 := X1.below BB
        replace G4 := G4.below BB
        replace AP := AP.below BB
        replace N6 := N6.below BB
        replace F6 := F6.below BB
        clear a0 a1 a2 a3 a4 A6
        have F8 := FO (some ⟨b1, 0, none⟩) l1 kq P wb G4 AP (HT.out _ D7) hqa
        have a0 : wb.cell? ⟨w.heap.size, 0, none⟩ = some (.int .i64 (V : Int)) := X0.cell 0 rfl
        have a1 : wb.cell? ⟨w.heap.size, 1, none⟩ = some (.int .i64 (D : Int)) := X0.cell 1 rfl
        have a2 : wb.cell? ⟨w.heap.size, 2, none⟩ = some (.int .i64 (Hd : Int)) := X0.cell 2 rfl
        have a3 : wb.cell? ⟨w.heap.size, 3, none⟩ = some (.int .i64 (H : Int)) := X0.cell 3 rfl
        have a4 : wb.cell? ⟨w.heap.size, 4, none⟩ = some (.int .i64 (L : Int)) := X0.cell 4 rfl
        go_wp2_with (first | (refine wpList_store_row rfl 42 _ _ rfl w6.heap.size cw rfl rfl 42 _ XA (by rw [siz2]; exact Tryd.infoV) (by rw [siz2]; rfl) one2 ?_; rw [hwb]) | (refine wpList_load_row rfl 32 _ rfl w2.heap.size rfl 32 ws (0, 0) _ X1 Tryd.underlying32 rfl (by rw [siz]; exact Tryd.infoW) ?_))
        refine F8.mono ?_
        rintro e w8 ⟨g8, gK, gV, rfl, R8, NK, NV, B8⟩
        have D8 := below_then D7 B8
        have hk2 : Array.all (#[.slice (some ⟨gK, 0, none⟩) L L, .slice (some ⟨gV, 0, none⟩) L L] : Array Value) (fun v => v.oneCell') = true := by simp [Value.oneCell']
        replace X0 := X0.below B8
        replace X1 := X1.below B8
        replace XB := XB.below B8
        replace G4 := G4.below B8
        replace AP := AP.below B8
        replace N6 := N6.below B8
        replace F6 := F6.below B8
        have lv6 := XB.lt
        clear a0 a1 a2 a3 a4 F8 FO XA BA BB hwa hwb
        have XE := blk_new w8 40 #[.slice none 0 0, .slice none 0 0]
        have BE : Below w8.heap.size w8 (w8.alloc (.cells #[.slice none 0 0, .slice none 0 0] 40)) := (Below.refl _ _).alloc (Nat.le_refl _) _
        generalize hwe : w8.alloc (.cells #[.slice none 0 0, .slice none 0 0] 40) = we at *
        have XF := XE.row #[.slice (some ⟨gK, 0, none⟩) L L, .slice (some ⟨gV, 0, none⟩) L L]
        have BF := below_setRow BE (Nat.le_refl _) #[.slice (some ⟨gK, 0, none⟩) L L, .slice (some ⟨gV, 0, none⟩) L L]
        generalize hwf : we.setRow w8.heap.size #[.slice (some ⟨gK, 0, none⟩) L L, .slice (some ⟨gV, 0, none⟩) L L] = wf at *
        have D9 := below_then D8 BF
        replace X0 := X0.below BF
        replace X1 := X1.below BF
        replace XB := XB.below BF
        replace G4 := G4.below BF
        replace AP := AP.below BF
        replace N6 := N6.below BF
        replace F6 := F6.below BF
        replace R8 := R8.below BF
        replace NK := NK.below BF
        replace NV := NV.below BF
        go_wp2_with (first | (refine wpList_store_row rfl 40 _ _ rfl w8.heap.size #[.slice (some ⟨gK, 0, none⟩) L L, .slice (some ⟨gV, 0, none⟩) L L] rfl rfl 40 _ XE Tryd.infoCa rfl hk2 ?_; rw [hwf]) | fail)
        clear XE BE BF hwe hwf
        have lf := XF.lt
        replace X0 := X0.below ((Below.refl _ _).drew)
        replace X1 := X1.below ((Below.refl _ _).drew)
        replace XB := XB.below ((Below.refl _ _).drew)
        replace XF := XF.below ((Below.refl _ _).drew)
        replace G4 := G4.below ((Below.refl _ _).drew)
        replace AP := AP.below ((Below.refl _ _).drew)
        replace N6 := N6.below ((Below.refl _ _).drew)
        replace F6 := F6.below ((Below.refl _ _).drew)
        replace R8 := R8.below ((Below.refl _ _).drew)
        replace NK := NK.below ((Below.refl _ _).drew)
        replace NV := NV.below ((Below.refl _ _).drew)
        replace D9 := D9.drew
        refine wp_region_held_drew (S := fun w' => Blk w' w6.heap.size 42 cw ∧ Blk w' w8.heap.size 40 #[.slice (some ⟨gK, 0, none⟩) L L, .slice (some ⟨gV, 0, none⟩) L L]) (by kernel_rfl) (⟨XB, XF⟩) (fun hHeld => ?_)
        generalize hA : wf.drew = wA at *
        clear hA
        refine wpAnyH_take (i := 0) (v := (.slice (some ⟨g6, 0, none⟩) V V)) rfl (by kernel_rfl) (by kernel_rfl) (by kernel_rfl) (fun _ _ _ h => h) (Or.inl ⟨by rfl, ?_⟩) (by assumption) ?_
        · intro w' hSw
          go_simp
        simp only [List.getElem_toArray, List.getElem_cons_zero, Act.put, List.setIfInBounds_toArray, List.set_cons_zero, List.set_cons_succ]
        refine wpAnyH_take (i := 1) (v := (.slice (some ⟨g8, 0, none⟩) V V)) rfl (by kernel_rfl) (by kernel_rfl) (by kernel_rfl) (fun _ _ _ h => h) (Or.inl ⟨by rfl, ?_⟩) (by assumption) ?_
        · intro w' hSw
          go_simp
        simp only [List.getElem_toArray, List.getElem_cons_succ, List.getElem_cons_zero, Act.put, List.setIfInBounds_toArray, List.set_cons_zero, List.set_cons_succ]
        refine wpAnyH_ready (rs := [2]) (by kernel_rfl) (by simp) ?_
        refine AllReadyH.cons rfl (fun Kc hKc => ?_) AllReadyH.nil
        simp only [List.getElem_toArray, List.getElem_cons_succ, List.getElem_cons_zero]
        rw [if_pos (by rfl)]
        go_wp2_with fail
        refine (same_any (some ⟨g6, 0, none⟩) (some ⟨g8, 0, none⟩) V V V _ _ F6.rowAt (by rw [EL]; exact R8.rowAt)).mono ?_
        rintro e wB ⟨rfl, mB, hmB⟩
        have EB : Below wA.heap.size wA wB := by rw [hmB]; exact below_drewN (Below.refl _ _) mB
        clear hmB
        replace X0 := X0.below EB
        replace X1 := X1.below EB
        replace XB := XB.below EB
        replace XF := XF.below EB
        replace G4 := G4.below EB
        replace AP := AP.below EB
        replace N6 := N6.below EB
        replace F6 := F6.below EB
        replace R8 := R8.below EB
        replace NK := NK.below EB
        replace NV := NV.below EB
        replace D9 := below_then D9 EB
        go_wp2_with fail
        refine hKc.out _ _ (⟨XB, XF⟩) (fun hHeld => ?_)
        clear hKc Kc
        refine wpAnyH_take (i := 3) (v := (.bool false)) rfl (by kernel_rfl) (by kernel_rfl) (by kernel_rfl) (fun _ _ _ h => h) (Or.inl ⟨by rfl, ?_⟩) (by assumption) ?_
        · intro w' hSw
          go_simp
        simp only [List.getElem_toArray, List.getElem_cons_succ, List.getElem_cons_zero, Act.put, List.setIfInBounds_toArray, List.set_cons_zero, List.set_cons_succ]
        refine wpAnyH_take (i := 4) (v := (.bool false)) rfl (by kernel_rfl) (by kernel_rfl) (by kernel_rfl) (fun _ _ _ h => h) (Or.inl ⟨by rfl, ?_⟩) (by assumption) ?_
        · intro w' hSw
          go_simp
        simp only [List.getElem_toArray, List.getElem_cons_succ, List.getElem_cons_zero, Act.put, List.setIfInBounds_toArray, List.set_cons_zero, List.set_cons_succ]
        refine wpAnyH_take (i := 5) (v := (.agg cw)) rfl (by kernel_rfl) (by kernel_rfl) (by kernel_rfl) (fun _ _ _ h => h) (Or.inl ⟨by rfl, ?_⟩) (by assumption) ?_
        · intro w' hSw
          exact yield_row 42 _ rfl w6.heap.size rfl cw (load_v hSw.1 siz2)
        simp only [List.getElem_toArray, List.getElem_cons_succ, List.getElem_cons_zero, Act.put, List.setIfInBounds_toArray, List.set_cons_zero, List.set_cons_succ]
        refine wpAnyH_take (i := 7) (v := (.slice (some ⟨b1, 0, none⟩) l1 kq)) rfl (by kernel_rfl) (by kernel_rfl) (by kernel_rfl) (fun _ _ _ h => h) (Or.inl ⟨by rfl, ?_⟩) (by assumption) ?_
        · intro w' hSw
          go_simp
        simp only [List.getElem_toArray, List.getElem_cons_succ, List.getElem_cons_zero, Act.put, List.setIfInBounds_toArray, List.set_cons_zero, List.set_cons_succ]
        refine wpAnyH_take (i := 8) (v := (.pointer (some ⟨w8.heap.size, 0, none⟩))) rfl (by kernel_rfl) (by kernel_rfl) (by kernel_rfl) (fun _ _ _ h => h) (Or.inl ⟨by rfl, ?_⟩) (by assumption) ?_
        · intro w' hSw
          go_simp
        simp only [List.getElem_toArray, List.getElem_cons_succ, List.getElem_cons_zero, Act.put, List.setIfInBounds_toArray, List.set_cons_zero, List.set_cons_succ]
        refine wpAnyH_take (i := 9) (v := (.slice (some ⟨gK, 0, none⟩) L L)) rfl (by kernel_rfl) (by kernel_rfl) (by kernel_rfl) (fun _ _ _ h => h) (Or.inl ⟨by rfl, ?_⟩) (by assumption) ?_
        · intro w' hSw
          have cc0 : w'.cell? ⟨w8.heap.size, 0, none⟩ = some (.slice (some ⟨gK, 0, none⟩) L L) := hSw.2.cell 0 rfl
          go_simp
        simp only [List.getElem_toArray, List.getElem_cons_succ, List.getElem_cons_zero, Act.put, List.setIfInBounds_toArray, List.set_cons_zero, List.set_cons_succ]
        refine wpAnyH_take (i := 10) (v := (.pointer (some ⟨w8.heap.size, 1, none⟩))) rfl (by kernel_rfl) (by kernel_rfl) (by kernel_rfl) (fun _ _ _ h => h) (Or.inl ⟨by rfl, ?_⟩) (by assumption) ?_
        · intro w' hSw
          go_simp
        simp only [List.getElem_toArray, List.getElem_cons_succ, List.getElem_cons_zero, Act.put, List.setIfInBounds_toArray, List.set_cons_zero, List.set_cons_succ]
        refine wpAnyH_take (i := 11) (v := (.slice (some ⟨gV, 0, none⟩) L L)) rfl (by kernel_rfl) (by kernel_rfl) (by kernel_rfl) (fun _ _ _ h => h) (Or.inl ⟨by rfl, ?_⟩) (by assumption) ?_
        · intro w' hSw
          have cc1 : w'.cell? ⟨w8.heap.size, 1, none⟩ = some (.slice (some ⟨gV, 0, none⟩) L L) := hSw.2.cell 1 rfl
          go_simp
        simp only [List.getElem_toArray, List.getElem_cons_succ, List.getElem_cons_zero, Act.put, List.setIfInBounds_toArray, List.set_cons_zero, List.set_cons_succ]
        refine wpAnyH_take (i := 12) (v := (.agg #[.slice (some ⟨b1, 0, none⟩) l1 kq, .slice (some ⟨gK, 0, none⟩) L L, .slice (some ⟨gV, 0, none⟩) L L])) rfl (by kernel_rfl) (by kernel_rfl) (by kernel_rfl) (fun _ _ _ h => h) (Or.inl ⟨by rfl, ?_⟩) (by assumption) ?_
        · intro w' hSw
          go_simp
        simp only [List.getElem_toArray, List.getElem_cons_succ, List.getElem_cons_zero, Act.put, List.setIfInBounds_toArray, List.set_cons_zero, List.set_cons_succ]
        refine wpAnyH_ready (rs := [6]) (by kernel_rfl) (by simp) ?_
        refine AllReadyH.cons rfl (fun Kc hKc => ?_) AllReadyH.nil
        simp only [List.getElem_toArray, List.getElem_cons_succ, List.getElem_cons_zero]
        rw [if_pos (by rfl)]
        go_wp2_with fail
        refine (TD wB N6.now).mono ?_
        rintro e wC ⟨t, k, v, rfl, TA, EC⟩
        replace X0 := X0.below EC
        replace X1 := X1.below EC
        replace XB := XB.below EC
        replace XF := XF.below EC
        replace G4 := G4.below EC
        replace AP := AP.below EC
        replace N6 := N6.below EC
        replace F6 := F6.below EC
        replace R8 := R8.below EC
        replace NK := NK.below EC
        replace NV := NV.below EC
        replace D9 := below_then D9 EC
        go_wp2_with fail
        refine hKc.out _ _ (⟨XB, XF⟩) (fun hHeld => ?_)
        clear hKc Kc
        have VSM : Calls Tryd.prog 11 #[.agg #[t.v, k.v, v.v], .agg #[.slice (some ⟨b1, 0, none⟩) l1 kq, .slice (some ⟨gK, 0, none⟩) L L, .slice (some ⟨gV, 0, none⟩) L L]] wC _ := viewSame_eq t k v ⟨some ⟨b1, 0, none⟩, l1, kq⟩ ⟨some ⟨gK, 0, none⟩, L, L⟩ ⟨some ⟨gV, 0, none⟩, L, L⟩ (feedAll M D H Hd L noX P) wC TA ⟨by rw [EM.1]; exact AP, by rw [EM.2.1]; exact NK.now, by rw [EM.2.2]; exact NV.now⟩
        refine wpAnyH_ready (rs := [13]) (by kernel_rfl) (by simp) ?_
        refine AllReadyH.cons rfl (fun Kc hKc => ?_) AllReadyH.nil
        simp only [List.getElem_toArray, List.getElem_cons_succ, List.getElem_cons_zero]
        rw [if_pos (by rfl)]
        go_wp2_with fail
        refine VSM.mono ?_
        rintro e wE ⟨rfl, EE⟩
        replace X0 := X0.below EE
        replace X1 := X1.below EE
        replace XB := XB.below EE
        replace XF := XF.below EE
        replace G4 := G4.below EE
        replace AP := AP.below EE
        replace N6 := N6.below EE
        replace F6 := F6.below EE
        replace R8 := R8.below EE
        replace NK := NK.below EE
        replace NV := NV.below EE
        replace D9 := below_then D9 EE
        go_wp2_with fail
        refine hKc.out _ _ (⟨XB, XF⟩) (fun hHeld => ?_)
        clear hKc Kc
        refine wpAnyH_take (i := 14) (v := (.bool false)) rfl (by kernel_rfl) (by kernel_rfl) (by kernel_rfl) (fun _ _ _ h => h) (Or.inl ⟨by rfl, ?_⟩) (by assumption) ?_
        · intro w' hSw
          go_simp
        simp only [List.getElem_toArray, List.getElem_cons_succ, List.getElem_cons_zero, Act.put, List.setIfInBounds_toArray, List.set_cons_zero, List.set_cons_succ]
        refine wpAnyH_take (i := 15) (v := (.bool false)) rfl (by kernel_rfl) (by kernel_rfl) (by kernel_rfl) (fun _ _ _ h => h) (Or.inl ⟨by rfl, ?_⟩) (by assumption) ?_
        · intro w' hSw
          go_simp
        simp only [List.getElem_toArray, List.getElem_cons_succ, List.getElem_cons_zero, Act.put, List.setIfInBounds_toArray, List.set_cons_zero, List.set_cons_succ]
        refine wpAnyH_done (by kernel_rfl) ?_ _
        clear hHeld VSM TA
        by_cases hn1 : nn < 1
        · skip
          go_wp2_with fail
          refine (CW _ D9).mono ?_
          rintro e wq ⟨rfl, Bq⟩
          go_wp2
          go_ret
          exact ⟨rfl, below_then D9 Bq⟩
        · by_cases hn2 : (l1 : Int) ≤ nn
          · skip
            go_wp2_with fail
            refine (CW _ D9).mono ?_
            rintro e wq ⟨rfl, Bq⟩
            go_wp2
            go_ret
            exact ⟨rfl, below_then D9 Bq⟩
          · obtain ⟨n, rfl⟩ : ∃ n : Nat, nn = n := ⟨nn.toNat, by omega⟩
            go_wp2_with fail
            have ha : (P.take n).all (tokB V) = true ∧ (P.drop n).all (tokB V) = true := by
              have := pp3
              rw [← List.take_append_drop n P, List.all_append, Bool.and_eq_true] at this
              exact this
            have lt1 : (P.take n).length = n := by rw [List.length_take, HL1.out]; omega
            have C13 := fun (wv : World) (S : SF w wv V D Hd H L WW bs M ws cw w2.heap.size w6.heap.size b1 l1 kq g6 P v2) => AO ⟨⟨none, 0, 0⟩, ⟨none, 0, 0⟩, ⟨none, 0, 0⟩⟩ noX (some ⟨b1, 0, none⟩) n kq (P.take n) wv (HT.out _ S.kp) S.gd (noV_at _) (noX_fit _ _ _) (S.ap.take (by omega)) (prompt_of ha.1 (by omega) (by omega)) (by show 0 + _ ≤ _; omega)
            unfold VwV.cells Sl.v at C13
            simp only at C13
            have fk : l1 ≤ kq := AP.fit
            have SN : SF w wE V D Hd H L WW bs M ws cw w2.heap.size w6.heap.size b1 l1 kq g6 P v2 := ⟨X0, X1, XB, G4, AP, N6.now, F6.rowAt, D9⟩
            clear X0 X1 XB XF G4 AP N6 F6 R8 NK NV D9 TD
            go_cut [17, 18, 19] from 108 (fun s17 s18 s19 wc => ∃ gA va, s17 = .pointer (some ⟨gA, 0, none⟩) ∧ s19 = .int .i64 0 ∧ SF w wc V D Hd H L WW bs M ws cw w2.heap.size w6.heap.size b1 l1 kq g6 P v2 ∧ Blk wc gA 42 (VwV.cells va) ∧ VwAt wc va (feedAll M D H Hd L noX (P.take n)))
            case first =>
              have S0 := SN.below ((Below.refl _ _).drew)
              refine wp_region_held_drew (S := fun w' => Blk w' w.heap.size 23 #[.int .i64 (V : Int), .int .i64 (D : Int), .int .i64 (Hd : Int), .int .i64 (H : Int), .int .i64 (L : Int)] ∧ Blk w' w2.heap.size 32 ws) (by kernel_rfl) (⟨S0.x0, S0.x1⟩) (fun hHeld => ?_)
              generalize hA : wE.drew = wA at *
              clear hA SN
              refine wpAnyH_take (i := 0) (v := (.agg #[.int .i64 (V : Int), .int .i64 (D : Int), .int .i64 (Hd : Int), .int .i64 (H : Int), .int .i64 (L : Int)])) rfl (by kernel_rfl) (by kernel_rfl) (by kernel_rfl) (fun _ _ _ h => h) (Or.inl ⟨by rfl, ?_⟩) (by assumption) ?_
              · intro w' hSw
                have cc0 : w'.cell? ⟨w.heap.size, 0, none⟩ = some (.int .i64 (V : Int)) := hSw.1.cell 0 rfl
                have cc1 : w'.cell? ⟨w.heap.size, 1, none⟩ = some (.int .i64 (D : Int)) := hSw.1.cell 1 rfl
                have cc2 : w'.cell? ⟨w.heap.size, 2, none⟩ = some (.int .i64 (Hd : Int)) := hSw.1.cell 2 rfl
                have cc3 : w'.cell? ⟨w.heap.size, 3, none⟩ = some (.int .i64 (H : Int)) := hSw.1.cell 3 rfl
                have cc4 : w'.cell? ⟨w.heap.size, 4, none⟩ = some (.int .i64 (L : Int)) := hSw.1.cell 4 rfl
                go_simp
              simp only [List.getElem_toArray, List.getElem_cons_zero, Act.put, List.setIfInBounds_toArray, List.set_cons_zero, List.set_cons_succ]
              refine wpAnyH_take (i := 1) (v := (.agg ws)) rfl (by kernel_rfl) (by kernel_rfl) (by kernel_rfl) (fun _ _ _ h => h) (Or.inl ⟨by rfl, ?_⟩) (by assumption) ?_
              · intro w' hSw
                exact yield_row 32 _ rfl w2.heap.size rfl ws (load_w hSw.2 siz)
              simp only [List.getElem_toArray, List.getElem_cons_succ, List.getElem_cons_zero, Act.put, List.setIfInBounds_toArray, List.set_cons_zero, List.set_cons_succ]
              refine wpAnyH_take (i := 2) (v := (.agg #[.slice none 0 0, .slice none 0 0, .slice none 0 0])) rfl (by kernel_rfl) (by kernel_rfl) (by kernel_rfl) (fun _ _ _ h => h) (Or.inl ⟨by rfl, ?_⟩) (by assumption) ?_
              · intro w' hSw
                go_simp
              simp only [List.getElem_toArray, List.getElem_cons_succ, List.getElem_cons_zero, Act.put, List.setIfInBounds_toArray, List.set_cons_zero, List.set_cons_succ]
              refine wpAnyH_take (i := 3) (v := (.slice (some ⟨b1, 0, none⟩) l1 kq)) rfl (by kernel_rfl) (by kernel_rfl) (by kernel_rfl) (fun _ _ _ h => h) (Or.inl ⟨by rfl, ?_⟩) (by assumption) ?_
              · intro w' hSw
                go_simp
              simp only [List.getElem_toArray, List.getElem_cons_succ, List.getElem_cons_zero, Act.put, List.setIfInBounds_toArray, List.set_cons_zero, List.set_cons_succ]
              refine wpAnyH_take (i := 4) (v := (.int .i64 (n : Int))) rfl (by kernel_rfl) (by kernel_rfl) (by kernel_rfl) (fun _ _ _ h => h) (Or.inl ⟨by rfl, ?_⟩) (by assumption) ?_
              · intro w' hSw
                go_simp
              simp only [List.getElem_toArray, List.getElem_cons_succ, List.getElem_cons_zero, Act.put, List.setIfInBounds_toArray, List.set_cons_zero, List.set_cons_succ]
              refine wpAnyH_take (i := 5) (v := (.slice (some ⟨b1, 0, none⟩) n kq)) rfl (by kernel_rfl) (by kernel_rfl) (by kernel_rfl) (fun _ _ _ h => h) (Or.inl ⟨by rfl, ?_⟩) (by assumption) ?_
              · intro w' hSw
                (go_simp; intro hbad; exfalso; omega)
              simp only [List.getElem_toArray, List.getElem_cons_succ, List.getElem_cons_zero, Act.put, List.setIfInBounds_toArray, List.set_cons_zero, List.set_cons_succ]
              refine wpAnyH_ready (rs := [6, 11]) (by kernel_rfl) (by simp) ?_
              refine AllReadyH.cons rfl (fun Kc hKc => ?_) (AllReadyH.cons rfl (fun Kc hKc => ?_) AllReadyH.nil)
              · simp only [List.getElem_toArray, List.getElem_cons_succ, List.getElem_cons_zero]
                rw [if_pos (by rfl)]
                go_wp2_with fail
                refine (C13 wA (S0)).mono ?_
                rintro e wN1 ⟨va, ga, rfl, NA, FA, EC⟩
                have one3 := vwv_one va
                have siz3 := vwv_size va
                rw [show (#[.slice va.t.ao va.t.n va.t.c, .slice va.k.ao va.k.n va.k.c, .slice va.v.ao va.v.n va.v.c] : Array Value) = va.cells from rfl]
                generalize hca : va.cells = ca at *
                go_wp2_with fail
                have S1 := S0.below EC
                refine hKc.out _ _ ⟨(S1).x0, (S1).x1⟩ (fun hHeld => ?_)
                clear hKc Kc
                refine wpAnyH_take (i := 7) (v := (.tuple #[.agg ca, .slice (some ⟨ga, 0, none⟩) V V, .int .i64 0])) rfl (by kernel_rfl) (by kernel_rfl) (by kernel_rfl) (fun _ _ _ h => h) (Or.inl ⟨by rfl, ?_⟩) (by assumption) ?_
                · intro w' hSw
                  go_simp
                simp only [List.getElem_toArray, List.getElem_cons_succ, List.getElem_cons_zero, Act.put, List.setIfInBounds_toArray, List.set_cons_zero, List.set_cons_succ]
                refine wpAnyH_take (i := 8) (v := (.agg ca)) rfl (by kernel_rfl) (by kernel_rfl) (by kernel_rfl) (fun _ _ _ h => h) (Or.inl ⟨by rfl, ?_⟩) (by assumption) ?_
                · intro w' hSw
                  go_simp
                simp only [List.getElem_toArray, List.getElem_cons_succ, List.getElem_cons_zero, Act.put, List.setIfInBounds_toArray, List.set_cons_zero, List.set_cons_succ]
                refine wpAnyH_take (i := 9) (v := (.slice (some ⟨ga, 0, none⟩) V V)) rfl (by kernel_rfl) (by kernel_rfl) (by kernel_rfl) (fun _ _ _ h => h) (Or.inl ⟨by rfl, ?_⟩) (by assumption) ?_
                · intro w' hSw
                  go_simp
                simp only [List.getElem_toArray, List.getElem_cons_succ, List.getElem_cons_zero, Act.put, List.setIfInBounds_toArray, List.set_cons_zero, List.set_cons_succ]
                refine wpAnyH_take (i := 10) (v := (.int .i64 0)) rfl (by kernel_rfl) (by kernel_rfl) (by kernel_rfl) (fun _ _ _ h => h) (Or.inl ⟨by rfl, ?_⟩) (by assumption) ?_
                · intro w' hSw
                  go_simp
                simp only [List.getElem_toArray, List.getElem_cons_succ, List.getElem_cons_zero, Act.put, List.setIfInBounds_toArray, List.set_cons_zero, List.set_cons_succ]
                refine wpAnyH_ready (rs := [11]) (by kernel_rfl) (by simp) ?_
                refine AllReadyH.cons rfl (fun Kc hKc => ?_) AllReadyH.nil
                simp only [List.getElem_toArray, List.getElem_cons_succ, List.getElem_cons_zero]
                rw [if_pos (by rfl)]
                go_wp2_with fail
                have XA := blk_new wN1 42 #[.slice none 0 0, .slice none 0 0, .slice none 0 0]
                have EA : Below wN1.heap.size wN1 (wN1.alloc (.cells #[.slice none 0 0, .slice none 0 0, .slice none 0 0] 42)) := (Below.refl _ _).alloc (Nat.le_refl _) _
                generalize hn : wN1.alloc (.cells #[.slice none 0 0, .slice none 0 0, .slice none 0 0] 42) = wN2 at *
                clear hn
                have S2 := S1.below EA
                refine hKc.out _ _ ⟨(S2).x0, (S2).x1⟩ (fun hHeld => ?_)
                clear hKc Kc
                refine wpAnyH_ready (rs := [12]) (by kernel_rfl) (by simp) ?_
                refine AllReadyH.cons rfl (fun Kc hKc => ?_) AllReadyH.nil
                simp only [List.getElem_toArray, List.getElem_cons_succ, List.getElem_cons_zero]
                rw [if_pos (by rfl)]
                refine wp_store_row 42 _ _ rfl wN1.heap.size ca rfl rfl 42 _ XA (by rw [siz3]; exact Tryd.infoV) (by rw [siz3]; rfl) one3 ?_
                have KB := below_setRow EA (Nat.le_refl _) ca
                have S3 := S1.below KB
                have VA := NA.now.below KB
                have XS := XA.row ca
                refine hKc.out _ _ ⟨(S3).x0, (S3).x1⟩ (fun hHeld => ?_)
                clear hKc Kc
                refine wpAnyH_take (i := 13) (v := (.slice (some ⟨ga, 0, none⟩) V V)) rfl (by kernel_rfl) (by kernel_rfl) (by kernel_rfl) (fun _ _ _ h => h) (Or.inl ⟨by rfl, ?_⟩) (by assumption) ?_
                · intro w' hSw
                  go_simp
                simp only [List.getElem_toArray, List.getElem_cons_succ, List.getElem_cons_zero, Act.put, List.setIfInBounds_toArray, List.set_cons_zero, List.set_cons_succ]
                refine wpAnyH_take (i := 14) (v := (.int .i64 0)) rfl (by kernel_rfl) (by kernel_rfl) (by kernel_rfl) (fun _ _ _ h => h) (Or.inl ⟨by rfl, ?_⟩) (by assumption) ?_
                · intro w' hSw
                  go_simp
                simp only [List.getElem_toArray, List.getElem_cons_succ, List.getElem_cons_zero, Act.put, List.setIfInBounds_toArray, List.set_cons_zero, List.set_cons_succ]
                refine wpAnyH_done (by kernel_rfl) ?_ _
                go_wp2_with fail
                go_meet
                case rel => exact ⟨wN1.heap.size, va, rfl, rfl, S3, by rw [hca]; exact XS, VA⟩
              · simp only [List.getElem_toArray, List.getElem_cons_succ, List.getElem_cons_zero]
                rw [if_pos (by rfl)]
                go_wp2_with fail
                have XA := blk_new wA 42 #[.slice none 0 0, .slice none 0 0, .slice none 0 0]
                have EA : Below wA.heap.size wA (wA.alloc (.cells #[.slice none 0 0, .slice none 0 0, .slice none 0 0] 42)) := (Below.refl _ _).alloc (Nat.le_refl _) _
                generalize hn : wA.alloc (.cells #[.slice none 0 0, .slice none 0 0, .slice none 0 0] 42) = wN1 at *
                clear hn
                have lA := XA.lt
                have S1 := S0.below EA
                refine hKc.out _ _ ⟨(S1).x0, (S1).x1⟩ (fun hHeld => ?_)
                clear hKc Kc
                refine wpAnyH_ready (rs := [6]) (by kernel_rfl) (by simp) ?_
                refine AllReadyH.cons rfl (fun Kc hKc => ?_) AllReadyH.nil
                simp only [List.getElem_toArray, List.getElem_cons_succ, List.getElem_cons_zero]
                rw [if_pos (by rfl)]
                go_wp2_with fail
                refine (C13 wN1 (S1)).mono ?_
                rintro e wN2 ⟨va, ga, rfl, NA, FA, EC⟩
                have one3 := vwv_one va
                have siz3 := vwv_size va
                rw [show (#[.slice va.t.ao va.t.n va.t.c, .slice va.k.ao va.k.n va.k.c, .slice va.v.ao va.v.n va.v.c] : Array Value) = va.cells from rfl]
                generalize hca : va.cells = ca at *
                go_wp2_with fail
                have S2 := S1.below EC
                replace XA := XA.below EC
                refine hKc.out _ _ ⟨(S2).x0, (S2).x1⟩ (fun hHeld => ?_)
                clear hKc Kc
                refine wpAnyH_take (i := 7) (v := (.tuple #[.agg ca, .slice (some ⟨ga, 0, none⟩) V V, .int .i64 0])) rfl (by kernel_rfl) (by kernel_rfl) (by kernel_rfl) (fun _ _ _ h => h) (Or.inl ⟨by rfl, ?_⟩) (by assumption) ?_
                · intro w' hSw
                  go_simp
                simp only [List.getElem_toArray, List.getElem_cons_succ, List.getElem_cons_zero, Act.put, List.setIfInBounds_toArray, List.set_cons_zero, List.set_cons_succ]
                refine wpAnyH_take (i := 8) (v := (.agg ca)) rfl (by kernel_rfl) (by kernel_rfl) (by kernel_rfl) (fun _ _ _ h => h) (Or.inl ⟨by rfl, ?_⟩) (by assumption) ?_
                · intro w' hSw
                  go_simp
                simp only [List.getElem_toArray, List.getElem_cons_succ, List.getElem_cons_zero, Act.put, List.setIfInBounds_toArray, List.set_cons_zero, List.set_cons_succ]
                refine wpAnyH_take (i := 9) (v := (.slice (some ⟨ga, 0, none⟩) V V)) rfl (by kernel_rfl) (by kernel_rfl) (by kernel_rfl) (fun _ _ _ h => h) (Or.inl ⟨by rfl, ?_⟩) (by assumption) ?_
                · intro w' hSw
                  go_simp
                simp only [List.getElem_toArray, List.getElem_cons_succ, List.getElem_cons_zero, Act.put, List.setIfInBounds_toArray, List.set_cons_zero, List.set_cons_succ]
                refine wpAnyH_take (i := 10) (v := (.int .i64 0)) rfl (by kernel_rfl) (by kernel_rfl) (by kernel_rfl) (fun _ _ _ h => h) (Or.inl ⟨by rfl, ?_⟩) (by assumption) ?_
                · intro w' hSw
                  go_simp
                simp only [List.getElem_toArray, List.getElem_cons_succ, List.getElem_cons_zero, Act.put, List.setIfInBounds_toArray, List.set_cons_zero, List.set_cons_succ]
                refine wpAnyH_ready (rs := [12]) (by kernel_rfl) (by simp) ?_
                refine AllReadyH.cons rfl (fun Kc hKc => ?_) AllReadyH.nil
                simp only [List.getElem_toArray, List.getElem_cons_succ, List.getElem_cons_zero]
                rw [if_pos (by rfl)]
                refine wp_store_row 42 _ _ rfl wA.heap.size ca rfl rfl 42 _ XA (by rw [siz3]; exact Tryd.infoV) (by rw [siz3]; rfl) one3 ?_
                have KB := below_setRow (below_then EA EC) (Nat.le_refl _) ca
                have S3 := S0.below KB
                have VA := (Hangs.row NA (g := wA.heap.size) (by show ¬ (_ ≤ _); omega) ca).now
                have XS := XA.row ca
                refine hKc.out _ _ ⟨(S3).x0, (S3).x1⟩ (fun hHeld => ?_)
                clear hKc Kc
                refine wpAnyH_take (i := 13) (v := (.slice (some ⟨ga, 0, none⟩) V V)) rfl (by kernel_rfl) (by kernel_rfl) (by kernel_rfl) (fun _ _ _ h => h) (Or.inl ⟨by rfl, ?_⟩) (by assumption) ?_
                · intro w' hSw
                  go_simp
                simp only [List.getElem_toArray, List.getElem_cons_succ, List.getElem_cons_zero, Act.put, List.setIfInBounds_toArray, List.set_cons_zero, List.set_cons_succ]
                refine wpAnyH_take (i := 14) (v := (.int .i64 0)) rfl (by kernel_rfl) (by kernel_rfl) (by kernel_rfl) (fun _ _ _ h => h) (Or.inl ⟨by rfl, ?_⟩) (by assumption) ?_
                · intro w' hSw
                  go_simp
                simp only [List.getElem_toArray, List.getElem_cons_succ, List.getElem_cons_zero, Act.put, List.setIfInBounds_toArray, List.set_cons_zero, List.set_cons_succ]
                refine wpAnyH_done (by kernel_rfl) ?_ _
                go_wp2_with fail
                go_meet
                case rel => exact ⟨wA.heap.size, va, rfl, rfl, S3, by rw [hca]; exact XS, VA⟩
            case rest =>
              obtain ⟨gA, va, rfl, rfl, S, XA, VA⟩ := hcut
              have hL1 := HL1.out
              have fitn : VwFit (V : Int) D L (feedAll M D H Hd L noX (P.take n)) := feedAll_fit (noX_fit _ _ _) ha.1 (by show 0 + _ ≤ _; omega)
              have EMn := (feed_full (M := M) (H := H) (Hd := Hd) ha.1 (by omega) (by omega) (noX_fit (V : Int) D L)).1
              have ld : (P.drop n).length = l1 - n := by rw [List.length_drop, HL1.out]
              have E1 : feedAll M D H Hd L (feedAll M D H Hd L noX (P.take n)) (P.drop n) = feedAll M D H Hd L noX P := by rw [← feedAll_append, List.take_append_drop]
              have E2 : likAt M V D H Hd L (feedAll M D H Hd L noX (P.take n)) (P.drop n) (P.drop n).length = likAt M V D H Hd L noX P P.length := by rw [lik_split _ _ _ _ _ _ _ _ (by intro h; rw [h] at ld; simp at ld; omega), List.take_append_drop]
              have C14 := fun (wv : World) (vc : VwV) (S : SF w wv V D Hd H L WW bs M ws cw w2.heap.size w6.heap.size b1 l1 kq g6 P v2) (hv : VwAt wv vc (feedAll M D H Hd L noX (P.take n))) => AO vc _ (some ⟨b1, n, none⟩) (l1 - n) (kq - n) (P.drop n) wv (HT.out _ S.kp) S.gd hv fitn (drop_arg S.ap (by omega)) (prompt_of ha.2 (by omega) (by omega)) (by rw [EMn]; omega)
              simp only [E1, E2] at C14
              have C14c := fun (wv : World) (S : SF w wv V D Hd H L WW bs M ws cw w2.heap.size w6.heap.size b1 l1 kq g6 P v2) => scut_any v2 _ n wv S.vw (by omega) (by rw [EM.1]; omega) (by rw [EM.1]; omega) (by have := hfit.k; rw [EM.1] at this; rw [this]; split <;> omega) (by have := hfit.v; rw [EM.1] at this; rw [this]; split <;> omega) (fun R hR => ⟨by rw [(hfit.ks R hR).1, EM.1]; omega, fun t ht => by rw [(hfit.ks R hR).2 t (by rw [EM.1]; omega)]; omega⟩) (fun R hR => ⟨by rw [(hfit.vs R hR).1, EM.1]; omega, fun t ht => by rw [(hfit.vs R hR).2 t (by rw [EM.1]; omega)]; omega⟩)
              rw [cut_feedAll (by omega) (by omega) pp3 pp2 (noX_fit _ _ _), hcw] at C14c
              clear E1 E2 fitn EMn ld C13 hL1
              go_wp2_with fail
              go_cut [20, 21, 22] from 119 (fun s20 s21 s22 wc => ∃ gb vb gz, s20 = .pointer (some ⟨gb, 0, none⟩) ∧ s21 = .slice (some ⟨gz, 0, none⟩) V V ∧ s22 = .int .i64 0 ∧ SF w wc V D Hd H L WW bs M ws cw w2.heap.size w6.heap.size b1 l1 kq g6 P v2 ∧ Blk wc gA 42 (VwV.cells va) ∧ VwAt wc va (feedAll M D H Hd L noX (P.take n)) ∧ QQ wc V D Hd H L M gb gz vb (feedAll M D H Hd L noX P) (likAt M V D H Hd L noX P P.length))
              case first =>
                have S0 := S.below ((Below.refl _ _).drew)
                have A0 := XA.below ((Below.refl _ _).drew)
                have V0 := VA.below ((Below.refl _ _).drew)
                refine wp_region_held_drew (S := fun w' => Blk w' w.heap.size 23 #[.int .i64 (V : Int), .int .i64 (D : Int), .int .i64 (Hd : Int), .int .i64 (H : Int), .int .i64 (L : Int)] ∧ Blk w' w2.heap.size 32 ws ∧ Blk w' w6.heap.size 42 cw) (by kernel_rfl) (⟨S0.x0, S0.x1, S0.xb⟩) (fun hHeld => ?_)
                generalize hA : wc.drew = wA at *
                clear hA S XA VA
                refine wpAnyH_take (i := 0) (v := (.agg #[.int .i64 (V : Int), .int .i64 (D : Int), .int .i64 (Hd : Int), .int .i64 (H : Int), .int .i64 (L : Int)])) rfl (by kernel_rfl) (by kernel_rfl) (by kernel_rfl) (fun _ _ _ h => h) (Or.inl ⟨by rfl, ?_⟩) (by assumption) ?_
                · intro w' hSw
                  have cc0 : w'.cell? ⟨w.heap.size, 0, none⟩ = some (.int .i64 (V : Int)) := hSw.1.cell 0 rfl
                  have cc1 : w'.cell? ⟨w.heap.size, 1, none⟩ = some (.int .i64 (D : Int)) := hSw.1.cell 1 rfl
                  have cc2 : w'.cell? ⟨w.heap.size, 2, none⟩ = some (.int .i64 (Hd : Int)) := hSw.1.cell 2 rfl
                  have cc3 : w'.cell? ⟨w.heap.size, 3, none⟩ = some (.int .i64 (H : Int)) := hSw.1.cell 3 rfl
                  have cc4 : w'.cell? ⟨w.heap.size, 4, none⟩ = some (.int .i64 (L : Int)) := hSw.1.cell 4 rfl
                  go_simp
                simp only [List.getElem_toArray, List.getElem_cons_zero, Act.put, List.setIfInBounds_toArray, List.set_cons_zero, List.set_cons_succ]
                refine wpAnyH_take (i := 1) (v := (.agg ws)) rfl (by kernel_rfl) (by kernel_rfl) (by kernel_rfl) (fun _ _ _ h => h) (Or.inl ⟨by rfl, ?_⟩) (by assumption) ?_
                · intro w' hSw
                  exact yield_row 32 _ rfl w2.heap.size rfl ws (load_w hSw.2.1 siz)
                simp only [List.getElem_toArray, List.getElem_cons_succ, List.getElem_cons_zero, Act.put, List.setIfInBounds_toArray, List.set_cons_zero, List.set_cons_succ]
                refine wpAnyH_take (i := 2) (v := (.agg cw)) rfl (by kernel_rfl) (by kernel_rfl) (by kernel_rfl) (fun _ _ _ h => h) (Or.inl ⟨by rfl, ?_⟩) (by assumption) ?_
                · intro w' hSw
                  exact yield_row 42 _ rfl w6.heap.size rfl cw (load_v hSw.2.2 siz2)
                simp only [List.getElem_toArray, List.getElem_cons_succ, List.getElem_cons_zero, Act.put, List.setIfInBounds_toArray, List.set_cons_zero, List.set_cons_succ]
                refine wpAnyH_take (i := 3) (v := (.int .i64 (n : Int))) rfl (by kernel_rfl) (by kernel_rfl) (by kernel_rfl) (fun _ _ _ h => h) (Or.inl ⟨by rfl, ?_⟩) (by assumption) ?_
                · intro w' hSw
                  go_simp
                simp only [List.getElem_toArray, List.getElem_cons_succ, List.getElem_cons_zero, Act.put, List.setIfInBounds_toArray, List.set_cons_zero, List.set_cons_succ]
                refine wpAnyH_take (i := 5) (v := (.slice (some ⟨b1, 0, none⟩) l1 kq)) rfl (by kernel_rfl) (by kernel_rfl) (by kernel_rfl) (fun _ _ _ h => h) (Or.inl ⟨by rfl, ?_⟩) (by assumption) ?_
                · intro w' hSw
                  go_simp
                simp only [List.getElem_toArray, List.getElem_cons_succ, List.getElem_cons_zero, Act.put, List.setIfInBounds_toArray, List.set_cons_zero, List.set_cons_succ]
                refine wpAnyH_take (i := 6) (v := (.int .i64 (n : Int))) rfl (by kernel_rfl) (by kernel_rfl) (by kernel_rfl) (fun _ _ _ h => h) (Or.inl ⟨by rfl, ?_⟩) (by assumption) ?_
                · intro w' hSw
                  go_simp
                simp only [List.getElem_toArray, List.getElem_cons_succ, List.getElem_cons_zero, Act.put, List.setIfInBounds_toArray, List.set_cons_zero, List.set_cons_succ]
                refine wpAnyH_take (i := 7) (v := (.slice (some ⟨b1, n, none⟩) (l1 - n) (kq - n))) rfl (by kernel_rfl) (by kernel_rfl) (by kernel_rfl) (fun _ _ _ h => h) (Or.inl ⟨by rfl, ?_⟩) (by assumption) ?_
                · intro w' hSw
                  (go_simp; rw [if_pos (by omega), if_neg (by omega)])
                simp only [List.getElem_toArray, List.getElem_cons_succ, List.getElem_cons_zero, Act.put, List.setIfInBounds_toArray, List.set_cons_zero, List.set_cons_succ]
                refine wpAnyH_ready (rs := [4, 13]) (by kernel_rfl) (by simp) ?_
                refine AllReadyH.cons rfl (fun Kc hKc => ?_) (AllReadyH.cons rfl (fun Kc hKc => ?_) AllReadyH.nil)
                · simp only [List.getElem_toArray, List.getElem_cons_succ, List.getElem_cons_zero]
                  rw [if_pos (by rfl)]
                  go_wp2_with fail
                  refine (C14c wA S0).mono ?_
                  rintro e wN1 ⟨vc, rfl, NC, ECc⟩
                  generalize hcc : vc.cells = cc at *
                  go_wp2_with fail
                  have S1 := S0.below ECc
                  have A1 := A0.below ECc
                  have V1 := V0.below ECc
                  have VC := NC.now
                  refine hKc.out _ _ (⟨S1.x0, S1.x1, S1.xb⟩) (fun hHeld => ?_)
                  clear hKc Kc
                  refine wpAnyH_ready (rs := [8, 13]) (by kernel_rfl) (by simp) ?_
                  refine AllReadyH.cons rfl (fun Kc hKc => ?_) (AllReadyH.cons rfl (fun Kc hKc => ?_) AllReadyH.nil)
                  · simp only [List.getElem_toArray, List.getElem_cons_succ, List.getElem_cons_zero]
                    rw [if_pos (by rfl)]
                    go_wp2_with fail
                    have CC := C14 wN1 vc S1 VC
                    rw [hcc] at CC
                    refine CC.mono ?_
                    rintro e wN2 ⟨vb, gz, rfl, NB, FB', EC⟩
                    have one3 := vwv_one vb
                    have siz3 := vwv_size vb
                    generalize hcb : vb.cells = cb at *
                    clear CC
                    go_wp2_with fail
                    have S2 := S1.below EC
                    have A2 := A1.below EC
                    have V2 := V1.below EC
                    refine hKc.out _ _ (⟨S2.x0, S2.x1, S2.xb⟩) (fun hHeld => ?_)
                    clear hKc Kc
                    refine wpAnyH_take (i := 9) (v := (.tuple #[.agg cb, .slice (some ⟨gz, 0, none⟩) V V, .int .i64 0])) rfl (by kernel_rfl) (by kernel_rfl) (by kernel_rfl) (fun _ _ _ h => h) (Or.inl ⟨by rfl, ?_⟩) (by assumption) ?_
                    · intro w' hSw
                      go_simp
                    simp only [List.getElem_toArray, List.getElem_cons_succ, List.getElem_cons_zero, Act.put, List.setIfInBounds_toArray, List.set_cons_zero, List.set_cons_succ]
                    refine wpAnyH_take (i := 10) (v := (.agg cb)) rfl (by kernel_rfl) (by kernel_rfl) (by kernel_rfl) (fun _ _ _ h => h) (Or.inl ⟨by rfl, ?_⟩) (by assumption) ?_
                    · intro w' hSw
                      go_simp
                    simp only [List.getElem_toArray, List.getElem_cons_succ, List.getElem_cons_zero, Act.put, List.setIfInBounds_toArray, List.set_cons_zero, List.set_cons_succ]
                    refine wpAnyH_take (i := 11) (v := (.slice (some ⟨gz, 0, none⟩) V V)) rfl (by kernel_rfl) (by kernel_rfl) (by kernel_rfl) (fun _ _ _ h => h) (Or.inl ⟨by rfl, ?_⟩) (by assumption) ?_
                    · intro w' hSw
                      go_simp
                    simp only [List.getElem_toArray, List.getElem_cons_succ, List.getElem_cons_zero, Act.put, List.setIfInBounds_toArray, List.set_cons_zero, List.set_cons_succ]
                    refine wpAnyH_take (i := 12) (v := (.int .i64 0)) rfl (by kernel_rfl) (by kernel_rfl) (by kernel_rfl) (fun _ _ _ h => h) (Or.inl ⟨by rfl, ?_⟩) (by assumption) ?_
                    · intro w' hSw
                      go_simp
                    simp only [List.getElem_toArray, List.getElem_cons_succ, List.getElem_cons_zero, Act.put, List.setIfInBounds_toArray, List.set_cons_zero, List.set_cons_succ]
                    refine wpAnyH_ready (rs := [13]) (by kernel_rfl) (by simp) ?_
                    refine AllReadyH.cons rfl (fun Kc hKc => ?_) AllReadyH.nil
                    simp only [List.getElem_toArray, List.getElem_cons_succ, List.getElem_cons_zero]
                    rw [if_pos (by rfl)]
                    go_wp2_with fail
                    have XN := blk_new wN2 42 #[.slice none 0 0, .slice none 0 0, .slice none 0 0]
                    have EA : Below wN2.heap.size wN2 (wN2.alloc (.cells #[.slice none 0 0, .slice none 0 0, .slice none 0 0] 42)) := (Below.refl _ _).alloc (Nat.le_refl _) _
                    generalize hn : wN2.alloc (.cells #[.slice none 0 0, .slice none 0 0, .slice none 0 0] 42) = wN3 at *
                    clear hn
                    have S2b := S2.below EA
                    refine hKc.out _ _ (⟨S2b.x0, S2b.x1, S2b.xb⟩) (fun hHeld => ?_)
                    clear hKc Kc
                    refine wpAnyH_ready (rs := [14]) (by kernel_rfl) (by simp) ?_
                    refine AllReadyH.cons rfl (fun Kc hKc => ?_) AllReadyH.nil
                    simp only [List.getElem_toArray, List.getElem_cons_succ, List.getElem_cons_zero]
                    rw [if_pos (by rfl)]
                    refine wp_store_row 42 _ _ rfl wN2.heap.size cb rfl rfl 42 _ XN (by rw [siz3]; exact Tryd.infoV) (by rw [siz3]; rfl) one3 ?_
                    have KB := below_setRow EA (Nat.le_refl _) cb
                    have S3 := S2.below KB
                    have A3 := A2.below KB
                    have V3 := V2.below KB
                    have VS3 := NB.now.below KB
                    have LS3 := FB'.rowAt.below KB
                    have XS := XN.row cb
                    refine hKc.out _ _ (⟨S3.x0, S3.x1, S3.xb⟩) (fun hHeld => ?_)
                    clear hKc Kc
                    refine wpAnyH_take (i := 15) (v := (.slice (some ⟨gz, 0, none⟩) V V)) rfl (by kernel_rfl) (by kernel_rfl) (by kernel_rfl) (fun _ _ _ h => h) (Or.inl ⟨by rfl, ?_⟩) (by assumption) ?_
                    · intro w' hSw
                      go_simp
                    simp only [List.getElem_toArray, List.getElem_cons_succ, List.getElem_cons_zero, Act.put, List.setIfInBounds_toArray, List.set_cons_zero, List.set_cons_succ]
                    refine wpAnyH_take (i := 16) (v := (.int .i64 0)) rfl (by kernel_rfl) (by kernel_rfl) (by kernel_rfl) (fun _ _ _ h => h) (Or.inl ⟨by rfl, ?_⟩) (by assumption) ?_
                    · intro w' hSw
                      go_simp
                    simp only [List.getElem_toArray, List.getElem_cons_succ, List.getElem_cons_zero, Act.put, List.setIfInBounds_toArray, List.set_cons_zero, List.set_cons_succ]
                    refine wpAnyH_done (by kernel_rfl) ?_ _
                    go_wp2_with fail
                    go_meet
                    case rel => exact ⟨wN2.heap.size, vb, gz, rfl, rfl, rfl, S3, A3, V3, ⟨by rw [hcb]; exact XS, VS3, LS3⟩⟩
                  · simp only [List.getElem_toArray, List.getElem_cons_succ, List.getElem_cons_zero]
                    rw [if_pos (by rfl)]
                    go_wp2_with fail
                    have XN := blk_new wN1 42 #[.slice none 0 0, .slice none 0 0, .slice none 0 0]
                    have EA : Below wN1.heap.size wN1 (wN1.alloc (.cells #[.slice none 0 0, .slice none 0 0, .slice none 0 0] 42)) := (Below.refl _ _).alloc (Nat.le_refl _) _
                    generalize hn : wN1.alloc (.cells #[.slice none 0 0, .slice none 0 0, .slice none 0 0] 42) = wN2 at *
                    clear hn
                    have lN := XN.lt
                    have S2 := S1.below EA
                    replace VC := VC.below EA
                    refine hKc.out _ _ (⟨S2.x0, S2.x1, S2.xb⟩) (fun hHeld => ?_)
                    clear hKc Kc
                    refine wpAnyH_ready (rs := [8]) (by kernel_rfl) (by simp) ?_
                    refine AllReadyH.cons rfl (fun Kc hKc => ?_) AllReadyH.nil
                    simp only [List.getElem_toArray, List.getElem_cons_succ, List.getElem_cons_zero]
                    rw [if_pos (by rfl)]
                    go_wp2_with fail
                    have CC := C14 wN2 vc S2 VC
                    rw [hcc] at CC
                    refine CC.mono ?_
                    rintro e wN3 ⟨vb, gz, rfl, NB, FB', EC⟩
                    have one3 := vwv_one vb
                    have siz3 := vwv_size vb
                    generalize hcb : vb.cells = cb at *
                    clear CC
                    go_wp2_with fail
                    have S2b := S2.below EC
                    replace XN := XN.below EC
                    refine hKc.out _ _ (⟨S2b.x0, S2b.x1, S2b.xb⟩) (fun hHeld => ?_)
                    clear hKc Kc
                    refine wpAnyH_take (i := 9) (v := (.tuple #[.agg cb, .slice (some ⟨gz, 0, none⟩) V V, .int .i64 0])) rfl (by kernel_rfl) (by kernel_rfl) (by kernel_rfl) (fun _ _ _ h => h) (Or.inl ⟨by rfl, ?_⟩) (by assumption) ?_
                    · intro w' hSw
                      go_simp
                    simp only [List.getElem_toArray, List.getElem_cons_succ, List.getElem_cons_zero, Act.put, List.setIfInBounds_toArray, List.set_cons_zero, List.set_cons_succ]
                    refine wpAnyH_take (i := 10) (v := (.agg cb)) rfl (by kernel_rfl) (by kernel_rfl) (by kernel_rfl) (fun _ _ _ h => h) (Or.inl ⟨by rfl, ?_⟩) (by assumption) ?_
                    · intro w' hSw
                      go_simp
                    simp only [List.getElem_toArray, List.getElem_cons_succ, List.getElem_cons_zero, Act.put, List.setIfInBounds_toArray, List.set_cons_zero, List.set_cons_succ]
                    refine wpAnyH_take (i := 11) (v := (.slice (some ⟨gz, 0, none⟩) V V)) rfl (by kernel_rfl) (by kernel_rfl) (by kernel_rfl) (fun _ _ _ h => h) (Or.inl ⟨by rfl, ?_⟩) (by assumption) ?_
                    · intro w' hSw
                      go_simp
                    simp only [List.getElem_toArray, List.getElem_cons_succ, List.getElem_cons_zero, Act.put, List.setIfInBounds_toArray, List.set_cons_zero, List.set_cons_succ]
                    refine wpAnyH_take (i := 12) (v := (.int .i64 0)) rfl (by kernel_rfl) (by kernel_rfl) (by kernel_rfl) (fun _ _ _ h => h) (Or.inl ⟨by rfl, ?_⟩) (by assumption) ?_
                    · intro w' hSw
                      go_simp
                    simp only [List.getElem_toArray, List.getElem_cons_succ, List.getElem_cons_zero, Act.put, List.setIfInBounds_toArray, List.set_cons_zero, List.set_cons_succ]
                    refine wpAnyH_ready (rs := [14]) (by kernel_rfl) (by simp) ?_
                    refine AllReadyH.cons rfl (fun Kc hKc => ?_) AllReadyH.nil
                    simp only [List.getElem_toArray, List.getElem_cons_succ, List.getElem_cons_zero]
                    rw [if_pos (by rfl)]
                    refine wp_store_row 42 _ _ rfl wN1.heap.size cb rfl rfl 42 _ XN (by rw [siz3]; exact Tryd.infoV) (by rw [siz3]; rfl) one3 ?_
                    have KB := below_setRow (below_then EA EC) (Nat.le_refl _) cb
                    have S3 := S1.below KB
                    have A3 := A1.below KB
                    have V3 := V1.below KB
                    have VS3 := (Hangs.row NB (g := wN1.heap.size) (by show ¬ (_ ≤ _); omega) cb).now
                    have LS3 := ((Hangs.row FB'.new (g := wN1.heap.size) (by show ¬ (_ ≤ _); omega) cb).now).rowAt
                    have XS := XN.row cb
                    refine hKc.out _ _ (⟨S3.x0, S3.x1, S3.xb⟩) (fun hHeld => ?_)
                    clear hKc Kc
                    refine wpAnyH_take (i := 15) (v := (.slice (some ⟨gz, 0, none⟩) V V)) rfl (by kernel_rfl) (by kernel_rfl) (by kernel_rfl) (fun _ _ _ h => h) (Or.inl ⟨by rfl, ?_⟩) (by assumption) ?_
                    · intro w' hSw
                      go_simp
                    simp only [List.getElem_toArray, List.getElem_cons_succ, List.getElem_cons_zero, Act.put, List.setIfInBounds_toArray, List.set_cons_zero, List.set_cons_succ]
                    refine wpAnyH_take (i := 16) (v := (.int .i64 0)) rfl (by kernel_rfl) (by kernel_rfl) (by kernel_rfl) (fun _ _ _ h => h) (Or.inl ⟨by rfl, ?_⟩) (by assumption) ?_
                    · intro w' hSw
                      go_simp
                    simp only [List.getElem_toArray, List.getElem_cons_succ, List.getElem_cons_zero, Act.put, List.setIfInBounds_toArray, List.set_cons_zero, List.set_cons_succ]
                    refine wpAnyH_done (by kernel_rfl) ?_ _
                    go_wp2_with fail
                    go_meet
                    case rel => exact ⟨wN1.heap.size, vb, gz, rfl, rfl, rfl, S3, A3, V3, ⟨by rw [hcb]; exact XS, VS3, LS3⟩⟩
                · simp only [List.getElem_toArray, List.getElem_cons_succ, List.getElem_cons_zero]
                  rw [if_pos (by rfl)]
                  go_wp2_with fail
                  have XN := blk_new wA 42 #[.slice none 0 0, .slice none 0 0, .slice none 0 0]
                  have EA : Below wA.heap.size wA (wA.alloc (.cells #[.slice none 0 0, .slice none 0 0, .slice none 0 0] 42)) := (Below.refl _ _).alloc (Nat.le_refl _) _
                  generalize hn : wA.alloc (.cells #[.slice none 0 0, .slice none 0 0, .slice none 0 0] 42) = wN1 at *
                  clear hn
                  have lN := XN.lt
                  have S1 := S0.below EA
                  refine hKc.out _ _ (⟨S1.x0, S1.x1, S1.xb⟩) (fun hHeld => ?_)
                  clear hKc Kc
                  refine wpAnyH_ready (rs := [4]) (by kernel_rfl) (by simp) ?_
                  refine AllReadyH.cons rfl (fun Kc hKc => ?_) AllReadyH.nil
                  simp only [List.getElem_toArray, List.getElem_cons_succ, List.getElem_cons_zero]
                  rw [if_pos (by rfl)]
                  go_wp2_with fail
                  refine (C14c wN1 S1).mono ?_
                  rintro e wN2 ⟨vc, rfl, NC, ECc⟩
                  generalize hcc : vc.cells = cc at *
                  go_wp2_with fail
                  have S2 := S1.below ECc
                  have VC := NC.now
                  replace XN := XN.below ECc
                  refine hKc.out _ _ (⟨S2.x0, S2.x1, S2.xb⟩) (fun hHeld => ?_)
                  clear hKc Kc
                  refine wpAnyH_ready (rs := [8]) (by kernel_rfl) (by simp) ?_
                  refine AllReadyH.cons rfl (fun Kc hKc => ?_) AllReadyH.nil
                  simp only [List.getElem_toArray, List.getElem_cons_succ, List.getElem_cons_zero]
                  rw [if_pos (by rfl)]
                  go_wp2_with fail
                  have CC := C14 wN2 vc S2 VC
                  rw [hcc] at CC
                  refine CC.mono ?_
                  rintro e wN3 ⟨vb, gz, rfl, NB, FB', EC⟩
                  have one3 := vwv_one vb
                  have siz3 := vwv_size vb
                  generalize hcb : vb.cells = cb at *
                  clear CC
                  go_wp2_with fail
                  have S2b := S2.below EC
                  replace XN := XN.below EC
                  refine hKc.out _ _ (⟨S2b.x0, S2b.x1, S2b.xb⟩) (fun hHeld => ?_)
                  clear hKc Kc
                  refine wpAnyH_take (i := 9) (v := (.tuple #[.agg cb, .slice (some ⟨gz, 0, none⟩) V V, .int .i64 0])) rfl (by kernel_rfl) (by kernel_rfl) (by kernel_rfl) (fun _ _ _ h => h) (Or.inl ⟨by rfl, ?_⟩) (by assumption) ?_
                  · intro w' hSw
                    go_simp
                  simp only [List.getElem_toArray, List.getElem_cons_succ, List.getElem_cons_zero, Act.put, List.setIfInBounds_toArray, List.set_cons_zero, List.set_cons_succ]
                  refine wpAnyH_take (i := 10) (v := (.agg cb)) rfl (by kernel_rfl) (by kernel_rfl) (by kernel_rfl) (fun _ _ _ h => h) (Or.inl ⟨by rfl, ?_⟩) (by assumption) ?_
                  · intro w' hSw
                    go_simp
                  simp only [List.getElem_toArray, List.getElem_cons_succ, List.getElem_cons_zero, Act.put, List.setIfInBounds_toArray, List.set_cons_zero, List.set_cons_succ]
                  refine wpAnyH_take (i := 11) (v := (.slice (some ⟨gz, 0, none⟩) V V)) rfl (by kernel_rfl) (by kernel_rfl) (by kernel_rfl) (fun _ _ _ h => h) (Or.inl ⟨by rfl, ?_⟩) (by assumption) ?_
                  · intro w' hSw
                    go_simp
                  simp only [List.getElem_toArray, List.getElem_cons_succ, List.getElem_cons_zero, Act.put, List.setIfInBounds_toArray, List.set_cons_zero, List.set_cons_succ]
                  refine wpAnyH_take (i := 12) (v := (.int .i64 0)) rfl (by kernel_rfl) (by kernel_rfl) (by kernel_rfl) (fun _ _ _ h => h) (Or.inl ⟨by rfl, ?_⟩) (by assumption) ?_
                  · intro w' hSw
                    go_simp
                  simp only [List.getElem_toArray, List.getElem_cons_succ, List.getElem_cons_zero, Act.put, List.setIfInBounds_toArray, List.set_cons_zero, List.set_cons_succ]
                  refine wpAnyH_ready (rs := [14]) (by kernel_rfl) (by simp) ?_
                  refine AllReadyH.cons rfl (fun Kc hKc => ?_) AllReadyH.nil
                  simp only [List.getElem_toArray, List.getElem_cons_succ, List.getElem_cons_zero]
                  rw [if_pos (by rfl)]
                  refine wp_store_row 42 _ _ rfl wA.heap.size cb rfl rfl 42 _ XN (by rw [siz3]; exact Tryd.infoV) (by rw [siz3]; rfl) one3 ?_
                  have q1 := ECc.size
                  have KB := below_setRow (below_then (below_then EA ECc) EC) (Nat.le_refl _) cb
                  have S3 := S0.below KB
                  have A3 := A0.below KB
                  have V3 := V0.below KB
                  have VS3 := (Hangs.row NB (g := wA.heap.size) (by show ¬ (_ ≤ _); omega) cb).now
                  have LS3 := ((Hangs.row FB'.new (g := wA.heap.size) (by show ¬ (_ ≤ _); omega) cb).now).rowAt
                  have XS := XN.row cb
                  refine hKc.out _ _ (⟨S3.x0, S3.x1, S3.xb⟩) (fun hHeld => ?_)
                  clear hKc Kc
                  refine wpAnyH_take (i := 15) (v := (.slice (some ⟨gz, 0, none⟩) V V)) rfl (by kernel_rfl) (by kernel_rfl) (by kernel_rfl) (fun _ _ _ h => h) (Or.inl ⟨by rfl, ?_⟩) (by assumption) ?_
                  · intro w' hSw
                    go_simp
                  simp only [List.getElem_toArray, List.getElem_cons_succ, List.getElem_cons_zero, Act.put, List.setIfInBounds_toArray, List.set_cons_zero, List.set_cons_succ]
                  refine wpAnyH_take (i := 16) (v := (.int .i64 0)) rfl (by kernel_rfl) (by kernel_rfl) (by kernel_rfl) (fun _ _ _ h => h) (Or.inl ⟨by rfl, ?_⟩) (by assumption) ?_
                  · intro w' hSw
                    go_simp
                  simp only [List.getElem_toArray, List.getElem_cons_succ, List.getElem_cons_zero, Act.put, List.setIfInBounds_toArray, List.set_cons_zero, List.set_cons_succ]
                  refine wpAnyH_done (by kernel_rfl) ?_ _
                  go_wp2_with fail
                  go_meet
                  case rel => exact ⟨wA.heap.size, vb, gz, rfl, rfl, rfl, S3, A3, V3, ⟨by rw [hcb]; exact XS, VS3, LS3⟩⟩
              case rest =>
                obtain ⟨gb, vb, gy, rfl, rfl, rfl, S, XA, VA, QB⟩ := hcut
                clear C14c
                have siz4 := vwv_size va
                generalize hca : va.cells = ca at *
                go_wp2_with fail
                go_cut [23, 24, 25] from 132 (fun s23 s24 s25 wc => ∃ gd vd gz, s23 = .pointer (some ⟨gd, 0, none⟩) ∧ s24 = .slice (some ⟨gz, 0, none⟩) V V ∧ s25 = .int .i64 0 ∧ SF w wc V D Hd H L WW bs M ws cw w2.heap.size w6.heap.size b1 l1 kq g6 P v2 ∧ QQ wc V D Hd H L M gb gy vb (feedAll M D H Hd L noX P) (likAt M V D H Hd L noX P P.length) ∧ QQ wc V D Hd H L M gd gz vd (feedAll M D H Hd L noX P) (likAt M V D H Hd L noX P P.length))
                case first =>
                  have S0 := S.below ((Below.refl _ _).drew)
                  have A0 := XA.below ((Below.refl _ _).drew)
                  have V0 := VA.below ((Below.refl _ _).drew)
                  have Q0 := QB.below ((Below.refl _ _).drew)
                  refine wp_region_held_drew (S := fun w' => Blk w' w.heap.size 23 #[.int .i64 (V : Int), .int .i64 (D : Int), .int .i64 (Hd : Int), .int .i64 (H : Int), .int .i64 (L : Int)] ∧ Blk w' w2.heap.size 32 ws ∧ Blk w' gA 42 ca) (by kernel_rfl) (⟨S0.x0, S0.x1, A0⟩) (fun hHeld => ?_)
                  generalize hA : wc.drew = wA at *
                  clear hA S XA VA QB
                  refine wpAnyH_take (i := 0) (v := (.agg #[.int .i64 (V : Int), .int .i64 (D : Int), .int .i64 (Hd : Int), .int .i64 (H : Int), .int .i64 (L : Int)])) rfl (by kernel_rfl) (by kernel_rfl) (by kernel_rfl) (fun _ _ _ h => h) (Or.inl ⟨by rfl, ?_⟩) (by assumption) ?_
                  · intro w' hSw
                    have cc0 : w'.cell? ⟨w.heap.size, 0, none⟩ = some (.int .i64 (V : Int)) := hSw.1.cell 0 rfl
                    have cc1 : w'.cell? ⟨w.heap.size, 1, none⟩ = some (.int .i64 (D : Int)) := hSw.1.cell 1 rfl
                    have cc2 : w'.cell? ⟨w.heap.size, 2, none⟩ = some (.int .i64 (Hd : Int)) := hSw.1.cell 2 rfl
                    have cc3 : w'.cell? ⟨w.heap.size, 3, none⟩ = some (.int .i64 (H : Int)) := hSw.1.cell 3 rfl
                    have cc4 : w'.cell? ⟨w.heap.size, 4, none⟩ = some (.int .i64 (L : Int)) := hSw.1.cell 4 rfl
                    go_simp
                  simp only [List.getElem_toArray, List.getElem_cons_zero, Act.put, List.setIfInBounds_toArray, List.set_cons_zero, List.set_cons_succ]
                  refine wpAnyH_take (i := 1) (v := (.agg ws)) rfl (by kernel_rfl) (by kernel_rfl) (by kernel_rfl) (fun _ _ _ h => h) (Or.inl ⟨by rfl, ?_⟩) (by assumption) ?_
                  · intro w' hSw
                    exact yield_row 32 _ rfl w2.heap.size rfl ws (load_w hSw.2.1 siz)
                  simp only [List.getElem_toArray, List.getElem_cons_succ, List.getElem_cons_zero, Act.put, List.setIfInBounds_toArray, List.set_cons_zero, List.set_cons_succ]
                  refine wpAnyH_take (i := 2) (v := (.agg ca)) rfl (by kernel_rfl) (by kernel_rfl) (by kernel_rfl) (fun _ _ _ h => h) (Or.inl ⟨by rfl, ?_⟩) (by assumption) ?_
                  · intro w' hSw
                    exact yield_row 42 _ rfl gA rfl ca (load_v hSw.2.2 siz4)
                  simp only [List.getElem_toArray, List.getElem_cons_succ, List.getElem_cons_zero, Act.put, List.setIfInBounds_toArray, List.set_cons_zero, List.set_cons_succ]
                  refine wpAnyH_take (i := 3) (v := (.slice (some ⟨b1, 0, none⟩) l1 kq)) rfl (by kernel_rfl) (by kernel_rfl) (by kernel_rfl) (fun _ _ _ h => h) (Or.inl ⟨by rfl, ?_⟩) (by assumption) ?_
                  · intro w' hSw
                    go_simp
                  simp only [List.getElem_toArray, List.getElem_cons_succ, List.getElem_cons_zero, Act.put, List.setIfInBounds_toArray, List.set_cons_zero, List.set_cons_succ]
                  refine wpAnyH_take (i := 4) (v := (.int .i64 (n : Int))) rfl (by kernel_rfl) (by kernel_rfl) (by kernel_rfl) (fun _ _ _ h => h) (Or.inl ⟨by rfl, ?_⟩) (by assumption) ?_
                  · intro w' hSw
                    go_simp
                  simp only [List.getElem_toArray, List.getElem_cons_succ, List.getElem_cons_zero, Act.put, List.setIfInBounds_toArray, List.set_cons_zero, List.set_cons_succ]
                  refine wpAnyH_take (i := 5) (v := (.slice (some ⟨b1, n, none⟩) (l1 - n) (kq - n))) rfl (by kernel_rfl) (by kernel_rfl) (by kernel_rfl) (fun _ _ _ h => h) (Or.inl ⟨by rfl, ?_⟩) (by assumption) ?_
                  · intro w' hSw
                    (go_simp; rw [if_pos (by omega), if_neg (by omega)])
                  simp only [List.getElem_toArray, List.getElem_cons_succ, List.getElem_cons_zero, Act.put, List.setIfInBounds_toArray, List.set_cons_zero, List.set_cons_succ]
                  refine wpAnyH_ready (rs := [6, 11]) (by kernel_rfl) (by simp) ?_
                  refine AllReadyH.cons rfl (fun Kc hKc => ?_) (AllReadyH.cons rfl (fun Kc hKc => ?_) AllReadyH.nil)
                  · simp only [List.getElem_toArray, List.getElem_cons_succ, List.getElem_cons_zero]
                    rw [if_pos (by rfl)]
                    go_wp2_with fail
                    have CC := C14 wA va S0 V0
                    rw [hca] at CC
                    refine CC.mono ?_
                    rintro e wN1 ⟨vd, gz, rfl, NB, FB', EC⟩
                    have one3 := vwv_one vd
                    have siz3 := vwv_size vd
                    generalize hcb : vd.cells = cb at *
                    clear CC
                    go_wp2_with fail
                    have S1 := S0.below EC
                    have A1 := A0.below EC
                    have Q1 := Q0.below EC
                    refine hKc.out _ _ (⟨S1.x0, S1.x1, A1⟩) (fun hHeld => ?_)
                    clear hKc Kc
                    refine wpAnyH_take (i := 7) (v := (.tuple #[.agg cb, .slice (some ⟨gz, 0, none⟩) V V, .int .i64 0])) rfl (by kernel_rfl) (by kernel_rfl) (by kernel_rfl) (fun _ _ _ h => h) (Or.inl ⟨by rfl, ?_⟩) (by assumption) ?_
                    · intro w' hSw
                      go_simp
                    simp only [List.getElem_toArray, List.getElem_cons_succ, List.getElem_cons_zero, Act.put, List.setIfInBounds_toArray, List.set_cons_zero, List.set_cons_succ]
                    refine wpAnyH_take (i := 8) (v := (.agg cb)) rfl (by kernel_rfl) (by kernel_rfl) (by kernel_rfl) (fun _ _ _ h => h) (Or.inl ⟨by rfl, ?_⟩) (by assumption) ?_
                    · intro w' hSw
                      go_simp
                    simp only [List.getElem_toArray, List.getElem_cons_succ, List.getElem_cons_zero, Act.put, List.setIfInBounds_toArray, List.set_cons_zero, List.set_cons_succ]
                    refine wpAnyH_take (i := 9) (v := (.slice (some ⟨gz, 0, none⟩) V V)) rfl (by kernel_rfl) (by kernel_rfl) (by kernel_rfl) (fun _ _ _ h => h) (Or.inl ⟨by rfl, ?_⟩) (by assumption) ?_
                    · intro w' hSw
                      go_simp
                    simp only [List.getElem_toArray, List.getElem_cons_succ, List.getElem_cons_zero, Act.put, List.setIfInBounds_toArray, List.set_cons_zero, List.set_cons_succ]
                    refine wpAnyH_take (i := 10) (v := (.int .i64 0)) rfl (by kernel_rfl) (by kernel_rfl) (by kernel_rfl) (fun _ _ _ h => h) (Or.inl ⟨by rfl, ?_⟩) (by assumption) ?_
                    · intro w' hSw
                      go_simp
                    simp only [List.getElem_toArray, List.getElem_cons_succ, List.getElem_cons_zero, Act.put, List.setIfInBounds_toArray, List.set_cons_zero, List.set_cons_succ]
                    refine wpAnyH_ready (rs := [11]) (by kernel_rfl) (by simp) ?_
                    refine AllReadyH.cons rfl (fun Kc hKc => ?_) AllReadyH.nil
                    simp only [List.getElem_toArray, List.getElem_cons_succ, List.getElem_cons_zero]
                    rw [if_pos (by rfl)]
                    go_wp2_with fail
                    have XN := blk_new wN1 42 #[.slice none 0 0, .slice none 0 0, .slice none 0 0]
                    have EA : Below wN1.heap.size wN1 (wN1.alloc (.cells #[.slice none 0 0, .slice none 0 0, .slice none 0 0] 42)) := (Below.refl _ _).alloc (Nat.le_refl _) _
                    generalize hn : wN1.alloc (.cells #[.slice none 0 0, .slice none 0 0, .slice none 0 0] 42) = wN2 at *
                    clear hn
                    have S2 := S1.below EA
                    have A2 := A1.below EA
                    refine hKc.out _ _ (⟨S2.x0, S2.x1, A2⟩) (fun hHeld => ?_)
                    clear hKc Kc
                    refine wpAnyH_ready (rs := [12]) (by kernel_rfl) (by simp) ?_
                    refine AllReadyH.cons rfl (fun Kc hKc => ?_) AllReadyH.nil
                    simp only [List.getElem_toArray, List.getElem_cons_succ, List.getElem_cons_zero]
                    rw [if_pos (by rfl)]
                    refine wp_store_row 42 _ _ rfl wN1.heap.size cb rfl rfl 42 _ XN (by rw [siz3]; exact Tryd.infoV) (by rw [siz3]; rfl) one3 ?_
                    have KB := below_setRow EA (Nat.le_refl _) cb
                    have S3 := S1.below KB
                    have A3 := A1.below KB
                    have Q3 := Q1.below KB
                    have VS3 := NB.now.below KB
                    have LS3 := FB'.rowAt.below KB
                    have XS := XN.row cb
                    refine hKc.out _ _ (⟨S3.x0, S3.x1, A3⟩) (fun hHeld => ?_)
                    clear hKc Kc
                    refine wpAnyH_take (i := 13) (v := (.slice (some ⟨gz, 0, none⟩) V V)) rfl (by kernel_rfl) (by kernel_rfl) (by kernel_rfl) (fun _ _ _ h => h) (Or.inl ⟨by rfl, ?_⟩) (by assumption) ?_
                    · intro w' hSw
                      go_simp
                    simp only [List.getElem_toArray, List.getElem_cons_succ, List.getElem_cons_zero, Act.put, List.setIfInBounds_toArray, List.set_cons_zero, List.set_cons_succ]
                    refine wpAnyH_take (i := 14) (v := (.int .i64 0)) rfl (by kernel_rfl) (by kernel_rfl) (by kernel_rfl) (fun _ _ _ h => h) (Or.inl ⟨by rfl, ?_⟩) (by assumption) ?_
                    · intro w' hSw
                      go_simp
                    simp only [List.getElem_toArray, List.getElem_cons_succ, List.getElem_cons_zero, Act.put, List.setIfInBounds_toArray, List.set_cons_zero, List.set_cons_succ]
                    refine wpAnyH_done (by kernel_rfl) ?_ _
                    go_wp2_with fail
                    go_meet
                    case rel => exact ⟨wN1.heap.size, vd, gz, rfl, rfl, rfl, S3, Q3, ⟨by rw [hcb]; exact XS, VS3, LS3⟩⟩
                  · simp only [List.getElem_toArray, List.getElem_cons_succ, List.getElem_cons_zero]
                    rw [if_pos (by rfl)]
                    go_wp2_with fail
                    have XN := blk_new wA 42 #[.slice none 0 0, .slice none 0 0, .slice none 0 0]
                    have EA : Below wA.heap.size wA (wA.alloc (.cells #[.slice none 0 0, .slice none 0 0, .slice none 0 0] 42)) := (Below.refl _ _).alloc (Nat.le_refl _) _
                    generalize hn : wA.alloc (.cells #[.slice none 0 0, .slice none 0 0, .slice none 0 0] 42) = wN1 at *
                    clear hn
                    have lN := XN.lt
                    have S1 := S0.below EA
                    have A1 := A0.below EA
                    have V1 := V0.below EA
                    refine hKc.out _ _ (⟨S1.x0, S1.x1, A1⟩) (fun hHeld => ?_)
                    clear hKc Kc
                    refine wpAnyH_ready (rs := [6]) (by kernel_rfl) (by simp) ?_
                    refine AllReadyH.cons rfl (fun Kc hKc => ?_) AllReadyH.nil
                    simp only [List.getElem_toArray, List.getElem_cons_succ, List.getElem_cons_zero]
                    rw [if_pos (by rfl)]
                    go_wp2_with fail
                    have CC := C14 wN1 va S1 V1
                    rw [hca] at CC
                    refine CC.mono ?_
                    rintro e wN2 ⟨vd, gz, rfl, NB, FB', EC⟩
                    have one3 := vwv_one vd
                    have siz3 := vwv_size vd
                    generalize hcb : vd.cells = cb at *
                    clear CC
                    go_wp2_with fail
                    have S2 := S1.below EC
                    have A2 := A1.below EC
                    replace XN := XN.below EC
                    refine hKc.out _ _ (⟨S2.x0, S2.x1, A2⟩) (fun hHeld => ?_)
                    clear hKc Kc
                    refine wpAnyH_take (i := 7) (v := (.tuple #[.agg cb, .slice (some ⟨gz, 0, none⟩) V V, .int .i64 0])) rfl (by kernel_rfl) (by kernel_rfl) (by kernel_rfl) (fun _ _ _ h => h) (Or.inl ⟨by rfl, ?_⟩) (by assumption) ?_
                    · intro w' hSw
                      go_simp
                    simp only [List.getElem_toArray, List.getElem_cons_succ, List.getElem_cons_zero, Act.put, List.setIfInBounds_toArray, List.set_cons_zero, List.set_cons_succ]
                    refine wpAnyH_take (i := 8) (v := (.agg cb)) rfl (by kernel_rfl) (by kernel_rfl) (by kernel_rfl) (fun _ _ _ h => h) (Or.inl ⟨by rfl, ?_⟩) (by assumption) ?_
                    · intro w' hSw
                      go_simp
                    simp only [List.getElem_toArray, List.getElem_cons_succ, List.getElem_cons_zero, Act.put, List.setIfInBounds_toArray, List.set_cons_zero, List.set_cons_succ]
                    refine wpAnyH_take (i := 9) (v := (.slice (some ⟨gz, 0, none⟩) V V)) rfl (by kernel_rfl) (by kernel_rfl) (by kernel_rfl) (fun _ _ _ h => h) (Or.inl ⟨by rfl, ?_⟩) (by assumption) ?_
                    · intro w' hSw
                      go_simp
                    simp only [List.getElem_toArray, List.getElem_cons_succ, List.getElem_cons_zero, Act.put, List.setIfInBounds_toArray, List.set_cons_zero, List.set_cons_succ]
                    refine wpAnyH_take (i := 10) (v := (.int .i64 0)) rfl (by kernel_rfl) (by kernel_rfl) (by kernel_rfl) (fun _ _ _ h => h) (Or.inl ⟨by rfl, ?_⟩) (by assumption) ?_
                    · intro w' hSw
                      go_simp
                    simp only [List.getElem_toArray, List.getElem_cons_succ, List.getElem_cons_zero, Act.put, List.setIfInBounds_toArray, List.set_cons_zero, List.set_cons_succ]
                    refine wpAnyH_ready (rs := [12]) (by kernel_rfl) (by simp) ?_
                    refine AllReadyH.cons rfl (fun Kc hKc => ?_) AllReadyH.nil
                    simp only [List.getElem_toArray, List.getElem_cons_succ, List.getElem_cons_zero]
                    rw [if_pos (by rfl)]
                    refine wp_store_row 42 _ _ rfl wA.heap.size cb rfl rfl 42 _ XN (by rw [siz3]; exact Tryd.infoV) (by rw [siz3]; rfl) one3 ?_
                    have KB := below_setRow (below_then EA EC) (Nat.le_refl _) cb
                    have S3 := S0.below KB
                    have A3 := A0.below KB
                    have Q3 := Q0.below KB
                    have VS3 := (Hangs.row NB (g := wA.heap.size) (by show ¬ (_ ≤ _); omega) cb).now
                    have LS3 := ((Hangs.row FB'.new (g := wA.heap.size) (by show ¬ (_ ≤ _); omega) cb).now).rowAt
                    have XS := XN.row cb
                    refine hKc.out _ _ (⟨S3.x0, S3.x1, A3⟩) (fun hHeld => ?_)
                    clear hKc Kc
                    refine wpAnyH_take (i := 13) (v := (.slice (some ⟨gz, 0, none⟩) V V)) rfl (by kernel_rfl) (by kernel_rfl) (by kernel_rfl) (fun _ _ _ h => h) (Or.inl ⟨by rfl, ?_⟩) (by assumption) ?_
                    · intro w' hSw
                      go_simp
                    simp only [List.getElem_toArray, List.getElem_cons_succ, List.getElem_cons_zero, Act.put, List.setIfInBounds_toArray, List.set_cons_zero, List.set_cons_succ]
                    refine wpAnyH_take (i := 14) (v := (.int .i64 0)) rfl (by kernel_rfl) (by kernel_rfl) (by kernel_rfl) (fun _ _ _ h => h) (Or.inl ⟨by rfl, ?_⟩) (by assumption) ?_
                    · intro w' hSw
                      go_simp
                    simp only [List.getElem_toArray, List.getElem_cons_succ, List.getElem_cons_zero, Act.put, List.setIfInBounds_toArray, List.set_cons_zero, List.set_cons_succ]
                    refine wpAnyH_done (by kernel_rfl) ?_ _
                    go_wp2_with fail
                    go_meet
                    case rel => exact ⟨wA.heap.size, vd, gz, rfl, rfl, rfl, S3, Q3, ⟨by rw [hcb]; exact XS, VS3, LS3⟩⟩
                case rest =>
                  obtain ⟨gd, vd, gz, rfl, rfl, rfl, S, QB, QD⟩ := hcut
                  clear C14
                  have TDA : ∀ (vv : VwV) (wv : World), VwAt wv vv (feedAll M D H Hd L noX P) → Calls Tryd.prog 12 #[.agg vv.cells] wv fun e w' => ∃ t k v : Sl, e = .returned (.agg #[t.v, k.v, v.v]) ∧ ToldAt w' t k v (feedAll M D H Hd L noX P) ∧ Below wv.heap.size wv w' := by
                    obtain ⟨q1, q2, q3, q4, q5, q6, q7, q8, q9, q10⟩ := hk
                    have hL1 := HL1.out
                    exact fun v2 wv h => told9_any v2 _ wv h (by rw [EM.1]; omega) (by rw [hfit.k]; split <;> omega) (by rw [hfit.v]; split <;> omega) (fit_whole hfit (by omega)).1 (fit_whole hfit (by omega)).2
                  have SH : ∀ wv : World, Calls Tryd.prog 15 #[.agg #[.int .i64 (V : Int), .int .i64 (D : Int), .int .i64 (Hd : Int), .int .i64 (H : Int), .int .i64 (L : Int)]] wv fun e w' => e = .returned (.int .i64 0) ∧ Below wv.heap.size wv w' := fun wv => by
                    have := rshape_any (V : Int) (D : Int) (Hd : Int) (H : Int) (L : Int) wv (by unfold I64; omega) (by unfold I64; omega) (by unfold I64; omega) (by unfold I64; omega) (by unfold I64; omega)
                    rw [hsh] at this
                    exact this
                  have TD2 := TDA v2
                  have TDb := TDA vb
                  have TDd := TDA vd
                  rw [hcw] at TD2
                  have sizb := vwv_size vb
                  have sizd := vwv_size vd
                  have XBB := QB.xb
                  have XDD := QD.xb
                  generalize hcb : vb.cells = cb at *
                  generalize hcd : vd.cells = cd at *
                  go_wp2_with fail
                  replace S := S.below ((Below.refl _ _).drew)
                  replace QB := QB.below ((Below.refl _ _).drew)
                  replace QD := QD.below ((Below.refl _ _).drew)
                  replace XBB := XBB.below ((Below.refl _ _).drew)
                  replace XDD := XDD.below ((Below.refl _ _).drew)
                  refine wp_region_held_drew (S := fun w' => Blk w' w.heap.size 23 #[.int .i64 (V : Int), .int .i64 (D : Int), .int .i64 (Hd : Int), .int .i64 (H : Int), .int .i64 (L : Int)] ∧ Blk w' w6.heap.size 42 cw ∧ Blk w' gb 42 cb ∧ Blk w' gd 42 cd) (by kernel_rfl) (⟨S.x0, S.xb, XBB, XDD⟩) (fun hHeld => ?_)
                  generalize hA : wc.drew = wA at *
                  clear hA
                  refine wpAnyH_ready (rs := [0]) (by kernel_rfl) (by simp) ?_
                  refine AllReadyH.cons rfl (fun Kc hKc => ?_) AllReadyH.nil
                  simp only [List.getElem_toArray, List.getElem_cons_zero]
                  rw [if_pos (by rfl)]
                  go_wp2_with fail
                  refine (CW _ S.kp).mono ?_
                  rintro e x1 ⟨rfl, E1⟩
                  replace S := S.below E1
                  replace QB := QB.below E1
                  replace QD := QD.below E1
                  replace XBB := XBB.below E1
                  replace XDD := XDD.below E1
                  go_wp2_with fail
                  refine hKc.out _ _ (⟨S.x0, S.xb, XBB, XDD⟩) (fun hHeld => ?_)
                  clear hKc Kc
                  refine wpAnyH_take (i := 1) (v := (.bool true)) rfl (by kernel_rfl) (by kernel_rfl) (by kernel_rfl) (fun _ _ _ h => h) (Or.inl ⟨by rfl, ?_⟩) (by assumption) ?_
                  · intro w' hSw
                    go_simp
                  simp only [List.getElem_toArray, List.getElem_cons_succ, List.getElem_cons_zero, Act.put, List.setIfInBounds_toArray, List.set_cons_zero, List.set_cons_succ]
                  refine wpAnyH_take (i := 2) (v := (.int .i64 0)) rfl (by kernel_rfl) (by kernel_rfl) (by kernel_rfl) (fun _ _ _ h => h) (Or.inl ⟨by rfl, ?_⟩) (by assumption) ?_
                  · intro w' hSw
                    go_simp
                  simp only [List.getElem_toArray, List.getElem_cons_succ, List.getElem_cons_zero, Act.put, List.setIfInBounds_toArray, List.set_cons_zero, List.set_cons_succ]
                  refine wpAnyH_take (i := 3) (v := (.bool true)) rfl (by kernel_rfl) (by kernel_rfl) (by kernel_rfl) (fun _ _ _ h => h) (Or.inl ⟨by rfl, ?_⟩) (by assumption) ?_
                  · intro w' hSw
                    go_simp
                  simp only [List.getElem_toArray, List.getElem_cons_succ, List.getElem_cons_zero, Act.put, List.setIfInBounds_toArray, List.set_cons_zero, List.set_cons_succ]
                  refine wpAnyH_take (i := 4) (v := (.bool true)) rfl (by kernel_rfl) (by kernel_rfl) (by kernel_rfl) (fun _ _ _ h => h) (Or.inl ⟨by rfl, ?_⟩) (by assumption) ?_
                  · intro w' hSw
                    go_simp
                  simp only [List.getElem_toArray, List.getElem_cons_succ, List.getElem_cons_zero, Act.put, List.setIfInBounds_toArray, List.set_cons_zero, List.set_cons_succ]
                  refine wpAnyH_take (i := 5) (v := (.bool true)) rfl (by kernel_rfl) (by kernel_rfl) (by kernel_rfl) (fun _ _ _ h => h) (Or.inl ⟨by rfl, ?_⟩) (by assumption) ?_
                  · intro w' hSw
                    go_simp
                  simp only [List.getElem_toArray, List.getElem_cons_succ, List.getElem_cons_zero, Act.put, List.setIfInBounds_toArray, List.set_cons_zero, List.set_cons_succ]
                  refine wpAnyH_take (i := 6) (v := (.int .i64 0)) rfl (by kernel_rfl) (by kernel_rfl) (by kernel_rfl) (fun _ _ _ h => h) (Or.inl ⟨by rfl, ?_⟩) (by assumption) ?_
                  · intro w' hSw
                    go_simp
                  simp only [List.getElem_toArray, List.getElem_cons_succ, List.getElem_cons_zero, Act.put, List.setIfInBounds_toArray, List.set_cons_zero, List.set_cons_succ]
                  refine wpAnyH_take (i := 7) (v := (.bool true)) rfl (by kernel_rfl) (by kernel_rfl) (by kernel_rfl) (fun _ _ _ h => h) (Or.inl ⟨by rfl, ?_⟩) (by assumption) ?_
                  · intro w' hSw
                    go_simp
                  simp only [List.getElem_toArray, List.getElem_cons_succ, List.getElem_cons_zero, Act.put, List.setIfInBounds_toArray, List.set_cons_zero, List.set_cons_succ]
                  refine wpAnyH_take (i := 8) (v := (.bool true)) rfl (by kernel_rfl) (by kernel_rfl) (by kernel_rfl) (fun _ _ _ h => h) (Or.inl ⟨by rfl, ?_⟩) (by assumption) ?_
                  · intro w' hSw
                    go_simp
                  simp only [List.getElem_toArray, List.getElem_cons_succ, List.getElem_cons_zero, Act.put, List.setIfInBounds_toArray, List.set_cons_zero, List.set_cons_succ]
                  refine wpAnyH_take (i := 9) (v := (.bool true)) rfl (by kernel_rfl) (by kernel_rfl) (by kernel_rfl) (fun _ _ _ h => h) (Or.inl ⟨by rfl, ?_⟩) (by assumption) ?_
                  · intro w' hSw
                    go_simp
                  simp only [List.getElem_toArray, List.getElem_cons_succ, List.getElem_cons_zero, Act.put, List.setIfInBounds_toArray, List.set_cons_zero, List.set_cons_succ]
                  refine wpAnyH_take (i := 10) (v := (.int .i64 0)) rfl (by kernel_rfl) (by kernel_rfl) (by kernel_rfl) (fun _ _ _ h => h) (Or.inl ⟨by rfl, ?_⟩) (by assumption) ?_
                  · intro w' hSw
                    go_simp
                  simp only [List.getElem_toArray, List.getElem_cons_succ, List.getElem_cons_zero, Act.put, List.setIfInBounds_toArray, List.set_cons_zero, List.set_cons_succ]
                  refine wpAnyH_take (i := 11) (v := (.bool true)) rfl (by kernel_rfl) (by kernel_rfl) (by kernel_rfl) (fun _ _ _ h => h) (Or.inl ⟨by rfl, ?_⟩) (by assumption) ?_
                  · intro w' hSw
                    go_simp
                  simp only [List.getElem_toArray, List.getElem_cons_succ, List.getElem_cons_zero, Act.put, List.setIfInBounds_toArray, List.set_cons_zero, List.set_cons_succ]
                  refine wpAnyH_take (i := 12) (v := (.bool true)) rfl (by kernel_rfl) (by kernel_rfl) (by kernel_rfl) (fun _ _ _ h => h) (Or.inl ⟨by rfl, ?_⟩) (by assumption) ?_
                  · intro w' hSw
                    go_simp
                  simp only [List.getElem_toArray, List.getElem_cons_succ, List.getElem_cons_zero, Act.put, List.setIfInBounds_toArray, List.set_cons_zero, List.set_cons_succ]
                  refine wpAnyH_take (i := 13) (v := (.bool true)) rfl (by kernel_rfl) (by kernel_rfl) (by kernel_rfl) (fun _ _ _ h => h) (Or.inl ⟨by rfl, ?_⟩) (by assumption) ?_
                  · intro w' hSw
                    go_simp
                  simp only [List.getElem_toArray, List.getElem_cons_succ, List.getElem_cons_zero, Act.put, List.setIfInBounds_toArray, List.set_cons_zero, List.set_cons_succ]
                  refine wpAnyH_take (i := 14) (v := (.slice (some ⟨gy, 0, none⟩) V V)) rfl (by kernel_rfl) (by kernel_rfl) (by kernel_rfl) (fun _ _ _ h => h) (Or.inl ⟨by rfl, ?_⟩) (by assumption) ?_
                  · intro w' hSw
                    go_simp
                  simp only [List.getElem_toArray, List.getElem_cons_succ, List.getElem_cons_zero, Act.put, List.setIfInBounds_toArray, List.set_cons_zero, List.set_cons_succ]
                  refine wpAnyH_take (i := 15) (v := (.slice (some ⟨g6, 0, none⟩) V V)) rfl (by kernel_rfl) (by kernel_rfl) (by kernel_rfl) (fun _ _ _ h => h) (Or.inl ⟨by rfl, ?_⟩) (by assumption) ?_
                  · intro w' hSw
                    go_simp
                  simp only [List.getElem_toArray, List.getElem_cons_succ, List.getElem_cons_zero, Act.put, List.setIfInBounds_toArray, List.set_cons_zero, List.set_cons_succ]
                  refine wpAnyH_ready (rs := [16]) (by kernel_rfl) (by simp) ?_
                  refine AllReadyH.cons rfl (fun Kc hKc => ?_) AllReadyH.nil
                  simp only [List.getElem_toArray, List.getElem_cons_succ, List.getElem_cons_zero]
                  rw [if_pos (by rfl)]
                  go_wp2_with fail
                  refine (same_any (some ⟨gy, 0, none⟩) (some ⟨g6, 0, none⟩) V V V _ _ QB.lk S.lk).mono ?_
                  rintro e x2 ⟨rfl, mN, hmN⟩
                  have E2 : Below x1.heap.size x1 x2 := by rw [hmN]; exact below_drewN (Below.refl _ _) mN
                  clear hmN
                  replace S := S.below E2
                  replace QB := QB.below E2
                  replace QD := QD.below E2
                  replace XBB := XBB.below E2
                  replace XDD := XDD.below E2
                  go_wp2_with fail
                  refine hKc.out _ _ (⟨S.x0, S.xb, XBB, XDD⟩) (fun hHeld => ?_)
                  clear hKc Kc
                  refine wpAnyH_take (i := 17) (v := (.bool true)) rfl (by kernel_rfl) (by kernel_rfl) (by kernel_rfl) (fun _ _ _ h => h) (Or.inl ⟨by rfl, ?_⟩) (by assumption) ?_
                  · intro w' hSw
                    go_simp
                  simp only [List.getElem_toArray, List.getElem_cons_succ, List.getElem_cons_zero, Act.put, List.setIfInBounds_toArray, List.set_cons_zero, List.set_cons_succ]
                  refine wpAnyH_take (i := 18) (v := (.bool true)) rfl (by kernel_rfl) (by kernel_rfl) (by kernel_rfl) (fun _ _ _ h => h) (Or.inl ⟨by rfl, ?_⟩) (by assumption) ?_
                  · intro w' hSw
                    go_simp
                  simp only [List.getElem_toArray, List.getElem_cons_succ, List.getElem_cons_zero, Act.put, List.setIfInBounds_toArray, List.set_cons_zero, List.set_cons_succ]
                  refine wpAnyH_take (i := 19) (v := (.slice (some ⟨gz, 0, none⟩) V V)) rfl (by kernel_rfl) (by kernel_rfl) (by kernel_rfl) (fun _ _ _ h => h) (Or.inl ⟨by rfl, ?_⟩) (by assumption) ?_
                  · intro w' hSw
                    go_simp
                  simp only [List.getElem_toArray, List.getElem_cons_succ, List.getElem_cons_zero, Act.put, List.setIfInBounds_toArray, List.set_cons_zero, List.set_cons_succ]
                  refine wpAnyH_take (i := 20) (v := (.slice (some ⟨g6, 0, none⟩) V V)) rfl (by kernel_rfl) (by kernel_rfl) (by kernel_rfl) (fun _ _ _ h => h) (Or.inl ⟨by rfl, ?_⟩) (by assumption) ?_
                  · intro w' hSw
                    go_simp
                  simp only [List.getElem_toArray, List.getElem_cons_succ, List.getElem_cons_zero, Act.put, List.setIfInBounds_toArray, List.set_cons_zero, List.set_cons_succ]
                  refine wpAnyH_ready (rs := [21]) (by kernel_rfl) (by simp) ?_
                  refine AllReadyH.cons rfl (fun Kc hKc => ?_) AllReadyH.nil
                  simp only [List.getElem_toArray, List.getElem_cons_succ, List.getElem_cons_zero]
                  rw [if_pos (by rfl)]
                  go_wp2_with fail
                  refine (same_any (some ⟨gz, 0, none⟩) (some ⟨g6, 0, none⟩) V V V _ _ QD.lk S.lk).mono ?_
                  rintro e x3 ⟨rfl, mN, hmN⟩
                  have E3 : Below x2.heap.size x2 x3 := by rw [hmN]; exact below_drewN (Below.refl _ _) mN
                  clear hmN
                  replace S := S.below E3
                  replace QB := QB.below E3
                  replace QD := QD.below E3
                  replace XBB := XBB.below E3
                  replace XDD := XDD.below E3
                  go_wp2_with fail
                  refine hKc.out _ _ (⟨S.x0, S.xb, XBB, XDD⟩) (fun hHeld => ?_)
                  clear hKc Kc
                  refine wpAnyH_take (i := 22) (v := (.bool true)) rfl (by kernel_rfl) (by kernel_rfl) (by kernel_rfl) (fun _ _ _ h => h) (Or.inl ⟨by rfl, ?_⟩) (by assumption) ?_
                  · intro w' hSw
                    go_simp
                  simp only [List.getElem_toArray, List.getElem_cons_succ, List.getElem_cons_zero, Act.put, List.setIfInBounds_toArray, List.set_cons_zero, List.set_cons_succ]
                  refine wpAnyH_take (i := 23) (v := (.bool true)) rfl (by kernel_rfl) (by kernel_rfl) (by kernel_rfl) (fun _ _ _ h => h) (Or.inl ⟨by rfl, ?_⟩) (by assumption) ?_
                  · intro w' hSw
                    go_simp
                  simp only [List.getElem_toArray, List.getElem_cons_succ, List.getElem_cons_zero, Act.put, List.setIfInBounds_toArray, List.set_cons_zero, List.set_cons_succ]
                  refine wpAnyH_take (i := 24) (v := (.agg cb)) rfl (by kernel_rfl) (by kernel_rfl) (by kernel_rfl) (fun _ _ _ h => h) (Or.inl ⟨by rfl, ?_⟩) (by assumption) ?_
                  · intro w' hSw
                    exact yield_row 42 _ rfl gb rfl cb (load_v hSw.2.2.1 sizb)
                  simp only [List.getElem_toArray, List.getElem_cons_succ, List.getElem_cons_zero, Act.put, List.setIfInBounds_toArray, List.set_cons_zero, List.set_cons_succ]
                  refine wpAnyH_take (i := 26) (v := (.agg cw)) rfl (by kernel_rfl) (by kernel_rfl) (by kernel_rfl) (fun _ _ _ h => h) (Or.inl ⟨by rfl, ?_⟩) (by assumption) ?_
                  · intro w' hSw
                    exact yield_row 42 _ rfl w6.heap.size rfl cw (load_v hSw.2.1 siz2)
                  simp only [List.getElem_toArray, List.getElem_cons_succ, List.getElem_cons_zero, Act.put, List.setIfInBounds_toArray, List.set_cons_zero, List.set_cons_succ]
                  refine wpAnyH_ready (rs := [25]) (by kernel_rfl) (by simp) ?_
                  refine AllReadyH.cons rfl (fun Kc hKc => ?_) AllReadyH.nil
                  simp only [List.getElem_toArray, List.getElem_cons_succ, List.getElem_cons_zero]
                  rw [if_pos (by rfl)]
                  go_wp2_with fail
                  refine (TDb x3 QB.vw).mono ?_
                  rintro e x4 ⟨t1, k1, v1', rfl, TA1, E4⟩
                  replace S := S.below E4
                  replace QB := QB.below E4
                  replace QD := QD.below E4
                  replace XBB := XBB.below E4
                  replace XDD := XDD.below E4
                  go_wp2_with fail
                  refine hKc.out _ _ (⟨S.x0, S.xb, XBB, XDD⟩) (fun hHeld => ?_)
                  clear hKc Kc
                  refine wpAnyH_ready (rs := [27]) (by kernel_rfl) (by simp) ?_
                  refine AllReadyH.cons rfl (fun Kc hKc => ?_) AllReadyH.nil
                  simp only [List.getElem_toArray, List.getElem_cons_succ, List.getElem_cons_zero]
                  rw [if_pos (by rfl)]
                  go_wp2_with fail
                  refine (TD2 x4 S.vw).mono ?_
                  rintro e x5 ⟨t2, k2, v2', rfl, TA2, E5⟩
                  replace S := S.below E5
                  replace QB := QB.below E5
                  replace QD := QD.below E5
                  replace XBB := XBB.below E5
                  replace XDD := XDD.below E5
                  replace TA1 := TA1.below E5
                  go_wp2_with fail
                  refine hKc.out _ _ (⟨S.x0, S.xb, XBB, XDD⟩) (fun hHeld => ?_)
                  clear hKc Kc
                  have VSM := viewSame_eq t1 k1 v1' t2 k2 v2' (feedAll M D H Hd L noX P) x5 TA1 TA2
                  refine wpAnyH_ready (rs := [28]) (by kernel_rfl) (by simp) ?_
                  refine AllReadyH.cons rfl (fun Kc hKc => ?_) AllReadyH.nil
                  simp only [List.getElem_toArray, List.getElem_cons_succ, List.getElem_cons_zero]
                  rw [if_pos (by rfl)]
                  go_wp2_with fail
                  refine VSM.mono ?_
                  rintro e x6 ⟨rfl, E6⟩
                  replace S := S.below E6
                  replace QB := QB.below E6
                  replace QD := QD.below E6
                  replace XBB := XBB.below E6
                  replace XDD := XDD.below E6
                  go_wp2_with fail
                  refine hKc.out _ _ (⟨S.x0, S.xb, XBB, XDD⟩) (fun hHeld => ?_)
                  clear hKc Kc
                  clear VSM
                  clear TA1 TA2
                  refine wpAnyH_take (i := 29) (v := (.bool true)) rfl (by kernel_rfl) (by kernel_rfl) (by kernel_rfl) (fun _ _ _ h => h) (Or.inl ⟨by rfl, ?_⟩) (by assumption) ?_
                  · intro w' hSw
                    go_simp
                  simp only [List.getElem_toArray, List.getElem_cons_succ, List.getElem_cons_zero, Act.put, List.setIfInBounds_toArray, List.set_cons_zero, List.set_cons_succ]
                  refine wpAnyH_take (i := 30) (v := (.bool true)) rfl (by kernel_rfl) (by kernel_rfl) (by kernel_rfl) (fun _ _ _ h => h) (Or.inl ⟨by rfl, ?_⟩) (by assumption) ?_
                  · intro w' hSw
                    go_simp
                  simp only [List.getElem_toArray, List.getElem_cons_succ, List.getElem_cons_zero, Act.put, List.setIfInBounds_toArray, List.set_cons_zero, List.set_cons_succ]
                  refine wpAnyH_take (i := 31) (v := (.agg cd)) rfl (by kernel_rfl) (by kernel_rfl) (by kernel_rfl) (fun _ _ _ h => h) (Or.inl ⟨by rfl, ?_⟩) (by assumption) ?_
                  · intro w' hSw
                    exact yield_row 42 _ rfl gd rfl cd (load_v hSw.2.2.2 sizd)
                  simp only [List.getElem_toArray, List.getElem_cons_succ, List.getElem_cons_zero, Act.put, List.setIfInBounds_toArray, List.set_cons_zero, List.set_cons_succ]
                  refine wpAnyH_take (i := 33) (v := (.agg cw)) rfl (by kernel_rfl) (by kernel_rfl) (by kernel_rfl) (fun _ _ _ h => h) (Or.inl ⟨by rfl, ?_⟩) (by assumption) ?_
                  · intro w' hSw
                    exact yield_row 42 _ rfl w6.heap.size rfl cw (load_v hSw.2.1 siz2)
                  simp only [List.getElem_toArray, List.getElem_cons_succ, List.getElem_cons_zero, Act.put, List.setIfInBounds_toArray, List.set_cons_zero, List.set_cons_succ]
                  refine wpAnyH_ready (rs := [32]) (by kernel_rfl) (by simp) ?_
                  refine AllReadyH.cons rfl (fun Kc hKc => ?_) AllReadyH.nil
                  simp only [List.getElem_toArray, List.getElem_cons_succ, List.getElem_cons_zero]
                  rw [if_pos (by rfl)]
                  go_wp2_with fail
                  refine (TDd x6 QD.vw).mono ?_
                  rintro e x7 ⟨t3, k3, v3', rfl, TA3, E7⟩
                  replace S := S.below E7
                  replace QB := QB.below E7
                  replace QD := QD.below E7
                  replace XBB := XBB.below E7
                  replace XDD := XDD.below E7
                  go_wp2_with fail
                  refine hKc.out _ _ (⟨S.x0, S.xb, XBB, XDD⟩) (fun hHeld => ?_)
                  clear hKc Kc
                  refine wpAnyH_ready (rs := [34]) (by kernel_rfl) (by simp) ?_
                  refine AllReadyH.cons rfl (fun Kc hKc => ?_) AllReadyH.nil
                  simp only [List.getElem_toArray, List.getElem_cons_succ, List.getElem_cons_zero]
                  rw [if_pos (by rfl)]
                  go_wp2_with fail
                  refine (TD2 x7 S.vw).mono ?_
                  rintro e x8 ⟨t4, k4, v4', rfl, TA4, E8⟩
                  replace S := S.below E8
                  replace QB := QB.below E8
                  replace QD := QD.below E8
                  replace XBB := XBB.below E8
                  replace XDD := XDD.below E8
                  replace TA3 := TA3.below E8
                  go_wp2_with fail
                  refine hKc.out _ _ (⟨S.x0, S.xb, XBB, XDD⟩) (fun hHeld => ?_)
                  clear hKc Kc
                  have VSM := viewSame_eq t3 k3 v3' t4 k4 v4' (feedAll M D H Hd L noX P) x8 TA3 TA4
                  refine wpAnyH_ready (rs := [35]) (by kernel_rfl) (by simp) ?_
                  refine AllReadyH.cons rfl (fun Kc hKc => ?_) AllReadyH.nil
                  simp only [List.getElem_toArray, List.getElem_cons_succ, List.getElem_cons_zero]
                  rw [if_pos (by rfl)]
                  go_wp2_with fail
                  refine VSM.mono ?_
                  rintro e x9 ⟨rfl, E9⟩
                  replace S := S.below E9
                  replace QB := QB.below E9
                  replace QD := QD.below E9
                  replace XBB := XBB.below E9
                  replace XDD := XDD.below E9
                  go_wp2_with fail
                  refine hKc.out _ _ (⟨S.x0, S.xb, XBB, XDD⟩) (fun hHeld => ?_)
                  clear hKc Kc
                  clear VSM
                  clear TA3 TA4
                  refine wpAnyH_take (i := 36) (v := (.bool true)) rfl (by kernel_rfl) (by kernel_rfl) (by kernel_rfl) (fun _ _ _ h => h) (Or.inl ⟨by rfl, ?_⟩) (by assumption) ?_
                  · intro w' hSw
                    go_simp
                  simp only [List.getElem_toArray, List.getElem_cons_succ, List.getElem_cons_zero, Act.put, List.setIfInBounds_toArray, List.set_cons_zero, List.set_cons_succ]
                  refine wpAnyH_take (i := 37) (v := (.bool true)) rfl (by kernel_rfl) (by kernel_rfl) (by kernel_rfl) (fun _ _ _ h => h) (Or.inl ⟨by rfl, ?_⟩) (by assumption) ?_
                  · intro w' hSw
                    go_simp
                  simp only [List.getElem_toArray, List.getElem_cons_succ, List.getElem_cons_zero, Act.put, List.setIfInBounds_toArray, List.set_cons_zero, List.set_cons_succ]
                  refine wpAnyH_take (i := 38) (v := (.agg #[.int .i64 (V : Int), .int .i64 (D : Int), .int .i64 (Hd : Int), .int .i64 (H : Int), .int .i64 (L : Int)])) rfl (by kernel_rfl) (by kernel_rfl) (by kernel_rfl) (fun _ _ _ h => h) (Or.inl ⟨by rfl, ?_⟩) (by assumption) ?_
                  · intro w' hSw
                    have cc0 : w'.cell? ⟨w.heap.size, 0, none⟩ = some (.int .i64 (V : Int)) := hSw.1.cell 0 rfl
                    have cc1 : w'.cell? ⟨w.heap.size, 1, none⟩ = some (.int .i64 (D : Int)) := hSw.1.cell 1 rfl
                    have cc2 : w'.cell? ⟨w.heap.size, 2, none⟩ = some (.int .i64 (Hd : Int)) := hSw.1.cell 2 rfl
                    have cc3 : w'.cell? ⟨w.heap.size, 3, none⟩ = some (.int .i64 (H : Int)) := hSw.1.cell 3 rfl
                    have cc4 : w'.cell? ⟨w.heap.size, 4, none⟩ = some (.int .i64 (L : Int)) := hSw.1.cell 4 rfl
                    go_simp
                  simp only [List.getElem_toArray, List.getElem_cons_succ, List.getElem_cons_zero, Act.put, List.setIfInBounds_toArray, List.set_cons_zero, List.set_cons_succ]
                  refine wpAnyH_ready (rs := [39]) (by kernel_rfl) (by simp) ?_
                  refine AllReadyH.cons rfl (fun Kc hKc => ?_) AllReadyH.nil
                  simp only [List.getElem_toArray, List.getElem_cons_succ, List.getElem_cons_zero]
                  rw [if_pos (by rfl)]
                  go_wp2_with fail
                  refine (SH _).mono ?_
                  rintro e x10 ⟨rfl, E10⟩
                  replace S := S.below E10
                  replace QB := QB.below E10
                  replace QD := QD.below E10
                  replace XBB := XBB.below E10
                  replace XDD := XDD.below E10
                  go_wp2_with fail
                  refine hKc.out _ _ (⟨S.x0, S.xb, XBB, XDD⟩) (fun hHeld => ?_)
                  clear hKc Kc
                  refine wpAnyH_take (i := 40) (v := (.bool true)) rfl (by kernel_rfl) (by kernel_rfl) (by kernel_rfl) (fun _ _ _ h => h) (Or.inl ⟨by rfl, ?_⟩) (by assumption) ?_
                  · intro w' hSw
                    go_simp
                  simp only [List.getElem_toArray, List.getElem_cons_succ, List.getElem_cons_zero, Act.put, List.setIfInBounds_toArray, List.set_cons_zero, List.set_cons_succ]
                  refine wpAnyH_take (i := 41) (v := (.bool true)) rfl (by kernel_rfl) (by kernel_rfl) (by kernel_rfl) (fun _ _ _ h => h) (Or.inl ⟨by rfl, ?_⟩) (by assumption) ?_
                  · intro w' hSw
                    go_simp
                  simp only [List.getElem_toArray, List.getElem_cons_succ, List.getElem_cons_zero, Act.put, List.setIfInBounds_toArray, List.set_cons_zero, List.set_cons_succ]
                  refine wpAnyH_take (i := 42) (v := (.bool true)) rfl (by kernel_rfl) (by kernel_rfl) (by kernel_rfl) (fun _ _ _ h => h) (Or.inl ⟨by rfl, ?_⟩) (by assumption) ?_
                  · intro w' hSw
                    go_simp
                  simp only [List.getElem_toArray, List.getElem_cons_succ, List.getElem_cons_zero, Act.put, List.setIfInBounds_toArray, List.set_cons_zero, List.set_cons_succ]
                  refine wpAnyH_done (by kernel_rfl) ?_ _
                  go_wp2
                  go_ret
                  exact ⟨rfl, S.kp⟩
      · have A6 := fun cv => AB cv (some ⟨b1, 0, none⟩) l1 kq P w4 AP hqa
        have F6 := fun wv (hb : Below w4.heap.size w4 wv) => FB (some ⟨b1, 0, none⟩) l1 kq P wv (G4.below hb) (AP.below hb) hqa
        unfold noV at A6
        generalize promptN V P = pq at *
        have hqb : (pq == 0) = false := by simpa using hqa
        have hall : Array.all (#[.slice none 0 0, .slice none 0 0, .slice none 0 0] : Array Value) (fun v => v.oneCell') = true := by simp [Value.oneCell']
        have hall2 : Array.all (#[.slice none 0 0, .slice none 0 0] : Array Value) (fun v => v.oneCell') = true := by simp [Value.oneCell']
        go_wp2_with (refine wpList_load_row rfl 32 _ rfl w2.heap.size rfl 32 ws (0, 0) _ X1 Tryd.underlying32 rfl (by rw [siz]; exact Tryd.infoW) ?_)
        refine (A6 _).mono ?_
        rintro e w6 ⟨rfl, B6⟩
        have D6 := below_then D4 B6
        replace X0 := X0.below B6
        replace X1 := X1.below B6
        have XA := blk_new w6 42 #[.slice none 0 0, .slice none 0 0, .slice none 0 0]
        have BA : Below w6.heap.size w6 (w6.alloc (.cells #[.slice none 0 0, .slice none 0 0, .slice none 0 0] 42)) := (Below.refl _ _).alloc (Nat.le_refl _) _
        generalize hwa : w6.alloc (.cells #[.slice none 0 0, .slice none 0 0, .slice none 0 0] 42) = wa at *
        have XB := XA.row #[.slice none 0 0, .slice none 0 0, .slice none 0 0]
        have BB := below_setRow BA (Nat.le_refl _) #[.slice none 0 0, .slice none 0 0, .slice none 0 0]
        generalize hwb : wa.setRow w6.heap.size #[.slice none 0 0, .slice none 0 0, .slice none 0 0] = wb at *
        have D7 := below_then D6 BB
        replace X0 := X0.below BB
        replace X1 := X1.below BB
        have E7 := below_then B6 BB
        clear a0 a1 a2 a3 a4
        have a0 : wb.cell? ⟨w.heap.size, 0, none⟩ = some (.int .i64 (V : Int)) := X0.cell 0 rfl
        have a1 : wb.cell? ⟨w.heap.size, 1, none⟩ = some (.int .i64 (D : Int)) := X0.cell 1 rfl
        have a2 : wb.cell? ⟨w.heap.size, 2, none⟩ = some (.int .i64 (Hd : Int)) := X0.cell 2 rfl
        have a3 : wb.cell? ⟨w.heap.size, 3, none⟩ = some (.int .i64 (H : Int)) := X0.cell 3 rfl
        have a4 : wb.cell? ⟨w.heap.size, 4, none⟩ = some (.int .i64 (L : Int)) := X0.cell 4 rfl
        go_wp2_with (first | (refine wpList_store_row rfl 42 _ _ rfl w6.heap.size #[.slice none 0 0, .slice none 0 0, .slice none 0 0] rfl rfl 42 _ XA Tryd.infoV rfl hall ?_; rw [hwb]) | (refine wpList_load_row rfl 32 _ rfl w2.heap.size rfl 32 ws (0, 0) _ X1 Tryd.underlying32 rfl (by rw [siz]; exact Tryd.infoW) ?_))
        refine (F6 _ E7).mono ?_
        rintro e w8 ⟨rfl, B8⟩
        have D8 := below_then D7 B8
        replace XB := XB.below B8
        clear a0 a1 a2 a3 a4 X0 X1 XA BA BB hwa hwb
        have XE := blk_new w8 40 #[.slice none 0 0, .slice none 0 0]
        have BE : Below w8.heap.size w8 (w8.alloc (.cells #[.slice none 0 0, .slice none 0 0] 40)) := (Below.refl _ _).alloc (Nat.le_refl _) _
        generalize hwe : w8.alloc (.cells #[.slice none 0 0, .slice none 0 0] 40) = we at *
        have XF := XE.row #[.slice none 0 0, .slice none 0 0]
        have BF := below_setRow BE (Nat.le_refl _) #[.slice none 0 0, .slice none 0 0]
        generalize hwf : we.setRow w8.heap.size #[.slice none 0 0, .slice none 0 0] = wf at *
        have D9 := below_then D8 BF
        replace XB := XB.below BF
        have TD := fun wv => told9_any ⟨⟨none, 0, 0⟩, ⟨none, 0, 0⟩, ⟨none, 0, 0⟩⟩ noX wv (noV_at wv) (by show 0 ≤ _; omega) (by show 0 ≤ _; omega) (by show 0 ≤ _; omega) (fun R hR => by cases hR) (fun R hR => by cases hR)
        have VS := fun (t k v : Sl) (wv : World) (h : ToldAt wv t k v noX) => viewSame_eq t k v ⟨none, 0, 0⟩ ⟨none, 0, 0⟩ ⟨none, 0, 0⟩ noX wv h ⟨(noV_at wv).t, (noV_at wv).k, (noV_at wv).v⟩
        unfold VwV.cells at TD
        unfold Sl.v at TD VS
        simp only at TD VS
        go_wp2_with (refine wpList_store_row rfl 40 _ _ rfl w8.heap.size #[.slice none 0 0, .slice none 0 0] rfl rfl 40 _ XE Tryd.infoCa rfl hall2 ?_; rw [hwf])
        refine (CW _ D9).mono ?_
        rintro e w10 ⟨rfl, B10⟩
        have D10 := below_then D9 B10
        replace XB := XB.below B10
        have c0 : w10.cell? ⟨w6.heap.size, 0, none⟩ = some (.slice none 0 0) := XB.cell 0 rfl
        have c1 : w10.cell? ⟨w6.heap.size, 1, none⟩ = some (.slice none 0 0) := XB.cell 1 rfl
        have c2 : w10.cell? ⟨w6.heap.size, 2, none⟩ = some (.slice none 0 0) := XB.cell 2 rfl
        go_wp2_with fail
        refine (TD _).mono ?_
        rintro e w11 ⟨t, k, v, rfl, TA, B11⟩
        have D11 := below_then D10 B11
        go_wp2_with fail
        refine (VS _ _ _ _ TA).mono ?_
        rintro e w12 ⟨rfl, B12⟩
        have D12 := below_then D11 B12
        go_wp2
        go_ret
        exact ⟨rfl, D12⟩
  · have hq' : (q == 0) = false := by simpa using hq
    go_wp2_with (refine wpList_store_row rfl 32 _ _ rfl w2.heap.size ws rfl rfl 32 _ XZ (by rw [siz]; exact Tryd.infoW) (by rw [siz]; rfl) one ?_; rw [hwy])
    refine (CW _ D3).mono ?_
    rintro e w4 ⟨rfl, B4⟩
    go_wp2
    go_ret
    exact ⟨rfl, below_then D3 B4⟩
end Go.Proofs.YtbfehkkcfokdkaaDoor

/- The given statement on StepFull: at every input the law returns true and its arguments read as before; the listed table lies as the program's text lays it (the card ties it). -/
namespace Go.Proofs.YtbfehkkcfokdkaaDoor.stepFull
open Go.ChangeShapes Go.WideShapes Go.ChangeAt Go.WideMaps Go.WideElems Go.RowKit
set_option linter.unusedVariables false
abbrev lst : List (String × DataW Unit) := Rows.stepFullRow.laid
theorem door_met (os : Os) (args : Array Value) : laidMetH Tryd.prog lst ((World.doorLaid Tryd.prog 14 os).forCall (fun _ _ => 0) ⟨#[], args, []⟩).memory :=
  laidMetH_of_parts3 (fuel := 8) (laidMet_of_run' 8 (by kernel_rfl) (by kernel_rfl)) (by kernel_rfl) (by kernel_rfl)
set_option maxRecDepth 100000 in
theorem lifted (os : Os) (started : os.Started) (H : Type) (enc : TypeId × Value → H) :
    ReturnsInHanded {} Tryd.checked os 3 .any (fun w args => (Rows.stepFullSpec.pre enc Tryd.prog Tryd.f3 [] false w args ∧ laidMetH Tryd.prog lst w) ∧ sizedMet enc Tryd.prog Tryd.f3 (OpenSpec.ofChange Rows.stepFullSpec) false w args)
      (Rows.stepFullSpec.post enc Tryd.prog Tryd.f3 false true false false) := by
  refine returnsInHanded_of_change_and (C := Tryd.checked) (X := fun w _ => laidMetH Tryd.prog lst w) (fun _ _ _ hh h => h.of_heap hh) Tryd.own started (by kernel_rfl) Tryd.func3
    (ChangeSpec.witness_shaped (enc := enc) (C := Tryd.checked) (os := os) (X := fun w _ => laidMetH Tryd.prog lst w) false (World.doorLaid Tryd.prog 14 os) #[.agg #[.int .i64 0, .int .i64 0, .int .i64 0, .int .i64 0, .int .i64 0], .int .u64 0, .slice none 0 0, .int .i64 0] 8 rfl (World.shaped_of_RefB (by kernel_rfl) (by kernel_rfl)) (by kernel_rfl) (by kernel_rfl) (by kernel_rfl) (door_met os _)) ?_
  intro W base args ds gs before hval0 hW _ _ hL _
  have hval : ∀ (j : Nat) t v, Tryd.f3.params[j]? = some t → args[j]? = some v → Value.okWide Tryd.prog W .any base t v := hval0
  have hW' := hW
  obtain ⟨p, q, hA0, hV, rfl, _, _⟩ := hW
  have hA : DataW.TrodAll enc Tryd.prog W 0 (fun _ => true) true Tryd.f3.params.toList args.toList ds p := hA0
  rw [Tryd.params3] at hA hval
  obtain ⟨v0, vs0, d0, ds0, p0, q0, hargs, rfl, rfl, h0, r0⟩ := trodAll_cons hA
  obtain ⟨v1, vs1, d1, ds1, p1, q1, rfl, rfl, rfl, h1, r1⟩ := trodAll_cons r0
  obtain ⟨v2, vs2, d2, ds2, p2, q2, rfl, rfl, rfl, h2, r2⟩ := trodAll_cons r1
  obtain ⟨v3, vs3, d3, ds3, p3, q3, rfl, rfl, rfl, h3, r3⟩ := trodAll_cons r2
  obtain ⟨rfl, rfl, rfl⟩ := trodAll_nil r3
  obtain rfl : args = #[v0, v1, v2, v3] := by cases args; simp_all
  obtain ⟨rfl, rfl⟩ := trodVars_none hV
  have k0 := h0
  obtain ⟨C0, rfl, g0⟩ := viewCfg (hval 0 _ v0 rfl rfl) h0
  have k1 := h1
  obtain ⟨a1, rfl, rfl, rfl, w1⟩ := open_int Tryd.underlying24 (hval 1 24 v1 rfl rfl) h1
  have b1 := bounds_u64 w1
  have k2 := h2
  obtain ⟨a2, n2, c2, Z2, rfl, g2⟩ := viewI (hval 2 _ v2 rfl rfl) h2
  have k3 := h3
  obtain ⟨a3, rfl, rfl, rfl, w3⟩ := open_int Tryd.underlying3 (hval 3 3 v3 rfl rfl) h3
  have b3 := bounds_i64 w3
  clear hA0 hval0
  simp only [List.append_nil] at hW'
  have hlt : ∀ x ∈ p0 ++ p2, x.block < W.heap.size := fun x hx => by
    have hx2 := hx
    exact hW'.lt x (by grind)
  refine (stepFull_walk C0 a1 a2 n2 c2 Z2 a3 W g0 b1 g2 b3 (tab_of_laid hL)).mono fun e W' ⟨he, hb⟩ => ?_
  subst he
  exact ⟨_, rfl, _, _, _, [], _, [], hW', trodAll_mk1 (shut_bool Tryd.underlying4 true), trodAll_cons_mk (Below.trod Tryd.laidOut (by kernel_rfl) (of_decide_eq_true (by kernel_rfl)) k0 hb (fun x hx => hlt x (by simp [hx]))) (trodAll_cons_mk (shut_int Tryd.underlying24 w1) (trodAll_cons_mk (Below.trod Tryd.laidOut (by kernel_rfl) (of_decide_eq_true (by kernel_rfl)) k2 hb (fun x hx => hlt x (by simp [hx]))) (trodAll_cons_mk (shut_int Tryd.underlying3 w3) trodAll_mk0))), rfl, hb.frame _, fun h => by cases h⟩
theorem row_holds : Rows.StepFullSaid :=
  OpenClaim.holds_of_wide 3 Tryd.f3 rfl rfl rfl rfl rfl rfl rfl ⟨rfl, rfl, rfl, rfl, rfl⟩ rfl rfl rfl rfl rfl (by kernel_rfl) Tryd.func3 (by kernel_rfl)
    (of_decide_eq_true (by kernel_rfl)) (by unfold Func.isWrapper; first | (rw [if_pos (by decide +kernel)]; kernel_rfl) | (rw [if_neg (by decide +kernel)]; exact ⟨rfl, rfl⟩))
    (fun os started H enc _ => lifted os started H enc)
/-- The given statement. -/
theorem card_holds : Rows.StepFullCardSaid :=
  Claim7.holds_tied_plain_at .later [] [.data] true (true, "085e55e1a413d0fdfdf58165ceba36cf40e2ddba7be25e7f99f57cdea364f2bd") false
    row_holds (fun _ h => by cases h) (by kernel_rfl) (fun _ h => by cases h) stepFull_row_tie rfl ⟨rfl, rfl⟩ (by kernel_rfl) rfl
    (fun f fn hf hfn => by
      obtain rfl : f = 3 := Option.some.inj ((show Tryd.prog.funcNamed Rows.stepFullRow.func = some 3 by kernel_rfl).symm.trans hf) |>.symm
      obtain rfl : fn = Tryd.f3 := (Option.some.inj (Tryd.func3.symm.trans hfn)).symm
      exact ⟨by kernel_rfl, fun j t ht => by
        rw [Tryd.params3] at ht
        have hm : t ∈ [23, 24, 25, 3] := by simpa using Array.mem_of_getElem? ht
        have hall : ([23, 24, 25, 3].all fun u => !Tryd.prog.wantsStandIn u) = true := by kernel_rfl
        exact (show Tryd.prog.wantsStandIn t = false by simpa using List.all_eq_true.1 hall t hm)⟩)
    (by kernel_rfl)
end Go.Proofs.YtbfehkkcfokdkaaDoor.stepFull
namespace Go.Proofs.YtbfehkkcfokdkaaDoor
theorem stepFull_holds : Rows.StepFullCardSaid := stepFull.card_holds
#print axioms stepFull_holds
end Go.Proofs.YtbfehkkcfokdkaaDoor
