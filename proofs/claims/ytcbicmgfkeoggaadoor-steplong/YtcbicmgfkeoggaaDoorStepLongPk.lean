/- The given statement on StepLong: at every input the law returns true and its arguments read as before; the listed table lies as the program's text lays it (the card ties it). -/
import Derived.Test.YtcbicmgfkeoggaaDoorGP1Pk
import Derived.Test.YtcbicmgfkeoggaaDoorRows
import Derived.Test.YtcbicmgfkeoggaaDoorCards
import Derived.Test.YtcbicmgfkeoggaaDoorTie
import Derived.Test.YtcbicmgfkeoggaaDoorPk8
import Derived.Test.YtcbicmgfkeoggaaDoorPk3
import Derived.ProofKit
import Derived.Carry
import Derived.LaidMore
import Derived.OpenShut
import Derived.Stop.Joined
import Derived.SevenTiedAt
/- A model goes on up to the greatest number of tokens, and no further: the walk. -/
namespace Go.Proofs.YtcbicmgfkeoggaaDoor
open Go.ChangeShapes Go.WideShapes Go.ChangeAt Go.RowKit
theorem el_rep (n k : Nat) : el (List.replicate n (0 : Int)) k = 0 := by
  unfold el
  rw [List.getD_eq_getElem?_getD, List.getElem?_replicate]
  split <;> rfl
theorem iarg_made (w : World) (n : Nat) (hn : n ≤ 4096) : IArg (w.alloc (.cells (madeCells #[.int .i64 0] n) 3)) (some ⟨w.heap.size, 0, none⟩) n n (List.replicate n 0) := by
  have e := heap_alloc_new w (.cells (madeCells #[.int .i64 0] n) 3)
  refine ⟨⟨by simp, by omega, fun k => by rw [el_rep]; omega, fun _ => ⟨w.heap.size, 0, rfl, fun t ht => ?_⟩⟩, Nat.le_refl _, by omega, fun h => by cases h⟩
  rw [Nat.zero_add, el_rep]
  unfold World.cell?
  simp only [e]
  simp [madeCells, ht, Nat.mod_one]
theorem prompt_zeros {n : Nat} (h1 : 1 ≤ n) (h2 : n ≤ 128) : promptN ((2 : Nat) : Int) (List.replicate n 0) = 0 := by
  unfold promptN
  rw [List.length_replicate, if_neg (by omega), if_neg (by omega)]
  have : (List.replicate n (0 : Int)).all (tokB ((2 : Nat) : Int)) = true := by
    rw [List.all_eq_true]
    intro x hx
    rw [List.eq_of_mem_replicate hx]
    decide
  rw [if_pos this]
theorem make_seed (seed : Nat) (hs : seed < 18446744073709551616) (w : World) : Calls Tryd.prog 9 #[.agg #[.int .i64 2, .int .i64 1, .int .i64 1, .int .i64 1, .int .i64 1], .int .u64 (seed : Int)] w fun e w' => ∃ W bs M, e = .returned (.tuple #[.agg (Wt.cells W), .int .i64 0]) ∧ Good w' 2 1 1 1 1 W bs M ∧ Below w.heap.size w w' := by
  refine (make_any 2 1 1 1 1 seed w hs (by decide)).mono ?_
  rintro e w' ⟨ge, gB, gl, go, rfl, M, B⟩
  obtain ⟨bs, G⟩ := made_good (Hd := 1) M (by decide)
  exact ⟨_, bs, _, rfl, G, B⟩
/-- Behind k tokens. -/
structure SL (w wr : World) (ws : Array Value) (gW gV k : Nat) (vv : VwV) (X : Vw) : Prop where
  x0 : Blk wr w.heap.size 23 #[.int .i64 2, .int .i64 1, .int .i64 1, .int .i64 1, .int .i64 1]
  x1 : Blk wr gW 32 ws
  xv : Blk wr gV 42 vv.cells
  at_ : VwAt wr vv X
  fit : VwFit ((2 : Nat) : Int) 1 1 X
  len : X.T.length = k
  kp : Below w.heap.size w wr
set_option maxRecDepth 100000 in
set_option maxHeartbeats 400000 in
theorem stepLong_walk (sd nn : Int) (w : World) (bs : 0 ≤ sd ∧ sd ≤ 18446744073709551615) (_bn : -9223372036854775808 ≤ nn ∧ nn ≤ 9223372036854775807) (hT : Tab w) :
   Calls Tryd.prog 5 #[.int .u64 sd, .int .i64 nn] w fun e w' => e = .returned (.bool true) ∧ Below w.heap.size w w' := by
  obtain ⟨seed, rfl⟩ : ∃ n : Nat, sd = n := ⟨sd.toNat, by omega⟩
  have hsd : seed < 18446744073709551616 := by omega
  clear bs
  have HT : Hid (∀ wv, Below w.heap.size w wv → Tab wv) := fun wv hb => hT.next hb
  have CW := fun (wv : World) (hb : Below w.heap.size w wv) => sawake_any wv (HT.out wv hb)
  clear hT
  have X0 := blk_new w 23 #[.int .i64 2, .int .i64 1, .int .i64 1, .int .i64 1, .int .i64 1]
  have B0 : Below w.heap.size w (w.alloc (.cells #[.int .i64 2, .int .i64 1, .int .i64 1, .int .i64 1, .int .i64 1] 23)) := (Below.refl _ _).alloc (Nat.le_refl _) _
  generalize hw0 : w.alloc (.cells #[.int .i64 2, .int .i64 1, .int .i64 1, .int .i64 1, .int .i64 1] 23) = w0 at *
  have a0 : w0.cell? ⟨w.heap.size, 0, none⟩ = some (.int .i64 2) := X0.cell 0 rfl
  have a1 : w0.cell? ⟨w.heap.size, 1, none⟩ = some (.int .i64 1) := X0.cell 1 rfl
  have a2 : w0.cell? ⟨w.heap.size, 2, none⟩ = some (.int .i64 1) := X0.cell 2 rfl
  have a3 : w0.cell? ⟨w.heap.size, 3, none⟩ = some (.int .i64 1) := X0.cell 3 rfl
  have a4 : w0.cell? ⟨w.heap.size, 4, none⟩ = some (.int .i64 1) := X0.cell 4 rfl
  go_enter Tryd.func5, Tryd.ntmps5
  go_wp2_with fail
  refine (make_seed seed hsd _).mono ?_
  rintro e w1 ⟨W, bs, M, rfl, G1, B1⟩
  have lt0 := X0.lt
  have z1 := B1.size
  replace X0 := X0.below B1
  have D1 := below_then B0 B1
  clear hw0 a0 a1 a2 a3 a4 B0 B1
  have siz : W.cells.size = 8 := rfl
  have one := wt_one W
  have CF := fun (vv : VwV) (X : Vw) (tok : Nat) (wv : World) (h1 : Tab wv) (h2 : X.T.length ≤ 127) (h3 : tok < 2) (h4 : Good wv 2 1 1 1 1 W bs M) (h5 : VwAt wv vv X) (h6 : VwFit ((2 : Nat) : Int) 1 1 X) => feed_ok 2 1 1 1 1 W bs M vv X tok wv h1 h2 h3 h4 h5 h6
  have CG := fun (vv : VwV) (X : Vw) (tok : Int) (wv : World) (h2 : X.T.length = 128) (h4 : Good wv 2 1 1 1 1 W bs M) (h5 : VwAt wv vv X) (h6 : VwFit ((2 : Nat) : Int) 1 1 X) => feed_big 2 1 1 1 1 W bs M vv X tok wv h2 h4 h5 h6
  have CA := fun (ao : Option Addr) (n ca : Nat) (A : List Int) (wv : World) (h1 : Tab wv) (h2 : Good wv 2 1 1 1 1 W bs M) (h3 : IArg wv ao n ca A) (h4 : promptN ((2 : Nat) : Int) A = 0) (h5 : A.length ≤ 128) => all_ok 2 1 1 1 1 W bs M ⟨⟨none, 0, 0⟩, ⟨none, 0, 0⟩, ⟨none, 0, 0⟩⟩ noX ao n ca A wv h1 h2 (noV_at wv) (noX_fit _ _ _) h3 h4 (by show 0 + _ ≤ _; omega)
  unfold cfgC at CF CG CA
  unfold VwV.cells Sl.v at CA
  unfold noV at CG
  simp only at CA
  generalize hws : W.cells = ws at *
  have XA1 := blk_new w1 32 #[.int .i64 0, .int .i64 0, .slice none 0 0, .slice none 0 0, .slice none 0 0, .int .i64 0, .int .i64 0, .slice none 0 0]
  have BA1 : Below w1.heap.size w1 (w1.alloc (.cells #[.int .i64 0, .int .i64 0, .slice none 0 0, .slice none 0 0, .slice none 0 0, .int .i64 0, .int .i64 0, .slice none 0 0] 32)) := (Below.refl _ _).alloc (Nat.le_refl _) _
  generalize hwa1 : w1.alloc (.cells #[.int .i64 0, .int .i64 0, .slice none 0 0, .slice none 0 0, .slice none 0 0, .int .i64 0, .int .i64 0, .slice none 0 0] 32) = wa1 at *
  have X1 := XA1.row ws
  have BB1 := below_setRow BA1 (Nat.le_refl _) ws
  generalize hwb1 : wa1.setRow w1.heap.size ws = w2 at *
  replace X0 := X0.below BB1
  have D2 := below_then D1 BB1
  have G2 := G1.below BB1
  clear D1 G1
  by_cases hn1 : nn < 1
  · go_wp2_with (refine wpList_store_row rfl 32 _ _ rfl w1.heap.size ws rfl rfl 32 _ XA1 (by rw [siz]; exact Tryd.infoW) (by rw [siz]; rfl) one ?_; rw [hwb1])
    refine (CW _ D2).mono ?_
    rintro e wq ⟨rfl, Bq⟩
    go_wp2
    go_ret
    exact ⟨rfl, below_then D2 Bq⟩
  · by_cases hn2 : 140 < nn
    · go_wp2_with (refine wpList_store_row rfl 32 _ _ rfl w1.heap.size ws rfl rfl 32 _ XA1 (by rw [siz]; exact Tryd.infoW) (by rw [siz]; rfl) one ?_; rw [hwb1])
      refine (CW _ D2).mono ?_
      rintro e wq ⟨rfl, Bq⟩
      go_wp2
      go_ret
      exact ⟨rfl, below_then D2 Bq⟩
    · obtain ⟨n, rfl⟩ : ∃ n : Nat, nn = n := ⟨nn.toNat, by omega⟩
      have XA2 := blk_new w2 42 #[.slice none 0 0, .slice none 0 0, .slice none 0 0]
      have BA2 : Below w2.heap.size w2 (w2.alloc (.cells #[.slice none 0 0, .slice none 0 0, .slice none 0 0] 42)) := (Below.refl _ _).alloc (Nat.le_refl _) _
      generalize hwa2 : w2.alloc (.cells #[.slice none 0 0, .slice none 0 0, .slice none 0 0] 42) = wa2 at *
      have XB2 := XA2.row #[.slice none 0 0, .slice none 0 0, .slice none 0 0]
      have BB2 := below_setRow BA2 (Nat.le_refl _) #[.slice none 0 0, .slice none 0 0, .slice none 0 0]
      generalize hwb2 : wa2.setRow w2.heap.size #[.slice none 0 0, .slice none 0 0, .slice none 0 0] = w3 at *
      have hall : Array.all (#[.slice none 0 0, .slice none 0 0, .slice none 0 0] : Array Value) (fun v => v.oneCell') = true := by simp [Value.oneCell']
      have lt1 := X1.lt
      have S0 : SL w w3 ws w1.heap.size w2.heap.size 0 ⟨⟨none, 0, 0⟩, ⟨none, 0, 0⟩, ⟨none, 0, 0⟩⟩ noX := ⟨X0.below BB2, X1.below BB2, XB2, noV_at _, noX_fit _ _ _, rfl, below_then D2 BB2⟩
      have G3 := G2.below BB2
      have HG : Hid (∀ wv, Below w2.heap.size w2 wv → Good wv 2 1 1 1 1 W bs M) := fun wv hb => G2.below hb
      have K0 := BB2
      go_wp2_with (first | (refine wpList_store_row rfl 32 _ _ rfl w1.heap.size ws rfl rfl 32 _ XA1 (by rw [siz]; exact Tryd.infoW) (by rw [siz]; rfl) one ?_; rw [hwb1]) | (refine wpList_store_row rfl 42 _ _ rfl w2.heap.size #[.slice none 0 0, .slice none 0 0, .slice none 0 0] rfl rfl 42 _ XA2 Tryd.infoV rfl hall ?_; rw [hwb2]))
      clear hwa1 hwb1 hwa2 hwb2 XA1 BA1 BB1 XA2 BA2 BB2 XB2 X0 X1 D2 G2 G3
      go_loopg [9] (n + 1) (fun r i wr => ∃ (k : Nat) (vv : VwV) (X : Vw), k ≤ n ∧ k ≤ 128 ∧ r = n + 1 - k ∧ i = .int .i64 k ∧ SL w wr ws w1.heap.size w2.heap.size k vv X ∧ Below w2.heap.size w2 wr)
      case atStart => exact ⟨0, _, _, by omega, by omega, by omega, rfl, S0, K0⟩
      case round =>
        obtain ⟨k, vv, X, hk, hk2, rfl, rfl, S, KB⟩ := hrel
        clear S0 K0
        by_cases hlt : k < n
        · have X0 := S.x0
          have X1 := S.x1
          have XV := S.xv
          have KP := S.kp
          have ltv := XV.lt
          have a0 : wr.cell? ⟨w.heap.size, 0, none⟩ = some (.int .i64 2) := X0.cell 0 rfl
          have a1 : wr.cell? ⟨w.heap.size, 1, none⟩ = some (.int .i64 1) := X0.cell 1 rfl
          have a2 : wr.cell? ⟨w.heap.size, 2, none⟩ = some (.int .i64 1) := X0.cell 2 rfl
          have a3 : wr.cell? ⟨w.heap.size, 3, none⟩ = some (.int .i64 1) := X0.cell 3 rfl
          have a4 : wr.cell? ⟨w.heap.size, 4, none⟩ = some (.int .i64 1) := X0.cell 4 rfl
          have onev := vwv_one vv
          have sizv := vwv_size vv
          have em : ((k : Int) % 2) = ((k % 2 : Nat) : Int) := by omega
          obtain ⟨tk, htk⟩ : ∃ tk : Nat, tk = k % 2 := ⟨_, rfl⟩
          have htk2 : tk < 2 := by omega
          rw [← htk] at em
          clear htk
          by_cases hb : k = 128
          · have CC := CG vv X (tk : Int) wr (by rw [S.len, hb]) (HG.out _ KB) S.at_ S.fit
            have hb' : (128 : Int) ≤ (k : Int) := by omega
            clear hb S
            generalize vv.cells = cv at *
            go_wp2_with (first | (refine wpList_load_row rfl 32 _ rfl w1.heap.size rfl 32 ws (0, 0) _ X1 Tryd.underlying32 rfl (by rw [siz]; exact Tryd.infoW) ?_) | (refine wpList_load_row rfl 42 _ rfl w2.heap.size rfl 42 cv (0, 0) _ XV Tryd.underlying42 rfl (by rw [sizv]; exact Tryd.infoV) ?_))
            refine CC.mono ?_
            rintro e w7 ⟨rfl, B7⟩
            have D7 := below_then KP B7
            have XA := blk_new w7 42 #[.slice none 0 0, .slice none 0 0, .slice none 0 0]
            have BA : Below w7.heap.size w7 (w7.alloc (.cells #[.slice none 0 0, .slice none 0 0, .slice none 0 0] 42)) := (Below.refl _ _).alloc (Nat.le_refl _) _
            generalize hwa : w7.alloc (.cells #[.slice none 0 0, .slice none 0 0, .slice none 0 0] 42) = wa at *
            have BB := below_setRow BA (Nat.le_refl _) #[.slice none 0 0, .slice none 0 0, .slice none 0 0]
            generalize hwb : wa.setRow w7.heap.size #[.slice none 0 0, .slice none 0 0, .slice none 0 0] = wb at *
            have D8 := below_then D7 BB
            clear a0 a1 a2 a3 a4 CC
            go_wp2_with (refine wpList_store_row rfl 42 _ _ rfl w7.heap.size #[.slice none 0 0, .slice none 0 0, .slice none 0 0] rfl rfl 42 _ XA Tryd.infoV rfl hall ?_; rw [hwb])
            refine (CW _ D8).mono ?_
            rintro e wq ⟨rfl, Bq⟩
            go_wp2
            go_ret
            exact ⟨rfl, below_then D8 Bq⟩
          · have CC := CF vv X tk wr (HT.out _ KP) (by rw [S.len]; omega) htk2 (HG.out _ KB) S.at_ S.fit
            have fitN := fit_feed (M := M) (H := 1) (Hd := 1) S.fit htk2 (by rw [S.len]; omega)
            have lenN : (feedV M 1 1 1 1 X tk).T.length = k + 1 := by unfold feedV; simp [S.len]
            have hb' : ¬ (128 : Int) ≤ (k : Int) := by omega
            clear S
            generalize vv.cells = cv at *
            go_wp2_with (first | (refine wpList_load_row rfl 32 _ rfl w1.heap.size rfl 32 ws (0, 0) _ X1 Tryd.underlying32 rfl (by rw [siz]; exact Tryd.infoW) ?_) | (refine wpList_load_row rfl 42 _ rfl w2.heap.size rfl 42 cv (0, 0) _ XV Tryd.underlying42 rfl (by rw [sizv]; exact Tryd.infoV) ?_))
            refine CC.mono ?_
            rintro e w7 ⟨v2, g, rfl, N7, F7, B7⟩
            have one2 := vwv_one v2
            have siz2 := vwv_size v2
            generalize hc2 : v2.cells = cw at *
            have D7 := below_then KP B7
            have z7 := B7.size
            replace X0 := X0.below B7
            replace X1 := X1.below B7
            replace XV := XV.below B7
            have KB7 := below_then KB B7
            have XA := blk_new w7 42 #[.slice none 0 0, .slice none 0 0, .slice none 0 0]
            have BA : Below w7.heap.size w7 (w7.alloc (.cells #[.slice none 0 0, .slice none 0 0, .slice none 0 0] 42)) := (Below.refl _ _).alloc (Nat.le_refl _) _
            generalize hwa : w7.alloc (.cells #[.slice none 0 0, .slice none 0 0, .slice none 0 0] 42) = wa at *
            have XB := XA.row cw
            have BB := below_setRow BA (Nat.le_refl _) cw
            generalize hwb : wa.setRow w7.heap.size cw = wb at *
            replace X0 := X0.below BB
            replace X1 := X1.below BB
            replace XV := XV.below BB
            replace N7 := N7.below BB
            have D8 := below_then D7 BB
            have KB8 := below_then KB7 BB
            clear a0 a1 a2 a3 a4 CC F7
            go_wp2_with (first | (refine wpList_store_row rfl 42 _ _ rfl w7.heap.size cw rfl rfl 42 _ XA (by rw [siz2]; exact Tryd.infoV) (by rw [siz2]; rfl) one2 ?_; rw [hwb]) | (refine wpList_load_row rfl 42 _ rfl w7.heap.size rfl 42 cw (0, 0) _ XB Tryd.underlying42 rfl (by rw [siz2]; exact Tryd.infoV) ?_) | (refine wpList_store_row rfl 42 _ _ rfl w2.heap.size cw rfl rfl 42 _ XV (by rw [siz2]; exact Tryd.infoV) (by rw [sizv, siz2]) one2 ?_))
            have so : ∀ b, b ≠ w2.heap.size → (wb.setRow w2.heap.size cw).heap[b]? = wb.heap[b]? := fun b hb => setRow_other _ _ _ _ hb
            have N8 := N7.row (g := w2.heap.size) (by omega) cw
            go_roundg (n + 1 - (k + 1))
            case measure => omega
            case rel => exact ⟨k + 1, v2, _, by omega, by omega, rfl, by go_num, ⟨Blk.of_block X0 (so _ (by omega)), Blk.of_block X1 (so _ (by omega)), by rw [hc2]; exact XV.row cw, N8.now, fitN, lenN, below_setRow D8 (by omega) _⟩, below_setRow KB8 (Nat.le_refl _) _⟩
        · have hkn : n = k := by omega
          subst hkn
          have X0 := S.x0
          have X1 := S.x1
          have XV := S.xv
          have DB := S.kp
          have LN : vv.t.n = n := by rw [← S.at_.t.row.len, S.len]
          clear S
          have ltv := XV.lt
          have hmk := run_make_row' (P := Tryd.prog) 25 3 (.int .i64 0) 8 Tryd.underlying25 Tryd.infoInt rfl .i64 .i64 n (by omega) (by omega)
          go_wp2_with fail
          replace X0 := X0.below ((Below.refl _ _).drew)
          replace X1 := X1.below ((Below.refl _ _).drew)
          replace XV := XV.below ((Below.refl _ _).drew)
          replace DB := DB.drew
          replace KB := KB.drew
          have zX : wr.heap.size ≤ wr.drew.heap.size := Nat.le_refl _
          refine wp_region_held_drew (S := fun w' => Blk w' w.heap.size 23 #[.int .i64 2, .int .i64 1, .int .i64 1, .int .i64 1, .int .i64 1] ∧ Blk w' w1.heap.size 32 ws) (by kernel_rfl) (⟨X0, X1⟩) (fun hHeld => ?_)
          generalize hA : wr.drew = wA at *
          clear hA
          refine wpAnyH_take (i := 0) (v := (.agg #[.int .i64 2, .int .i64 1, .int .i64 1, .int .i64 1, .int .i64 1])) rfl (by kernel_rfl) (by kernel_rfl) (by kernel_rfl) (fun _ _ _ h => h) (Or.inl ⟨by rfl, ?_⟩) (by assumption) ?_
          · intro w' hSw
            have cc0 : w'.cell? ⟨w.heap.size, 0, none⟩ = some (.int .i64 2) := hSw.1.cell 0 rfl
            have cc1 : w'.cell? ⟨w.heap.size, 1, none⟩ = some (.int .i64 1) := hSw.1.cell 1 rfl
            have cc2 : w'.cell? ⟨w.heap.size, 2, none⟩ = some (.int .i64 1) := hSw.1.cell 2 rfl
            have cc3 : w'.cell? ⟨w.heap.size, 3, none⟩ = some (.int .i64 1) := hSw.1.cell 3 rfl
            have cc4 : w'.cell? ⟨w.heap.size, 4, none⟩ = some (.int .i64 1) := hSw.1.cell 4 rfl
            go_simp
          simp only [List.getElem_toArray, List.getElem_cons_zero, Act.put, List.setIfInBounds_toArray, List.set_cons_zero, List.set_cons_succ]
          refine wpAnyH_take (i := 1) (v := (.agg ws)) rfl (by kernel_rfl) (by kernel_rfl) (by kernel_rfl) (fun _ _ _ h => h) (Or.inl ⟨by rfl, ?_⟩) (by assumption) ?_
          · intro w' hSw
            exact yield_row 32 _ rfl w1.heap.size rfl ws (load_w hSw.2 siz)
          simp only [List.getElem_toArray, List.getElem_cons_succ, List.getElem_cons_zero, Act.put, List.setIfInBounds_toArray, List.set_cons_zero, List.set_cons_succ]
          refine wpAnyH_take (i := 2) (v := (.agg #[.slice none 0 0, .slice none 0 0, .slice none 0 0])) rfl (by kernel_rfl) (by kernel_rfl) (by kernel_rfl) (fun _ _ _ h => h) (Or.inl ⟨by rfl, ?_⟩) (by assumption) ?_
          · intro w' hSw
            go_simp
          simp only [List.getElem_toArray, List.getElem_cons_succ, List.getElem_cons_zero, Act.put, List.setIfInBounds_toArray, List.set_cons_zero, List.set_cons_succ]
          refine wpAnyH_take (i := 3) (v := (.int .i64 (n : Int))) rfl (by kernel_rfl) (by kernel_rfl) (by kernel_rfl) (fun _ _ _ h => h) (Or.inl ⟨by rfl, ?_⟩) (by assumption) ?_
          · intro w' hSw
            go_simp
          simp only [List.getElem_toArray, List.getElem_cons_succ, List.getElem_cons_zero, Act.put, List.setIfInBounds_toArray, List.set_cons_zero, List.set_cons_succ]
          refine wpAnyH_ready (rs := [4, 10]) (by kernel_rfl) (by simp) ?_
          refine AllReadyH.cons rfl (fun Kc hKc => ?_) (AllReadyH.cons rfl (fun Kc hKc => ?_) AllReadyH.nil)
          · simp only [List.getElem_toArray, List.getElem_cons_succ, List.getElem_cons_zero]
            rw [if_pos (by rfl)]
            go_wp2_with fail
            have IA0 := iarg_made wA n (by omega)
            have EM : Below wA.heap.size wA (wA.alloc (.cells (madeCells #[.int .i64 0] n) 3)) := (Below.refl _ _).alloc (Nat.le_refl _) _
            generalize hn : wA.alloc (.cells (madeCells #[.int .i64 0] n) 3) = wN1 at *
            replace X0 := X0.below EM
            replace X1 := X1.below EM
            replace XV := XV.below EM
            replace DB := below_then DB EM
            replace KB := below_then KB EM
            replace zX := Nat.le_trans zX EM.size
            have IA := IA0
            clear IA0 hn
            refine hKc.out _ _ ⟨X0, X1⟩ (fun hHeld => ?_)
            clear hKc Kc EM
            refine wpAnyH_ready (rs := [5, 10]) (by kernel_rfl) (by simp) ?_
            refine AllReadyH.cons rfl (fun Kc hKc => ?_) (AllReadyH.cons rfl (fun Kc hKc => ?_) AllReadyH.nil)
            · simp only [List.getElem_toArray, List.getElem_cons_succ, List.getElem_cons_zero]
              rw [if_pos (by rfl)]
              go_wp2_with fail
              refine (CA _ n n (List.replicate n 0) wN1 (HT.out _ DB) (HG.out _ KB) IA (prompt_zeros (by omega) (by omega)) (by rw [List.length_replicate]; omega)).mono ?_
              rintro e wN2 ⟨v2, g, rfl, -, -, EM⟩
              have one2 := vwv_one v2
              have siz2 := vwv_size v2
              rw [show (#[.slice v2.t.ao v2.t.n v2.t.c, .slice v2.k.ao v2.k.n v2.k.c, .slice v2.v.ao v2.v.n v2.v.c] : Array Value) = v2.cells from rfl]
              generalize v2.cells = cw at *
              clear IA
              replace X0 := X0.below EM
              replace X1 := X1.below EM
              replace XV := XV.below EM
              replace DB := below_then DB EM
              replace KB := below_then KB EM
              replace zX := Nat.le_trans zX EM.size
              go_wp2_with fail
              refine hKc.out _ _ ⟨X0, X1⟩ (fun hHeld => ?_)
              clear hKc Kc EM
              refine wpAnyH_take (i := 6) (v := (.tuple #[.agg cw, .slice (some ⟨g, 0, none⟩) 2 2, .int .i64 0])) rfl (by kernel_rfl) (by kernel_rfl) (by kernel_rfl) (fun _ _ _ h => h) (Or.inl ⟨by rfl, ?_⟩) (by assumption) ?_
              · intro w' hSw
                go_simp
              simp only [List.getElem_toArray, List.getElem_cons_succ, List.getElem_cons_zero, Act.put, List.setIfInBounds_toArray, List.set_cons_zero, List.set_cons_succ]
              refine wpAnyH_take (i := 7) (v := (.agg cw)) rfl (by kernel_rfl) (by kernel_rfl) (by kernel_rfl) (fun _ _ _ h => h) (Or.inl ⟨by rfl, ?_⟩) (by assumption) ?_
              · intro w' hSw
                go_simp
              simp only [List.getElem_toArray, List.getElem_cons_succ, List.getElem_cons_zero, Act.put, List.setIfInBounds_toArray, List.set_cons_zero, List.set_cons_succ]
              refine wpAnyH_take (i := 8) (v := (.slice (some ⟨g, 0, none⟩) 2 2)) rfl (by kernel_rfl) (by kernel_rfl) (by kernel_rfl) (fun _ _ _ h => h) (Or.inl ⟨by rfl, ?_⟩) (by assumption) ?_
              · intro w' hSw
                go_simp
              simp only [List.getElem_toArray, List.getElem_cons_succ, List.getElem_cons_zero, Act.put, List.setIfInBounds_toArray, List.set_cons_zero, List.set_cons_succ]
              refine wpAnyH_take (i := 9) (v := (.int .i64 0)) rfl (by kernel_rfl) (by kernel_rfl) (by kernel_rfl) (fun _ _ _ h => h) (Or.inl ⟨by rfl, ?_⟩) (by assumption) ?_
              · intro w' hSw
                go_simp
              simp only [List.getElem_toArray, List.getElem_cons_succ, List.getElem_cons_zero, Act.put, List.setIfInBounds_toArray, List.set_cons_zero, List.set_cons_succ]
              refine wpAnyH_ready (rs := [10]) (by kernel_rfl) (by simp) ?_
              refine AllReadyH.cons rfl (fun Kc hKc => ?_) AllReadyH.nil
              simp only [List.getElem_toArray, List.getElem_cons_succ, List.getElem_cons_zero]
              rw [if_pos (by rfl)]
              go_wp2_with fail
              have XA0 := blk_new wN2 42 #[.slice none 0 0, .slice none 0 0, .slice none 0 0]
              have zA : wr.heap.size ≤ wN2.heap.size := zX
              have EM : Below wN2.heap.size wN2 (wN2.alloc (.cells #[.slice none 0 0, .slice none 0 0, .slice none 0 0] 42)) := (Below.refl _ _).alloc (Nat.le_refl _) _
              generalize hn : wN2.alloc (.cells #[.slice none 0 0, .slice none 0 0, .slice none 0 0] 42) = wN3 at *
              replace X0 := X0.below EM
              replace X1 := X1.below EM
              replace XV := XV.below EM
              replace DB := below_then DB EM
              replace KB := below_then KB EM
              replace zX := Nat.le_trans zX EM.size
              have XA := XA0
              clear XA0 hn
              refine hKc.out _ _ ⟨X0, X1⟩ (fun hHeld => ?_)
              clear hKc Kc EM
              refine wpAnyH_ready (rs := [11]) (by kernel_rfl) (by simp) ?_
              refine AllReadyH.cons rfl (fun Kc hKc => ?_) AllReadyH.nil
              simp only [List.getElem_toArray, List.getElem_cons_succ, List.getElem_cons_zero]
              rw [if_pos (by rfl)]
              refine wp_store_row 42 _ _ rfl wN2.heap.size cw rfl rfl 42 _ XA (by rw [siz2]; exact Tryd.infoV) (by rw [siz2]; rfl) one2 ?_
              have so : ∀ b, b ≠ wN2.heap.size → (wN3.setRow wN2.heap.size cw).heap[b]? = wN3.heap[b]? := fun b hb => setRow_other _ _ _ _ hb
              replace X0 := Blk.of_block X0 (so _ (by omega))
              replace X1 := Blk.of_block X1 (so _ (by omega))
              replace XV := Blk.of_block XV (so _ (by omega))
              replace DB := below_setRow DB (show w.heap.size ≤ wN2.heap.size by omega) cw
              generalize hn : wN3.setRow wN2.heap.size cw = wS at *
              refine hKc.out _ _ ⟨X0, X1⟩ (fun hHeld => ?_)
              clear hKc Kc hn so XA
              refine wpAnyH_take (i := 12) (v := (.slice (some ⟨g, 0, none⟩) 2 2)) rfl (by kernel_rfl) (by kernel_rfl) (by kernel_rfl) (fun _ _ _ h => h) (Or.inl ⟨by rfl, ?_⟩) (by assumption) ?_
              · intro w' hSw
                go_simp
              simp only [List.getElem_toArray, List.getElem_cons_succ, List.getElem_cons_zero, Act.put, List.setIfInBounds_toArray, List.set_cons_zero, List.set_cons_succ]
              refine wpAnyH_take (i := 13) (v := (.int .i64 0)) rfl (by kernel_rfl) (by kernel_rfl) (by kernel_rfl) (fun _ _ _ h => h) (Or.inl ⟨by rfl, ?_⟩) (by assumption) ?_
              · intro w' hSw
                go_simp
              simp only [List.getElem_toArray, List.getElem_cons_succ, List.getElem_cons_zero, Act.put, List.setIfInBounds_toArray, List.set_cons_zero, List.set_cons_succ]
              refine wpAnyH_done (by kernel_rfl) ?_ _
              clear hHeld X0 X1 KB
              go_wp2_with fail
              refine (CW _ DB).mono ?_
              rintro e wq ⟨rfl, Bq⟩
              have av : wq.cell? ⟨w2.heap.size, 0, none⟩ = some (.slice vv.t.ao n vv.t.c) := by rw [← LN]; exact (XV.below Bq).cell 0 rfl
              go_wp2
              go_ret
              exact ⟨rfl, below_then DB Bq⟩
            · simp only [List.getElem_toArray, List.getElem_cons_succ, List.getElem_cons_zero]
              rw [if_pos (by rfl)]
              go_wp2_with fail
              have XA0 := blk_new wN1 42 #[.slice none 0 0, .slice none 0 0, .slice none 0 0]
              have zA : wr.heap.size ≤ wN1.heap.size := zX
              have EM : Below wN1.heap.size wN1 (wN1.alloc (.cells #[.slice none 0 0, .slice none 0 0, .slice none 0 0] 42)) := (Below.refl _ _).alloc (Nat.le_refl _) _
              generalize hn : wN1.alloc (.cells #[.slice none 0 0, .slice none 0 0, .slice none 0 0] 42) = wN4 at *
              replace X0 := X0.below EM
              replace X1 := X1.below EM
              replace XV := XV.below EM
              replace IA := IA.below EM
              replace DB := below_then DB EM
              replace KB := below_then KB EM
              replace zX := Nat.le_trans zX EM.size
              have XA := XA0
              clear XA0 hn
              refine hKc.out _ _ ⟨X0, X1⟩ (fun hHeld => ?_)
              clear hKc Kc EM
              refine wpAnyH_ready (rs := [5]) (by kernel_rfl) (by simp) ?_
              refine AllReadyH.cons rfl (fun Kc hKc => ?_) AllReadyH.nil
              simp only [List.getElem_toArray, List.getElem_cons_succ, List.getElem_cons_zero]
              rw [if_pos (by rfl)]
              go_wp2_with fail
              refine (CA _ n n (List.replicate n 0) wN4 (HT.out _ DB) (HG.out _ KB) IA (prompt_zeros (by omega) (by omega)) (by rw [List.length_replicate]; omega)).mono ?_
              rintro e wN5 ⟨v2, g, rfl, -, -, EM⟩
              have one2 := vwv_one v2
              have siz2 := vwv_size v2
              rw [show (#[.slice v2.t.ao v2.t.n v2.t.c, .slice v2.k.ao v2.k.n v2.k.c, .slice v2.v.ao v2.v.n v2.v.c] : Array Value) = v2.cells from rfl]
              generalize v2.cells = cw at *
              clear IA
              replace X0 := X0.below EM
              replace X1 := X1.below EM
              replace XV := XV.below EM
              replace XA := XA.below EM
              replace DB := below_then DB EM
              replace KB := below_then KB EM
              replace zX := Nat.le_trans zX EM.size
              go_wp2_with fail
              refine hKc.out _ _ ⟨X0, X1⟩ (fun hHeld => ?_)
              clear hKc Kc EM
              refine wpAnyH_take (i := 6) (v := (.tuple #[.agg cw, .slice (some ⟨g, 0, none⟩) 2 2, .int .i64 0])) rfl (by kernel_rfl) (by kernel_rfl) (by kernel_rfl) (fun _ _ _ h => h) (Or.inl ⟨by rfl, ?_⟩) (by assumption) ?_
              · intro w' hSw
                go_simp
              simp only [List.getElem_toArray, List.getElem_cons_succ, List.getElem_cons_zero, Act.put, List.setIfInBounds_toArray, List.set_cons_zero, List.set_cons_succ]
              refine wpAnyH_take (i := 7) (v := (.agg cw)) rfl (by kernel_rfl) (by kernel_rfl) (by kernel_rfl) (fun _ _ _ h => h) (Or.inl ⟨by rfl, ?_⟩) (by assumption) ?_
              · intro w' hSw
                go_simp
              simp only [List.getElem_toArray, List.getElem_cons_succ, List.getElem_cons_zero, Act.put, List.setIfInBounds_toArray, List.set_cons_zero, List.set_cons_succ]
              refine wpAnyH_take (i := 8) (v := (.slice (some ⟨g, 0, none⟩) 2 2)) rfl (by kernel_rfl) (by kernel_rfl) (by kernel_rfl) (fun _ _ _ h => h) (Or.inl ⟨by rfl, ?_⟩) (by assumption) ?_
              · intro w' hSw
                go_simp
              simp only [List.getElem_toArray, List.getElem_cons_succ, List.getElem_cons_zero, Act.put, List.setIfInBounds_toArray, List.set_cons_zero, List.set_cons_succ]
              refine wpAnyH_take (i := 9) (v := (.int .i64 0)) rfl (by kernel_rfl) (by kernel_rfl) (by kernel_rfl) (fun _ _ _ h => h) (Or.inl ⟨by rfl, ?_⟩) (by assumption) ?_
              · intro w' hSw
                go_simp
              simp only [List.getElem_toArray, List.getElem_cons_succ, List.getElem_cons_zero, Act.put, List.setIfInBounds_toArray, List.set_cons_zero, List.set_cons_succ]
              refine wpAnyH_ready (rs := [11]) (by kernel_rfl) (by simp) ?_
              refine AllReadyH.cons rfl (fun Kc hKc => ?_) AllReadyH.nil
              simp only [List.getElem_toArray, List.getElem_cons_succ, List.getElem_cons_zero]
              rw [if_pos (by rfl)]
              refine wp_store_row 42 _ _ rfl wN1.heap.size cw rfl rfl 42 _ XA (by rw [siz2]; exact Tryd.infoV) (by rw [siz2]; rfl) one2 ?_
              have so : ∀ b, b ≠ wN1.heap.size → (wN5.setRow wN1.heap.size cw).heap[b]? = wN5.heap[b]? := fun b hb => setRow_other _ _ _ _ hb
              replace X0 := Blk.of_block X0 (so _ (by omega))
              replace X1 := Blk.of_block X1 (so _ (by omega))
              replace XV := Blk.of_block XV (so _ (by omega))
              replace DB := below_setRow DB (show w.heap.size ≤ wN1.heap.size by omega) cw
              generalize hn : wN5.setRow wN1.heap.size cw = wS at *
              refine hKc.out _ _ ⟨X0, X1⟩ (fun hHeld => ?_)
              clear hKc Kc hn so XA
              refine wpAnyH_take (i := 12) (v := (.slice (some ⟨g, 0, none⟩) 2 2)) rfl (by kernel_rfl) (by kernel_rfl) (by kernel_rfl) (fun _ _ _ h => h) (Or.inl ⟨by rfl, ?_⟩) (by assumption) ?_
              · intro w' hSw
                go_simp
              simp only [List.getElem_toArray, List.getElem_cons_succ, List.getElem_cons_zero, Act.put, List.setIfInBounds_toArray, List.set_cons_zero, List.set_cons_succ]
              refine wpAnyH_take (i := 13) (v := (.int .i64 0)) rfl (by kernel_rfl) (by kernel_rfl) (by kernel_rfl) (fun _ _ _ h => h) (Or.inl ⟨by rfl, ?_⟩) (by assumption) ?_
              · intro w' hSw
                go_simp
              simp only [List.getElem_toArray, List.getElem_cons_succ, List.getElem_cons_zero, Act.put, List.setIfInBounds_toArray, List.set_cons_zero, List.set_cons_succ]
              refine wpAnyH_done (by kernel_rfl) ?_ _
              clear hHeld X0 X1 KB
              go_wp2_with fail
              refine (CW _ DB).mono ?_
              rintro e wq ⟨rfl, Bq⟩
              have av : wq.cell? ⟨w2.heap.size, 0, none⟩ = some (.slice vv.t.ao n vv.t.c) := by rw [← LN]; exact (XV.below Bq).cell 0 rfl
              go_wp2
              go_ret
              exact ⟨rfl, below_then DB Bq⟩
          · simp only [List.getElem_toArray, List.getElem_cons_succ, List.getElem_cons_zero]
            rw [if_pos (by rfl)]
            go_wp2_with fail
            have XA0 := blk_new wA 42 #[.slice none 0 0, .slice none 0 0, .slice none 0 0]
            have zA : wr.heap.size ≤ wA.heap.size := zX
            have EM : Below wA.heap.size wA (wA.alloc (.cells #[.slice none 0 0, .slice none 0 0, .slice none 0 0] 42)) := (Below.refl _ _).alloc (Nat.le_refl _) _
            generalize hn : wA.alloc (.cells #[.slice none 0 0, .slice none 0 0, .slice none 0 0] 42) = wN6 at *
            replace X0 := X0.below EM
            replace X1 := X1.below EM
            replace XV := XV.below EM
            replace DB := below_then DB EM
            replace KB := below_then KB EM
            replace zX := Nat.le_trans zX EM.size
            have XA := XA0
            clear XA0 hn
            refine hKc.out _ _ ⟨X0, X1⟩ (fun hHeld => ?_)
            clear hKc Kc EM
            refine wpAnyH_ready (rs := [4]) (by kernel_rfl) (by simp) ?_
            refine AllReadyH.cons rfl (fun Kc hKc => ?_) AllReadyH.nil
            simp only [List.getElem_toArray, List.getElem_cons_succ, List.getElem_cons_zero]
            rw [if_pos (by rfl)]
            go_wp2_with fail
            have IA0 := iarg_made wN6 n (by omega)
            have EM : Below wN6.heap.size wN6 (wN6.alloc (.cells (madeCells #[.int .i64 0] n) 3)) := (Below.refl _ _).alloc (Nat.le_refl _) _
            generalize hn : wN6.alloc (.cells (madeCells #[.int .i64 0] n) 3) = wN7 at *
            replace X0 := X0.below EM
            replace X1 := X1.below EM
            replace XV := XV.below EM
            replace XA := XA.below EM
            replace DB := below_then DB EM
            replace KB := below_then KB EM
            replace zX := Nat.le_trans zX EM.size
            have IA := IA0
            clear IA0 hn
            refine hKc.out _ _ ⟨X0, X1⟩ (fun hHeld => ?_)
            clear hKc Kc EM
            refine wpAnyH_ready (rs := [5]) (by kernel_rfl) (by simp) ?_
            refine AllReadyH.cons rfl (fun Kc hKc => ?_) AllReadyH.nil
            simp only [List.getElem_toArray, List.getElem_cons_succ, List.getElem_cons_zero]
            rw [if_pos (by rfl)]
            go_wp2_with fail
            refine (CA _ n n (List.replicate n 0) wN7 (HT.out _ DB) (HG.out _ KB) IA (prompt_zeros (by omega) (by omega)) (by rw [List.length_replicate]; omega)).mono ?_
            rintro e wN8 ⟨v2, g, rfl, -, -, EM⟩
            have one2 := vwv_one v2
            have siz2 := vwv_size v2
            rw [show (#[.slice v2.t.ao v2.t.n v2.t.c, .slice v2.k.ao v2.k.n v2.k.c, .slice v2.v.ao v2.v.n v2.v.c] : Array Value) = v2.cells from rfl]
            generalize v2.cells = cw at *
            clear IA
            replace X0 := X0.below EM
            replace X1 := X1.below EM
            replace XV := XV.below EM
            replace XA := XA.below EM
            replace DB := below_then DB EM
            replace KB := below_then KB EM
            replace zX := Nat.le_trans zX EM.size
            go_wp2_with fail
            refine hKc.out _ _ ⟨X0, X1⟩ (fun hHeld => ?_)
            clear hKc Kc EM
            refine wpAnyH_take (i := 6) (v := (.tuple #[.agg cw, .slice (some ⟨g, 0, none⟩) 2 2, .int .i64 0])) rfl (by kernel_rfl) (by kernel_rfl) (by kernel_rfl) (fun _ _ _ h => h) (Or.inl ⟨by rfl, ?_⟩) (by assumption) ?_
            · intro w' hSw
              go_simp
            simp only [List.getElem_toArray, List.getElem_cons_succ, List.getElem_cons_zero, Act.put, List.setIfInBounds_toArray, List.set_cons_zero, List.set_cons_succ]
            refine wpAnyH_take (i := 7) (v := (.agg cw)) rfl (by kernel_rfl) (by kernel_rfl) (by kernel_rfl) (fun _ _ _ h => h) (Or.inl ⟨by rfl, ?_⟩) (by assumption) ?_
            · intro w' hSw
              go_simp
            simp only [List.getElem_toArray, List.getElem_cons_succ, List.getElem_cons_zero, Act.put, List.setIfInBounds_toArray, List.set_cons_zero, List.set_cons_succ]
            refine wpAnyH_take (i := 8) (v := (.slice (some ⟨g, 0, none⟩) 2 2)) rfl (by kernel_rfl) (by kernel_rfl) (by kernel_rfl) (fun _ _ _ h => h) (Or.inl ⟨by rfl, ?_⟩) (by assumption) ?_
            · intro w' hSw
              go_simp
            simp only [List.getElem_toArray, List.getElem_cons_succ, List.getElem_cons_zero, Act.put, List.setIfInBounds_toArray, List.set_cons_zero, List.set_cons_succ]
            refine wpAnyH_take (i := 9) (v := (.int .i64 0)) rfl (by kernel_rfl) (by kernel_rfl) (by kernel_rfl) (fun _ _ _ h => h) (Or.inl ⟨by rfl, ?_⟩) (by assumption) ?_
            · intro w' hSw
              go_simp
            simp only [List.getElem_toArray, List.getElem_cons_succ, List.getElem_cons_zero, Act.put, List.setIfInBounds_toArray, List.set_cons_zero, List.set_cons_succ]
            refine wpAnyH_ready (rs := [11]) (by kernel_rfl) (by simp) ?_
            refine AllReadyH.cons rfl (fun Kc hKc => ?_) AllReadyH.nil
            simp only [List.getElem_toArray, List.getElem_cons_succ, List.getElem_cons_zero]
            rw [if_pos (by rfl)]
            refine wp_store_row 42 _ _ rfl wA.heap.size cw rfl rfl 42 _ XA (by rw [siz2]; exact Tryd.infoV) (by rw [siz2]; rfl) one2 ?_
            have so : ∀ b, b ≠ wA.heap.size → (wN8.setRow wA.heap.size cw).heap[b]? = wN8.heap[b]? := fun b hb => setRow_other _ _ _ _ hb
            replace X0 := Blk.of_block X0 (so _ (by omega))
            replace X1 := Blk.of_block X1 (so _ (by omega))
            replace XV := Blk.of_block XV (so _ (by omega))
            replace DB := below_setRow DB (show w.heap.size ≤ wA.heap.size by omega) cw
            generalize hn : wN8.setRow wA.heap.size cw = wS at *
            refine hKc.out _ _ ⟨X0, X1⟩ (fun hHeld => ?_)
            clear hKc Kc hn so XA
            refine wpAnyH_take (i := 12) (v := (.slice (some ⟨g, 0, none⟩) 2 2)) rfl (by kernel_rfl) (by kernel_rfl) (by kernel_rfl) (fun _ _ _ h => h) (Or.inl ⟨by rfl, ?_⟩) (by assumption) ?_
            · intro w' hSw
              go_simp
            simp only [List.getElem_toArray, List.getElem_cons_succ, List.getElem_cons_zero, Act.put, List.setIfInBounds_toArray, List.set_cons_zero, List.set_cons_succ]
            refine wpAnyH_take (i := 13) (v := (.int .i64 0)) rfl (by kernel_rfl) (by kernel_rfl) (by kernel_rfl) (fun _ _ _ h => h) (Or.inl ⟨by rfl, ?_⟩) (by assumption) ?_
            · intro w' hSw
              go_simp
            simp only [List.getElem_toArray, List.getElem_cons_succ, List.getElem_cons_zero, Act.put, List.setIfInBounds_toArray, List.set_cons_zero, List.set_cons_succ]
            refine wpAnyH_done (by kernel_rfl) ?_ _
            clear hHeld X0 X1 KB
            go_wp2_with fail
            refine (CW _ DB).mono ?_
            rintro e wq ⟨rfl, Bq⟩
            have av : wq.cell? ⟨w2.heap.size, 0, none⟩ = some (.slice vv.t.ao n vv.t.c) := by rw [← LN]; exact (XV.below Bq).cell 0 rfl
            go_wp2
            go_ret
            exact ⟨rfl, below_then DB Bq⟩
end Go.Proofs.YtcbicmgfkeoggaaDoor

/- The given statement on StepLong: at every input the law returns true and its arguments read as before; the listed table lies as the program's text lays it (the card ties it). -/
namespace Go.Proofs.YtcbicmgfkeoggaaDoor.stepLong
open Go.ChangeShapes Go.WideShapes Go.ChangeAt Go.WideMaps Go.WideElems Go.RowKit
set_option linter.unusedVariables false
abbrev lst : List (String × DataW Unit) := Rows.stepLongRow.laid
theorem door_met (os : Os) (args : Array Value) : laidMetH Tryd.prog lst ((World.doorLaid Tryd.prog 14 os).forCall (fun _ _ => 0) ⟨#[], args, []⟩).memory :=
  laidMetH_of_parts3 (fuel := 8) (laidMet_of_run' 8 (by kernel_rfl) (by kernel_rfl)) (by kernel_rfl) (by kernel_rfl)
set_option maxRecDepth 100000 in
theorem lifted (os : Os) (started : os.Started) (H : Type) (enc : TypeId × Value → H) :
    ReturnsInHanded {} Tryd.checked os 5 .any (fun w args => (Rows.stepLongSpec.pre enc Tryd.prog Tryd.f5 [] false w args ∧ laidMetH Tryd.prog lst w) ∧ sizedMet enc Tryd.prog Tryd.f5 (OpenSpec.ofChange Rows.stepLongSpec) false w args)
      (Rows.stepLongSpec.post enc Tryd.prog Tryd.f5 false true false false) := by
  refine returnsInHanded_of_change_and (C := Tryd.checked) (X := fun w _ => laidMetH Tryd.prog lst w) (fun _ _ _ hh h => h.of_heap hh) Tryd.own started (by kernel_rfl) Tryd.func5
    (ChangeSpec.witness_shaped (enc := enc) (C := Tryd.checked) (os := os) (X := fun w _ => laidMetH Tryd.prog lst w) false (World.doorLaid Tryd.prog 14 os) #[.int .u64 0, .int .i64 0] 8 rfl (World.shaped_of_RefB (by kernel_rfl) (by kernel_rfl)) (by kernel_rfl) (by kernel_rfl) (by kernel_rfl) (door_met os _)) ?_
  intro W base args ds gs before hval0 hW _ _ hL _
  have hval : ∀ (j : Nat) t v, Tryd.f5.params[j]? = some t → args[j]? = some v → Value.okWide Tryd.prog W .any base t v := hval0
  have hW' := hW
  obtain ⟨p, q, hA0, hV, rfl, _, _⟩ := hW
  have hA : DataW.TrodAll enc Tryd.prog W 0 (fun _ => true) true Tryd.f5.params.toList args.toList ds p := hA0
  rw [Tryd.params5] at hA hval
  obtain ⟨v0, vs0, d0, ds0, p0, q0, hargs, rfl, rfl, h0, r0⟩ := trodAll_cons hA
  obtain ⟨v1, vs1, d1, ds1, p1, q1, rfl, rfl, rfl, h1, r1⟩ := trodAll_cons r0
  obtain ⟨rfl, rfl, rfl⟩ := trodAll_nil r1
  obtain rfl : args = #[v0, v1] := by cases args; simp_all
  obtain ⟨rfl, rfl⟩ := trodVars_none hV
  have k0 := h0
  obtain ⟨a0, rfl, rfl, rfl, w0⟩ := open_int Tryd.underlying24 (hval 0 24 v0 rfl rfl) h0
  have b0 := bounds_u64 w0
  have k1 := h1
  obtain ⟨a1, rfl, rfl, rfl, w1⟩ := open_int Tryd.underlying3 (hval 1 3 v1 rfl rfl) h1
  have b1 := bounds_i64 w1
  clear hA0 hval0
  simp only [List.append_nil] at hW'
  refine (stepLong_walk a0 a1 W b0 b1 (tab_of_laid hL)).mono fun e W' ⟨he, hb⟩ => ?_
  subst he
  exact ⟨_, rfl, _, _, _, [], _, [], hW', trodAll_mk1 (shut_bool Tryd.underlying4 true), trodAll_cons_mk (shut_int Tryd.underlying24 w0) (trodAll_cons_mk (shut_int Tryd.underlying3 w1) trodAll_mk0), rfl, hb.frame _, fun h => by cases h⟩
theorem row_holds : Rows.StepLongSaid :=
  OpenClaim.holds_of_wide 5 Tryd.f5 rfl rfl rfl rfl rfl rfl rfl ⟨rfl, rfl, rfl, rfl, rfl⟩ rfl rfl rfl rfl rfl (by kernel_rfl) Tryd.func5 (by kernel_rfl)
    (of_decide_eq_true (by kernel_rfl)) (by unfold Func.isWrapper; first | (rw [if_pos (by decide +kernel)]; kernel_rfl) | (rw [if_neg (by decide +kernel)]; exact ⟨rfl, rfl⟩))
    (fun os started H enc _ => lifted os started H enc)
/-- The given statement. -/
theorem card_holds : Rows.StepLongCardSaid :=
  Claim7.holds_tied_plain_at .later [] [.data] true (true, "fbe80f2afbd55e80cd452f0a326efe67d4b9912c148d55caef3d482b5b67f082") false
    row_holds (fun _ h => by cases h) (by kernel_rfl) (fun _ h => by cases h) stepLong_row_tie rfl ⟨rfl, rfl⟩ (by kernel_rfl) rfl
    (fun f fn hf hfn => by
      obtain rfl : f = 5 := Option.some.inj ((show Tryd.prog.funcNamed Rows.stepLongRow.func = some 5 by kernel_rfl).symm.trans hf) |>.symm
      obtain rfl : fn = Tryd.f5 := (Option.some.inj (Tryd.func5.symm.trans hfn)).symm
      exact ⟨by kernel_rfl, fun j t ht => by
        rw [Tryd.params5] at ht
        have hm : t ∈ [24, 3] := by simpa using Array.mem_of_getElem? ht
        have hall : ([24, 3].all fun u => !Tryd.prog.wantsStandIn u) = true := by kernel_rfl
        exact (show Tryd.prog.wantsStandIn t = false by simpa using List.all_eq_true.1 hall t hm)⟩)
    (by kernel_rfl)
end Go.Proofs.YtcbicmgfkeoggaaDoor.stepLong
namespace Go.Proofs.YtcbicmgfkeoggaaDoor
theorem stepLong_holds : Rows.StepLongCardSaid := stepLong.card_holds
#print axioms stepLong_holds
end Go.Proofs.YtcbicmgfkeoggaaDoor
