/- The given statement on GreedyBest: at every input the law returns true and its arguments read as before; the listed table lies as the program's text lays it (the card ties it). -/
import Derived.Test.YteemdioodaoeiaaDoorPk7
import Derived.Test.YteemdioodaoeiaaDoorGMathPk
import Derived.Test.YteemdioodaoeiaaDoorFull2Pk
import Derived.Deep.CutRange
import Derived.Deep.CutBlock
import Derived.Test.YteemdioodaoeiaaDoorRows
import Derived.Test.YteemdioodaoeiaaDoorCards
import Derived.Test.YteemdioodaoeiaaDoorTie
import Derived.Test.YteemdioodaoeiaaDoorPk8
import Derived.Test.YteemdioodaoeiaaDoorPk3
import Derived.ProofKit
import Derived.Carry
import Derived.LaidMore
import Derived.OpenShut
import Derived.Stop.Joined
import Derived.SevenTiedAt
/- Each token of an answer is the first one that is liked best: the walk. -/
namespace Go.Proofs.YteemdioodaoeiaaDoor
open Go.ChangeShapes Go.WideShapes Go.ChangeAt Go.RowKit
theorem prompt_of {V : Nat} {A : List Int} (h : A.all (tokB V) = true) (h1 : 1 ≤ A.length) (h2 : A.length ≤ 128) : promptN V A = 0 := by
  unfold promptN
  rw [if_neg (by omega), if_neg (by omega), if_pos h]
theorem lik_full {M : Mdl} {V D H Hd L : Nat} {P : List Int} (hP : P.all (tokB V) = true) (h0 : 1 ≤ P.length) : likAt M V D H Hd L noX P P.length = fullX M V D H Hd L P := by
  obtain ⟨k, hk⟩ : ∃ k, P.length = k + 1 := ⟨P.length - 1, by omega⟩
  have h0' : ∀ x ∈ P.take k, 0 ≤ x := fun x hx => by
    have := List.all_eq_true.1 hP x (List.mem_of_mem_take hx)
    unfold tokB at this
    have : 0 ≤ x ∧ x < V := by simpa using this
    exact this.1
  have hc : Cached M D H Hd L (feedAll M D H Hd L noX (P.take k)) ([] ++ P.take k) := cached_all _ (cached_none M D H Hd L) h0'
  rw [List.nil_append] at hc
  rw [hk]
  show likR M V D (feedX M D H Hd L (feedAll M D H Hd L noX (P.take k)) (el P k).toNat) = _
  rw [fullX_last hc]
  have e : P[k]? = some (el P k) := by unfold el; simp [List.getD_eq_getElem?_getD, List.getElem?_eq_getElem (show k < P.length by omega)]
  have : P.take k ++ [el P k] = P := by
    have h2 : P.take (k + 1) = P := List.take_of_length_le (by omega)
    rw [List.take_add_one, e] at h2
    exact h2
  rw [this]
/-- The first that is liked best: none is liked better, and none ahead as well. -/
theorem amax_first (A : List Int) : ∀ n, 1 ≤ n → ∀ k, k < n → el A k ≤ el A (amax A n).toNat ∧ ((k : Int) < amax A n → el A k < el A (amax A n).toNat)
  | 0, h, _, _ => by omega
  | 1, _, k, hk => by
    obtain rfl : k = 0 := by omega
    have e : amax A 1 = 0 := by unfold amax; rw [if_pos (Or.inl (by unfold amax; omega))]; rfl
    rw [e]
    exact ⟨Int.le_refl _, fun h => by omega⟩
  | n + 2, _, k, hk => by
    have ih := amax_first A (n + 1) (by omega)
    have hb := amax_tok A (V := n + 1) (by omega)
    by_cases hc : el A (amax A (n + 1)).toNat < el A (n + 1)
    · have e : amax A (n + 2) = ((n + 1 : Nat) : Int) := by
        show (if amax A (n + 1) < 0 ∨ el A (amax A (n + 1)).toNat < el A (n + 1) then ((n + 1 : Nat) : Int) else amax A (n + 1)) = _
        rw [if_pos (Or.inr hc)]
      rw [e, Int.toNat_natCast]
      by_cases hk2 : k = n + 1
      · subst hk2; exact ⟨Int.le_refl _, fun h => by omega⟩
      · have := (ih k (by omega)).1
        exact ⟨by omega, fun _ => by omega⟩
    · have e : amax A (n + 2) = amax A (n + 1) := by
        show (if amax A (n + 1) < 0 ∨ el A (amax A (n + 1)).toNat < el A (n + 1) then ((n + 1 : Nat) : Int) else amax A (n + 1)) = _
        rw [if_neg (by omega)]
      rw [e]
      by_cases hk2 : k = n + 1
      · subst hk2; exact ⟨by omega, fun h => by omega⟩
      · exact ih k (by omega)
theorem tok_small {V : Nat} {A : List Int} (hV : V ≤ 64) (h : A.all (tokB V) = true) : ∀ k, -9223372036854775808 ≤ el A k ∧ el A k ≤ 9223372036854775807 := fun k => by
  rcases Nat.lt_or_ge k A.length with hk | hk
  · have := List.all_eq_true.1 h _ (el_mem hk)
    unfold tokB at this
    have : 0 ≤ el A k ∧ el A k < V := by simpa using this
    omega
  · rw [el_over hk]; omega
/-- How long an answer is; where it ends. -/
theorem best_len {M : Mdl} {V D H Hd L : Nat} {P : List Int} {most : Int} {j : Nat} (hm : 1 ≤ most) (k1 : overB (runY M V D H Hd L P j) most = true) (k2 : ∀ i, i < j → overB (runY M V D H Hd L P i) most = false) : 1 ≤ j ∧ (j : Int) ≤ most ∧ ((j : Int) = most ∨ el (runY M V D H Hd L P j) (j - 1) = 0) ∧ ∀ i, i + 1 < j → el (runY M V D H Hd L P j) i ≠ 0 := by
  have hl := runY_len M V D H Hd L P
  have h1 : 1 ≤ j := by
    rcases Nat.eq_zero_or_pos j with h | h
    · subst h
      unfold overB endB at k1
      rw [hl] at k1
      simp at k1
      omega
    · exact h
  have h2 : (j : Int) ≤ most := by
    by_cases h : (j : Int) ≤ most
    · exact h
    · have := k2 most.toNat (by omega)
      unfold overB at this
      rw [hl, decide_eq_true (by omega)] at this
      cases this
  refine ⟨h1, h2, ?_, fun i hi e => ?_⟩
  · unfold overB endB at k1
    rw [hl] at k1
    simp at k1
    rcases k1 with h | h
    · exact Or.inl (by omega)
    · exact Or.inr h.2
  · have := k2 (i + 1) hi
    unfold overB endB at this
    rw [hl] at this
    simp at this
    refine this.2 ?_
    have et := runY_take M V D H Hd L P (i + 1) (j - (i + 1))
    rw [show i + 1 + (j - (i + 1)) = j by omega] at et
    rw [← et, el_take (by omega)]
    exact e
theorem runY_at (M : Mdl) (V D H Hd L : Nat) (P : List Int) {i j : Nat} (h : i < j) : el (runY M V D H Hd L P j) i = nextT M V D H Hd L (P ++ runY M V D H Hd L P i) := by
  have et := runY_take M V D H Hd L P (i + 1) (j - (i + 1))
  rw [show i + 1 + (j - (i + 1)) = j by omega] at et
  have e1 : el (runY M V D H Hd L P j) i = el (runY M V D H Hd L P (i + 1)) i := by rw [← et, el_take (by omega)]
  rw [e1]
  show el (runY M V D H Hd L P i ++ [_]) i = _
  unfold el
  rw [List.getD_eq_getElem?_getD, List.getElem?_append_right (by rw [runY_len]; omega), runY_len]
  simp
theorem own_some {w : World} {B n : Nat} {e : TypeId} {v : Value} {xs : List Value} (h : w.ownsRow B e 1 v n xs) (hn : 0 < n) : ∃ g c, v = .slice (some ⟨g, 0, none⟩) n c := by
  rcases h.2 with ⟨_, h0⟩ | ⟨g, cap, cur, hv, _⟩
  · omega
  · exact ⟨g, cap, hv⟩
theorem own_alloc {w : World} {B n : Nat} {e : TypeId} {v : Value} {xs : List Value} (h : w.ownsRow B e 1 v n xs) (o : Obj) : (w.alloc o).ownsRow B e 1 v n xs :=
  h.kept (World.grownBy_alloc w o none) (Decidable.em _)
theorem one_cellB {w : World} {g : Nat} {v : Value} (h : w.cell? ⟨g, 0, none⟩ = some v) : ∀ t u, [v][t]? = some u → w.cell? ((⟨g, 0, none⟩ : Addr).add t) = some u := by
  intro t u ht
  cases t with
  | zero =>
    simp only [List.getElem?_cons_zero, Option.some.injEq] at ht
    subst ht
    have e : (⟨g, 0, none⟩ : Addr).add 0 = ⟨g, 0, none⟩ := rfl
    rw [e]; exact h
  | succ t => simp at ht
/-- What stands at each token. -/
structure GB (w wc : World) (V D Hd H L : Nat) (WW : Wt) (bs : List Bk) (M : Mdl) (ws : Array Value) (gW : Nat) (ya : Option Addr) (yc j : Nat) (Y : List Int) : Prop where
  x0 : Blk wc w.heap.size 23 #[.int .i64 (V : Int), .int .i64 (D : Int), .int .i64 (Hd : Int), .int .i64 (H : Int), .int .i64 (L : Int)]
  x1 : Blk wc gW 32 ws
  gd : Good wc V D Hd H L WW bs M
  ay : IArg wc ya j yc Y
  kp : Below w.heap.size w wc
theorem GB.below {w wc wd : World} {V D Hd H L : Nat} {WW : Wt} {bs : List Bk} {M : Mdl} {ws : Array Value} {gW : Nat} {ya : Option Addr} {yc j : Nat} {Y : List Int} (h : GB w wc V D Hd H L WW bs M ws gW ya yc j Y) (hb : Below wc.heap.size wc wd) : GB w wd V D Hd H L WW bs M ws gW ya yc j Y := ⟨h.x0.below hb, h.x1.below hb, h.gd.below hb, h.ay.below hb, below_then h.kp hb⟩
set_option maxRecDepth 100000 in
set_option maxHeartbeats 32000000 in
theorem greedyBest_walk (C : Cfg) (sd : Int) (a1 : Option Addr) (n1 c1 : Nat) (Z1 : List Int) (most : Int) (w : World) (hC : C.Ok) (bs : 0 ≤ sd ∧ sd ≤ 18446744073709551615) (h1 : IArg w a1 n1 c1 Z1) (_bm : -9223372036854775808 ≤ most ∧ most ≤ 9223372036854775807) (hT : Tab w) :
   Calls Tryd.prog 3 #[C.val, .int .u64 sd, .slice a1 n1 c1, .int .i64 most] w fun e w' => e = .returned (.bool true) ∧ Below w.heap.size w w' := by
  obtain ⟨seed, rfl⟩ : ∃ n : Nat, sd = n := ⟨sd.toNat, by omega⟩
  have hsd : seed < 18446744073709551616 := by omega
  clear bs
  have HT : Hid (∀ wv, Below w.heap.size w wv → Tab wv) := fun wv hb => hT.next hb
  have CW := fun (wv : World) (hb : Below w.heap.size w wv) => gawake_any wv (HT.out wv hb)
  have CF1 := fun (wv : World) (hb : Below w.heap.size w wv) => few8_any a1 n1 c1 Z1 8 wv (h1.below hb) (by omega)
  have s1 : ∀ k, -9223372036854775808 ≤ el (Z1.take 8) k ∧ el (Z1.take 8) k ≤ 9223372036854775807 := fun k => by
    rcases Nat.lt_or_ge k 8 with h | h
    · rw [el_take h]; exact h1.row.small k
    · rw [el_over (by rw [List.length_take]; omega)]; omega
  have hP8 : (Z1.take 8).length ≤ 8 := by rw [List.length_take]; omega
  have M0 := fun wv => make_gen C hC seed hsd wv
  have CS := fun wv => small8_any C.V C.D C.Hd C.H C.L wv
  have hu : ∀ C : Cfg, cfgC C.V C.D C.Hd C.H C.L = #[.int .i64 C.V, .int .i64 C.D, .int .i64 C.Hd, .int .i64 C.H, .int .i64 C.L] := fun _ => rfl
  unfold Cfg.val at *
  rw [hu] at M0 CS ⊢
  clear hT h1 hC
  have X0 := blk_new w 23 #[.int .i64 C.V, .int .i64 C.D, .int .i64 C.Hd, .int .i64 C.H, .int .i64 C.L]
  have B0 : Below w.heap.size w (w.alloc (.cells #[.int .i64 C.V, .int .i64 C.D, .int .i64 C.Hd, .int .i64 C.H, .int .i64 C.L] 23)) := (Below.refl _ _).alloc (Nat.le_refl _) _
  generalize hw0 : w.alloc (.cells #[.int .i64 C.V, .int .i64 C.D, .int .i64 C.Hd, .int .i64 C.H, .int .i64 C.L] 23) = w0 at *
  go_enter Tryd.func3, Tryd.ntmps3
  go_wp2_with fail
  refine (CF1 _ B0).mono ?_
  rintro e w1 ⟨b1, kq, rfl, O1, B1⟩
  generalize Z1.take 8 = P at *
  obtain ⟨l1, hl1⟩ : ∃ l1, P.length = l1 := ⟨_, rfl⟩
  have HL1 : Hid (P.length = l1) := hl1
  rw [hl1] at O1 hP8 ⊢
  clear hl1
  have D1 := below_then B0 B1
  replace X0 := X0.below B1
  clear hw0 CF1 B0 B1
  obtain ⟨x1, y1, e1, I1⟩ := IOwn.arg O1 s1
  simp only [Value.slice.injEq, true_and] at e1
  obtain ⟨rfl, rfl⟩ := e1
  have HI : Hid (∀ wv, Below w1.heap.size w1 wv → IArg wv (some ⟨b1, 0, none⟩) l1 kq P) := fun wv hb => I1.below hb
  clear O1 I1
  have a0 : w1.cell? ⟨w.heap.size, 0, none⟩ = some (.int .i64 C.V) := X0.cell 0 rfl
  have a1 : w1.cell? ⟨w.heap.size, 1, none⟩ = some (.int .i64 C.D) := X0.cell 1 rfl
  have a2 : w1.cell? ⟨w.heap.size, 2, none⟩ = some (.int .i64 C.Hd) := X0.cell 2 rfl
  have a3 : w1.cell? ⟨w.heap.size, 3, none⟩ = some (.int .i64 C.H) := X0.cell 3 rfl
  have a4 : w1.cell? ⟨w.heap.size, 4, none⟩ = some (.int .i64 C.L) := X0.cell 4 rfl
  go_wp2_with fail
  refine (M0 w1).mono ?_
  rintro e w2 ⟨ws, q, rfl, MM, B2⟩
  replace X0 := X0.below B2
  have E2 := B2
  have D2 := below_then D1 B2
  clear a0 a1 a2 a3 a4 M0 B2 D1
  have siz := MM.size
  have one := MM.one
  have XZ := blk_new w2 32 #[.int .i64 0, .int .i64 0, .slice none 0 0, .slice none 0 0, .slice none 0 0, .int .i64 0, .int .i64 0, .slice none 0 0]
  have BZ : Below w2.heap.size w2 (w2.alloc (.cells #[.int .i64 0, .int .i64 0, .slice none 0 0, .slice none 0 0, .slice none 0 0, .int .i64 0, .int .i64 0, .slice none 0 0] 32)) := (Below.refl _ _).alloc (Nat.le_refl _) _
  generalize hwz : w2.alloc (.cells #[.int .i64 0, .int .i64 0, .slice none 0 0, .slice none 0 0, .slice none 0 0, .int .i64 0, .int .i64 0, .slice none 0 0] 32) = wz at *
  have X1 := XZ.row ws
  have BR := below_setRow BZ (Nat.le_refl _) ws
  generalize hwy : wz.setRow w2.heap.size ws = wy at *
  replace X0 := X0.below BR
  replace MM := MM.below BR
  have D3 := below_then D2 BR
  have E3 := below_then E2 BR
  have a0 : wy.cell? ⟨w.heap.size, 0, none⟩ = some (.int .i64 C.V) := X0.cell 0 rfl
  have a1 : wy.cell? ⟨w.heap.size, 1, none⟩ = some (.int .i64 C.D) := X0.cell 1 rfl
  have a2 : wy.cell? ⟨w.heap.size, 2, none⟩ = some (.int .i64 C.Hd) := X0.cell 2 rfl
  have a3 : wy.cell? ⟨w.heap.size, 3, none⟩ = some (.int .i64 C.H) := X0.cell 3 rfl
  have a4 : wy.cell? ⟨w.heap.size, 4, none⟩ = some (.int .i64 C.L) := X0.cell 4 rfl
  by_cases hq : q = 0
  · subst hq
    obtain ⟨V, D, Hd, H, L, ge, gB, gl, go, e1, e2, e3, e4, e5, hcs, MW⟩ := MM.ok rfl
    have hsh : shapeN V D Hd H L = 0 := by rw [← e1, ← e2, ← e3, ← e4, ← e5]; exact MM.err.symm
    obtain ⟨bs, GD⟩ := made_good (Hd := Hd) MW hsh
    have hws : (mkW V D L ge gB gl go).cells = ws := by rw [hcs]; rfl
    obtain ⟨VV, DD, HHd, HH, LL⟩ := C
    simp only at e1 e2 e3 e4 e5
    subst e1 e2 e3 e4 e5
    have GDM : Good wy V D Hd H L (mkW V D L ge gB gl go) bs (mdlS seed V D H L) := GD
    have hk := shape_ok hsh
    generalize mdlS seed V D H L = M at *
    generalize hWW : mkW V D L ge gB gl go = WW at *
    clear MM MW hcs GD hWW
    have RO := fun (wv : World) (hg : Good wv V D Hd H L WW bs M) (hT : Tab wv) (ao : Option Addr) (n ca : Nat) (Q : List Int) (mo : Int) (ha : IArg wv ao n ca Q) (hq : askedN V Q mo = 0) => run_ok V D Hd H L WW bs M ao n ca Q mo wv hg ha hT hq
    have RB := fun (wv : World) (hg : Good wv V D Hd H L WW bs M) (ao : Option Addr) (n ca : Nat) (Q : List Int) (mo : Int) (ha : IArg wv ao n ca Q) (hq : askedN V Q mo ≠ 0) => run_bad V D Hd H L WW bs M ao n ca Q mo wv hg ha hq
    have FO := fun (ao : Option Addr) (n ca : Nat) (A : List Int) (wv : World) (g2 : Good wv V D Hd H L WW bs M) (g5 : IArg wv ao n ca A) (g1 : Tab wv) (g6 : promptN V A = 0) => full_ok V D Hd H L WW bs M ao n ca A wv g2 g5 g1 g6
    rw [hws] at RO RB FO
    unfold cfgC at RO RB FO
    clear hws
    go_wp2_with (refine wpList_store_row rfl 32 _ _ rfl w2.heap.size ws rfl rfl 32 _ XZ (by rw [siz]; exact Tryd.infoW) (by rw [siz]; rfl) one ?_; rw [hwy])
    refine (CS _).mono ?_
    rintro e w4 ⟨rfl, B4⟩
    replace X0 := X0.below B4
    replace X1 := X1.below B4
    have G4 := GDM.below B4
    have D4 := below_then D3 B4
    have E4 := below_then E3 B4
    clear a0 a1 a2 a3 a4 hwz hwy XZ BZ BR CS D2 D3 E2 E3 GDM B4
    generalize smallN (D : Int) (H : Int) (L : Int) = sq at *
    by_cases hs0 : sq = 0
    · subst hs0
      go_wp2_with fail
      refine (CW _ D4).mono ?_
      rintro e wq ⟨rfl, Bq⟩
      go_wp2
      go_ret
      exact ⟨rfl, below_then D4 Bq⟩
    · have hs0' : (sq == 0) = false := by simpa using hs0
      by_cases hm : 6 < most
      · skip
        go_wp2_with fail
        refine (CW _ D4).mono ?_
        rintro e wq ⟨rfl, Bq⟩
        go_wp2
        go_ret
        exact ⟨rfl, below_then D4 Bq⟩
      · have hm' : ¬ 6 < most := hm
        have a0 : w4.cell? ⟨w.heap.size, 0, none⟩ = some (.int .i64 (V : Int)) := X0.cell 0 rfl
        have a1 : w4.cell? ⟨w.heap.size, 1, none⟩ = some (.int .i64 (D : Int)) := X0.cell 1 rfl
        have a2 : w4.cell? ⟨w.heap.size, 2, none⟩ = some (.int .i64 (Hd : Int)) := X0.cell 2 rfl
        have a3 : w4.cell? ⟨w.heap.size, 3, none⟩ = some (.int .i64 (H : Int)) := X0.cell 3 rfl
        have a4 : w4.cell? ⟨w.heap.size, 4, none⟩ = some (.int .i64 (L : Int)) := X0.cell 4 rfl
        have I4 := HI.out w4 E4
        by_cases hqa : askedN V P most = 0
        · obtain ⟨p1, p2, p3⟩ := asked_ok hqa
          obtain ⟨pp1, pp2, pp3⟩ := prompt_ok p1
          have hL1 := HL1.out
          have hPne : P ≠ [] := fun e => by rw [e] at pp1; simp at pp1
          have R5 := RO w4 G4 (HT.out _ D4) _ _ _ P most I4 hqa
          go_wp2_with (refine wpList_load_row rfl 32 _ rfl w2.heap.size rfl 32 ws (0, 0) _ X1 Tryd.underlying32 rfl (by rw [siz]; exact Tryd.infoW) ?_)
          refine R5.mono ?_
          rintro e w5 ⟨j, ya, yc, rfl, O5, k1, k2, B5⟩
          have eY : ∀ i, (runS M V D H Hd L P i).Y = runY M V D H Hd L P i := fun i => (runS_inv M V D H Hd L P hPne i).1
          simp only [eY] at O5 k1 k2
          obtain ⟨hk1, hk2, hk3, hk4, hk5, hk6, hk7, hk8, hk9, hk10⟩ := hk
          have hV1 : 1 ≤ V := by omega
          obtain ⟨j1, j2, j3, j4⟩ := best_len (M := M) (D := D) (H := H) (Hd := Hd) (L := L) (by omega) k1 k2
          have toks := runY_toks M (D := D) (H := H) (Hd := Hd) (L := L) hV1 P
          obtain ⟨x5, y5, e5, AY⟩ := IOwn.arg O5 (tok_small (by omega) (toks j))
          simp only [Value.slice.injEq, true_and] at e5
          obtain ⟨rfl, rfl⟩ := e5
          obtain ⟨yb, yo, eya, _⟩ := AY.row.cells (by omega)
          subst eya
          have S5 : GB w w5 V D Hd H L WW bs M ws w2.heap.size (some ⟨yb, yo, none⟩) yc j (runY M V D H Hd L P j) := ⟨X0.below B5, X1.below B5, G4.below B5, AY, below_then D4 B5⟩
          have I5 := I4.below B5
          clear a0 a1 a2 a3 a4 R5 O5 AY X0 X1 G4 I4 D4 E4 RO RB eY
          have hcount : (j : Int) ≤ most := by omega
          go_wp2_with fail
          go_loopg [13, 60] j (fun gg s13 s60 wr => ∃ (i : Nat) (ab : Nat) (ca : Nat), i ≤ j ∧ gg = j - i ∧ s60 = .int .i64 (i : Int) ∧ s13 = .slice (some ⟨ab, 0, none⟩) (l1 + i) ca ∧ IArg wr (some ⟨ab, 0, none⟩) (l1 + i) ca (P ++ runY M V D H Hd L P i) ∧ GB w wr V D Hd H L WW bs M ws w2.heap.size (some ⟨yb, yo, none⟩) yc j (runY M V D H Hd L P j))
          case atStart => exact ⟨0, b1, kq, by omega, by omega, rfl, rfl, by rw [show runY M V D H Hd L P 0 = [] from rfl, List.append_nil]; exact I5, S5⟩
          case round =>
            obtain ⟨i, ab, ca, hi, rfl, rfl, rfl, AA, S⟩ := hrel
            clear I5 S5
            by_cases hlt : i < j
            · obtain ⟨yb', yo', ey, hyc⟩ := S.ay.row.cells (by omega)
              simp only [Option.some.injEq, Addr.mk.injEq, and_true] at ey
              obtain ⟨rfl, rfl⟩ := ey
              have cy := hyc i hlt
              have et := runY_at M V D H Hd L P hlt
              have hnz := fun h => j4 i h
              rw [et] at cy hnz
              have hAall : (P ++ runY M V D H Hd L P i).all (tokB V) = true := by rw [List.all_append, pp3, toks i]; rfl
              have hAlen : (P ++ runY M V D H Hd L P i).length = l1 + i := by rw [List.length_append, runY_len, hL1]
              have hpr : promptN V (P ++ runY M V D H Hd L P i) = 0 := prompt_of hAall (by omega) (by omega)
              have eF := lik_full (M := M) (D := D) (H := H) (Hd := Hd) (L := L) hAall (by omega)
              have hnext : Hid (P ++ runY M V D H Hd L P (i + 1) = (P ++ runY M V D H Hd L P i) ++ [nextT M V D H Hd L (P ++ runY M V D H Hd L P i)]) := by show P ++ (runY M V D H Hd L P i ++ [_]) = _; rw [List.append_assoc]
              have hta : nextT M V D H Hd L (P ++ runY M V D H Hd L P i) = amax (fullX M V D H Hd L (P ++ runY M V D H Hd L P i)) V := by unfold nextT; rw [eF]
              have htb := amax_tok (fullX M V D H Hd L (P ++ runY M V D H Hd L P i)) hV1
              have htf := amax_first (fullX M V D H Hd L (P ++ runY M V D H Hd L P i)) V hV1
              rw [hta] at cy hnz hnext
              have CFu := FO _ _ _ _ _ S.gd AA (HT.out _ S.kp) hpr
              have HAL : Hid (∀ k, -9223372036854775808 ≤ el (P ++ runY M V D H Hd L P (i + 1)) k ∧ el (P ++ runY M V D H Hd L P (i + 1)) k ≤ 9223372036854775807) := tok_small (V := V) (by omega) (by rw [List.all_append, pp3, toks (i + 1)]; rfl)
              clear et hta eF hyc hpr hAall
              generalize fullX M V D H Hd L (P ++ runY M V D H Hd L P i) = F at *
              obtain ⟨tn, htn⟩ : ∃ tn : Nat, amax F V = tn := ⟨(amax F V).toNat, by omega⟩
              rw [htn] at cy hnz hnext htb htf
              simp only [Int.toNat_natCast] at htf
              clear htn
              generalize hAq : P ++ runY M V D H Hd L P i = A at *
              have HAq : Hid _ := hAq
              clear hAq
              have a0 := S.x0.cell 0 rfl
              have a1 := S.x0.cell 1 rfl
              have a2 := S.x0.cell 2 rfl
              have a3 := S.x0.cell 3 rfl
              have a4 := S.x0.cell 4 rfl
              have X1 := S.x1
              have htV : (tn : Int) < (V : Int) := htb.2
              have hzz : (tn : Int) = 0 → ¬ (i : Int) + 1 < (j : Int) := fun e h => hnz (by omega) e
              have HZZ : Hid _ := hzz
              clear hnz htb hzz
              go_wp2_with (refine wpList_load_row rfl 32 _ rfl w2.heap.size rfl 32 ws (0, 0) _ X1 Tryd.underlying32 rfl (by rw [siz]; exact Tryd.infoW) ?_)
              refine CFu.mono ?_
              rintro e w7 ⟨g7, gK, gV, rfl, F7, _, _, B7⟩
              have B8 : Below w7.heap.size w7 (w7.alloc (.cells #[.slice (some ⟨gK, 0, none⟩) L L, .slice (some ⟨gV, 0, none⟩) L L] 42)) := (Below.refl _ _).alloc (Nat.le_refl _) _
              have S8 := (S.below B7).below B8
              have A8 := (AA.below B7).below B8
              have F8 := F7.below B8
              clear a0 a1 a2 a3 a4 CFu X1 S AA F7
              generalize hw8 : w7.alloc (.cells #[.slice (some ⟨gK, 0, none⟩) L L, .slice (some ⟨gV, 0, none⟩) L L] 42) = w8 at *
              go_upto_region 13 with fail
              go_cut [15, 60, 95] from 60 to 129 (fun s15 s60 s95 wc => s15 = .int .i64 (tn : Int) ∧ s60 = .int .i64 (i : Int) ∧ s95 = .bool false ∧ wc = w8)
              case first =>
                have h00 : ¬ (tn : Int) < 0 := by omega
                have h01 : ¬ (V : Int) ≤ (tn : Int) := by omega
                by_cases hz2 : (i : Int) + 1 < (j : Int)
                · have hz : ¬ (tn : Int) = 0 := fun e => by have := HZZ.out e; omega
                  have hzb : ((tn : Int) == 0) = false := by simp; omega
                  go_wp2_with fail
                  all_goals go_meet
                  all_goals exact ⟨by first | rfl | (simp; omega), rfl, by first | rfl | (simp; done) | (simp; omega), rfl⟩
                · go_wp2_with fail
                  all_goals go_meet
                  all_goals exact ⟨by first | rfl | (simp; omega), rfl, by first | rfl | (simp; done) | (simp; omega), rfl⟩
              case rest =>
                obtain ⟨rfl, rfl, rfl, rfl⟩ := hcut
                clear hw8
                go_wp2_with fail
                go_loopg [98] V (fun gg s98 wv => ∃ k : Nat, k ≤ V ∧ gg = V - k ∧ s98 = .int .i64 (k : Int) ∧ wv = wc)
                case atStart => exact ⟨0, by omega, by omega, rfl, rfl⟩
                case round =>
                  obtain ⟨k, hk, rfl, rfl, rfl⟩ := hrel
                  by_cases hkV : k < V
                  · have ck := F8.cell hkV
                    have ct := F8.cell (show tn < V by omega)
                    obtain ⟨q1, q2⟩ := htf k hkV
                    generalize el F k = fk at *
                    generalize el F tn = ft at *
                    have q3 : ¬ ft < fk := by omega
                    by_cases hkt : (k : Int) < (tn : Int)
                    · have q4 := q2 hkt
                      have q5 : ¬ fk = ft := by omega
                      have q6 : (fk == ft) = false := by simp; omega
                      clear q2 htf
                      go_wp2_with fail
                      go_roundg (V - (k + 1))
                      case measure => omega
                      case rel => exact ⟨k + 1, by omega, rfl, by go_num, rfl⟩
                    · clear q2 htf
                      go_wp2_with fail
                      go_roundg (V - (k + 1))
                      case measure => omega
                      case rel => exact ⟨k + 1, by omega, rfl, by go_num, rfl⟩
                  · obtain rfl : V = k := by omega
                    obtain ⟨wq, hwq⟩ : ∃ wq, wq = wr := ⟨_, rfl⟩
                    have B9 : Below wr.heap.size wr (wr.alloc (.cells #[] 3)) := (Below.refl _ _).alloc (Nat.le_refl _) _
                    have O9 : (wr.alloc (.cells #[] 3)).ownsRow wr.heap.size 3 1 (.slice (some ⟨wr.heap.size, 0, none⟩) 0 0) 0 [] := World.ownsRow_made wr #[] 0 (Nat.le_refl _) (by decide) rfl
                    have s9 : wr.heap.size ≤ (wr.alloc (.cells #[] 3)).heap.size := by simp
                    have hv9 := (A8.below B9).row.vals
                    obtain ⟨i0, hi0, hz0, hz1, hz2⟩ := info_parts Tryd.infoInt
                    clear F8 htf hwq
                    go_wp2_with first
                      | (at_builtin; refine wpList_append_own _ rfl _ _ 25 rfl wr.heap.size 3 i0 (.int .i64 0) 1 8 Tryd.underlying25 hi0 hz0 hz1 hz2 rfl (by decide) _ (l1 + i) _ rfl O11 ⟨w10.heap.size, 0, none⟩ 1 1 [.int .i64 (tn : Int)] rfl rfl (one_cellB c11) (ints_oneCell .i64 [(tn : Int)]) (by unfold maxLen; omega) (by omega) (by omega) ?_; intro v12 w12 O12 G12 N12; obtain ⟨g12, c12, rfl⟩ := own_some O12 (by omega))
                      | (at_builtin; refine wpList_append_own _ rfl _ _ 25 rfl wr.heap.size 3 i0 (.int .i64 0) 1 8 Tryd.underlying25 hi0 hz0 hz1 hz2 rfl (by decide) _ 0 [] rfl O9 ⟨ab, 0, none⟩ (l1 + i) ca (A.map (Value.int .i64)) rfl (by simp; omega) hv9 (ints_oneCell _ _) (by unfold maxLen; omega) (by omega) (by omega) ?_; intro v10 w10 O10 G10 N10; rw [Nat.zero_add, List.nil_append] at O10; have s10 := G10.size; have O11 := own_alloc O10 (.cells #[.int .i64 (tn : Int)] 3); have c11 := (blk_new w10 3 #[.int .i64 (tn : Int)]).cell 0 (v := .int .i64 (tn : Int)) rfl; have B11 : Below w10.heap.size w10 (w10.alloc (.cells #[.int .i64 (tn : Int)] 3)) := (Below.refl _ _).alloc (Nat.le_refl _) _; have s11 : (w10.alloc (.cells #[.int .i64 (tn : Int)] 3)).heap.size = w10.heap.size + 1 := (by simp))
                    go_roundg (j - (i + 1))
                    case measure => omega
                    case rel =>
                      have b10 := B9.grown G10 s9 (fun q hq => by have := Option.some.inj hq; simp at this; omega)
                      have b11 := b10.trans (B11.mono (by omega))
                      have b12 := b11.grown G12 (by omega) (fun q hq => (World.ownsRow.lt O11 q hq).1)
                      have O13 : IOwn w12 wr.heap.size (.slice (some ⟨g12, 0, none⟩) (l1 + i + 1) c12) (l1 + i + 1) (A ++ [(tn : Int)]) := by unfold IOwn; rw [List.map_append]; exact O12
                      have hal := HAL.out
                      rw [hnext.out] at hal
                      obtain ⟨x13, y13, e13, A13⟩ := IOwn.arg O13 hal
                      simp only [Value.slice.injEq, true_and] at e13
                      obtain ⟨rfl, rfl⟩ := e13
                      exact ⟨i + 1, g12, c12, by omega, rfl, by go_num, by rw [← Nat.add_assoc], by rw [← Nat.add_assoc, hnext.out]; exact A13, S8.below b12⟩
            · obtain rfl : j = i := by omega
              obtain ⟨yb', yo', ey, hyc⟩ := S.ay.row.cells (by omega)
              simp only [Option.some.injEq, Addr.mk.injEq, and_true] at ey
              obtain ⟨rfl, rfl⟩ := ey
              obtain ⟨jj, rfl⟩ : ∃ jj, j = jj + 1 := ⟨j - 1, by omega⟩
              have C9 := CW _ S.kp
              have HY : Hid (∀ v, Below wr.heap.size wr v → v.cell? ⟨yb, yo + jj, none⟩ = some (.int .i64 (el (runY M V D H Hd L P (jj + 1)) jj))) := fun v hb => by
                have h1 := (S.ay.below hb).row.cells (by omega)
                obtain ⟨b', o', e', hc'⟩ := h1
                simp only [Option.some.injEq, Addr.mk.injEq, and_true] at e'
                obtain ⟨rfl, rfl⟩ := e'
                exact hc' jj (by omega)
              simp only [Nat.add_sub_cancel] at j3
              generalize el (runY M V D H Hd L P (jj + 1)) jj = lastT at *
              have hcount' : (jj : Int) + 1 ≤ most := by omega
              have j3' : ((jj : Int) + 1 = most) ∨ (¬ (jj : Int) + 1 = most ∧ lastT = 0) := by
                by_cases h : (jj : Int) + 1 = most
                · exact Or.inl h
                · exact Or.inr ⟨h, j3.resolve_left (by omega)⟩
              clear hcount j3
              rcases j3' with h | ⟨h, rfl⟩
              · go_wp2_with (go_at_call 8; refine C9.mono ?_; rintro e w20 ⟨rfl, B20⟩)
                go_ret
                exact ⟨rfl, below_then S.kp B20⟩
              · go_wp2_with (go_at_call 8; refine C9.mono ?_; rintro e w20 ⟨rfl, B20⟩; have cl := HY.out _ B20)
                go_ret
                exact ⟨rfl, below_then S.kp B20⟩
        · have hqb := RB w4 G4 _ _ _ P most I4 hqa
          have hqa' : (askedN V P most == 0) = false := by simpa using hqa
          generalize askedN V P most = qa at *
          go_wp2_with (refine wpList_load_row rfl 32 _ rfl w2.heap.size rfl 32 ws (0, 0) _ X1 Tryd.underlying32 rfl (by rw [siz]; exact Tryd.infoW) ?_)
          refine hqb.mono ?_
          rintro e w5 ⟨rfl, B5⟩
          have D5 := below_then D4 B5
          clear a0 a1 a2 a3 a4
          go_wp2_with fail
          refine (CW _ D5).mono ?_
          rintro e wq ⟨rfl, Bq⟩
          go_wp2
          go_ret
          exact ⟨rfl, below_then D5 Bq⟩
  · have hq' : (q == 0) = false := by simpa using hq
    go_wp2_with (refine wpList_store_row rfl 32 _ _ rfl w2.heap.size ws rfl rfl 32 _ XZ (by rw [siz]; exact Tryd.infoW) (by rw [siz]; rfl) one ?_; rw [hwy])
    refine (CW _ D3).mono ?_
    rintro e w4 ⟨rfl, B4⟩
    go_wp2
    go_ret
    exact ⟨rfl, below_then D3 B4⟩
end Go.Proofs.YteemdioodaoeiaaDoor

/- The given statement on GreedyBest: at every input the law returns true and its arguments read as before; the listed table lies as the program's text lays it (the card ties it). -/
namespace Go.Proofs.YteemdioodaoeiaaDoor.greedyBest
open Go.ChangeShapes Go.WideShapes Go.ChangeAt Go.WideMaps Go.WideElems Go.RowKit
set_option linter.unusedVariables false
abbrev lst : List (String × DataW Unit) := Rows.greedyBestRow.laid
theorem door_met (os : Os) (args : Array Value) : laidMetH Tryd.prog lst ((World.doorLaid Tryd.prog 14 os).forCall (fun _ _ => 0) ⟨#[], args, []⟩).memory :=
  laidMetH_of_parts3 (fuel := 8) (laidMet_of_run' 8 (by kernel_rfl) (by kernel_rfl)) (by kernel_rfl) (by kernel_rfl)
set_option maxRecDepth 100000 in
theorem lifted (os : Os) (started : os.Started) (H : Type) (enc : TypeId × Value → H) :
    ReturnsInHanded {} Tryd.checked os 3 .any (fun w args => (Rows.greedyBestSpec.pre enc Tryd.prog Tryd.f3 [] false w args ∧ laidMetH Tryd.prog lst w) ∧ sizedMet enc Tryd.prog Tryd.f3 (OpenSpec.ofChange Rows.greedyBestSpec) false w args)
      (Rows.greedyBestSpec.post enc Tryd.prog Tryd.f3 false true false false) := by
  refine returnsInHanded_of_change_and (C := Tryd.checked) (X := fun w _ => laidMetH Tryd.prog lst w) (fun _ _ _ hh h => h.of_heap hh) Tryd.own started (by kernel_rfl) Tryd.func3
    (ChangeSpec.witness_shaped (enc := enc) (C := Tryd.checked) (os := os) (X := fun w _ => laidMetH Tryd.prog lst w) false (World.doorLaid Tryd.prog 14 os) #[.agg #[.int .i64 0, .int .i64 0, .int .i64 0, .int .i64 0, .int .i64 0], .int .u64 0, .slice none 0 0, .int .i64 0] 8 rfl (World.shaped_of_RefB (by kernel_rfl) (by kernel_rfl)) (by kernel_rfl) (by kernel_rfl) (by kernel_rfl) (door_met os _)) ?_
  intro W base args ds gs before hval0 hW _ _ hL _
  have hval : ∀ (j : Nat) t v, Tryd.f3.params[j]? = some t → args[j]? = some v → Value.okWide Tryd.prog W .any base t v := hval0
  have hW' := hW
  obtain ⟨p, q, hA0, hV, rfl, _, _⟩ := hW
  have hA : DataW.TrodAll enc Tryd.prog W 0 (fun _ => true) true Tryd.f3.params.toList args.toList ds p := hA0
  rw [Tryd.params3] at hA hval
  obtain ⟨v0, vs0, d0, ds0, p0, q0, hargs, rfl, rfl, h0, r0⟩ := trodAll_cons hA
  obtain ⟨v1, vs1, d1, ds1, p1, q1, rfl, rfl, rfl, h1, r1⟩ := trodAll_cons r0
  obtain ⟨v2, vs2, d2, ds2, p2, q2, rfl, rfl, rfl, h2, r2⟩ := trodAll_cons r1
  obtain ⟨v3, vs3, d3, ds3, p3, q3, rfl, rfl, rfl, h3, r3⟩ := trodAll_cons r2
  obtain ⟨rfl, rfl, rfl⟩ := trodAll_nil r3
  obtain rfl : args = #[v0, v1, v2, v3] := by cases args; simp_all
  obtain ⟨rfl, rfl⟩ := trodVars_none hV
  have k0 := h0
  obtain ⟨C0, rfl, g0⟩ := viewCfg (hval 0 _ v0 rfl rfl) h0
  have k1 := h1
  obtain ⟨a1, rfl, rfl, rfl, w1⟩ := open_int Tryd.underlying24 (hval 1 24 v1 rfl rfl) h1
  have b1 := bounds_u64 w1
  have k2 := h2
  obtain ⟨a2, n2, c2, Z2, rfl, g2⟩ := viewI (hval 2 _ v2 rfl rfl) h2
  have k3 := h3
  obtain ⟨a3, rfl, rfl, rfl, w3⟩ := open_int Tryd.underlying3 (hval 3 3 v3 rfl rfl) h3
  have b3 := bounds_i64 w3
  clear hA0 hval0
  simp only [List.append_nil] at hW'
  have hlt : ∀ x ∈ p0 ++ p2, x.block < W.heap.size := fun x hx => by
    have hx2 := hx
    exact hW'.lt x (by grind)
  refine (greedyBest_walk C0 a1 a2 n2 c2 Z2 a3 W g0 b1 g2 b3 (tab_of_laid hL)).mono fun e W' ⟨he, hb⟩ => ?_
  subst he
  exact ⟨_, rfl, _, _, _, [], _, [], hW', trodAll_mk1 (shut_bool Tryd.underlying4 true), trodAll_cons_mk (Below.trod Tryd.laidOut (by kernel_rfl) (of_decide_eq_true (by kernel_rfl)) k0 hb (fun x hx => hlt x (by simp [hx]))) (trodAll_cons_mk (shut_int Tryd.underlying24 w1) (trodAll_cons_mk (Below.trod Tryd.laidOut (by kernel_rfl) (of_decide_eq_true (by kernel_rfl)) k2 hb (fun x hx => hlt x (by simp [hx]))) (trodAll_cons_mk (shut_int Tryd.underlying3 w3) trodAll_mk0))), rfl, hb.frame _, fun h => by cases h⟩
theorem row_holds : Rows.GreedyBestSaid :=
  OpenClaim.holds_of_wide 3 Tryd.f3 rfl rfl rfl rfl rfl rfl rfl ⟨rfl, rfl, rfl, rfl, rfl⟩ rfl rfl rfl rfl rfl (by kernel_rfl) Tryd.func3 (by kernel_rfl)
    (of_decide_eq_true (by kernel_rfl)) (by unfold Func.isWrapper; first | (rw [if_pos (by decide +kernel)]; kernel_rfl) | (rw [if_neg (by decide +kernel)]; exact ⟨rfl, rfl⟩))
    (fun os started H enc _ => lifted os started H enc)
/-- The given statement. -/
theorem card_holds : Rows.GreedyBestCardSaid :=
  Claim7.holds_tied_plain_at .later [] [.data] true (true, "36767cbc29991400523b7d5504c026f1ace3ea92126ab5e487c0b84f32640017") false
    row_holds (fun _ h => by cases h) (by kernel_rfl) (fun _ h => by cases h) greedyBest_row_tie rfl ⟨rfl, rfl⟩ (by kernel_rfl) rfl
    (fun f fn hf hfn => by
      obtain rfl : f = 3 := Option.some.inj ((show Tryd.prog.funcNamed Rows.greedyBestRow.func = some 3 by kernel_rfl).symm.trans hf) |>.symm
      obtain rfl : fn = Tryd.f3 := (Option.some.inj (Tryd.func3.symm.trans hfn)).symm
      exact ⟨by kernel_rfl, fun j t ht => by
        rw [Tryd.params3] at ht
        have hm : t ∈ [23, 24, 25, 3] := by simpa using Array.mem_of_getElem? ht
        have hall : ([23, 24, 25, 3].all fun u => !Tryd.prog.wantsStandIn u) = true := by kernel_rfl
        exact (show Tryd.prog.wantsStandIn t = false by simpa using List.all_eq_true.1 hall t hm)⟩)
    (by kernel_rfl)
end Go.Proofs.YteemdioodaoeiaaDoor.greedyBest
namespace Go.Proofs.YteemdioodaoeiaaDoor
theorem greedyBest_holds : Rows.GreedyBestCardSaid := greedyBest.card_holds
#print axioms greedyBest_holds
end Go.Proofs.YteemdioodaoeiaaDoor
