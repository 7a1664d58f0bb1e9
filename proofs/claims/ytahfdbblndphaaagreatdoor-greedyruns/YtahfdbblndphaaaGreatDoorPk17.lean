/- Contracts of the program's functions, part 17 of 17: what each call returns and leaves of memory. -/
import Derived.Test.YtahfdbblndphaaaGreatDoorPk5
import Derived.Test.YtahfdbblndphaaaGreatDoorPk4
import Derived.Test.YtahfdbblndphaaaGreatDoorPk6
import Derived.Test.YtahfdbblndphaaaGreatDoorPk2
import Derived.LaidMore
import Derived.Lib.LaidTab
import Derived.Stop.Joined
import Derived.Test.YtahfdbblndphaaaGreatDoorPk11
import Derived.Deep.Matrix
import Derived.Deep.Slices
import Derived.Lib.SmallJoins
/- Small shapes, and rows of tokens that are the same. -/
namespace Go.Proofs.YtahfdbblndphaaaGreatDoor
open Go.ChangeShapes Go.WideShapes Go.ChangeAt Go.RowKit
/-- Is a shape a small one? -/
def smallN (D H L : Int) : Int := if 8 < D ∨ 8 < H ∨ 2 < L then 0 else 1
theorem small8_any (V D Hd H L : Int) (w : World) : Calls Tryz.prog 6 #[.agg (cfgC V D Hd H L)] w fun e w' => e = .returned (.int .i64 (smallN D H L)) ∧ Below w.heap.size w w' := by
  have X0 := blk_new w 23 (cfgC V D Hd H L)
  have B0 : Below w.heap.size w (w.alloc (.cells (cfgC V D Hd H L) 23)) := (Below.refl _ _).alloc (Nat.le_refl _) _
  unfold cfgC at *
  generalize hw0 : w.alloc (.cells #[.int .i64 V, .int .i64 D, .int .i64 Hd, .int .i64 H, .int .i64 L] 23) = w0 at *
  have a1 : w0.cell? ⟨w.heap.size, 1, none⟩ = some (.int .i64 D) := X0.cell 1 rfl
  have a3 : w0.cell? ⟨w.heap.size, 3, none⟩ = some (.int .i64 H) := X0.cell 3 rfl
  have a4 : w0.cell? ⟨w.heap.size, 4, none⟩ = some (.int .i64 L) := X0.cell 4 rfl
  have HN : Hid (smallN D H L = if 8 < D ∨ 8 < H ∨ 2 < L then 0 else 1) := rfl
  generalize smallN D H L = res at *
  by_cases h1 : 8 < D
  · have HF : Hid (res = 0) := by show _ = _; rw [HN.out, if_pos (Or.inl h1)]
    clear HN
    go_enter Tryz.func6, Tryz.ntmps6
    go_wp2
    go_ret
    exact ⟨ret_int HF.out.symm, B0⟩
  · by_cases h2 : 8 < H
    · have HF : Hid (res = 0) := by show _ = _; rw [HN.out, if_pos (Or.inr (Or.inl h2))]
      clear HN
      go_enter Tryz.func6, Tryz.ntmps6
      go_wp2
      go_ret
      exact ⟨ret_int HF.out.symm, B0⟩
    · by_cases h3 : 2 < L
      · have HF : Hid (res = 0) := by show _ = _; rw [HN.out, if_pos (Or.inr (Or.inr h3))]
        clear HN
        go_enter Tryz.func6, Tryz.ntmps6
        go_wp2
        go_ret
        exact ⟨ret_int HF.out.symm, B0⟩
      · have HF : Hid (res = 1) := by show _ = _; rw [HN.out, if_neg (by omega)]
        clear HN
        go_enter Tryz.func6, Tryz.ntmps6
        go_wp2
        go_ret
        exact ⟨ret_int HF.out.symm, B0⟩
theorem refSameI_eq (ao bo : Option Addr) (n ca cb : Nat) (A : List Int) (w : World) (hA : IRowAt w ao n A) (hB : IRowAt w bo n A) :
   Calls Tryz.prog 12 #[.slice ao n ca, .slice bo n cb] w fun e w' => e = .returned (.bool true) ∧ ∃ m, w' = w.drewN m := by
  have hn := hA.max
  go_enter Tryz.func12, Tryz.ntmps12
  go_wp2
  go_loopg [13] n (fun r i wr => ∃ k : Nat, k ≤ n ∧ r = n - k ∧ i = .int .i64 k ∧ ∃ m, wr = w.drewN m)
  case atStart => exact ⟨0, by omega, by omega, rfl, 0, rfl⟩
  case round =>
    obtain ⟨k, hk, rfl, rfl, m0, hw0⟩ := hrel
    replace hA : IRowAt wr ao n A := hw0 ▸ hA.below (below_drewN (Below.refl _ _) m0)
    replace hB : IRowAt wr bo n A := hw0 ▸ hB.below (below_drewN (Below.refl _ _) m0)
    have HW : Hid (wr = w.drewN m0) := hw0
    clear hw0
    by_cases hlt : k < n
    · obtain ⟨b, o, rfl, hc⟩ := hA.cells (by omega)
      obtain ⟨b', o', rfl, hc'⟩ := hB.cells (by omega)
      have c1 := hc k hlt
      have c2 := hc' k hlt
      clear hA hB hc hc'
      go_wp2_with fail
      go_quiet (fail)
      go_wp2
      go_roundg (n - (k + 1))
      case measure => omega
      case rel => exact ⟨k + 1, by omega, rfl, by go_num, m0 + nq, by rw [HW.out, World.drewN_drewN]⟩
    · obtain rfl : k = n := by omega
      go_wp2
      go_ret
      exact ⟨rfl, m0, HW.out⟩
theorem refSameI2 (ao bo : Option Addr) (n1 n2 n ca cb : Nat) (A B : List Int) (w : World) (h1 : n1 = n) (h2 : n2 = n) (hAB : A = B) (hA : IRowAt w ao n A) (hB : IRowAt w bo n B) :
   Calls Tryz.prog 12 #[.slice ao n1 ca, .slice bo n2 cb] w fun e w' => e = .returned (.bool true) ∧ ∃ m, w' = w.drewN m := by
  subst h1 h2 hAB
  exact refSameI_eq ao bo _ ca cb A w hA hB
theorem IArg.drop {w : World} {b o n ca : Nat} {A : List Int} (h : IArg w (some ⟨b, o, none⟩) n ca A) {m : Nat} (hm : m ≤ n) : IRowAt w (some ⟨b, o + m, none⟩) (n - m) (A.drop m) := by
  have hl := h.row.len
  refine ⟨by rw [List.length_drop]; omega, by have := h.row.max; omega, fun k => ?_, fun hn => ?_⟩
  · rw [el_drop]; exact h.row.small _
  · obtain ⟨b', o', e, hc⟩ := h.row.cells (by omega)
    simp only [Option.some.injEq, Addr.mk.injEq, and_true] at e
    obtain ⟨rfl, rfl⟩ := e
    refine ⟨b, o + m, rfl, fun t ht => ?_⟩
    rw [el_drop, Nat.add_assoc]
    exact hc _ (by omega)
end Go.Proofs.YtahfdbblndphaaaGreatDoor

/- The table of steps lies in its block, wherever the row's listed variable reads as listed. -/
namespace Go.Proofs.YtahfdbblndphaaaGreatDoor
open Go.ChangeShapes Go.WideShapes Go.ChangeAt Go.RowKit
theorem gSteps : Tryz.prog.globalNamed "tiller/curve.steps" = some 0 := by kernel_rfl
theorem tSteps : (Tryz.prog.globals[0]?).map (·.type) = some 143 := by kernel_rfl
theorem cSteps : Tryz.prog.cellsOf 143 = 65 := by kernel_rfl
theorem cNum : Tryz.prog.cellsOf 69 = 1 := by kernel_rfl
theorem tab_of_laid {W : World} (h : laidMetH Tryz.prog [("tiller/curve.steps", Rows.laid_tiller_curve_steps)] W) : Tab W := by
  rw [MakeChecks.laidMetH_plain _ _ _ (by kernel_rfl)] at h
  have h' : laidMet Tryz.prog [("tiller/curve.steps", Lib.tabData .i32 (stp.map fun (n : Nat) => (n : Int)))] W := h
  have ht := Lib.tabIs_of_head gSteps tSteps Tryz.underlying143 Tryz.underlying69 cNum cSteps h'
  unfold Lib.TabIs World.var? at ht
  rw [gSteps] at ht
  simp only [Option.bind_some] at ht
  split at ht
  · rename_i cs t fr hc
    refine ⟨t, fr, ?_⟩
    rw [hc]
    simp only [Option.some.injEq] at ht
    rw [ht]
    simp [tabCells]
  · cases ht
end Go.Proofs.YtahfdbblndphaaaGreatDoor

/- An argument that is a row of whole numbers, opened once: nil, empty or not. -/
namespace Go.Proofs.YtahfdbblndphaaaGreatDoor
open Go.ChangeShapes Go.WideShapes Go.ChangeAt Go.RowKit
theorem Tryz.cellsInt : Tryz.prog.cellsOf 3 = 1 := by kernel_rfl
theorem viewI_cells {H : Type} {enc : TypeId × Value → H} {W : World} {fuel : Nat} {cs : List Value} {x : DataW H × List MemPlace}
    (hf : DataW.trod enc Tryz.prog W 0 (fun _ => true) true fuel 30 cs = some x) :
    ∃ (a0 : Option Addr) (len cap : Nat) (Z : List Int), cs = [.slice a0 len cap] ∧ IArg W a0 len cap Z := by
  rcases open_ints Tryz.underlying30 Tryz.underlying3 Tryz.cellsInt hf with ⟨hcs, hx⟩ | ⟨a, len', cap', zs, hcs, _, hl, hm, hz, hx, hcell, hwz⟩
  · exact ⟨none, 0, 0, [], hcs, iarg_nil _⟩
  · simp only [if_true] at hz
    unfold maxLen at hm
    refine ⟨some a, len', cap', zs.take len', hcs, ⟨by simp; omega, by omega, fun k => ?_, fun hn => ?_⟩, hl, by omega, fun h => by cases h⟩
    · rcases Nat.lt_or_ge k (zs.take len').length with hk | hk
      · exact bounds_i64 (hwz _ (List.mem_of_mem_take (el_mem hk)))
      · rw [el_over hk]; omega
    · obtain ⟨b, o, s⟩ := a
      have h0 := hcell 0 (by omega)
      have hs : s = none := by simpa [Addr.add] using World.cell?_spot h0
      subst hs
      refine ⟨b, o, rfl, fun t ht => ?_⟩
      have e : (Addr.mk b o none).add t = ⟨b, o + t, none⟩ := by simp [Addr.add]
      rw [← e, hcell t (by omega), el_take ht]
      rfl
set_option maxRecDepth 100000 in
theorem viewI {H : Type} {enc : TypeId × Value → H} {W : World} {b0 : Nat} {v : Value} {d : DataW H} {p : List MemPlace} (hv : Value.okWide Tryz.prog W .any b0 30 v)
    (h : DataW.Trod enc Tryz.prog W 0 (fun _ => true) true 30 v d p) : ∃ (a0 : Option Addr) (len cap : Nat) (Z : List Int), v = .slice a0 len cap ∧ IArg W a0 len cap Z := by
  obtain ⟨a0, la, ca, rfl⟩ := okWide_slice Tryz.underlying30 hv
  obtain ⟨f, hf⟩ := h
  obtain ⟨a1, l1, c1, Z, e, hA⟩ := viewI_cells hf
  simp [Value.cells] at e
  obtain ⟨rfl, rfl, rfl⟩ := e
  exact ⟨_, _, _, Z, rfl, hA⟩
end Go.Proofs.YtahfdbblndphaaaGreatDoor

/- Told, Of and Copy of layer 9 over any view. -/
namespace Go.Proofs.YtahfdbblndphaaaGreatDoor
open Go.ChangeShapes Go.WideShapes Go.ChangeAt Go.RowKit
/-- A view that came in. -/
structure VwR (w : World) (v : VwV) (X : Vw) : Prop where
  t : IArg w v.t.ao v.t.n v.t.c X.T
  k : CubeR w v.k.ao v.k.n X.K
  v : CubeR w v.v.ao v.v.n X.V
theorem VwR.below {w w' : World} {v : VwV} {X : Vw} (h : VwR w v X) (hb : Below w.heap.size w w') : VwR w' v X := ⟨h.t.below hb, h.k.below hb, h.v.below hb⟩
theorem VwAt.raw {w : World} {v : VwV} {X : Vw} (h : VwAt w v X) : VwR w v X := ⟨h.t, h.k.raw, h.v.raw⟩
def cutVw (X : Vw) : Vw := ⟨X.T.take 130, cutC X.K 130, cutC X.V 130⟩
theorem rowsN_twice (R : List (List Int)) (n : Nat) : rowsN (rowsN R n) n = rowsN R n := by
  unfold rowsN
  rw [← List.map_take, List.take_take, Nat.min_self, List.map_map]
  congr 1
  funext l
  show List.take 40 (List.take 40 l) = List.take 40 l
  rw [List.take_take, Nat.min_self]
theorem cutC_twice (C : List (List (List Int))) (n : Nat) : cutC (cutC C n) n = cutC C n := by
  unfold cutC
  rw [← List.map_take, List.take_take, Nat.min_self, List.map_map]
  congr 1
  funext R
  exact rowsN_twice R n
theorem cutVw_twice (X : Vw) : cutVw (cutVw X) = cutVw X := by
  unfold cutVw
  simp only [cutC_twice, List.take_take, Nat.min_self]
theorem cutC_mem {C : List (List (List Int))} {n : Nat} {R : List (List Int)} (h : R ∈ cutC C n) : R.length ≤ n ∧ (∀ t, (rowOf R t).length ≤ 40) ∧ rowsN R n = R := by
  obtain ⟨S, _, rfl⟩ := List.mem_map.1 h
  exact ⟨by unfold rowsN; rw [List.length_map, List.length_take]; omega, fun t => rowsN_len S n t, rowsN_twice S n⟩
theorem cutC_at_most (C : List (List (List Int))) (n : Nat) : (cutC C n).length ≤ 5 := by rw [cutC_len]; omega
theorem ToldAt.raw {w : World} {t k v : Sl} {X : Vw} (h : ToldAt w t k v X) : VwR w ⟨t, k, v⟩ X := ⟨h.t, h.k.raw, h.v.raw⟩
theorem KV.cubeR {w : World} {g m : Nat} {p : Nat → Prop} {A C : List (List (List Int))} (h : KV w g m 0 p A C) (hl : C.length = m) (hm : m ≤ 9223372036854775807) (hr : ∀ R ∈ C, R.length ≤ 4096) : CubeAt w (some ⟨g, 0, none⟩) m C := by
  obtain ⟨cs, h1, h2, _, h4⟩ := h.row
  refine ⟨hl, hm, fun _ => ⟨g, 0, rfl, fun t R hR => ?_⟩⟩
  have ht : t < m := by have := (List.getElem?_eq_some_iff.1 hR).1; omega
  obtain ⟨ro, n, vs, e, q1, N⟩ := h4 t (by omega) ht
  have e2 : C.getD t [] = R := by rw [List.getD_eq_getElem?_getD, hR]; rfl
  rw [e2] at N
  have G := N.now.grid
  have hl2 := hr R (List.mem_of_getElem? hR)
  have hn := G.len
  refine ⟨ro, n, n, ?_, q1, Nat.le_refl _, by omega, G⟩
  rw [Nat.zero_add]
  unfold World.cell?
  simp only [h1]
  exact e
theorem cutVw_bounds {X : Vw} (hX : cutVw X = X) : X.T.length ≤ 130 ∧ X.K.length ≤ 5 ∧ X.V.length ≤ 5 ∧ (∀ R ∈ X.K, R.length ≤ 130 ∧ (∀ t, (rowOf R t).length ≤ 40) ∧ rowsN R 130 = R) ∧ ∀ R ∈ X.V, R.length ≤ 130 ∧ (∀ t, (rowOf R t).length ≤ 40) ∧ rowsN R 130 = R := by
  have h1 : X.T.take 130 = X.T := congrArg Vw.T hX
  have h2 : cutC X.K 130 = X.K := congrArg Vw.K hX
  have h3 : cutC X.V 130 = X.V := congrArg Vw.V hX
  refine ⟨by rw [← h1, List.length_take]; omega, by rw [← h2]; exact cutC_at_most _ _, by rw [← h3]; exact cutC_at_most _ _, fun R hR => cutC_mem (by rw [h2]; exact hR), fun R hR => cutC_mem (by rw [h3]; exact hR)⟩
/-- Copy of any view that was cut. -/
theorem scopyR_any (v : VwV) (X : Vw) (w : World) (hv : VwAt w v X) (hX : cutVw X = X) :
   Calls Tryz.prog 52 #[.agg v.cells] w fun e w' => ∃ v2 : VwV, e = .returned (.agg v2.cells) ∧ VwAt w' v2 X ∧ Below w.heap.size w w' := by
  obtain ⟨h1, h2, h3, h4, h5⟩ := cutVw_bounds hX
  refine (scopy_any v X [] [] w hv (by omega) (by omega) (by omega) (fun R hR => ⟨by have := (h4 R hR).1; omega, fun t ht => by have := (h4 R hR).2.1 t; omega⟩) (fun R hR => ⟨by have := (h5 R hR).1; omega, fun t ht => by have := (h5 R hR).2.1 t; omega⟩)).mono ?_
  rintro e w' ⟨tv, gk, gv, rfl, O, K1, K2, _, _, _, B⟩
  obtain ⟨ao, c, rfl, A⟩ := IOwn.arg O hv.t.row.small
  exact ⟨⟨⟨ao, X.T.length, c⟩, ⟨some ⟨gk, 0, none⟩, X.K.length, X.K.length⟩, ⟨some ⟨gv, 0, none⟩, X.V.length, X.V.length⟩⟩, rfl, ⟨A, K1.cubeR rfl (by omega) (fun R hR => by have := (h4 R hR).1; omega), K2.cubeR rfl (by omega) (fun R hR => by have := (h5 R hR).1; omega)⟩, B⟩
end Go.Proofs.YtahfdbblndphaaaGreatDoor

/- Arguments that are rows of rows of fixed numbers, lists of them, and views, opened once. -/
namespace Go.Proofs.YtahfdbblndphaaaGreatDoor
open Go.ChangeShapes Go.WideShapes Go.ChangeAt Go.RowKit
theorem Tryz.cellsRowR : Tryz.prog.cellsOf 24 = 1 := by kernel_rfl
theorem Tryz.cellsGridR : Tryz.prog.cellsOf 94 = 1 := by kernel_rfl
theorem viewRow_cells {H : Type} {enc : TypeId × Value → H} {W : World} {fuel : Nat} {cs : List Value} {x : DataW H × List MemPlace}
    (hf : DataW.trod enc Tryz.prog W 0 (fun _ => true) true fuel 24 cs = some x) :
    ∃ (a0 : Option Addr) (len cap : Nat) (Z : List Int), cs = [.slice a0 len cap] ∧ ArgR W a0 len cap Z := by
  rcases open_ints Tryz.underlying24 Tryz.underlying69 Tryz.cellsNum hf with ⟨hcs, hx⟩ | ⟨a, len', cap', zs, hcs, _, hl, hm, hz, hx, hcell, hwz⟩
  · exact ⟨none, 0, 0, [], hcs, RowAt.nil _ _, Nat.le_refl _, by omega, fun _ => rfl⟩
  · simp only [if_true] at hz
    unfold maxLen at hm
    refine ⟨some a, len', cap', zs.take len', hcs, ⟨by simp; omega, by omega, fun y hy => bounds_i32 (hwz y (List.mem_of_mem_take hy)), fun hn => ?_⟩, hl, by omega, fun h => by cases h⟩
    obtain ⟨b, o, s⟩ := a
    have h0 := hcell 0 (by omega)
    have hs : s = none := by simpa [Addr.add] using World.cell?_spot h0
    subst hs
    refine ⟨b, o, rfl, fun t ht => ?_⟩
    have e : (Addr.mk b o none).add t = ⟨b, o + t, none⟩ := by simp [Addr.add]
    rw [← e, hcell t (by omega), el_take ht]
    rfl
theorem viewGrid_cells {H : Type} {enc : TypeId × Value → H} {W : World} {fuel : Nat} {cs : List Value} {x : DataW H × List MemPlace}
    (hf : DataW.trod enc Tryz.prog W 0 (fun _ => true) true fuel 94 cs = some x) :
    ∃ (a0 : Option Addr) (len cap : Nat) (Z : List (List Int)), cs = [.slice a0 len cap] ∧ (a0 = none → cap = 0) ∧ len ≤ cap ∧ cap ≤ 9223372036854775807 ∧ GridR W a0 len Z := by
  rcases Deep.open_slice1 Tryz.underlying94 Tryz.cellsRowR hf with ⟨hcs, hx⟩ | ⟨a, len, cap, m, n, V, D, Pl, rfl, hb, hl, hm, hmm, rfl, hx⟩
  · exact ⟨none, 0, 0, [], hcs, fun _ => rfl, Nat.le_refl _, by omega, GridR.nil _ _⟩
  · simp only [if_true] at hmm
    subst hmm
    unfold maxLen at hm
    have each : ∀ i, i < m → ∃ z : (Option Addr × Nat × Nat × List Int), W.cell? (a.add i) = some (.slice z.1 z.2.1 z.2.2.1) ∧ ArgR W z.1 z.2.1 z.2.2.1 z.2.2.2 := fun i hi => by
      obtain ⟨h1, h2⟩ := hx i hi
      obtain ⟨a0, l, c, Z, e, hA⟩ := viewRow_cells h2
      simp only [List.cons.injEq, and_true] at e
      exact ⟨(a0, l, c, Z), by rw [h1, e], hA⟩
    obtain ⟨q, hq⟩ := Deep.choose_lt each
    refine ⟨some a, len, m, (List.range len).map fun t => (q t).2.2.2, rfl, (fun h => by cases h), hl, by omega, by simp, by omega, fun hn => ?_⟩
    obtain ⟨b, o, s⟩ := a
    have h0 := (hq 0 (by omega)).1
    have hs : s = none := by simpa [Addr.add] using World.cell?_spot h0
    subst hs
    refine ⟨b, o, rfl, fun t ht => ?_⟩
    obtain ⟨h1, h2⟩ := hq t (by omega)
    have e : (Addr.mk b o none).add t = ⟨b, o + t, none⟩ := by simp [Addr.add]
    have er : rowOf ((List.range len).map fun t => (q t).2.2.2) t = (q t).2.2.2 := by unfold rowOf; simp [List.getD_eq_getElem?_getD, ht]
    rw [er, ← e]
    exact ⟨_, _, _, h1, h2⟩
theorem viewCube_cells {H : Type} {enc : TypeId × Value → H} {W : World} {fuel : Nat} {cs : List Value} {x : DataW H × List MemPlace}
    (hf : DataW.trod enc Tryz.prog W 0 (fun _ => true) true fuel 54 cs = some x) :
    ∃ (a0 : Option Addr) (len cap : Nat) (Z : List (List (List Int))), cs = [.slice a0 len cap] ∧ (a0 = none → cap = 0) ∧ len ≤ cap ∧ cap ≤ 9223372036854775807 ∧ CubeR W a0 len Z := by
  rcases Deep.open_slice1 Tryz.underlying54 Tryz.cellsGridR hf with ⟨hcs, hx⟩ | ⟨a, len, cap, m, n, V, D, Pl, rfl, hb, hl, hm, hmm, rfl, hx⟩
  · exact ⟨none, 0, 0, [], hcs, fun _ => rfl, Nat.le_refl _, by omega, CubeR.nil _ _⟩
  · simp only [if_true] at hmm
    subst hmm
    unfold maxLen at hm
    have each : ∀ i, i < m → ∃ z : (Option Addr × Nat × Nat × List (List Int)), W.cell? (a.add i) = some (.slice z.1 z.2.1 z.2.2.1) ∧ (z.1 = none → z.2.2.1 = 0) ∧ z.2.1 ≤ z.2.2.1 ∧ z.2.2.1 ≤ 9223372036854775807 ∧ GridR W z.1 z.2.1 z.2.2.2 := fun i hi => by
      obtain ⟨h1, h2⟩ := hx i hi
      obtain ⟨a0, l, c, Z, e, e1, e2, e3, hA⟩ := viewGrid_cells h2
      simp only [List.cons.injEq, and_true] at e
      exact ⟨(a0, l, c, Z), by rw [h1, e], e1, e2, e3, hA⟩
    obtain ⟨q, hq⟩ := Deep.choose_lt each
    refine ⟨some a, len, m, (List.range len).map fun t => (q t).2.2.2, rfl, (fun h => by cases h), hl, by omega, by simp, by omega, fun hn => ?_⟩
    obtain ⟨b, o, s⟩ := a
    have h0 := (hq 0 (by omega)).1
    have hs : s = none := by simpa [Addr.add] using World.cell?_spot h0
    subst hs
    refine ⟨b, o, rfl, fun t R hR => ?_⟩
    have ht : t < len := by have := (List.getElem?_eq_some_iff.1 hR).1; simpa using this
    obtain ⟨h1, h2, h3, h4, h5⟩ := hq t (by omega)
    have e : (Addr.mk b o none).add t = ⟨b, o + t, none⟩ := by simp [Addr.add]
    have er : R = (q t).2.2.2 := by simpa [ht] using hR.symm
    rw [er, ← e]
    exact ⟨_, _, _, h1, h2, h3, h4, h5⟩
theorem Tryz.cellsSl3 : Tryz.prog.cellsOf 30 = 1 := by kernel_rfl
theorem Tryz.cellsCubeR : Tryz.prog.cellsOf 54 = 1 := by kernel_rfl
theorem Tryz.cellsCacheR : Tryz.prog.cellsOf 56 = 2 := by kernel_rfl
theorem Tryz.cellsViewR : Tryz.prog.cellsOf 58 = 3 := by kernel_rfl
set_option maxRecDepth 100000 in
theorem viewCache_cells {H : Type} {enc : TypeId × Value → H} {W : World} {fuel : Nat} {cs : List Value} {x : DataW H × List MemPlace}
    (hf : DataW.trod enc Tryz.prog W 0 (fun _ => true) true fuel 56 cs = some x) :
    ∃ (k v : Sl) (K V : List (List (List Int))), cs = [k.v, v.v] ∧ CubeR W k.ao k.n K ∧ CubeR W v.ao v.n V := by
  obtain ⟨y0, y1, n, rfl, hl, h0, h1⟩ := trod_struct2 Tryz.underlying56 hf
  rw [Tryz.cellsCacheR] at hl
  match cs, hl with
  | [c0, c1], _ =>
    simp [Tryz.cellsCubeR] at h0 h1
    obtain ⟨a0, l0, q0, Z0, e0, -, -, -, k0⟩ := viewCube_cells h0
    obtain ⟨a1, l1, q1, Z1, e1, -, -, -, k1⟩ := viewCube_cells h1
    simp only [List.cons.injEq, and_true] at e0 e1
    subst e0 e1
    exact ⟨⟨a0, l0, q0⟩, ⟨a1, l1, q1⟩, Z0, Z1, rfl, k0, k1⟩
set_option maxRecDepth 100000 in
theorem viewVw_cells {H : Type} {enc : TypeId × Value → H} {W : World} {fuel : Nat} {cs : List Value} {x : DataW H × List MemPlace}
    (hf : DataW.trod enc Tryz.prog W 0 (fun _ => true) true fuel 58 cs = some x) :
    ∃ (v : VwV) (X : Vw), cs = v.cells.toList ∧ VwR W v X := by
  obtain ⟨y0, y1, n, rfl, hl, h0, h1⟩ := trod_struct2 Tryz.underlying58 hf
  rw [Tryz.cellsViewR] at hl
  match cs, hl with
  | [c0, c1, c2], _ =>
    simp [Tryz.cellsSl3, Tryz.cellsCacheR] at h0 h1
    obtain ⟨a0, l0, q0, Z0, e0, k0⟩ := viewI_cells h0
    obtain ⟨k, v, K, V, e1, k1, k2⟩ := viewCache_cells h1
    simp only [List.cons.injEq, and_true] at e0 e1
    obtain ⟨rfl, rfl⟩ := e1
    subst e0
    exact ⟨⟨⟨a0, l0, q0⟩, k, v⟩, ⟨Z0, K, V⟩, rfl, k0, k1, k2⟩
set_option maxRecDepth 100000 in
theorem viewVw {H : Type} {enc : TypeId × Value → H} {W : World} {b0 : Nat} {v : Value} {d : DataW H} {p : List MemPlace} (hv : Value.okWide Tryz.prog W .any b0 58 v)
    (h : DataW.Trod enc Tryz.prog W 0 (fun _ => true) true 58 v d p) : ∃ (vv : VwV) (X : Vw), v = .agg vv.cells ∧ VwR W vv X := by
  obtain ⟨cs, rfl, hsz⟩ := okWide_struct Tryz.underlying58 hv
  obtain ⟨f, hf⟩ := h
  obtain ⟨vv, X, e, hA⟩ := viewVw_cells hf
  refine ⟨vv, X, ?_, hA⟩
  simp only [Value.cells] at e
  congr 1
  exact Array.toList_inj.1 e
end Go.Proofs.YtahfdbblndphaaaGreatDoor

/- An argument that is a model's numbers, opened once. -/
namespace Go.Proofs.YtahfdbblndphaaaGreatDoor
open Go.ChangeShapes Go.WideShapes Go.ChangeAt Go.RowKit
theorem Tryz.cellsMatW : Tryz.prog.cellsOf 26 = 3 := by kernel_rfl
theorem Tryz.cellsBlkW : Tryz.prog.cellsOf 50 = 20 := by kernel_rfl
theorem Tryz.cellsBlksW : Tryz.prog.cellsOf 27 = 1 := by kernel_rfl
theorem Tryz.cellsWW : Tryz.prog.cellsOf 29 = 8 := by kernel_rfl
theorem Tryz.cellsIntW : Tryz.prog.cellsOf 3 = 1 := by kernel_rfl
set_option maxRecDepth 100000 in
theorem viewMtW_cells {H : Type} {enc : TypeId × Value → H} {W : World} {fuel : Nat} {cs : List Value} {x : DataW H × List MemPlace}
    (hf : DataW.trod enc Tryz.prog W 0 (fun _ => true) true fuel 26 cs = some x) :
    ∃ (m : Mt) (Z : List Int), cs = [.int .i64 m.r, .int .i64 m.c, m.d.v] ∧ m.Ok ∧ ArgR W m.d.ao m.d.n m.d.c Z := by
  obtain ⟨y0, y1, y2, n, rfl, hl, h0, h1, h2⟩ := Deep.trod_struct3 Tryz.underlying26 hf
  rw [Tryz.cellsMatW] at hl
  match cs, hl with
  | [c0, c1, c2], _ =>
    simp [Tryz.cellsIntW, Tryz.cellsRowR] at h0 h1 h2
    obtain ⟨r, e0, _, w0⟩ := DataW.trod_int Tryz.underlying3 h0
    obtain ⟨c, e1, _, w1⟩ := DataW.trod_int Tryz.underlying3 h1
    obtain ⟨a, l, cp, Z, e2, hA⟩ := viewRow_cells h2
    simp only [List.cons.injEq, and_true] at e0 e1 e2
    subst e0 e1 e2
    exact ⟨⟨r, c, ⟨a, l, cp⟩⟩, Z, rfl, ⟨bounds_i64 w0, bounds_i64 w1⟩, hA⟩
set_option maxRecDepth 100000 in
set_option maxHeartbeats 1600000 in
theorem viewBk_cells {H : Type} {enc : TypeId × Value → H} {W : World} {fuel : Nat} {cs : List Value} {x : DataW H × List MemPlace}
    (hf : DataW.trod enc Tryz.prog W 0 (fun _ => true) true fuel 50 cs = some x) :
    ∃ (b : Bk) (y : Lay), cs = b.cells.toList ∧ b.Ok ∧ LyR W b y := by
  obtain ⟨xs, n, _, rfl, hl, hxl, hff⟩ := DataW.trod_struct Tryz.underlying50 hf
  rw [Tryz.cellsBlkW] at hl
  match xs, hxl, cs, hl with
  | [y0, y1, y2, y3, y4, y5, y6, y7], _, [c0, c1, c2, c3, c4, c5, c6, c7, c8, c9, c10, c11, c12, c13, c14, c15, c16, c17, c18, c19], _ =>
    have g0 := hff 0 _ rfl
    have g1 := hff 1 _ rfl
    have g2 := hff 2 _ rfl
    have g3 := hff 3 _ rfl
    have g4 := hff 4 _ rfl
    have g5 := hff 5 _ rfl
    have g6 := hff 6 _ rfl
    have g7 := hff 7 _ rfl
    simp [Tryz.cellsMatW, Tryz.cellsRowR] at g0 g1 g2 g3 g4 g5 g6 g7
    obtain ⟨aaf, llf, ppf, Zf, ef, hhf⟩ := viewRow_cells g0
    obtain ⟨mq, Zq, eq, oq, hhq⟩ := viewMtW_cells g1
    obtain ⟨mk, Zk, ek, ok, hhk⟩ := viewMtW_cells g2
    obtain ⟨mv, Zv, ev, ov, hhv⟩ := viewMtW_cells g3
    obtain ⟨mo, Zo, eo, oo, hho⟩ := viewMtW_cells g4
    obtain ⟨aas, lls, pps, Zs, es, hhs⟩ := viewRow_cells g5
    obtain ⟨mu, Zu, eu, ou, hhu⟩ := viewMtW_cells g6
    obtain ⟨md, Zd, ed, od, hhd⟩ := viewMtW_cells g7
    simp only [List.cons.injEq, and_true] at ef eq ek ev eo es eu ed
    subst ef
    obtain ⟨rfl, rfl, rfl⟩ := eq
    obtain ⟨rfl, rfl, rfl⟩ := ek
    obtain ⟨rfl, rfl, rfl⟩ := ev
    obtain ⟨rfl, rfl, rfl⟩ := eo
    subst es
    obtain ⟨rfl, rfl, rfl⟩ := eu
    obtain ⟨rfl, rfl, rfl⟩ := ed
    exact ⟨⟨⟨aaf, llf, ppf⟩, mq, mk, mv, mo, ⟨aas, lls, pps⟩, mu, md⟩, ⟨Zf, Zq, Zk, Zv, Zo, Zs, Zu, Zd⟩, rfl, ⟨by have := hhf.row.max; exact this, oq, ok, ov, oo, by have := hhs.row.max; exact this, ou, od⟩, ⟨hhf, hhq, hhk, hhv, hho, hhs, hhu, hhd⟩⟩
set_option maxRecDepth 100000 in
theorem viewBks_cells {H : Type} {enc : TypeId × Value → H} {W : World} {fuel : Nat} {cs : List Value} {x : DataW H × List MemPlace}
    (hf : DataW.trod enc Tryz.prog W 0 (fun _ => true) true fuel 27 cs = some x) :
    ∃ (s : Sl) (bs : List Bk) (Ls : List Lay), cs = [s.v] ∧ BlocksAt W s bs ∧ bs.length = Ls.length ∧ (∀ (t : Nat) (x : Bk), bs[t]? = some x → ∃ y, Ls[t]? = some y ∧ LyR W x y) := by
  rcases Deep.open_slice Tryz.underlying27 hf with ⟨hcs, hx⟩ | ⟨a, len, cap, m, n, D, Pl, rfl, hb, hl, hm, hmm, rfl, hx⟩
  · exact ⟨⟨none, 0, 0⟩, [], [], hcs, ⟨rfl, by show 0 ≤ _; omega, (fun x hx => by cases hx), fun h => absurd h (by show ¬ 0 < 0; omega)⟩, rfl, fun t x h => by simp at h⟩
  · simp only [if_true] at hmm
    subst hmm
    unfold maxLen at hm
    have each : ∀ i, i < m → ∃ z : Bk × Lay, (∀ j v, z.1.cells.toList[j]? = some v → W.cell? (a.add (i * 20 + j)) = some v) ∧ z.1.Ok ∧ LyR W z.1 z.2 := by
      intro i hi
      obtain ⟨cs', h1, h2⟩ := hx i hi
      rw [Tryz.cellsBlkW] at h1
      obtain ⟨_, hlen, hcell⟩ := World.cells?_some h1
      obtain ⟨b, y, rfl, hok, hA⟩ := viewBk_cells h2
      refine ⟨(b, y), fun j v hj => ?_, hok, hA⟩
      have hj2 : j < 20 := (List.getElem?_eq_some_iff.1 hj).1
      have cj := hcell j (by omega)
      rw [Deep.add_add] at cj
      rw [cj]
      exact hj
    haveI : Inhabited (Bk × Lay) := ⟨(⟨⟨none, 0, 0⟩, ⟨0, 0, ⟨none, 0, 0⟩⟩, ⟨0, 0, ⟨none, 0, 0⟩⟩, ⟨0, 0, ⟨none, 0, 0⟩⟩, ⟨0, 0, ⟨none, 0, 0⟩⟩, ⟨none, 0, 0⟩, ⟨0, 0, ⟨none, 0, 0⟩⟩, ⟨0, 0, ⟨none, 0, 0⟩⟩⟩, ⟨[], [], [], [], [], [], [], []⟩)⟩
    obtain ⟨q, hq⟩ := Deep.choose_lt each
    have hat : ∀ {t : Nat} {x : Bk}, ((List.range len).map fun t => (q t).1)[t]? = some x → t < len ∧ x = (q t).1 := fun {t x} h => by
      have ht : t < len := by have := (List.getElem?_eq_some_iff.1 h).1; simpa using this
      exact ⟨ht, by simpa [ht] using h.symm⟩
    refine ⟨⟨some a, len, m⟩, (List.range len).map fun t => (q t).1, (List.range len).map fun t => (q t).2, rfl, ⟨by simp, by show len ≤ _; omega, fun x hx => ?_, fun hn => ?_⟩, by simp, fun t x hx => ?_⟩
    · obtain ⟨t, ht, rfl⟩ := List.mem_map.1 hx
      exact (hq t (by have := List.mem_range.1 ht; omega)).2.1
    · have hn' : 0 < len := hn
      obtain ⟨b, o, s⟩ := a
      have h0 := (hq 0 (by omega)).1 0 _ rfl
      have hs : s = none := by simpa [Addr.add] using World.cell?_spot h0
      subst hs
      refine ⟨b, o, rfl, fun t x hx j v hj => ?_⟩
      obtain ⟨ht, rfl⟩ := hat hx
      have := (hq t (by omega)).1 j v hj
      have e : (Addr.mk b o none).add (t * 20 + j) = ⟨b, o + t * 20 + j, none⟩ := by simp [Addr.add, Nat.add_assoc]
      rw [← e]
      exact this
    · obtain ⟨ht, rfl⟩ := hat hx
      exact ⟨(q t).2, by simp [ht], (hq t (by omega)).2.2⟩
set_option maxRecDepth 100000 in
set_option maxHeartbeats 1600000 in
theorem viewWt {H : Type} {enc : TypeId × Value → H} {W : World} {b0 : Nat} {v : Value} {d : DataW H} {p : List MemPlace} (hv : Value.okWide Tryz.prog W .any b0 29 v)
    (h : DataW.Trod enc Tryz.prog W 0 (fun _ => true) true 29 v d p) : ∃ (V : Wt) (X : List Bk × Mdl), v = .agg V.cells ∧ WtR W V X.1 X.2 := by
  obtain ⟨cs, rfl, hsz⟩ := okWide_struct Tryz.underlying29 hv
  obtain ⟨f, hf⟩ := h
  obtain ⟨xs, n, _, _, hl, hxl, hff⟩ := DataW.trod_struct Tryz.underlying29 hf
  rw [Tryz.cellsWW] at hl
  simp only [Value.cells] at hl hff
  generalize hcs : cs.toList = L at *
  match xs, hxl, L, hl with
  | [y0, y1, y2, y3], _, [c0, c1, c2, c3, c4, c5, c6, c7], _ =>
    have g0 := hff 0 _ rfl
    have g1 := hff 1 _ rfl
    have g2 := hff 2 _ rfl
    have g3 := hff 3 _ rfl
    simp [Tryz.cellsMatW, Tryz.cellsRowR, Tryz.cellsBlksW] at g0 g1 g2 g3
    obtain ⟨me, Ze, ee, oe, he⟩ := viewMtW_cells g0
    obtain ⟨s, bs, Ls, eb, hb, hlen, hbs⟩ := viewBks_cells g1
    obtain ⟨al, ll, pl, Zl, el', hl'⟩ := viewRow_cells g2
    obtain ⟨mo, Zo, eo, oo, ho⟩ := viewMtW_cells g3
    simp only [List.cons.injEq, and_true] at ee eb el' eo
    obtain ⟨rfl, rfl, rfl⟩ := ee
    obtain ⟨rfl, rfl, rfl⟩ := eo
    subst eb el'
    refine ⟨⟨me, s, ⟨al, ll, pl⟩, mo⟩, (bs, ⟨Ze, Ls, Zl, Zo⟩), ?_, ⟨⟨oe, by have := hl'.row.max; exact this, oo⟩, he, hb, hlen, hbs, hl', ho⟩⟩
    congr 1
    exact Array.toList_inj.1 (by rw [hcs]; rfl)
end Go.Proofs.YtahfdbblndphaaaGreatDoor
