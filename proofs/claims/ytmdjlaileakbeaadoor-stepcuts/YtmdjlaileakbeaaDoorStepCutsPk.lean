/- The given statement on StepCuts: at every input the law returns true and its arguments read as before; the listed table lies as the program's text lays it (the card ties it). -/
import Derived.Test.YtmdjlaileakbeaaDoorPk8
import Derived.Test.YtmdjlaileakbeaaDoorPk10
import Derived.Test.YtmdjlaileakbeaaDoorRows
import Derived.Test.YtmdjlaileakbeaaDoorCards
import Derived.Test.YtmdjlaileakbeaaDoorTie
import Derived.Test.YtmdjlaileakbeaaDoorPk3
import Derived.ProofKit
import Derived.Carry
import Derived.LaidMore
import Derived.OpenShut
import Derived.Stop.Joined
import Derived.SevenTiedAt
/- The law StepCuts: views are copied and cut, whatever they are. -/
namespace Go.Proofs.YtmdjlaileakbeaaDoor
open Go.ChangeShapes Go.WideShapes Go.ChangeAt Go.RowKit
theorem var3c (w : World) (T : TypeId) (z row : Array Value) : Blk (w.alloc (.cells z T)) w.heap.size T z ∧ Blk ((w.alloc (.cells z T)).setRow w.heap.size row) w.heap.size T row ∧ Below w.heap.size w ((w.alloc (.cells z T)).setRow w.heap.size row) :=
  ⟨blk_new w T z, (blk_new w T z).row row, below_setRow ((Below.refl _ _).alloc (Nat.le_refl _) _) (Nat.le_refl _) _⟩
set_option maxRecDepth 100000 in
set_option maxHeartbeats 6400000 in
theorem stepCuts_walk (vv : VwV) (X : Vw) (n : Int) (w : World) (hv : VwR w vv X) (_bn : -9223372036854775808 ≤ n ∧ n ≤ 9223372036854775807) (hT : Tab w) :
   Calls Tryd.prog 3 #[.agg vv.cells, .int .i64 n] w fun e w' => e = .returned (.bool true) ∧ Below w.heap.size w w' := by
  have A0 := fun (wv : World) (hb : Below w.heap.size w wv) => told9R_any vv X wv (hv.below hb)
  have CW := fun (wv : World) (hb : Below w.heap.size w wv) => sawake_any wv (hT.next hb)
  have HX := cutVw_twice X
  clear hv hT
  obtain ⟨⟨ta, tn, tc⟩, ⟨ka, kn, kc⟩, ⟨va, vn, vc⟩⟩ := vv
  unfold VwV.cells Sl.v at A0 ⊢
  simp only at A0 ⊢
  have X0 := blk_new w 27 #[.slice ta tn tc, .slice ka kn kc, .slice va vn vc]
  have B0 : Below w.heap.size w (w.alloc (.cells #[.slice ta tn tc, .slice ka kn kc, .slice va vn vc] 27)) := (Below.refl _ _).alloc (Nat.le_refl _) _
  generalize hw0 : w.alloc (.cells #[.slice ta tn tc, .slice ka kn kc, .slice va vn vc] 27) = w0 at *
  have a0 : w0.cell? ⟨w.heap.size, 0, none⟩ = some (.slice ta tn tc) := X0.cell 0 rfl
  have a1 : w0.cell? ⟨w.heap.size, 1, none⟩ = some (.slice ka kn kc) := X0.cell 1 rfl
  have a2 : w0.cell? ⟨w.heap.size, 2, none⟩ = some (.slice va vn vc) := X0.cell 2 rfl
  have A1 := A0 w0 B0
  clear A0
  go_enter Tryd.func3, Tryd.ntmps3
  go_wp2_with fail
  refine A1.mono ?_
  clear A1 a0 a1 a2 hw0 X0
  rintro e w1 ⟨⟨sa, sn, sc⟩, ⟨pa, pn, pc⟩, ⟨qa, qn, qc⟩, rfl, TA, B1⟩
  obtain ⟨XE, X1, BF⟩ := var3c w1 29 #[.slice none 0 0, .slice none 0 0, .slice none 0 0] #[.slice sa sn sc, .slice pa pn pc, .slice qa qn qc]
  generalize hwe : w1.alloc (.cells #[.slice none 0 0, .slice none 0 0, .slice none 0 0] 29) = we at *
  generalize hwf : we.setRow w1.heap.size #[.slice sa sn sc, .slice pa pn pc, .slice qa qn qc] = wf at *
  replace TA := TA.below BF
  have D := below_then (below_then B0 B1) BF
  clear B0 B1 BF
  go_upto_region 2 with (refine wpList_store_row rfl 29 _ _ rfl w1.heap.size #[.slice sa sn sc, .slice pa pn pc, .slice qa qn qc] rfl rfl 29 _ XE (by exact Tryd.infoRV) rfl (by simp [Value.oneCell']) ?_; rw [hwf])
  clear hwe hwf XE
  have BD : Below wf.heap.size wf wf.drew := (Below.refl _ wf).drew
  replace X1 := X1.below BD
  replace TA := TA.below BD
  replace D := below_then D BD
  refine wp_region_held_drew (S := fun w' => Blk w' w1.heap.size 29 #[.slice sa sn sc, .slice pa pn pc, .slice qa qn qc]) (by kernel_rfl) (X1) (fun hHeld => ?_)
  generalize hA : wf.drew = wd at *
  clear hA BD
  refine wpAnyH_ready (rs := [0]) (by kernel_rfl) (by simp) ?_
  refine AllReadyH.cons rfl (fun Kc hKc => ?_) AllReadyH.nil
  simp only [List.getElem_toArray, List.getElem_cons_zero]
  rw [if_pos (by rfl)]
  go_wp2_with fail
  refine (CW _ D).mono ?_
  rintro e w0c ⟨rfl, B0c⟩
  replace X1 := X1.below B0c
  replace D := below_then D B0c
  replace TA := TA.below B0c
  go_wp2_with fail
  refine hKc.out _ _ (X1) (fun hHeld => ?_)
  clear hKc Kc
  refine wpAnyH_take (i := 1) (v := (.bool true)) rfl (by kernel_rfl) (by kernel_rfl) (by kernel_rfl) (fun _ _ _ h => h) (Or.inl ⟨by rfl, ?_⟩) (by assumption) ?_
  · intro w' hSw
    go_simp
  simp only [List.getElem_toArray, List.getElem_cons_succ, List.getElem_cons_zero, Act.put, List.setIfInBounds_toArray, List.set_cons_zero, List.set_cons_succ]
  refine wpAnyH_take (i := 2) (v := (.agg #[.slice sa sn sc, .slice pa pn pc, .slice qa qn qc])) rfl (by kernel_rfl) (by kernel_rfl) (by kernel_rfl) (fun _ _ _ h => h) (Or.inl ⟨by rfl, ?_⟩) (by assumption) ?_
  · intro w' hSw
    have cc0 : w'.cell? ⟨w1.heap.size, 0, none⟩ = some (.slice sa sn sc) := hSw.cell 0 rfl
    have cc1 : w'.cell? ⟨w1.heap.size, 1, none⟩ = some (.slice pa pn pc) := hSw.cell 1 rfl
    have cc2 : w'.cell? ⟨w1.heap.size, 2, none⟩ = some (.slice qa qn qc) := hSw.cell 2 rfl
    go_simp
  simp only [List.getElem_toArray, List.getElem_cons_succ, List.getElem_cons_zero, Act.put, List.setIfInBounds_toArray, List.set_cons_zero, List.set_cons_succ]
  refine wpAnyH_take (i := 6) (v := (.agg #[.slice sa sn sc, .slice pa pn pc, .slice qa qn qc])) rfl (by kernel_rfl) (by kernel_rfl) (by kernel_rfl) (fun _ _ _ h => h) (Or.inl ⟨by rfl, ?_⟩) (by assumption) ?_
  · intro w' hSw
    have cc0 : w'.cell? ⟨w1.heap.size, 0, none⟩ = some (.slice sa sn sc) := hSw.cell 0 rfl
    have cc1 : w'.cell? ⟨w1.heap.size, 1, none⟩ = some (.slice pa pn pc) := hSw.cell 1 rfl
    have cc2 : w'.cell? ⟨w1.heap.size, 2, none⟩ = some (.slice qa qn qc) := hSw.cell 2 rfl
    go_simp
  simp only [List.getElem_toArray, List.getElem_cons_succ, List.getElem_cons_zero, Act.put, List.setIfInBounds_toArray, List.set_cons_zero, List.set_cons_succ]
  refine wpAnyH_ready (rs := [3]) (by kernel_rfl) (by simp) ?_
  refine AllReadyH.cons rfl (fun Kc hKc => ?_) AllReadyH.nil
  simp only [List.getElem_toArray, List.getElem_cons_succ, List.getElem_cons_zero]
  rw [if_pos (by rfl)]
  go_wp2_with fail
  have K3 := of9_any ⟨sa, sn, sc⟩ ⟨pa, pn, pc⟩ ⟨qa, qn, qc⟩ (cutVw X) _ TA HX
  unfold Sl.v at K3
  simp only at K3
  refine K3.mono ?_
  clear K3
  rintro e w3c ⟨⟨⟨a1, a2, a3⟩, ⟨a4, a5, a6⟩, ⟨a7, a8, a9⟩⟩, rfl, VA, B3⟩
  simp only [VwV.cells, Sl.v]
  replace X1 := X1.below B3
  replace D := below_then D B3
  replace TA := TA.below B3
  go_wp2_with fail
  refine hKc.out _ _ (X1) (fun hHeld => ?_)
  clear hKc Kc
  refine wpAnyH_ready (rs := [4]) (by kernel_rfl) (by simp) ?_
  refine AllReadyH.cons rfl (fun Kc hKc => ?_) AllReadyH.nil
  simp only [List.getElem_toArray, List.getElem_cons_succ, List.getElem_cons_zero]
  rw [if_pos (by rfl)]
  go_wp2_with fail
  have K4 := scopyR_any ⟨⟨a1, a2, a3⟩, ⟨a4, a5, a6⟩, ⟨a7, a8, a9⟩⟩ (cutVw X) _ VA HX
  unfold VwV.cells Sl.v at K4
  simp only at K4
  refine K4.mono ?_
  clear K4 VA
  rintro e w4c ⟨⟨⟨b1, b2, b3⟩, ⟨b4, b5, b6⟩, ⟨b7, b8, b9⟩⟩, rfl, VB, B4⟩
  replace X1 := X1.below B4
  replace D := below_then D B4
  replace TA := TA.below B4
  go_wp2_with fail
  refine hKc.out _ _ (X1) (fun hHeld => ?_)
  clear hKc Kc
  refine wpAnyH_ready (rs := [5]) (by kernel_rfl) (by simp) ?_
  refine AllReadyH.cons rfl (fun Kc hKc => ?_) AllReadyH.nil
  simp only [List.getElem_toArray, List.getElem_cons_succ, List.getElem_cons_zero]
  rw [if_pos (by rfl)]
  go_wp2_with fail
  have K5 := told9C_any ⟨⟨b1, b2, b3⟩, ⟨b4, b5, b6⟩, ⟨b7, b8, b9⟩⟩ (cutVw X) _ VB HX
  unfold VwV.cells Sl.v at K5
  simp only at K5
  refine K5.mono ?_
  clear K5 VB
  rintro e w5c ⟨⟨d1, d2, d3⟩, ⟨d4, d5, d6⟩, ⟨d7, d8, d9⟩, rfl, TD, B5⟩
  replace X1 := X1.below B5
  replace D := below_then D B5
  replace TA := TA.below B5
  go_wp2_with fail
  refine hKc.out _ _ (X1) (fun hHeld => ?_)
  clear hKc Kc
  refine wpAnyH_ready (rs := [7]) (by kernel_rfl) (by simp) ?_
  refine AllReadyH.cons rfl (fun Kc hKc => ?_) AllReadyH.nil
  simp only [List.getElem_toArray, List.getElem_cons_succ, List.getElem_cons_zero]
  rw [if_pos (by rfl)]
  go_wp2_with fail
  have K7 := viewSame_eq ⟨d1, d2, d3⟩ ⟨d4, d5, d6⟩ ⟨d7, d8, d9⟩ ⟨sa, sn, sc⟩ ⟨pa, pn, pc⟩ ⟨qa, qn, qc⟩ (cutVw X) _ TD TA
  unfold Sl.v at K7
  simp only at K7
  refine K7.mono ?_
  clear K7 TD
  rintro e w7c ⟨rfl, B7⟩
  replace X1 := X1.below B7
  replace D := below_then D B7
  replace TA := TA.below B7
  go_wp2_with fail
  refine hKc.out _ _ (X1) (fun hHeld => ?_)
  clear hKc Kc
  refine wpAnyH_take (i := 8) (v := (.bool true)) rfl (by kernel_rfl) (by kernel_rfl) (by kernel_rfl) (fun _ _ _ h => h) (Or.inl ⟨by rfl, ?_⟩) (by assumption) ?_
  · intro w' hSw
    go_simp
  simp only [List.getElem_toArray, List.getElem_cons_succ, List.getElem_cons_zero, Act.put, List.setIfInBounds_toArray, List.set_cons_zero, List.set_cons_succ]
  refine wpAnyH_take (i := 9) (v := (.bool true)) rfl (by kernel_rfl) (by kernel_rfl) (by kernel_rfl) (fun _ _ _ h => h) (Or.inl ⟨by rfl, ?_⟩) (by assumption) ?_
  · intro w' hSw
    go_simp
  simp only [List.getElem_toArray, List.getElem_cons_succ, List.getElem_cons_zero, Act.put, List.setIfInBounds_toArray, List.set_cons_zero, List.set_cons_succ]
  refine wpAnyH_take (i := 10) (v := (.agg #[.slice sa sn sc, .slice pa pn pc, .slice qa qn qc])) rfl (by kernel_rfl) (by kernel_rfl) (by kernel_rfl) (fun _ _ _ h => h) (Or.inl ⟨by rfl, ?_⟩) (by assumption) ?_
  · intro w' hSw
    have cc0 : w'.cell? ⟨w1.heap.size, 0, none⟩ = some (.slice sa sn sc) := hSw.cell 0 rfl
    have cc1 : w'.cell? ⟨w1.heap.size, 1, none⟩ = some (.slice pa pn pc) := hSw.cell 1 rfl
    have cc2 : w'.cell? ⟨w1.heap.size, 2, none⟩ = some (.slice qa qn qc) := hSw.cell 2 rfl
    go_simp
  simp only [List.getElem_toArray, List.getElem_cons_succ, List.getElem_cons_zero, Act.put, List.setIfInBounds_toArray, List.set_cons_zero, List.set_cons_succ]
  refine wpAnyH_take (i := 12) (v := (.int .i64 n)) rfl (by kernel_rfl) (by kernel_rfl) (by kernel_rfl) (fun _ _ _ h => h) (Or.inl ⟨by rfl, ?_⟩) (by assumption) ?_
  · intro w' hSw
    go_simp
  simp only [List.getElem_toArray, List.getElem_cons_succ, List.getElem_cons_zero, Act.put, List.setIfInBounds_toArray, List.set_cons_zero, List.set_cons_succ]
  refine wpAnyH_take (i := 15) (v := (.agg #[.slice sa sn sc, .slice pa pn pc, .slice qa qn qc])) rfl (by kernel_rfl) (by kernel_rfl) (by kernel_rfl) (fun _ _ _ h => h) (Or.inl ⟨by rfl, ?_⟩) (by assumption) ?_
  · intro w' hSw
    have cc0 : w'.cell? ⟨w1.heap.size, 0, none⟩ = some (.slice sa sn sc) := hSw.cell 0 rfl
    have cc1 : w'.cell? ⟨w1.heap.size, 1, none⟩ = some (.slice pa pn pc) := hSw.cell 1 rfl
    have cc2 : w'.cell? ⟨w1.heap.size, 2, none⟩ = some (.slice qa qn qc) := hSw.cell 2 rfl
    go_simp
  simp only [List.getElem_toArray, List.getElem_cons_succ, List.getElem_cons_zero, Act.put, List.setIfInBounds_toArray, List.set_cons_zero, List.set_cons_succ]
  refine wpAnyH_take (i := 16) (v := (.int .i64 n)) rfl (by kernel_rfl) (by kernel_rfl) (by kernel_rfl) (fun _ _ _ h => h) (Or.inl ⟨by rfl, ?_⟩) (by assumption) ?_
  · intro w' hSw
    go_simp
  simp only [List.getElem_toArray, List.getElem_cons_succ, List.getElem_cons_zero, Act.put, List.setIfInBounds_toArray, List.set_cons_zero, List.set_cons_succ]
  refine wpAnyH_ready (rs := [11]) (by kernel_rfl) (by simp) ?_
  refine AllReadyH.cons rfl (fun Kc hKc => ?_) AllReadyH.nil
  simp only [List.getElem_toArray, List.getElem_cons_succ, List.getElem_cons_zero]
  rw [if_pos (by rfl)]
  go_wp2_with fail
  have K3 := of9_any ⟨sa, sn, sc⟩ ⟨pa, pn, pc⟩ ⟨qa, qn, qc⟩ (cutVw X) _ TA HX
  unfold Sl.v at K3
  simp only at K3
  refine K3.mono ?_
  clear K3
  rintro e w8c ⟨⟨⟨f1, f2, f3⟩, ⟨f4, f5, f6⟩, ⟨f7, f8, f9⟩⟩, rfl, VF, B8⟩
  simp only [VwV.cells, Sl.v]
  replace X1 := X1.below B8
  replace D := below_then D B8
  replace TA := TA.below B8
  go_wp2_with fail
  refine hKc.out _ _ (X1) (fun hHeld => ?_)
  clear hKc Kc
  refine wpAnyH_ready (rs := [13]) (by kernel_rfl) (by simp) ?_
  refine AllReadyH.cons rfl (fun Kc hKc => ?_) AllReadyH.nil
  simp only [List.getElem_toArray, List.getElem_cons_succ, List.getElem_cons_zero]
  rw [if_pos (by rfl)]
  go_wp2_with fail
  have K4 := scutA_any ⟨⟨f1, f2, f3⟩, ⟨f4, f5, f6⟩, ⟨f7, f8, f9⟩⟩ (cutVw X) n _ VF HX
  unfold VwV.cells Sl.v at K4
  simp only at K4
  refine K4.mono ?_
  clear K4 VF
  rintro e w9c ⟨⟨⟨g1, g2, g3⟩, ⟨g4, g5, g6⟩, ⟨g7, g8, g9⟩⟩, rfl, VG, B9⟩
  replace X1 := X1.below B9
  replace D := below_then D B9
  replace TA := TA.below B9
  go_wp2_with fail
  refine hKc.out _ _ (X1) (fun hHeld => ?_)
  clear hKc Kc
  refine wpAnyH_ready (rs := [14]) (by kernel_rfl) (by simp) ?_
  refine AllReadyH.cons rfl (fun Kc hKc => ?_) AllReadyH.nil
  simp only [List.getElem_toArray, List.getElem_cons_succ, List.getElem_cons_zero]
  rw [if_pos (by rfl)]
  go_wp2_with fail
  have K5 := told9C_any ⟨⟨g1, g2, g3⟩, ⟨g4, g5, g6⟩, ⟨g7, g8, g9⟩⟩ (cutAny (cutVw X) n) _ VG (cutVw_any n HX)
  unfold VwV.cells Sl.v at K5
  simp only at K5
  refine K5.mono ?_
  clear K5 VG
  rintro e w10c ⟨⟨h1, h2, h3⟩, ⟨h4, h5, h6⟩, ⟨h7, h8, h9⟩, rfl, TH, B10⟩
  replace X1 := X1.below B10
  replace D := below_then D B10
  replace TA := TA.below B10
  go_wp2_with fail
  refine hKc.out _ _ (X1) (fun hHeld => ?_)
  clear hKc Kc
  refine wpAnyH_ready (rs := [17]) (by kernel_rfl) (by simp) ?_
  refine AllReadyH.cons rfl (fun Kc hKc => ?_) AllReadyH.nil
  simp only [List.getElem_toArray, List.getElem_cons_succ, List.getElem_cons_zero]
  rw [if_pos (by rfl)]
  go_wp2_with fail
  have K6 := rcutA_any ⟨sa, sn, sc⟩ ⟨pa, pn, pc⟩ ⟨qa, qn, qc⟩ (cutVw X) n _ TA HX
  unfold Sl.v at K6
  simp only at K6
  refine K6.mono ?_
  clear K6
  rintro e w11c ⟨⟨i1, i2, i3⟩, ⟨i4, i5, i6⟩, ⟨i7, i8, i9⟩, rfl, TI, B11⟩
  replace TH := TH.below B11
  replace X1 := X1.below B11
  replace D := below_then D B11
  replace TA := TA.below B11
  go_wp2_with fail
  refine hKc.out _ _ (X1) (fun hHeld => ?_)
  clear hKc Kc
  refine wpAnyH_ready (rs := [18]) (by kernel_rfl) (by simp) ?_
  refine AllReadyH.cons rfl (fun Kc hKc => ?_) AllReadyH.nil
  simp only [List.getElem_toArray, List.getElem_cons_succ, List.getElem_cons_zero]
  rw [if_pos (by rfl)]
  go_wp2_with fail
  have K7 := viewSame_eq ⟨h1, h2, h3⟩ ⟨h4, h5, h6⟩ ⟨h7, h8, h9⟩ ⟨i1, i2, i3⟩ ⟨i4, i5, i6⟩ ⟨i7, i8, i9⟩ (cutAny (cutVw X) n) _ TH TI
  unfold Sl.v at K7
  simp only at K7
  refine K7.mono ?_
  clear K7 TH TI
  rintro e w12c ⟨rfl, B12⟩
  replace X1 := X1.below B12
  replace D := below_then D B12
  replace TA := TA.below B12
  go_wp2_with fail
  refine hKc.out _ _ (X1) (fun hHeld => ?_)
  clear hKc Kc
  refine wpAnyH_take (i := 19) (v := (.bool true)) rfl (by kernel_rfl) (by kernel_rfl) (by kernel_rfl) (fun _ _ _ h => h) (Or.inl ⟨by rfl, ?_⟩) (by assumption) ?_
  · intro w' hSw
    go_simp
  simp only [List.getElem_toArray, List.getElem_cons_succ, List.getElem_cons_zero, Act.put, List.setIfInBounds_toArray, List.set_cons_zero, List.set_cons_succ]
  refine wpAnyH_take (i := 20) (v := (.bool true)) rfl (by kernel_rfl) (by kernel_rfl) (by kernel_rfl) (fun _ _ _ h => h) (Or.inl ⟨by rfl, ?_⟩) (by assumption) ?_
  · intro w' hSw
    go_simp
  simp only [List.getElem_toArray, List.getElem_cons_succ, List.getElem_cons_zero, Act.put, List.setIfInBounds_toArray, List.set_cons_zero, List.set_cons_succ]
  refine wpAnyH_done (by kernel_rfl) ?_ _
  go_wp2
  go_ret
  exact ⟨rfl, D⟩
end Go.Proofs.YtmdjlaileakbeaaDoor

/- The given statement on StepCuts: at every input the law returns true and its arguments read as before; the listed table lies as the program's text lays it (the card ties it). -/
namespace Go.Proofs.YtmdjlaileakbeaaDoor.stepCuts
open Go.ChangeShapes Go.WideShapes Go.ChangeAt Go.WideMaps Go.WideElems Go.RowKit
set_option linter.unusedVariables false
abbrev lst : List (String × DataW Unit) := Rows.stepCutsRow.laid
theorem door_met (os : Os) (args : Array Value) : laidMetH Tryd.prog lst ((World.doorLaid Tryd.prog 14 os).forCall (fun _ _ => 0) ⟨#[], args, []⟩).memory :=
  laidMetH_of_parts3 (fuel := 8) (laidMet_of_run' 8 (by kernel_rfl) (by kernel_rfl)) (by kernel_rfl) (by kernel_rfl)
set_option maxRecDepth 100000 in
theorem lifted (os : Os) (started : os.Started) (H : Type) (enc : TypeId × Value → H) :
    ReturnsInHanded {} Tryd.checked os 3 .any (fun w args => (Rows.stepCutsSpec.pre enc Tryd.prog Tryd.f3 [] false w args ∧ laidMetH Tryd.prog lst w) ∧ sizedMet enc Tryd.prog Tryd.f3 (OpenSpec.ofChange Rows.stepCutsSpec) false w args)
      (Rows.stepCutsSpec.post enc Tryd.prog Tryd.f3 false true false false) := by
  refine returnsInHanded_of_change_and (C := Tryd.checked) (X := fun w _ => laidMetH Tryd.prog lst w) (fun _ _ _ hh h => h.of_heap hh) Tryd.own started (by kernel_rfl) Tryd.func3
    (ChangeSpec.witness_shaped (enc := enc) (C := Tryd.checked) (os := os) (X := fun w _ => laidMetH Tryd.prog lst w) false (World.doorLaid Tryd.prog 14 os) #[.agg #[.slice none 0 0, .slice none 0 0, .slice none 0 0], .int .i64 0] 8 rfl (World.shaped_of_RefB (by kernel_rfl) (by kernel_rfl)) (by kernel_rfl) (by kernel_rfl) (by kernel_rfl) (door_met os _)) ?_
  intro W base args ds gs before hval0 hW _ _ hL _
  have hval : ∀ (j : Nat) t v, Tryd.f3.params[j]? = some t → args[j]? = some v → Value.okWide Tryd.prog W .any base t v := hval0
  have hW' := hW
  obtain ⟨p, q, hA0, hV, rfl, _, _⟩ := hW
  have hA : DataW.TrodAll enc Tryd.prog W 0 (fun _ => true) true Tryd.f3.params.toList args.toList ds p := hA0
  rw [Tryd.params3] at hA hval
  obtain ⟨v0, vs0, d0, ds0, p0, q0, hargs, rfl, rfl, h0, r0⟩ := trodAll_cons hA
  obtain ⟨v1, vs1, d1, ds1, p1, q1, rfl, rfl, rfl, h1, r1⟩ := trodAll_cons r0
  obtain ⟨rfl, rfl, rfl⟩ := trodAll_nil r1
  obtain rfl : args = #[v0, v1] := by cases args; simp_all
  obtain ⟨rfl, rfl⟩ := trodVars_none hV
  have k0 := h0
  obtain ⟨vv0, X0, rfl, g0⟩ := viewVw (hval 0 _ v0 rfl rfl) h0
  have k1 := h1
  obtain ⟨a1, rfl, rfl, rfl, w1⟩ := open_int Tryd.underlying3 (hval 1 3 v1 rfl rfl) h1
  have b1 := bounds_i64 w1
  clear hA0 hval0
  simp only [List.append_nil] at hW'
  have hlt : ∀ x ∈ p0, x.block < W.heap.size := fun x hx => by
    have hx2 := hx
    exact hW'.lt x (by grind)
  refine (stepCuts_walk vv0 X0 a1 W g0 b1 (tab_of_laid hL)).mono fun e W' ⟨he, hb⟩ => ?_
  subst he
  exact ⟨_, rfl, _, _, _, [], _, [], hW', trodAll_mk1 (shut_bool Tryd.underlying4 true), trodAll_cons_mk (Below.trod Tryd.laidOut (by kernel_rfl) (of_decide_eq_true (by kernel_rfl)) k0 hb (fun x hx => hlt x (by simp [hx]))) (trodAll_cons_mk (shut_int Tryd.underlying3 w1) trodAll_mk0), rfl, hb.frame _, fun h => by cases h⟩
theorem row_holds : Rows.StepCutsSaid :=
  OpenClaim.holds_of_wide 3 Tryd.f3 rfl rfl rfl rfl rfl rfl rfl ⟨rfl, rfl, rfl, rfl, rfl⟩ rfl rfl rfl rfl rfl (by kernel_rfl) Tryd.func3 (by kernel_rfl)
    (of_decide_eq_true (by kernel_rfl)) (by unfold Func.isWrapper; first | (rw [if_pos (by decide +kernel)]; kernel_rfl) | (rw [if_neg (by decide +kernel)]; exact ⟨rfl, rfl⟩))
    (fun os started H enc _ => lifted os started H enc)
/-- The given statement. -/
theorem card_holds : Rows.StepCutsCardSaid :=
  Claim7.holds_tied_plain_at .later [] [.data] true (true, "c445aef456baec7777c5dda25de888755c52c995caef26990cb32178c8795ddd") false
    row_holds (fun _ h => by cases h) (by kernel_rfl) (fun _ h => by cases h) stepCuts_row_tie rfl ⟨rfl, rfl⟩ (by kernel_rfl) rfl
    (fun f fn hf hfn => by
      obtain rfl : f = 3 := Option.some.inj ((show Tryd.prog.funcNamed Rows.stepCutsRow.func = some 3 by kernel_rfl).symm.trans hf) |>.symm
      obtain rfl : fn = Tryd.f3 := (Option.some.inj (Tryd.func3.symm.trans hfn)).symm
      exact ⟨by kernel_rfl, fun j t ht => by
        rw [Tryd.params3] at ht
        have hm : t ∈ [27, 3] := by simpa using Array.mem_of_getElem? ht
        have hall : ([27, 3].all fun u => !Tryd.prog.wantsStandIn u) = true := by kernel_rfl
        exact (show Tryd.prog.wantsStandIn t = false by simpa using List.all_eq_true.1 hall t hm)⟩)
    (by kernel_rfl)
end Go.Proofs.YtmdjlaileakbeaaDoor.stepCuts
namespace Go.Proofs.YtmdjlaileakbeaaDoor
theorem stepCuts_holds : Rows.StepCutsCardSaid := stepCuts.card_holds
#print axioms stepCuts_holds
end Go.Proofs.YtmdjlaileakbeaaDoor
