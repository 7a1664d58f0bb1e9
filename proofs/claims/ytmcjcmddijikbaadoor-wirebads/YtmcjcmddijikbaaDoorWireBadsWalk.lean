/- WireBads' walk: an error around another one tells its own part, and what is within. -/
import Derived.Test.YtmcjcmddijikbaaDoorWrBads
namespace Go.Proofs.YtmcjcmddijikbaaDoor
open Go.ChangeShapes Go.WideShapes Go.ChangeAt Go.RowKit
theorem keptC {W W' : World} {a : Addr} {v : Value} (h : W.cell? a = some v) (B : Below W.heap.size W W') : W'.cell? a = some v :=
  (B.cell (cell_lt h)).trans h
set_option maxRecDepth 20000 in
set_option maxHeartbeats 4000000 in
theorem wireBads_walk (q p n : Int) (w : World) (_hq : -9223372036854775808 ≤ q ∧ q ≤ 9223372036854775807) (_hp : -9223372036854775808 ≤ p ∧ p ≤ 9223372036854775807) (hn : -9223372036854775808 ≤ n ∧ n ≤ 9223372036854775807) (hE : Env w) :
   Calls Tryd.prog 6 #[.int .i64 q, .int .i64 p, .int .i64 n] w fun e w' => e = .returned (.bool true) ∧ Below w.heap.size w w' := by
  have AW := fun W (hW : Env W) => awake15_any W hW
  have LA := law_add n
  have ER := fun W => error_any n W hn.1 hn.2
  have BE := fun W => badError_any q p n W hn.1 hn.2
  have SS := txt_same (badS n)
  generalize errS n = X at *
  generalize badS n = Y at *
  obtain ⟨w3, hw3⟩ : ∃ w3, w3 = ((w.alloc (.cells #[.int .i64 p, .int .i64 n] 56)).alloc (.cells #[.int .i64 q, eF p n] 58)).alloc (.cells #[.int .i64 q, eN n] 58) := ⟨_, rfl⟩
  have BB : Below w.heap.size w w3 := by rw [hw3]; exact below_alloc2 (below_alloc2 (below_alloc _ _) _) _
  have V0 := hE.next BB
  have K7 := ((blk_new w 56 #[.int .i64 p, .int .i64 n]).next (below_alloc _ (.cells #[.int .i64 q, eF p n] 58))).next (below_alloc _ (.cells #[.int .i64 q, eN n] 58))
  have K8 := (blk_new (w.alloc (.cells #[.int .i64 p, .int .i64 n] 56)) 58 #[.int .i64 q, eF p n]).next (below_alloc _ (.cells #[.int .i64 q, eN n] 58))
  have K9 := blk_new ((w.alloc (.cells #[.int .i64 p, .int .i64 n] 56)).alloc (.cells #[.int .i64 q, eF p n] 58)) 58 #[.int .i64 q, eN n]
  rw [← hw3] at K7 K8 K9
  rw [show (w.alloc (.cells #[.int .i64 p, .int .i64 n] 56)).heap.size = w.heap.size + 1 by simp] at K8
  rw [show ((w.alloc (.cells #[.int .i64 p, .int .i64 n] 56)).alloc (.cells #[.int .i64 q, eF p n] 58)).heap.size = w.heap.size + 1 + 1 by simp] at K9
  have C70 := K7.cell 0 (v := .int .i64 p) rfl
  have C71 := K7.cell 1 (v := .int .i64 n) rfl
  have C80 := K8.cell 0 (v := .int .i64 q) rfl
  have C81 := K8.cell 1 (v := eF p n) rfl
  have C90 := K9.cell 0 (v := .int .i64 q) rfl
  have C91 := K9.cell 1 (v := eN n) rfl
  clear K7 K8 K9
  have HW : Hid (w3 = ((w.alloc (.cells #[.int .i64 p, .int .i64 n] 56)).alloc (.cells #[.int .i64 q, eF p n] 58)).alloc (.cells #[.int .i64 q, eN n] 58)) := hw3
  clear hw3 hE
  go_enter Tryd.func6, Tryd.ntmps6
  go_wp2_with (first
    | (go_at_call 14; rw [← HW.out]; have VV := V0; refine (AW _ V0).mono ?_; rintro e w1 ⟨rfl, B⟩; have V1 := VV.next B; clear VV V0; replace C70 := keptC C70 B; replace C71 := keptC C71 B; replace C80 := keptC C80 B; replace C81 := keptC C81 B; replace C90 := keptC C90 B; replace C91 := keptC C91 B; replace BB := below_then BB B; clear B)
    | (go_at_call 16; have VV := V1; refine (partBF q p n _ V1.hand).mono ?_; rintro e w2 ⟨rfl, B⟩; have V2 := VV.next B; clear VV V1; replace C70 := keptC C70 B; replace C71 := keptC C71 B; replace C80 := keptC C80 B; replace C81 := keptC C81 B; replace C90 := keptC C90 B; replace C91 := keptC C91 B; replace BB := below_then BB B; clear B)
    | (go_at_call 17; have VV := V2; refine (placeBF q p n _ V2.hand).mono ?_; rintro e w3 ⟨rfl, B⟩; have V3 := VV.next B; clear VV V2; replace C70 := keptC C70 B; replace C71 := keptC C71 B; replace C80 := keptC C80 B; replace C81 := keptC C81 B; replace C90 := keptC C90 B; replace C91 := keptC C91 B; replace BB := below_then BB B; clear B)
    | (go_at_call 15; have VV := V3; refine (whyBF q p n _ V3.hand).mono ?_; rintro e w4 ⟨rfl, B⟩; have V4 := VV.next B; clear VV V3; replace C70 := keptC C70 B; replace C71 := keptC C71 B; replace C80 := keptC C80 B; replace C81 := keptC C81 B; replace C90 := keptC C90 B; replace C91 := keptC C91 B; replace BB := below_then BB B; clear B)
    | (go_at_call 24; have VV := V4; refine (fisBF q p n _).mono ?_; rintro e w5 ⟨rfl, B⟩; have V5 := VV.next B; clear VV V4; replace C70 := keptC C70 B; replace C71 := keptC C71 B; replace C80 := keptC C80 B; replace C81 := keptC C81 B; replace C90 := keptC C90 B; replace C91 := keptC C91 B; replace BB := below_then BB B; clear B)
    | (go_at_call 15; have VV := V5; refine (whyBE q n _ V5.hand).mono ?_; rintro e w6 ⟨rfl, B⟩; have V6 := VV.next B; clear VV V5; replace C70 := keptC C70 B; replace C71 := keptC C71 B; replace C80 := keptC C80 B; replace C81 := keptC C81 B; replace C90 := keptC C90 B; replace C91 := keptC C91 B; replace BB := below_then BB B; clear B)
    | (go_at_call 17; have VV := V6; refine (placeBE q n _ V6.hand).mono ?_; rintro e w7 ⟨rfl, B⟩; have V7 := VV.next B; clear VV V6; replace C70 := keptC C70 B; replace C71 := keptC C71 B; replace C80 := keptC C80 B; replace C81 := keptC C81 B; replace C90 := keptC C90 B; replace C91 := keptC C91 B; replace BB := below_then BB B; clear B)
    | (go_at_call 16; have VV := V7; refine (partF p n _ V7.hand).mono ?_; rintro e w8 ⟨rfl, B⟩; have V8 := VV.next B; clear VV V7; replace C70 := keptC C70 B; replace C71 := keptC C71 B; replace C80 := keptC C80 B; replace C81 := keptC C81 B; replace C90 := keptC C90 B; replace C91 := keptC C91 B; replace BB := below_then BB B; clear B)
    | (go_at_call 16; have VV := V8; refine (partO _).mono ?_; rintro e w9 ⟨rfl, B⟩; have V9 := VV.next B; clear VV V8; replace C70 := keptC C70 B; replace C71 := keptC C71 B; replace C80 := keptC C80 B; replace C81 := keptC C81 B; replace C90 := keptC C90 B; replace C91 := keptC C91 B; replace BB := below_then BB B; clear B)
    | (go_at_call 25; have VV := V9; refine (BE _).mono ?_; rintro e wa ⟨rfl, B⟩; have Va := VV.next B; clear VV V9; replace C70 := keptC C70 B; replace C71 := keptC C71 B; replace C80 := keptC C80 B; replace C81 := keptC C81 B; replace C90 := keptC C90 B; replace C91 := keptC C91 B; replace BB := below_then BB B; clear B)
    | (go_at_call 26; have VV := Va; refine (ER _).mono ?_; rintro e wb ⟨rfl, B⟩; have Vb := VV.next B; clear VV Va; replace C70 := keptC C70 B; replace C71 := keptC C71 B; replace C80 := keptC C80 B; replace C81 := keptC C81 B; replace C90 := keptC C90 B; replace C91 := keptC C91 B; replace BB := below_then BB B; clear B)
    | (go_at_call 27; have VV := Vb; refine (badUnwrap_any q p n _).mono ?_; rintro e wc ⟨rfl, B⟩; have Vc := VV.next B; clear VV Vb; replace C70 := keptC C70 B; replace C71 := keptC C71 B; replace C80 := keptC C80 B; replace C81 := keptC C81 B; replace C90 := keptC C90 B; replace C91 := keptC C91 B; replace BB := below_then BB B; clear B)
    | (go_at_call 15; have VV := Vc; refine (whyF p n _ Vc.hand).mono ?_; rintro e wd ⟨rfl, B⟩; have Vd := VV.next B; clear VV Vc; replace C70 := keptC C70 B; replace C71 := keptC C71 B; replace C80 := keptC C80 B; replace C81 := keptC C81 B; replace C90 := keptC C90 B; replace C91 := keptC C91 B; replace BB := below_then BB B; clear B)
    | (go_at_call 27; have VV := Vd; refine (badUnwrap_any q p n _).mono ?_; rintro e we ⟨rfl, B⟩; have Ve := VV.next B; clear VV Vd; replace C70 := keptC C70 B; replace C71 := keptC C71 B; replace C80 := keptC C80 B; replace C81 := keptC C81 B; replace C90 := keptC C90 B; replace C91 := keptC C91 B; replace BB := below_then BB B; clear B)
    | (go_at_call 17; have VV := Ve; refine (placeF p n _ Ve.hand).mono ?_; rintro e wf ⟨rfl, B⟩; have Vf := VV.next B; clear VV Ve; replace C70 := keptC C70 B; replace C71 := keptC C71 B; replace C80 := keptC C80 B; replace C81 := keptC C81 B; replace C90 := keptC C90 B; replace C91 := keptC C91 B; replace BB := below_then BB B; clear B)
    | (go_at_call 27; have VV := Vf; refine (badUnwrap_any q p n _).mono ?_; rintro e wg ⟨rfl, B⟩; have Vg := VV.next B; clear VV Vf; replace C70 := keptC C70 B; replace C71 := keptC C71 B; replace C80 := keptC C80 B; replace C81 := keptC C81 B; replace C90 := keptC C90 B; replace C91 := keptC C91 B; replace BB := below_then BB B; clear B)
    | (go_at_call 16; have VV := Vg; refine (partF p n _ Vg.hand).mono ?_; rintro e wh ⟨rfl, B⟩; have Vh := VV.next B; clear VV Vg; replace C70 := keptC C70 B; replace C71 := keptC C71 B; replace C80 := keptC C80 B; replace C81 := keptC C81 B; replace C90 := keptC C90 B; replace C91 := keptC C91 B; replace BB := below_then BB B; clear B))
  go_ret
  exact ⟨rfl, BB⟩
end Go.Proofs.YtmcjcmddijikbaaDoor
