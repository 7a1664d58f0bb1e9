/- HolderEarly. Written by tools/genhearly.py. -/
import Derived.Test.YtjnegbjgkngkaaaHdPlan
namespace Go.Proofs.Ytjnegbjgkngkaaa
open Go.ChangeShapes Go.WideShapes Go.ChangeAt Go.RowKit Go.Maps
set_option maxRecDepth 100000 in
set_option maxHeartbeats 16000000 in
theorem holderEarly_walk (p : Plan) (ask gr now : Int) (w : World) (hp : p.Ok) (ha : -9223372036854775808 ≤ ask ∧ ask ≤ 9223372036854775807) (hg : -9223372036854775808 ≤ gr ∧ gr ≤ 9223372036854775807) (hn : -9223372036854775808 ≤ now ∧ now ≤ 9223372036854775807) :
    Calls Try.prog 6 #[p.val, .int .i64 ask, .int .i64 gr, .int .i64 now] w fun e w' => e = .returned (.bool true) ∧ Below w.heap.size w w' := by
  obtain ⟨te, ma⟩ := p
  obtain ⟨ht, hm⟩ := hp
  simp only at ht hm
  unfold Plan.val
  simp only
  have XP := blk_new w 43 #[.int .i64 te, .int .i64 ma]
  have B0 := belowA w (.cells #[.int .i64 te, .int .i64 ma] 43)
  generalize hw0 : w.alloc (.cells #[.int .i64 te, .int .i64 ma] 43) = w0 at *
  have k0 : w0.cell? ⟨w.heap.size, 0, none⟩ = some (.int .i64 te) := XP.cell 0 rfl
  have k1 : w0.cell? ⟨w.heap.size, 1, none⟩ = some (.int .i64 ma) := XP.cell 1 rfl
  have AW := hawake_any
  by_cases c0 : te < 1
  · go_enter Try.func6, Try.ntmps6
    go_wp2_with (first | (go_at_call 7; refine (AW _).mono ?_; rintro e w9 ⟨rfl, B9⟩))
    go_ret
    exact ⟨rfl, below_then B0 B9⟩
  by_cases c1 : 1048576 < te
  · go_enter Try.func6, Try.ntmps6
    go_wp2_with (first | (go_at_call 7; refine (AW _).mono ?_; rintro e w9 ⟨rfl, B9⟩))
    go_ret
    exact ⟨rfl, below_then B0 B9⟩
  by_cases c2 : ma < 0
  · go_enter Try.func6, Try.ntmps6
    go_wp2_with (first | (go_at_call 7; refine (AW _).mono ?_; rintro e w9 ⟨rfl, B9⟩))
    go_ret
    exact ⟨rfl, below_then B0 B9⟩
  by_cases c3 : 1048576 < ma
  · go_enter Try.func6, Try.ntmps6
    go_wp2_with (first | (go_at_call 7; refine (AW _).mono ?_; rintro e w9 ⟨rfl, B9⟩))
    go_ret
    exact ⟨rfl, below_then B0 B9⟩
  by_cases c4 : ask < 0
  · go_enter Try.func6, Try.ntmps6
    go_wp2_with (first | (go_at_call 7; refine (AW _).mono ?_; rintro e w9 ⟨rfl, B9⟩))
    go_ret
    exact ⟨rfl, below_then B0 B9⟩
  by_cases c5 : 1073741824 < ask
  · go_enter Try.func6, Try.ntmps6
    go_wp2_with (first | (go_at_call 7; refine (AW _).mono ?_; rintro e w9 ⟨rfl, B9⟩))
    go_ret
    exact ⟨rfl, below_then B0 B9⟩
  by_cases c6 : gr < ask
  · go_enter Try.func6, Try.ntmps6
    go_wp2_with (first | (go_at_call 7; refine (AW _).mono ?_; rintro e w9 ⟨rfl, B9⟩))
    go_ret
    exact ⟨rfl, below_then B0 B9⟩
  by_cases c7 : 1073741824 < gr
  · go_enter Try.func6, Try.ntmps6
    go_wp2_with (first | (go_at_call 7; refine (AW _).mono ?_; rintro e w9 ⟨rfl, B9⟩))
    go_ret
    exact ⟨rfl, below_then B0 B9⟩
  by_cases c8 : now < gr
  · go_enter Try.func6, Try.ntmps6
    go_wp2_with (first | (go_at_call 7; refine (AW _).mono ?_; rintro e w9 ⟨rfl, B9⟩))
    go_ret
    exact ⟨rfl, below_then B0 B9⟩
  by_cases c9 : 2147483648 < now
  · go_enter Try.func6, Try.ntmps6
    go_wp2_with (first | (go_at_call 7; refine (AW _).mono ?_; rintro e w9 ⟨rfl, B9⟩))
    go_ret
    exact ⟨rfl, below_then B0 B9⟩
  have C1 := hask_ok 0 0 none none ask 7 [] [] w0 (WnM.nil w0) (HvM.nil w0) (by simp) (by simp) (by omega) (by unfold askN momD; rw [if_neg (by simp; omega), if_neg (by omega)])
  have e1 : putM ([] : List (Int × Wn)) 7 ⟨0 * 1048576 + (0 + 1), ask⟩ = [(7, ⟨1, ask⟩)] := rfl
  rw [e1] at C1
  clear e1
  have HV : Hid (∀ (W : World) (a b : Int) (m n : Option Nat), _) := svar
  have hR : (rightD te ma && momD gr && momD ask) = true := by
    unfold rightD momD
    rw [decide_eq_true (by omega), decide_eq_true (by omega), decide_eq_true (by omega)]
    rfl
  have hU1 : Hid (-9223372036854775808 ≤ ask + te - ma ∧ ask + te - ma ≤ 9223372036854775807) := ⟨by omega, by omega⟩
  by_cases hl : ask + te - ma ≤ gr
  · have C2 := fun (W : World) (b c : Nat) (h : MapAt Wn.val W b [(7, ⟨1, ask⟩)]) (k : MapAt Hv.val W c []) => hgr_late 0 1 (some b) (some c) gr te ma 7 1 3 _ _ W (WnM.some h) (HvM.some k) (by simp) (by simp) (by omega) ⟨1, ask⟩ rfl rfl hR hl
    have C3 := fun (W : World) (m : Option Nat) (b : Nat) (h : MapAt Hv.val W b []) => hbel_any 0 1 m (some b) now 7 _ W (HvM.some h) (by omega)
    have e3 : belL now ([] : List (Int × Hv)) 7 = none := by rfl
    rw [e3] at C3
    clear e3
    simp only [Option.getD_none, Option.isSome_none] at C3
    have q1 : ¬ now < ask + te - ma := by omega
    have q2 : ¬ gr < ask + te - ma := by omega
    unfold hsV New at *
    simp only [Int.reduceAdd, Int.reduceMul] at C1
    go_enter Try.func6, Try.ntmps6
    go_wp2_with (first
      | (go_at_call 8; refine C1.mono ?_; rintro e w1 ⟨b1, c1', rfl, ⟨M1, N1, _, _, _⟩, B1⟩; obtain ⟨XA1, XB1, BB1, z1⟩ := HV.out w1 0 1 (some b1) (some c1'); generalize hwA1 : w1.alloc (.cells #[.int .i64 0, .int .i64 0, .map none, .map none] 26) = wA1 at *; generalize hwB1 : wA1.setRow w1.heap.size #[.int .i64 0, .int .i64 1, .map (some b1), .map (some c1')] = wB1 at *; have D2 := C2 wB1 b1 c1' (M1.below BB1) (N1.below BB1); have XP1 := (XP.below B1).below BB1; clear C2)
      | (go_at_call 10; refine D2.mono ?_; rintro e w2 ⟨b2, c2', rfl, ⟨_, N2, _, _, hc2⟩, B2⟩; obtain ⟨XA2, XB2, BB2, z2⟩ := HV.out w2 0 1 (some b2) (some c2'); generalize hwA2 : w2.alloc (.cells #[.int .i64 0, .int .i64 0, .map none, .map none] 26) = wA2 at *; generalize hwB2 : wA2.setRow w2.heap.size #[.int .i64 0, .int .i64 1, .map (some b2), .map (some c2')] = wB2 at *; have D3 := C3 wB2 (some b2) c2' (N2.below BB2); have XP2 := (XP1.below B2).below BB2; clear C3)
      | (go_at_call 23; refine D3.mono ?_; rintro e w3 ⟨rfl, B3⟩; have XP3 := XP2.below B3; have k30 : w3.cell? ⟨w.heap.size, 0, none⟩ = some (.int .i64 te) := XP3.cell 0 rfl; have k31 : w3.cell? ⟨w.heap.size, 1, none⟩ = some (.int .i64 ma) := XP3.cell 1 rfl; have AK : Hid (Below w3.heap.size w3 w3) := (Below.refl _ _))
      | (go_at_call 7; refine (AW _).mono ?_; rintro e w9 ⟨rfl, B9⟩; have XP9 := XP3.below B9; have k90 : w9.cell? ⟨w.heap.size, 0, none⟩ = some (.int .i64 te) := XP9.cell 0 rfl)
      | (refine wpList_load_row rfl 26 _ rfl w1.heap.size rfl 26 _ (0, 0) _ XB1 Try.underlying26 rfl Try.infoHs ?_)
      | (refine wpList_load_row rfl 26 _ rfl w2.heap.size rfl 26 _ (0, 0) _ XB2 Try.underlying26 rfl Try.infoHs ?_)
      | (refine wpList_load_row rfl 43 _ rfl w.heap.size rfl 43 _ (0, 0) _ XP1 Try.underlying43 rfl Try.infoPl ?_)
      | (refine wpList_store_row rfl 26 _ _ rfl w1.heap.size _ rfl rfl 26 _ XA1 Try.infoHs rfl (sall _ _ _ _) ?_; rw [hwB1])
      | (refine wpList_store_row rfl 26 _ _ rfl w2.heap.size _ rfl rfl 26 _ XA2 Try.infoHs rfl (sall _ _ _ _) ?_; rw [hwB2]))
    go_ret
    exact ⟨by first | rfl | (show Ending.returned (Value.bool (!decide (now < ask + te - ma))) = _; rw [decide_eq_false (by omega)]; rfl), below_then (below_then (below_then B0 (below_then B1 BB1)) (below_then B2 BB2)) (below_then B3 B9)⟩
  · have C2 := fun (W : World) (b c : Nat) (h : MapAt Wn.val W b [(7, ⟨1, ask⟩)]) (k : MapAt Hv.val W c []) => hgr_ok 0 1 (some b) (some c) gr te ma 7 1 3 _ _ W (WnM.some h) (HvM.some k) (by simp) (by simp) (by omega) ⟨1, ask⟩ rfl rfl hR (by simp only; omega) (by omega)
    have e2 : putM ([] : List (Int × Hv)) 7 ⟨3, grU [] 7 3 (ask + te - ma)⟩ = [(7, ⟨3, ask + te - ma⟩)] := rfl
    simp only [] at C2
    rw [e2] at C2
    clear e2
    have C3 := fun (W : World) (m : Option Nat) (b : Nat) (h : MapAt Hv.val W b [(7, ⟨3, ask + te - ma⟩)]) => hbel_any 0 1 m (some b) now 7 _ W (HvM.some h) (by omega)
    have e3 : belL now ([(7, ⟨3, ask + te - ma⟩)] : List (Int × Hv)) 7 = if now < ask + te - ma then some 3 else none := by rfl
    rw [e3] at C3
    clear e3
    by_cases q : now < ask + te - ma
    · rw [if_pos q] at C3
      simp only [Option.getD_some, Option.isSome_some] at C3
      have q2 : now < gr + te := by omega
      unfold hsV New at *
      simp only [Int.reduceAdd, Int.reduceMul] at C1
      go_enter Try.func6, Try.ntmps6
      go_wp2_with (first
        | (go_at_call 8; refine C1.mono ?_; rintro e w1 ⟨b1, c1', rfl, ⟨M1, N1, _, _, _⟩, B1⟩; obtain ⟨XA1, XB1, BB1, z1⟩ := HV.out w1 0 1 (some b1) (some c1'); generalize hwA1 : w1.alloc (.cells #[.int .i64 0, .int .i64 0, .map none, .map none] 26) = wA1 at *; generalize hwB1 : wA1.setRow w1.heap.size #[.int .i64 0, .int .i64 1, .map (some b1), .map (some c1')] = wB1 at *; have D2 := C2 wB1 b1 c1' (M1.below BB1) (N1.below BB1); have XP1 := (XP.below B1).below BB1; clear C2)
        | (go_at_call 10; refine D2.mono ?_; rintro e w2 ⟨b2, c2', rfl, ⟨_, N2, _, _, hc2⟩, B2⟩; obtain ⟨XA2, XB2, BB2, z2⟩ := HV.out w2 0 1 (some b2) (some c2'); generalize hwA2 : w2.alloc (.cells #[.int .i64 0, .int .i64 0, .map none, .map none] 26) = wA2 at *; generalize hwB2 : wA2.setRow w2.heap.size #[.int .i64 0, .int .i64 1, .map (some b2), .map (some c2')] = wB2 at *; have D3 := C3 wB2 (some b2) c2' (N2.below BB2); have XP2 := (XP1.below B2).below BB2; clear C3)
        | (go_at_call 23; refine D3.mono ?_; rintro e w3 ⟨rfl, B3⟩; have XP3 := XP2.below B3; have k30 : w3.cell? ⟨w.heap.size, 0, none⟩ = some (.int .i64 te) := XP3.cell 0 rfl; have k31 : w3.cell? ⟨w.heap.size, 1, none⟩ = some (.int .i64 ma) := XP3.cell 1 rfl; have AK : Hid (Below w3.heap.size w3 w3) := (Below.refl _ _))
        | (go_at_call 7; refine (AW _).mono ?_; rintro e w9 ⟨rfl, B9⟩; have XP9 := XP3.below B9; have k90 : w9.cell? ⟨w.heap.size, 0, none⟩ = some (.int .i64 te) := XP9.cell 0 rfl)
        | (refine wpList_load_row rfl 26 _ rfl w1.heap.size rfl 26 _ (0, 0) _ XB1 Try.underlying26 rfl Try.infoHs ?_)
        | (refine wpList_load_row rfl 26 _ rfl w2.heap.size rfl 26 _ (0, 0) _ XB2 Try.underlying26 rfl Try.infoHs ?_)
        | (refine wpList_load_row rfl 43 _ rfl w.heap.size rfl 43 _ (0, 0) _ XP1 Try.underlying43 rfl Try.infoPl ?_)
        | (refine wpList_store_row rfl 26 _ _ rfl w1.heap.size _ rfl rfl 26 _ XA1 Try.infoHs rfl (sall _ _ _ _) ?_; rw [hwB1])
        | (refine wpList_store_row rfl 26 _ _ rfl w2.heap.size _ rfl rfl 26 _ XA2 Try.infoHs rfl (sall _ _ _ _) ?_; rw [hwB2]))
      go_ret
      exact ⟨by first | rfl | (show Ending.returned (Value.bool (!decide (now < ask + te - ma))) = _; rw [decide_eq_false (by omega)]; rfl), below_then (below_then (below_then B0 (below_then B1 BB1)) (below_then B2 BB2)) (below_then B3 B9)⟩
    · rw [if_neg q] at C3
      simp only [Option.getD_none, Option.isSome_none] at C3
      unfold hsV New at *
      simp only [Int.reduceAdd, Int.reduceMul] at C1
      go_enter Try.func6, Try.ntmps6
      go_wp2_with (first
        | (go_at_call 8; refine C1.mono ?_; rintro e w1 ⟨b1, c1', rfl, ⟨M1, N1, _, _, _⟩, B1⟩; obtain ⟨XA1, XB1, BB1, z1⟩ := HV.out w1 0 1 (some b1) (some c1'); generalize hwA1 : w1.alloc (.cells #[.int .i64 0, .int .i64 0, .map none, .map none] 26) = wA1 at *; generalize hwB1 : wA1.setRow w1.heap.size #[.int .i64 0, .int .i64 1, .map (some b1), .map (some c1')] = wB1 at *; have D2 := C2 wB1 b1 c1' (M1.below BB1) (N1.below BB1); have XP1 := (XP.below B1).below BB1; clear C2)
        | (go_at_call 10; refine D2.mono ?_; rintro e w2 ⟨b2, c2', rfl, ⟨_, N2, _, _, hc2⟩, B2⟩; obtain ⟨XA2, XB2, BB2, z2⟩ := HV.out w2 0 1 (some b2) (some c2'); generalize hwA2 : w2.alloc (.cells #[.int .i64 0, .int .i64 0, .map none, .map none] 26) = wA2 at *; generalize hwB2 : wA2.setRow w2.heap.size #[.int .i64 0, .int .i64 1, .map (some b2), .map (some c2')] = wB2 at *; have D3 := C3 wB2 (some b2) c2' (N2.below BB2); have XP2 := (XP1.below B2).below BB2; clear C3)
        | (go_at_call 23; refine D3.mono ?_; rintro e w3 ⟨rfl, B3⟩; have XP3 := XP2.below B3; have k30 : w3.cell? ⟨w.heap.size, 0, none⟩ = some (.int .i64 te) := XP3.cell 0 rfl; have k31 : w3.cell? ⟨w.heap.size, 1, none⟩ = some (.int .i64 ma) := XP3.cell 1 rfl; have AK : Hid (Below w3.heap.size w3 w3) := (Below.refl _ _))
        | (go_at_call 7; refine (AW _).mono ?_; rintro e w9 ⟨rfl, B9⟩; have XP9 := XP3.below B9; have k90 : w9.cell? ⟨w.heap.size, 0, none⟩ = some (.int .i64 te) := XP9.cell 0 rfl)
        | (refine wpList_load_row rfl 26 _ rfl w1.heap.size rfl 26 _ (0, 0) _ XB1 Try.underlying26 rfl Try.infoHs ?_)
        | (refine wpList_load_row rfl 26 _ rfl w2.heap.size rfl 26 _ (0, 0) _ XB2 Try.underlying26 rfl Try.infoHs ?_)
        | (refine wpList_load_row rfl 43 _ rfl w.heap.size rfl 43 _ (0, 0) _ XP1 Try.underlying43 rfl Try.infoPl ?_)
        | (refine wpList_store_row rfl 26 _ _ rfl w1.heap.size _ rfl rfl 26 _ XA1 Try.infoHs rfl (sall _ _ _ _) ?_; rw [hwB1])
        | (refine wpList_store_row rfl 26 _ _ rfl w2.heap.size _ rfl rfl 26 _ XA2 Try.infoHs rfl (sall _ _ _ _) ?_; rw [hwB2]))
      go_ret
      exact ⟨by first | rfl | (show Ending.returned (Value.bool (!decide (now < ask + te - ma))) = _; rw [decide_eq_false (by omega)]; rfl), below_then (below_then (below_then B0 (below_then B1 BB1)) (below_then B2 BB2)) (below_then B3 B9)⟩
end Go.Proofs.Ytjnegbjgkngkaaa
