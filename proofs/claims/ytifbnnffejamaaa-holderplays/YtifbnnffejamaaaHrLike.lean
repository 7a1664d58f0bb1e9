/- The law's alike: both states show the same. -/
import Derived.Test.YtifbnnffejamaaaHrGr2
import Derived.Test.YtifbnnffejamaaaRowA
namespace Go.Proofs.Ytifbnnffejamaaa
open Go.ChangeShapes Go.WideShapes Go.ChangeAt Go.RowKit Go.Maps
theorem wn_parts (p : Int) (o : Option Wn) : ∃ pp q r : Int, Wn.el p o = .agg #[.int .i64 pp, .int .i64 q, .int .i64 r] ∧ Wn.val (o.getD Wn.zero) = .agg #[.int .i64 q, .int .i64 r] ∧ (o.isSome = false → q = 0 ∧ r = 0) := by
  rcases o with _ | ⟨q, r⟩
  · exact ⟨0, 0, 0, rfl, rfl, fun _ => ⟨rfl, rfl⟩⟩
  · exact ⟨p, q, r, rfl, rfl, fun h => by simp at h⟩
theorem hv_parts (p now : Int) (H : List (Int × Hv)) : ∃ (pp q r be : Int) (b ok : Bool), Hv.el p (getM H p) = .agg #[.int .i64 pp, .int .i64 q, .int .i64 r] ∧ Hv.val ((getM H p).getD Hv.zero) = .agg #[.int .i64 q, .int .i64 r] ∧ (getM H p).isSome = b ∧ (belL now H p).getD 0 = be ∧ (belL now H p).isSome = ok ∧ (b = false ∧ ok = false ∧ be = 0 ∨ b = true ∧ now < r ∧ ok = true ∧ be = q ∨ b = true ∧ r ≤ now ∧ ok = false ∧ be = 0) := by
  unfold belL
  rcases getM H p with _ | ⟨q, r⟩
  · exact ⟨0, 0, 0, 0, false, false, rfl, rfl, rfl, rfl, rfl, Or.inl ⟨rfl, rfl, rfl⟩⟩
  · by_cases h : now < r
    · exact ⟨p, q, r, q, true, true, rfl, rfl, rfl, by simp [h], by simp [h], Or.inr (Or.inl ⟨rfl, h, rfl, rfl⟩)⟩
    · exact ⟨p, q, r, 0, true, false, rfl, rfl, rfl, by simp [h], by simp [h], Or.inr (Or.inr ⟨rfl, by omega, rfl, rfl⟩)⟩
set_option maxRecDepth 100000 in
set_option maxHeartbeats 32000000 in
theorem alike_any (li cn now : Int) (mw mh : Option Nat) (ao bo ap : Option Addr) (c d cp n : Nat) (W : List (Int × Wn)) (H : List (Int × Hv)) (P : List Int) (w : World) (hMW : WnM w mw W) (hMH : HvM w mh H) (hR : Ref w (.slice ao W.length c) (.slice bo H.length d) W H) (hP : IRowAt w ap n P) (hn : n ≤ 100) (hl : W.length ≤ 100000) (hk : H.length ≤ 100000) :
   Calls Try.prog 16 #[hsV li cn mw mh, rsV li cn (.slice ao W.length c) (.slice bo H.length d), .int .i64 now, .slice ap n cp] w fun e w' => e = .returned (.bool true) ∧ Below w.heap.size w w' := by
  unfold hsV rsV
  have X0 := blk_new w 26 #[.int .i64 li, .int .i64 cn, .map mw, .map mh]
  have B0 := belowA w (.cells #[.int .i64 li, .int .i64 cn, .map mw, .map mh] 26)
  have s0 : (w.alloc (.cells #[.int .i64 li, .int .i64 cn, .map mw, .map mh] 26)).heap.size = w.heap.size + 1 := by simp
  generalize hw0 : w.alloc (.cells #[.int .i64 li, .int .i64 cn, .map mw, .map mh] 26) = w0 at *
  have X1 := blk_new w0 30 #[.int .i64 li, .int .i64 cn, .slice ao W.length c, .slice bo H.length d]
  have B1 := belowA w0 (.cells #[.int .i64 li, .int .i64 cn, .slice ao W.length c, .slice bo H.length d] 30)
  have X01 := X0.below B1
  rw [s0] at X1
  have s1 : (w0.alloc (.cells #[.int .i64 li, .int .i64 cn, .slice ao W.length c, .slice bo H.length d] 30)).heap.size = w.heap.size + 1 + 1 := by simp [s0]
  generalize hw1 : w0.alloc (.cells #[.int .i64 li, .int .i64 cn, .slice ao W.length c, .slice bo H.length d] 30) = w1 at *
  have HB : Hid (Below w.heap.size w w1) := below_then B0 B1
  have z1 : w.heap.size + 1 + 1 ≤ w1.heap.size := by omega
  have HMW : Hid (∀ W', Below w.heap.size w W' → WnM W' mw W) := fun W' h => hMW.below h
  have HMH : Hid (∀ W', Below w.heap.size w W' → HvM W' mh H) := fun W' h => hMH.below h
  have HRF : Hid (∀ W', Below w.heap.size w W' → Ref W' (.slice ao W.length c) (.slice bo H.length d) W H) := fun W' h => hR.below h
  have HPR : Hid (∀ W', Below w.heap.size w W' → IRowAt W' ap n P) := fun W' h => hP.below h
  have L1 := fun ty => (HMW.out w1 HB.out).len ty
  have L2 := fun ty => (HMH.out w1 HB.out).len ty
  have a0 : w1.cell? ⟨w.heap.size, 0, none⟩ = some (.int .i64 li) := X01.cell 0 rfl
  have a1 : w1.cell? ⟨w.heap.size, 1, none⟩ = some (.int .i64 cn) := X01.cell 1 rfl
  have a2 : w1.cell? ⟨w.heap.size, 2, none⟩ = some (.map mw) := X01.cell 2 rfl
  have a3 : w1.cell? ⟨w.heap.size, 3, none⟩ = some (.map mh) := X01.cell 3 rfl
  have b0 : w1.cell? ⟨w.heap.size + 1, 0, none⟩ = some (.int .i64 li) := X1.cell 0 rfl
  have b1 : w1.cell? ⟨w.heap.size + 1, 1, none⟩ = some (.int .i64 cn) := X1.cell 1 rfl
  have b2 : w1.cell? ⟨w.heap.size + 1, 2, none⟩ = some (.slice ao W.length c) := X1.cell 2 rfl
  have b3 : w1.cell? ⟨w.heap.size + 1, 3, none⟩ = some (.slice bo H.length d) := X1.cell 3 rfl
  clear B0 B1 hMW hMH hR hP s1
  go_enter Try.func16, Try.ntmps16
  go_wp2_with fail
  clear a0 a1 a2 a3 b0 b1 b2 b3 L1 L2 hw0 hw1
  go_loopg [49] n (fun r s49 wr => ∃ j : Nat, j ≤ n ∧ r = n - j ∧ s49 = .int .i64 (j : Int) ∧ Below w1.heap.size w1 wr)
  case atStart => exact ⟨0, by omega, by omega, rfl, Below.refl _ _⟩
  case round =>
  obtain ⟨j, hj, rfl, rfl, BX⟩ := hrel
  rcases Nat.lt_or_ge j n with hlt | hge
  case inr =>
    obtain rfl : j = n := by omega
    go_wp2_with fail
    go_ret
    exact ⟨rfl, below_then HB.out BX⟩
  have d5 : (j : Int) < (n : Int) := by omega
  have BXw := below_then HB.out BX
  have IR := HPR.out wr BXw
  have hps := IR.small j
  obtain ⟨ba, oa, rfl, hc⟩ := IR.cells (by omega)
  have cN := hc j hlt
  generalize el P j = p at *
  clear IR hc
  have zx := BX.size
  have X0r := X01.below BX
  have X1r := X1.below BX
  have C1 := rWanted_any li cn p ao bo c H.length d 0 W wr (HRF.out wr BXw).1 hl
  have HC2 : Hid (∀ W', Below w.heap.size w W' → _) := fun W' h => rHad_any li cn p bo ao d W.length c 0 H W' (HRF.out W' h).2 hk
  have HC3 : Hid (∀ W', Below w.heap.size w W' → _) := fun W' h => hbel_any li cn mw mh now p H W' (HMH.out W' h) hps
  have HL1 : Hid (∀ W', Below w.heap.size w W' → _) := fun W' h => (HMW.out W' h).look1 p hps
  have HL2 : Hid (∀ W', Below w.heap.size w W' → _) := fun W' h => (HMH.out W' h).look1 p hps
  obtain ⟨e1, q1, r1, ha1, ha2, ha3⟩ := wn_parts p (getM W p)
  obtain ⟨e2, q2, r2, be, bb, ok, hb1, hb2, hb3, hb4, hb5, hb6⟩ := hv_parts p now H
  rw [ha1] at C1
  rw [ha2] at HL1
  rw [hb1, hb3] at HC2
  rw [hb2] at HL2
  rw [hb4, hb5] at HC3
  generalize (getM W p).isSome = aa at *
  have HA3 : Hid (aa = false → q1 = 0 ∧ r1 = 0) := ha3
  have HB6 : Hid (bb = false ∧ ok = false ∧ be = 0 ∨ bb = true ∧ now < r2 ∧ ok = true ∧ be = q2 ∨ bb = true ∧ r2 ≤ now ∧ ok = false ∧ be = 0) := hb6
  clear ha1 ha2 ha3 hb1 hb2 hb3 hb4 hb5 hb6
  unfold hsV at HC3
  unfold rsV at C1 HC2
  go_upto_region 7 with (first
    | (go_at_call 28; refine C1.mono ?_; rintro e w2 ⟨rfl, B2⟩; obtain ⟨XA, XB, BBB, zB⟩ := tvar 77 w2 e1 q1 r1; generalize hwA : w2.alloc (.cells #[.int .i64 0, .int .i64 0, .int .i64 0] 77) = wA at *; generalize hwB : wA.setRow w2.heap.size #[.int .i64 e1, .int .i64 q1, .int .i64 r1] = wB at *; have z2 := B2.size)
    | (refine wpList_load_row rfl 30 _ rfl (w.heap.size + 1) rfl 30 _ (0, 0) _ X1r Try.underlying30 rfl Try.infoRsH ?_)
    | (refine wpList_store_row rfl 77 _ _ rfl w2.heap.size _ rfl rfl 77 _ XA Try.infoRWnS rfl (tall _ _ _) ?_; rw [hwB]))
  have BXB := below_then BXw (below_then B2 BBB)
  have X0B := (X0r.below B2).below BBB
  have X1B := (X1r.below B2).below BBB
  have C2 := HC2.out wB BXB
  clear C1 cN X0r X1r
  go_upto_region 8 with (first
    | (go_at_call 29; refine C2.mono ?_; rintro e w3 ⟨rfl, B3⟩; obtain ⟨XC, XD, BBD, zD⟩ := tvar 85 w3 e2 q2 r2; generalize hwC : w3.alloc (.cells #[.int .i64 0, .int .i64 0, .int .i64 0] 85) = wC at *; generalize hwD : wC.setRow w3.heap.size #[.int .i64 e2, .int .i64 q2, .int .i64 r2] = wD at *; have z3 := B3.size)
    | (refine wpList_load_row rfl 30 _ rfl (w.heap.size + 1) rfl 30 _ (0, 0) _ X1B Try.underlying30 rfl Try.infoRsH ?_)
    | (refine wpList_store_row rfl 85 _ _ rfl w3.heap.size _ rfl rfl 85 _ XC Try.infoRHvS rfl (tall _ _ _) ?_; rw [hwD]))
  have BXD := below_then BXB (below_then B3 BBD)
  have X0D := (X0B.below B3).below BBD
  have XWD := (XB.below B3).below BBD
  have C3 := HC3.out wD BXD
  go_upto_region 9 with (first
    | (go_at_call 21; refine C3.mono ?_; rintro e w4 ⟨rfl, B4⟩)
    | (refine wpList_load_row rfl 26 _ rfl w.heap.size rfl 26 _ (0, 0) _ X0D Try.underlying26 rfl Try.infoHs ?_))
  have BX4 := below_then BXD B4
  have BXR : Below w1.heap.size w1 w4 := below_then BX (below_then (below_then B2 BBB) (below_then (below_then B3 BBD) B4))
  have X04 := X0D.below B4
  have XW4 := XWD.below B4
  have XH4 := XD.below B4
  have g2 : w4.cell? ⟨w.heap.size, 2, none⟩ = some (.map mw) := X04.cell 2 rfl
  have g3 : w4.cell? ⟨w.heap.size, 3, none⟩ = some (.map mh) := X04.cell 3 rfl
  have g4 : w4.cell? ⟨w2.heap.size, 1, none⟩ = some (.int .i64 q1) := XW4.cell 1 rfl
  have g5 : w4.cell? ⟨w2.heap.size, 2, none⟩ = some (.int .i64 r1) := XW4.cell 2 rfl
  have g6 : w4.cell? ⟨w3.heap.size, 1, none⟩ = some (.int .i64 q2) := XH4.cell 1 rfl
  have g7 : w4.cell? ⟨w3.heap.size, 2, none⟩ = some (.int .i64 r2) := XH4.cell 2 rfl
  have l1 := HL1.out w4 BX4
  have l2 := HL2.out w4 BX4
  clear C2 C3 X0B X1B XA XB XC XD X0D XWD hwA hwB hwC hwD BBB BBD B2 B3 B4 BX BXw BXB BXD
  cases aa with
  | true =>
    rcases HB6.out with ⟨rfl, rfl, rfl⟩ | ⟨rfl, h1, rfl, rfl⟩ | ⟨rfl, h1, rfl, rfl⟩
    all_goals
      go_wp2_with fail
      go_roundg (n - (j + 1))
      case measure => omega
      case rel => exact ⟨j + 1, by omega, rfl, by go_num, BXR⟩
  | false =>
    obtain ⟨rfl, rfl⟩ := HA3.out rfl
    rcases HB6.out with ⟨rfl, rfl, rfl⟩ | ⟨rfl, h1, rfl, rfl⟩ | ⟨rfl, h1, rfl, rfl⟩
    all_goals
      go_wp2_with fail
      go_roundg (n - (j + 1))
      case measure => omega
      case rel => exact ⟨j + 1, by omega, rfl, by go_num, BXR⟩
end Go.Proofs.Ytifbnnffejamaaa
