/- The law's alike: both authorities show the same. -/
import Derived.Test.YtacmphckmjangaaLrCall
import Derived.Test.YtacmphckmjangaaRowA
namespace Go.Proofs.Ytacmphckmjangaa
open Go.ChangeShapes Go.WideShapes Go.ChangeAt Go.RowKit Go.Maps
theorem hg_parts (p : Int) (o : Option Hg) : ∃ (pp a b c : Int) (ok : Bool), Rh.el' p o = .agg #[.int .i64 pp, .int .i64 a, .int .i64 b, .int .i64 c] ∧ Hg.val (o.getD Hg.zero) = .agg #[.int .i64 a, .int .i64 b, .int .i64 c] ∧ o.isSome = ok := by
  rcases o with _ | ⟨a, b, c⟩
  · exact ⟨0, 0, 0, 0, false, rfl, rfl, rfl⟩
  · exact ⟨p, a, b, c, true, rfl, rfl, rfl⟩
theorem last_next (now : Int) {R : List (Int × Hg)} {j : Nat} (hlt : j < R.length) : ((lastM now (R.take (j + 1))).length : Int) = if now < R[j].2.unt then ((lastM now (R.take j)).length : Int) + 1 else ((lastM now (R.take j)).length : Int) := by
  unfold lastM
  rw [List.take_succ_eq_append_getElem hlt, List.filter_append]
  by_cases h : now < R[j].2.unt
  · rw [if_pos h]; simp [h]
  · rw [if_neg h]; simp [h]
theorem last_len (now : Int) (R : List (Int × Hg)) (j : Nat) : (lastM now (R.take j)).length ≤ R.length := by
  unfold lastM
  have h1 := List.length_filter_le (fun p : Int × Hg => decide (now < p.2.unt)) (R.take j)
  rw [List.length_take] at h1
  omega
set_option maxRecDepth 100000 in
set_option maxHeartbeats 32000000 in
theorem lalike_any (ep q now : Int) (mo : Option Nat) (ao ap : Option Addr) (c cp n : Nat) (R : List (Int × Hg)) (P : List Int) (w : World) (hM : HgM w mo R) (hR : HRow w 0 (.slice ao R.length c) R) (ha : R.Pairwise (fun p q => p.1 ≠ q.1)) (hP : IRowAt w ap n P) (hn : n ≤ 100) (hl : R.length ≤ 10000) :
   Calls Try.prog 8 #[.agg #[.int .i64 ep, .int .i64 q, .map mo], .agg #[.int .i64 ep, .int .i64 q, .slice ao R.length c], .int .i64 now, .slice ap n cp] w fun e w' => e = .returned (.bool true) ∧ Below w.heap.size w w' := by
  have X0 := blk_new w 26 #[.int .i64 ep, .int .i64 q, .map mo]
  have B0 := belowA w (.cells #[.int .i64 ep, .int .i64 q, .map mo] 26)
  have s0 : (w.alloc (.cells #[.int .i64 ep, .int .i64 q, .map mo] 26)).heap.size = w.heap.size + 1 := by simp
  generalize hw0 : w.alloc (.cells #[.int .i64 ep, .int .i64 q, .map mo] 26) = w0 at *
  have X1 := blk_new w0 28 #[.int .i64 ep, .int .i64 q, .slice ao R.length c]
  have B1 := belowA w0 (.cells #[.int .i64 ep, .int .i64 q, .slice ao R.length c] 28)
  have X01 := X0.below B1
  rw [s0] at X1
  have s1 : (w0.alloc (.cells #[.int .i64 ep, .int .i64 q, .slice ao R.length c] 28)).heap.size = w.heap.size + 1 + 1 := by simp [s0]
  generalize hw1 : w0.alloc (.cells #[.int .i64 ep, .int .i64 q, .slice ao R.length c] 28) = w1 at *
  have HB : Hid (Below w.heap.size w w1) := below_then B0 B1
  have z1 : w.heap.size + 1 + 1 ≤ w1.heap.size := by omega
  have HM : Hid (∀ W', Below w.heap.size w W' → HgM W' mo R) := fun W' h => hM.below h
  have HRF : Hid (∀ W', Below w.heap.size w W' → HRow W' 0 (.slice ao R.length c) R) := fun W' h => KRow.below hR h
  have HPR : Hid (∀ W', Below w.heap.size w W' → IRowAt W' ap n P) := fun W' h => hP.below h
  have HLC : Hid (∀ W', Below w.heap.size w W' → _) := fun W' h => lcount_any ep q mo now R W' (hM.below h) (by omega)
  have b2 : w1.cell? ⟨w.heap.size + 1, 2, none⟩ = some (.slice ao R.length c) := X1.cell 2 rfl
  have hR1 := HRF.out w1 HB.out
  clear B0 B1 hM hR hP s1
  go_enter Try.func8, Try.ntmps8
  go_wp2_with fail
  clear b2 hw0 hw1
  go_loopg [9, 21] R.length (fun gg s9 s21 wr => ∃ j : Nat, j ≤ R.length ∧ gg = R.length - j ∧ s21 = .int .i64 (j : Int) ∧ s9 = .int .i64 ((lastM now (R.take j)).length : Int) ∧ Below w1.heap.size w1 wr)
  case atStart => exact ⟨0, by omega, by omega, rfl, rfl, Below.refl _ _⟩
  case round =>
  obtain ⟨j, hj, rfl, rfl, rfl, BX⟩ := hrel
  have zx := BX.size
  rcases Nat.lt_or_ge j R.length with hlt | hge
  · have d5 : (j : Int) < (R.length : Int) := by omega
    obtain ⟨g, rfl, hg, y0, y1, y2, y3⟩ := HRow.cells (KRow.below hR1 BX) hlt
    have E0 := last_next now hlt
    have hll := last_len now R j
    obtain ⟨⟨yp, yh, ye, yu⟩, hy⟩ : ∃ y : Int × Hg, y = R[j] := ⟨_, rfl⟩
    rw [← hy] at y0 y1 y2 y3 E0
    simp only at y0 y1 y2 y3 E0
    have HE : Hid (((lastM now (R.take (j + 1))).length : Int) = if now < yu then ((lastM now (R.take j)).length : Int) + 1 else ((lastM now (R.take j)).length : Int)) := E0
    obtain ⟨XAy, XBy, BBy, sy⟩ := varR wr 33 #[.int .i64 0, .int .i64 0, .int .i64 0, .int .i64 0] #[.int .i64 yp, .int .i64 yh, .int .i64 ye, .int .i64 yu]
    generalize hwC : wr.alloc (.cells #[.int .i64 0, .int .i64 0, .int .i64 0, .int .i64 0] 33) = wC at *
    generalize hwD : wC.setRow wr.heap.size #[.int .i64 yp, .int .i64 yh, .int .i64 ye, .int .i64 yu] = wD at *
    have v3 : wD.cell? ⟨wr.heap.size, 3, none⟩ = some (.int .i64 yu) := XBy.cell 3 rfl
    clear hy E0 hg
    generalize (lastM now (R.take j)).length = kk at *
    by_cases hu : now < yu
    · go_wp2_with (refine wpList_store_row rfl 33 _ _ rfl wr.heap.size _ rfl rfl 33 _ XAy Try.infoRhS rfl (hall4 _ _ _ _) ?_; rw [hwD])
      go_roundg (R.length - (j + 1))
      case measure => omega
      case rel => exact ⟨j + 1, by omega, rfl, by go_num, by rw [HE.out, if_pos hu], below_then BX BBy⟩
    · have HU : Hid (¬ now < yu) := hu
      go_wp2_with (refine wpList_store_row rfl 33 _ _ rfl wr.heap.size _ rfl rfl 33 _ XAy Try.infoRhS rfl (hall4 _ _ _ _) ?_; rw [hwD])
      go_roundg (R.length - (j + 1))
      case measure => omega
      case rel => exact ⟨j + 1, by omega, rfl, by go_num, by rw [HE.out, if_neg (show ¬ now < yu by have := HU.out; omega)], below_then BX BBy⟩
  obtain rfl : j = R.length := by omega
  rw [List.take_length]
  have BXw := below_then HB.out BX
  have LC := HLC.out wr BXw
  unfold lsV at LC
  generalize ((lastM now R).length : Int) = cnt at *
  have X0r := X01.below BX
  have X1r := X1.below BX
  have a0 : wr.cell? ⟨w.heap.size, 0, none⟩ = some (.int .i64 ep) := X0r.cell 0 rfl
  have a1 : wr.cell? ⟨w.heap.size, 1, none⟩ = some (.int .i64 q) := X0r.cell 1 rfl
  have a2 : wr.cell? ⟨w.heap.size, 2, none⟩ = some (.map mo) := X0r.cell 2 rfl
  have b0 : wr.cell? ⟨w.heap.size + 1, 0, none⟩ = some (.int .i64 ep) := X1r.cell 0 rfl
  have b1 : wr.cell? ⟨w.heap.size + 1, 1, none⟩ = some (.int .i64 q) := X1r.cell 1 rfl
  obtain ⟨wo, hwo⟩ : ∃ wo, wo = wr := ⟨_, rfl⟩
  subst hwo
  go_wp2_with (go_at_call 14; refine LC.mono ?_; rintro e wk ⟨rfl, BK⟩)
  have BKw := below_then BXw BK
  have X0k := X0r.below BK
  have X1k := X1r.below BK
  clear a0 a1 a2 b0 b1 LC HLC X0r X1r
  go_loopg [53] n (fun r s53 wr => ∃ j : Nat, j ≤ n ∧ r = n - j ∧ s53 = .int .i64 (j : Int) ∧ Below wk.heap.size wk wr)
  case atStart => exact ⟨0, by omega, by omega, rfl, Below.refl _ _⟩
  case round =>
  obtain ⟨j, hj, rfl, rfl, BY⟩ := hrel
  rcases Nat.lt_or_ge j n with hlt | hge
  case inr =>
    obtain rfl : j = n := by omega
    go_wp2_with fail
    go_ret
    exact ⟨rfl, below_then BKw BY⟩
  have d5 : (j : Int) < (n : Int) := by omega
  have BYw := below_then BKw BY
  have IR := HPR.out wr BYw
  have hps := IR.small j
  obtain ⟨ba, oa, rfl, hc⟩ := IR.cells (by omega)
  have cN := hc j hlt
  generalize el P j = p at *
  clear IR hc
  have X0y := X0k.below BY
  have X1y := X1k.below BY
  have C1 := lwho_any ep q mo now p R wr (HM.out wr BYw) hps
  have HC2 : Hid (∀ W', Below w.heap.size w W' → _) := fun W' h => rfind_any ep q now p ao c 0 R W' (HRF.out W' h) ha (by omega)
  obtain ⟨pp, h1, h2, h3, ok, e1, e2, e3⟩ := hg_parts p (whoL now R p)
  rw [e2, e3] at C1
  rw [e1, e3] at HC2
  unfold lsV at C1
  clear e1 e2 e3
  go_upto_region 14 with (first
    | (go_at_call 13; refine C1.mono ?_; rintro e w2 ⟨rfl, B2⟩; obtain ⟨XA, XB, BBB, zB⟩ := varR w2 51 #[.int .i64 0, .int .i64 0, .int .i64 0] #[.int .i64 h1, .int .i64 h2, .int .i64 h3]; generalize hwA : w2.alloc (.cells #[.int .i64 0, .int .i64 0, .int .i64 0] 51) = wA at *; generalize hwB : wA.setRow w2.heap.size #[.int .i64 h1, .int .i64 h2, .int .i64 h3] = wB at *; have z2 := B2.size)
    | (refine wpList_load_row rfl 26 _ rfl w.heap.size rfl 26 _ (0, 0) _ X0y Try.underlying26 rfl Try.infoLs ?_)
    | (refine wpList_store_row rfl 51 _ _ rfl w2.heap.size _ rfl rfl 51 _ XA Try.infoHg rfl (hall3 _ _ _) ?_; rw [hwB]))
  have BYB := below_then BYw (below_then B2 BBB)
  have X1B := (X1y.below B2).below BBB
  have C2 := HC2.out wB BYB
  clear C1 cN
  go_upto_region 15 with (first
    | (go_at_call 18; refine C2.mono ?_; rintro e w3 ⟨rfl, B3⟩; obtain ⟨XC, XD, BBD, zD⟩ := varR w3 33 #[.int .i64 0, .int .i64 0, .int .i64 0, .int .i64 0] #[.int .i64 pp, .int .i64 h1, .int .i64 h2, .int .i64 h3]; generalize hwC : w3.alloc (.cells #[.int .i64 0, .int .i64 0, .int .i64 0, .int .i64 0] 33) = wC at *; generalize hwD : wC.setRow w3.heap.size #[.int .i64 pp, .int .i64 h1, .int .i64 h2, .int .i64 h3] = wD at *; have z3 := B3.size)
    | (refine wpList_load_row rfl 28 _ rfl (w.heap.size + 1) rfl 28 _ (0, 0) _ X1B Try.underlying28 rfl Try.infoRs ?_)
    | (refine wpList_store_row rfl 33 _ _ rfl w3.heap.size _ rfl rfl 33 _ XC Try.infoRhS rfl (hall4 _ _ _ _) ?_; rw [hwD]))
  have BYD : Below wk.heap.size wk wD := below_then BY (below_then (below_then B2 BBB) (below_then B3 BBD))
  have XHD := (XB.below B3).below BBD
  have g0 : wD.cell? ⟨w2.heap.size, 0, none⟩ = some (.int .i64 h1) := XHD.cell 0 rfl
  have g1 : wD.cell? ⟨w2.heap.size, 1, none⟩ = some (.int .i64 h2) := XHD.cell 1 rfl
  have g2 : wD.cell? ⟨w2.heap.size, 2, none⟩ = some (.int .i64 h3) := XHD.cell 2 rfl
  have i1 : wD.cell? ⟨w3.heap.size, 1, none⟩ = some (.int .i64 h1) := XD.cell 1 rfl
  have i2 : wD.cell? ⟨w3.heap.size, 2, none⟩ = some (.int .i64 h2) := XD.cell 2 rfl
  have i3 : wD.cell? ⟨w3.heap.size, 3, none⟩ = some (.int .i64 h3) := XD.cell 3 rfl
  clear C2 X1B XA XB XC XD XHD hwA hwB hwC hwD BBB BBD B2 B3 BYw BYB X0y X1y
  go_wp2_with fail
  go_roundg (n - (j + 1))
  case measure => omega
  case rel => exact ⟨j + 1, by omega, rfl, by go_num, BYD⟩
end Go.Proofs.Ytacmphckmjangaa
