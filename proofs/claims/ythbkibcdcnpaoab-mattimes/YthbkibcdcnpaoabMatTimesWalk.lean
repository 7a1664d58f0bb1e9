/- The walk of MatTimes: at every two matrices and every number the law returns true, and what was there stays. -/
import Derived.Test.YthbkibcdcnpaoabMatY
import Derived.Deep.CutBlock
import Derived.Deep.RegionHeld
namespace Go.Proofs.Ythbkibcdcnpaoab
open Go.ChangeShapes Go.WideShapes Go.ChangeAt Go.RowKit
/-- The product's box and numbers: the document's where no error is told, else the zero matrix. -/
def Prod (w : World) (W r1 c1 c2 : Int) (A B : List Int) (g : Nat) : Prop :=
  ∃ pr pc po pn pk P, Box w g pr pc po pn pk ∧ RowAt w po pn P ∧ (W ≠ 0 → pr = 0 ∧ pc = 0 ∧ pn = 0) ∧ (∀ r m c : Nat, W = 0 → r1 = r → c1 = m → c2 = c → pr = r ∧ pc = c ∧ pn = r * c ∧ P = prodN A B r m c)
theorem want_two (r1 c1 r2 c2 : Int) (n1 n2 : Nat) : wantN r1 c1 r2 c2 n1 n2 = if (if chkN r1 c1 n1 ≠ 0 then chkN r1 c1 n1 else chkN r2 c2 n2) = 0 ∧ c1 ≠ r2 then 6 else (if chkN r1 c1 n1 ≠ 0 then chkN r1 c1 n1 else chkN r2 c2 n2) := by
  unfold wantN
  by_cases ha : chkN r1 c1 n1 = 0
  · by_cases hb : chkN r2 c2 n2 = 0
    · by_cases hc : c1 = r2
      · simp [hb, hc]
      · simp [ha, hb, hc]
    · simp [ha, hb]
  · simp [ha]
theorem want_zero {r1 c1 r2 c2 : Int} {n1 n2 : Nat} (h : wantN r1 c1 r2 c2 n1 n2 = 0) : chkN r1 c1 n1 = 0 ∧ chkN r2 c2 n2 = 0 ∧ c1 = r2 :=
  Decidable.byContradiction fun hno => want_ne hno h
set_option maxHeartbeats 1600000 in
set_option maxRecDepth 100000 in
theorem matTimes_walk (r1 c1 : Int) (a1 : Option Addr) (n1 k1 : Nat) (D1 : List Int) (r2 c2 : Int) (a2 : Option Addr) (n2 k2 : Nat) (D2 : List Int) (jj : Int) (w : World)
    (h1 : -9223372036854775808 ≤ r1 ∧ r1 ≤ 9223372036854775807) (h2 : -9223372036854775808 ≤ c1 ∧ c1 ≤ 9223372036854775807) (hD1 : Arg w a1 n1 k1 D1)
    (h3 : -9223372036854775808 ≤ r2 ∧ r2 ≤ 9223372036854775807) (h4 : -9223372036854775808 ≤ c2 ∧ c2 ≤ 9223372036854775807) (hD2 : Arg w a2 n2 k2 D2) (hj0 : -9223372036854775808 ≤ jj ∧ jj ≤ 9223372036854775807) :
    Calls Try.prog 3 #[matV r1 c1 a1 n1 k1, matV r2 c2 a2 n2 k2, .int .i64 jj] w fun e w' => e = .returned (.bool true) ∧ Below w.heap.size w w' := by
  obtain ⟨w0, w1, hw0, hw1, hs0, hs1, X0, X1, B1⟩ := two_start w r1 c1 r2 c2 a1 a2 n1 k1 n2 k2
  go_enter Try.func3, Try.ntmps3
  unfold matV
  go_upto_region 1 with fail
  clear hw0 hw1
  go_cut [] from 15 (fun wc => Two w r1 c1 r2 c2 wc)
  case first =>
    have q0 := X0.c0
    have q1 := X0.c1
    have q2 := X0.c2
    have p0 := X1.c0
    have p1 := X1.c1
    have p2 := X1.c2
    have BD : Below w1.heap.size w1 w1.drew := (Below.refl _ _).drew
    go_region_with (first
      | (go_at_call 8; refine (mfew_any r1 c1 a1 n1 k1 D1 _ (by exact hD1.below (below_then B1 BD))).mono ?_; rintro e w2 ⟨g1, m1, j1, E1, rfl, l1, F1, B2⟩; replace B2 : Below w1.heap.size w1 w2 := BD.trans B2; unfold matV; have u0 := (X1.below B2).c0; have u1 := (X1.below B2).c1; have u2 := (X1.below B2).c2)
      | (go_at_call 8; refine (mfew_any r2 c2 a2 n2 k2 D2 _ (by exact hD2.below (below_then B1 B2))).mono ?_; rintro e w3 ⟨g2, m2, j2, E2, rfl, l2, F2, B3⟩; unfold matV; have F1' := F1.below B3; have B4 := below_then B2 B3; have v0 := (X0.below B4).c0; have v1 := (X0.below B4).c1; have v2 := (X0.below B4).c2; have vf0 := (X0.below B4).frozen 0; have vf1 := (X0.below B4).frozen 1; have vf2 := (X0.below B4).frozen 2; have z0 := (X1.below B4).c0; have z1 := (X1.below B4).c1; have z2 := (X1.below B4).c2; have zf0 := (X1.below B4).frozen 0; have zf1 := (X1.below B4).frozen 1; have zf2 := (X1.below B4).frozen 2))
    all_goals
      have T := two_put (r1 := r1) (c1 := c1) (r2 := r2) (c2 := c2) (X0.below B4) (X1.below B4) F1' F2 (by rw [← hs1]; exact Nat.le_refl _) (by have := B2.size; omega) (below_then B1 B4) l1 l2
      go_wp2_with fail
      go_meet
      case rel => exact T
  case rest =>
    obtain ⟨g1, m1, j1, A, g2, m2, j2, B, l1, l2, X0, X1, F1, F2, B5⟩ := hcut
    generalize wc = w5 at *
    have b1 := F1.base
    have b2 := F2.base
    clear hs0 hs1 hD1 hD2 B1
    obtain ⟨va, hva⟩ : ∃ va, chkN r1 c1 m1 = va := ⟨_, rfl⟩
    obtain ⟨vb, hvb⟩ : ∃ vb, chkN r2 c2 m2 = vb := ⟨_, rfl⟩
    obtain ⟨W, hW⟩ : ∃ W, wantN r1 c1 r2 c2 m1 m2 = W := ⟨_, rfl⟩
    have HA : Hid (chkN r1 c1 m1 = va) := hva
    have HB : Hid (chkN r2 c2 m2 = vb) := hvb
    have HW : Hid (wantN r1 c1 r2 c2 m1 m2 = W) := hW
    clear hva hvb hW
    go_upto_region 2 with fail
    go_cut [7, 8] from 15 (fun s7 s8 wc => ∃ g7, s7 = .pointer (some ⟨g7, 0, none⟩) ∧ s8 = .int .i64 W ∧ Prod wc W r1 c1 c2 A B g7 ∧ Below w5.heap.size w5 wc)
    case first =>
      have q0 := X0.c0
      have q1 := X0.c1
      have q2 := X0.c2
      have p0 := X1.c0
      have p1 := X1.c1
      have p2 := X1.c2
      clear B5
      by_cases hgo : chkN r1 c1 m1 = 0 ∧ chkN r2 c2 m2 = 0 ∧ c1 = r2
      · obtain ⟨ha, hb, hc⟩ := hgo
        obtain ⟨r, m, rfl, rfl, y1, y2, y3, y4, hsa⟩ := chk_zero ha
        obtain ⟨m', c, hm', rfl, x1, x2, x3, x4, hsb⟩ := chk_zero hb
        obtain rfl : m = m' := by omega
        subst hm'
        have MA : MatAt w5 r m g1 0 m1 j1 A := ⟨y1, y2, y3, y4, hsa, F1.fit, F1.max, F1.rowAt⟩
        have MB : MatAt w5 m c g2 0 m2 j2 B := ⟨x1, x2, x3, x4, hsb, F2.fit, F2.max, F2.rowAt⟩
        have hW0 : W = 0 := by rw [← HW.out]; unfold wantN; rw [if_neg (by omega), if_neg (by omega), if_neg (by omega)]
        subst hW0
        clear HW HA HB ha hb hc hsa hsb F1 F2 h1 h2 h3 h4
        go_wp2_with fail
        refine (times_any r m c g1 0 m1 j1 g2 0 m2 j2 A B w5 MA MB).mono ?_
        rintro e w6 ⟨g6, rfl, F6, B6⟩
        unfold matV
        have X7 := box_new w6 r c (some ⟨g6, 0, none⟩) (r * c) (r * c)
        have B7 : Below w6.heap.size w6 (w6.alloc (.cells #[.int .i64 r, .int .i64 c, .slice (some ⟨g6, 0, none⟩) (r * c) (r * c)] 24)) := (Below.refl _ _).alloc (Nat.le_refl _) _
        generalize hw7 : w6.alloc (.cells #[.int .i64 r, .int .i64 c, .slice (some ⟨g6, 0, none⟩) (r * c) (r * c)] 24) = w7 at X7 B7
        replace F6 := F6.below B7
        replace B7 := below_then B6 B7
        clear q0 q1 q2 p0 p1 p2 B6
        go_wp2_with fail
        go_meet
        case rel => exact ⟨w6.heap.size, rfl, rfl, ⟨r, c, _, r * c, r * c, _, X7, F6.rowAt, fun x => absurd rfl x, fun r' m' c' _ e1 e2 e3 => by
          obtain rfl : r = r' := by omega
          obtain rfl : m = m' := by omega
          obtain rfl : c = c' := by omega
          exact ⟨rfl, rfl, rfl, rfl⟩⟩, B7⟩
      · have hne := want_ne hgo
        rw [HW.out] at hne
        go_wp2_with fail
        refine (times_no2 r1 c1 r2 c2 g1 m1 j1 g2 m2 j2 A B w5 h1 h2 h3 h4 F1.arg F2.arg hgo).mono ?_
        rintro e w6 ⟨rfl, B6⟩
        rw [HW.out]
        unfold matV
        clear q0 q1 q2 p0 p1 p2 X0 X1 F1 F2 hgo HW HA HB
        have s6 := B6.size
        have X7 := box_new w6 0 0 none 0 0
        have B7 : Below w6.heap.size w6 (w6.alloc (.cells #[.int .i64 0, .int .i64 0, .slice none 0 0] 24)) := (Below.refl _ _).alloc (Nat.le_refl _) _
        generalize hw7 : w6.alloc (.cells #[.int .i64 0, .int .i64 0, .slice none 0 0] 24) = w7 at X7 B7
        replace B7 := below_then B6 B7
        have z0 := X7.c0
        have z1 := X7.c1
        have z2 := X7.c2
        have v0 := X7.frozen 0
        have v1 := X7.frozen 1
        have v2 := X7.frozen 2
        replace X7 := X7.put 0 0 none 0 0
        replace B7 := Below.put B7 (g := w6.heap.size) s6 (.int .i64 0) (.int .i64 0) (.slice none 0 0)
        generalize hw8 : ((w7.setCell ⟨w6.heap.size, 0, none⟩ (.int .i64 0)).setCell ⟨w6.heap.size, 1, none⟩ (.int .i64 0)).setCell ⟨w6.heap.size, 2, none⟩ (.slice none 0 0) = w8 at X7 B7
        go_wp2_with fail
        go_meet
        case rel => exact ⟨w6.heap.size, rfl, rfl, ⟨0, 0, none, 0, 0, [], X7, RowAt.nil _ _, fun _ => ⟨rfl, rfl, rfl⟩, fun _ _ _ e => absurd e hne⟩, B7⟩
    case rest =>
      obtain ⟨g7, rfl, rfl, ⟨pr, pc, po, pn, pk, P, X7, FP, p1, p2⟩, B7⟩ := hcut
      generalize wc = w7 at *
      have P1 : Hid (W ≠ 0 → pr = 0 ∧ pc = 0 ∧ pn = 0) := p1
      have P2 : Hid (∀ r m c : Nat, W = 0 → r1 = r → c1 = m → c2 = c → pr = r ∧ pc = c ∧ pn = r * c ∧ P = prodN A B r m c) := p2
      replace X0 := X0.below B7
      replace X1 := X1.below B7
      replace F1 := F1.below B7
      replace F2 := F2.below B7
      replace B7 := below_then B5 B7
      clear p1 p2 B5
      have q0 := X0.c0
      have q1 := X0.c1
      have q2 := X0.c2
      go_wp2_with fail
      refine (refCheck_any r1 c1 _ m1 j1 w7).mono ?_
      rintro e w8 ⟨rfl, B8⟩
      rw [HA.out]
      replace X0 := X0.below B8
      replace X1 := X1.below B8
      replace F1 := F1.below B8
      replace F2 := F2.below B8
      replace X7 := X7.below B8
      replace FP := FP.below B8
      replace B8 := below_then B7 B8
      clear q0 q1 q2 B7
      go_upto_if 28 with fail
      go_cut [9] from 15 (fun s wc => s = .int .i64 (if va ≠ 0 then va else vb) ∧ Below w8.heap.size w8 wc)
      case first =>
        by_cases hz : va = 0
        · subst hz
          have q0 := X1.c0
          have q1 := X1.c1
          have q2 := X1.c2
          go_wp2_with fail
          refine (refCheck_any r2 c2 _ m2 j2 w8).mono ?_
          rintro e w9 ⟨rfl, B9⟩
          rw [HB.out]
          go_wp2_with fail
          go_meet
          case rel => exact ⟨by rw [if_neg (by omega)], B9⟩
        · have hz' : (va == 0) = false := by simpa using hz
          go_wp2_with fail
          go_meet
          case rel => exact ⟨by rw [if_pos hz], Below.refl _ _⟩
      case rest =>
        obtain ⟨rfl, B9⟩ := hcut
        generalize wc = w9 at *
        replace X0 := X0.below B9
        replace X1 := X1.below B9
        replace F1 := F1.below B9
        replace F2 := F2.below B9
        replace X7 := X7.below B9
        replace FP := FP.below B9
        replace B9 := below_then B8 B9
        clear B8
        have hvw : W = if (if va ≠ 0 then va else vb) = 0 ∧ c1 ≠ r2 then 6 else (if va ≠ 0 then va else vb) := by
          rw [← HW.out, want_two, HA.out, HB.out]
        generalize (if va ≠ 0 then va else vb) = vab at *
        have HV : Hid (W = if vab = 0 ∧ c1 ≠ r2 then 6 else vab) := hvw
        clear hvw
        go_upto_region 6 with fail
        go_cut [39] from 15 (fun s wc => s = .bool (decide (vab = 0 ∧ c1 ≠ r2)) ∧ wc = w9)
        case first =>
          have q0 := X0.c1
          have q1 := X1.c0
          by_cases hz : vab = 0
          · subst hz
            by_cases hc : c1 = r2
            · subst hc
              go_wp2_with fail
              go_meet
              case rel => exact ⟨by simp, rfl⟩
            · have hc' : (c1 == r2) = false := by simpa using hc
              go_wp2_with fail
              go_meet
              case rel => exact ⟨by simp [hc], rfl⟩
          · have hz' : (vab == 0) = false := by simpa using hz
            go_wp2_with fail
            go_meet
            case rel => exact ⟨by simp [hz], rfl⟩
        case rest =>
          obtain ⟨rfl, rfl⟩ := hcut
          generalize wc = w9 at *
          go_upto_if 39 with fail
          go_cut [9] from 15 (fun s wc => s = .int .i64 W ∧ wc = w9)
          case first =>
            by_cases hz : vab = 0 ∧ c1 ≠ r2
            · have hd : decide (vab = 0 ∧ c1 ≠ r2) = true := decide_eq_true hz
              rw [hd]
              have hw6 : W = 6 := by rw [HV.out, if_pos hz]
              go_wp2_with fail
              go_meet
              case rel => exact ⟨by rw [hw6], rfl⟩
            · have hd : decide (vab = 0 ∧ c1 ≠ r2) = false := decide_eq_false hz
              rw [hd]
              have hw6 : W = vab := by rw [HV.out, if_neg hz]
              go_wp2_with fail
              go_meet
              case rel => exact ⟨by rw [hw6], rfl⟩
          case rest =>
            obtain ⟨rfl, rfl⟩ := hcut
            generalize wc = w9 at *
            clear HV
            go_wp2_with fail
            refine (unit_all jj w9 hj0).mono ?_
            rintro e w11 ⟨ur, uc, uo, un, ucap, U, rfl, FU, B11, o1, o2⟩
            unfold matV
            have O1 : Hid (sideN jj jj ≠ 0 → ur = 0 ∧ uc = 0 ∧ un = 0) := o1
            have O2 : Hid (∀ t : Nat, jj = t → 1 ≤ t → t ≤ 128 → ur = t ∧ uc = t ∧ un = t * t ∧ U = unitN t) := o2
            clear o1 o2
            replace X0 := X0.below B11
            replace X1 := X1.below B11
            replace F1 := F1.below B11
            replace F2 := F2.below B11
            replace X7 := X7.below B11
            replace FP := FP.below B11
            replace B11 := below_then B9 B11
            have XU := box_new w11 ur uc uo un ucap
            have B12 : Below w11.heap.size w11 (w11.alloc (.cells #[.int .i64 ur, .int .i64 uc, .slice uo un ucap] 24)) := (Below.refl _ _).alloc (Nat.le_refl _) _
            generalize hw12 : w11.alloc (.cells #[.int .i64 ur, .int .i64 uc, .slice uo un ucap] 24) = w12 at XU B12
            replace X0 := X0.below B12
            replace X1 := X1.below B12
            replace F1 := F1.below B12
            replace F2 := F2.below B12
            replace X7 := X7.below B12
            replace FP := FP.below B12
            replace FU := FU.below B12
            replace B12 := below_then B11 B12
            obtain ⟨sv, hsv⟩ : ∃ sv, sideN jj jj = sv := ⟨_, rfl⟩
            rw [hsv] at O1 ⊢
            have HSV : Hid (sideN jj jj = sv) := hsv
            clear hsv
            go_upto_region 9 with fail
            clear hw12 B11
            go_cut [79] from 15 (fun s wc => s = .bool false ∧ Below w12.heap.size w12 wc)
            case first =>
              rcases (show jj < 1 ∨ 128 < jj ∨ (1 ≤ jj ∧ jj ≤ 128) by omega) with hJ | hJ | hJ
              · obtain rfl : sv = 1 := by rw [← HSV.out]; unfold sideN; rw [if_pos (by omega)]
                go_wp2_with fail
                refine (mawake_any w12).mono ?_
                rintro e w13 ⟨rfl, B13⟩
                go_wp2_with fail
                go_meet
                case rel => exact ⟨rfl, B13⟩
              · obtain rfl : sv = 2 := by rw [← HSV.out]; unfold sideN; rw [if_neg (by omega), if_pos (by omega)]
                go_wp2_with fail
                refine (mawake_any w12).mono ?_
                rintro e w13 ⟨rfl, B13⟩
                go_wp2_with fail
                go_meet
                case rel => exact ⟨rfl, B13⟩
              · obtain rfl : sv = 0 := by rw [← HSV.out]; unfold sideN; rw [if_neg (by omega), if_neg (by omega)]
                go_wp2_with fail
                refine (mawake_any w12).mono ?_
                rintro e w13 ⟨rfl, B13⟩
                go_wp2_with fail
                go_meet
                case rel => exact ⟨rfl, B13⟩
            case rest =>
              obtain ⟨rfl, B13⟩ := hcut
              generalize wc = w13 at *
              replace X0 := X0.below B13
              replace X1 := X1.below B13
              replace F1 := F1.below B13
              replace F2 := F2.below B13
              replace X7 := X7.below B13
              replace FP := FP.below B13
              replace XU := XU.below B13
              replace FU := FU.below B13
              replace B13 := below_then B12 B13
              clear B12
              go_upto_region 11 with fail
              go_cut [87] from 15 (fun s wc => s = .bool false ∧ Below w13.heap.size w13 wc)
              case first =>
                by_cases hs0 : sv = 0
                · subst hs0
                  go_wp2_with fail
                  go_meet
                  case rel => exact ⟨rfl, Below.refl _ _⟩
                · have hs1 : (sv == 0) = false := by simpa using hs0
                  obtain ⟨rfl, rfl, rfl⟩ := O1.out hs0
                  have z0 := XU.c0
                  have z1 := XU.c1
                  have z2 := XU.c2
                  go_wp2_with fail
                  refine (msame_any 0 0 uo none 0 ucap 0 [] w13 (RowAt.nil _ _) (RowAt.nil _ _)).mono ?_
                  rintro e w14 ⟨rfl, B14⟩
                  go_wp2_with fail
                  go_meet
                  case rel => exact ⟨rfl, B14⟩
              case rest =>
                obtain ⟨rfl, B14⟩ := hcut
                generalize wc = w14 at *
                replace X0 := X0.below B14
                replace X1 := X1.below B14
                replace F1 := F1.below B14
                replace F2 := F2.below B14
                replace X7 := X7.below B14
                replace FP := FP.below B14
                replace XU := XU.below B14
                replace FU := FU.below B14
                replace B14 := below_then B13 B14
                clear B13 O1
                go_upto_block 0 with fail
                go_cut [12, 13, 14] from 15 (fun _ _ _ wc => Below w14.heap.size w14 wc)
                case first =>
                  clear P1 P2 HA HB HW h1 h2 h3 h4 X0 X1 F1 F2 X7 FP B14 b1 b2
                  by_cases hs0 : sv = 0
                  · have hb := side_zero (HSV.out.trans hs0)
                    subst hs0
                    obtain ⟨t, rfl⟩ : ∃ t : Nat, jj = t := ⟨jj.toNat, by omega⟩
                    obtain ⟨rfl, rfl, rfl, rfl⟩ := O2.out t rfl (by omega) (by omega)
                    have ht1 : 1 ≤ t := by omega
                    have ht2 : t ≤ 128 := by omega
                    have HU : Hid (chkN t t (t * t) = 0) := chk_ok ht1 ht2 ht1 ht2 rfl
                    have htt := size_le ht2 ht2
                    clear hb hj0 O2 HSV
                    go_wp2_with fail
                    go_loopg [12] t (fun k0 ii wr => ∃ i : Nat, i ≤ t ∧ k0 = t - i ∧ ii = .int .i64 i ∧ Below w14.heap.size w14 wr)
                    case atStart => exact ⟨0, by omega, by omega, rfl, Below.refl _ _⟩
                    case round =>
                      obtain ⟨i, hi, rfl, rfl, B15⟩ := hrel
                      by_cases hlt : i < t
                      · go_wp2_with fail
                        go_loopg [13] t (fun k0 ii wr => ∃ j : Nat, j ≤ t ∧ k0 = t - j ∧ ii = .int .i64 j ∧ Below w14.heap.size w14 wr)
                        case atStart => exact ⟨0, by omega, by omega, rfl, B15⟩
                        case round =>
                          clear B15
                          obtain ⟨j, hj, rfl, rfl, B15⟩ := hrel
                          by_cases hjt : j < t
                          · have XV := XU.below B15
                            have z0 := XV.c0
                            have z1 := XV.c1
                            have z2 := XV.c2
                            by_cases hij : i = j
                            · subst hij
                              go_wp2_with fail
                              refine (refCheck_any t t _ (t * t) ucap wr).mono ?_
                              rintro e w16 ⟨rfl, B16⟩
                              rw [HU.out]
                              have XV := XV.below B16
                              have FV := FU.below (below_then B15 B16)
                              clear z0 z1 z2
                              have z0 := XV.c0
                              have z1 := XV.c1
                              have z2 := XV.c2
                              have hq : i * t + i < t * t := by have := row_in (c := t) hlt; omega
                              obtain ⟨b', o', rfl, hcell⟩ := FV.cells (by omega)
                              have hv := hcell (i * t + i) hq
                              rw [el_unitN t i i hlt hlt, if_pos rfl] at hv
                              have e1 : (i : Int) * (t : Int) = ((i * t : Nat) : Int) := by rw [Int.natCast_mul]
                              generalize i * t = it at *
                              clear hcell FV
                              go_wp2
                              go_roundg (t - (i + 1))
                              case measure => omega
                              case rel => exact ⟨i + 1, by omega, rfl, by go_num, below_then B15 B16⟩
                            · go_wp2_with fail
                              refine (refCheck_any t t _ (t * t) ucap wr).mono ?_
                              rintro e w16 ⟨rfl, B16⟩
                              rw [HU.out]
                              have XV := XV.below B16
                              have FV := FU.below (below_then B15 B16)
                              clear z0 z1 z2
                              have z0 := XV.c0
                              have z1 := XV.c1
                              have z2 := XV.c2
                              have hq : i * t + j < t * t := by have := row_in (c := t) hlt; omega
                              obtain ⟨b', o', rfl, hcell⟩ := FV.cells (by omega)
                              have hv := hcell (i * t + j) hq
                              rw [el_unitN t i j hlt hjt, if_neg hij] at hv
                              have e1 : (i : Int) * (t : Int) = ((i * t : Nat) : Int) := by rw [Int.natCast_mul]
                              generalize i * t = it at *
                              clear hcell FV
                              go_wp2
                              go_roundg (t - (j + 1))
                              case measure => omega
                              case rel => exact ⟨j + 1, by omega, rfl, by go_num, below_then B15 B16⟩
                          · go_wp2
                            go_roundg (t - (i + 1))
                            case measure => omega
                            case rel => exact ⟨i + 1, by omega, rfl, by go_num, B15⟩
                      · go_wp2_with fail
                        go_meet
                        case rel => exact B15
                  · have hs1 : (sv == 0) = false := by simpa using hs0
                    go_wp2_with fail
                    go_loopg [12] 0 (fun k0 ii wr => ii = .int .i64 0 ∧ wr = w14)
                    case atStart => exact ⟨rfl, rfl⟩
                    case round =>
                      obtain ⟨rfl, rfl⟩ := hrel
                      go_wp2_with fail
                      go_meet
                      case rel => exact Below.refl _ _
                case rest =>
                  generalize wc = w15 at *
                  replace X0 := X0.below hcut
                  replace X1 := X1.below hcut
                  replace F1 := F1.below hcut
                  replace F2 := F2.below hcut
                  replace X7 := X7.below hcut
                  replace FP := FP.below hcut
                  replace hcut := below_then B14 hcut
                  clear B14 FU XU O2 HSV hj0
                  have B15 := hcut
                  clear hcut
                  have BD : Below w15.heap.size w15 w15.drew := (Below.refl _ _).drew
                  by_cases hw0 : W = 0
                  · subst hw0
                    obtain ⟨ha, hb, hc⟩ := want_zero HW.out
                    obtain ⟨r, m, rfl, rfl, y1, y2, y3, y4, hsa⟩ := chk_zero ha
                    obtain ⟨m', c, hm', rfl, x1, x2, x3, x4, hsb⟩ := chk_zero hb
                    obtain rfl : m = m' := by omega
                    subst hm'
                    have MA : MatAt w15 r m g1 0 m1 j1 A := ⟨y1, y2, y3, y4, hsa, F1.fit, F1.max, F1.rowAt⟩
                    have MB : MatAt w15 m c g2 0 m2 j2 B := ⟨x1, x2, x3, x4, hsb, F2.fit, F2.max, F2.rowAt⟩
                    obtain ⟨rfl, rfl, rfl, rfl⟩ := P2.out r m c rfl rfl rfl rfl
                    clear P1 P2 HA HB HW ha hb hc hsa hsb F1 F2 h1 h2 h3 h4 y1 y2 y3 y4 x1 x2 x3 x4
                    have q0 := X0.c0
                    have q1 := X0.c1
                    have q2 := X0.c2
                    have p0 := X1.c0
                    have p1 := X1.c1
                    have p2 := X1.c2
                    have z0 := X7.c0
                    have z1 := X7.c1
                    have z2 := X7.c2
                    go_wp2_with fail
                    refine wp_region_held_drew (S := fun w' => w'.cell? ⟨w.heap.size, 0, none⟩ = some (.int .i64 r) ∧ w'.cell? ⟨w.heap.size, 1, none⟩ = some (.int .i64 m) ∧ w'.cell? ⟨w.heap.size, 2, none⟩ = some (.slice (some ⟨g1, 0, none⟩) m1 j1) ∧ w'.cell? ⟨w.heap.size + 1, 0, none⟩ = some (.int .i64 m) ∧ w'.cell? ⟨w.heap.size + 1, 1, none⟩ = some (.int .i64 c) ∧ w'.cell? ⟨w.heap.size + 1, 2, none⟩ = some (.slice (some ⟨g2, 0, none⟩) m2 j2) ∧ w'.cell? ⟨g7, 0, none⟩ = some (.int .i64 r) ∧ w'.cell? ⟨g7, 1, none⟩ = some (.int .i64 c) ∧ w'.cell? ⟨g7, 2, none⟩ = some (.slice po (r * c) pk)) (by kernel_rfl) ⟨(X0.below BD).c0, (X0.below BD).c1, (X0.below BD).c2, (X1.below BD).c0, (X1.below BD).c1, (X1.below BD).c2, (X7.below BD).c0, (X7.below BD).c1, (X7.below BD).c2⟩ (fun hHeld => ?_)
                    refine wpAnyH_take (i := 0) (v := (.int .i64 0)) rfl (by kernel_rfl) (by kernel_rfl) (by kernel_rfl) (fun _ _ _ h => h) (Or.inl ⟨by rfl, ?_⟩) (by assumption) ?_
                    · intro w' hSw
                      go_simp
                    simp only [List.getElem_toArray, List.getElem_cons_zero, Act.put, List.setIfInBounds_toArray, List.set_cons_zero, List.set_cons_succ]
                    refine wpAnyH_take (i := 1) (v := (.bool false)) rfl (by kernel_rfl) (by kernel_rfl) (by kernel_rfl) (fun _ _ _ h => h) (Or.inl ⟨by rfl, ?_⟩) (by assumption) ?_
                    · intro w' hSw
                      go_simp
                    simp only [List.getElem_toArray, List.getElem_cons_succ, List.getElem_cons_zero, Act.put, List.setIfInBounds_toArray, List.set_cons_zero, List.set_cons_succ]
                    refine wpAnyH_take (i := 2) (v := (.bool false)) rfl (by kernel_rfl) (by kernel_rfl) (by kernel_rfl) (fun _ _ _ h => h) (Or.inl ⟨by rfl, ?_⟩) (by assumption) ?_
                    · intro w' hSw
                      go_simp
                    simp only [List.getElem_toArray, List.getElem_cons_succ, List.getElem_cons_zero, Act.put, List.setIfInBounds_toArray, List.set_cons_zero, List.set_cons_succ]
                    refine wpAnyH_take (i := 3) (v := undef) rfl (by kernel_rfl) (by kernel_rfl) (by kernel_rfl) (fun _ _ _ h => h) (Or.inr ⟨by rfl, rfl⟩) (by assumption) ?_
                    simp only [List.getElem_toArray, List.getElem_cons_succ, List.getElem_cons_zero, Act.put, List.setIfInBounds_toArray, List.set_cons_zero, List.set_cons_succ]
                    refine wpAnyH_take (i := 4) (v := undef) rfl (by kernel_rfl) (by kernel_rfl) (by kernel_rfl) (fun _ _ _ h => h) (Or.inr ⟨by rfl, rfl⟩) (by assumption) ?_
                    simp only [List.getElem_toArray, List.getElem_cons_succ, List.getElem_cons_zero, Act.put, List.setIfInBounds_toArray, List.set_cons_zero, List.set_cons_succ]
                    refine wpAnyH_take (i := 5) (v := undef) rfl (by kernel_rfl) (by kernel_rfl) (by kernel_rfl) (fun _ _ _ h => h) (Or.inr ⟨by rfl, rfl⟩) (by assumption) ?_
                    simp only [List.getElem_toArray, List.getElem_cons_succ, List.getElem_cons_zero, Act.put, List.setIfInBounds_toArray, List.set_cons_zero, List.set_cons_succ]
                    refine wpAnyH_take (i := 6) (v := (.bool false)) rfl (by kernel_rfl) (by kernel_rfl) (by kernel_rfl) (fun _ _ _ h => h) (Or.inl ⟨by rfl, ?_⟩) (by assumption) ?_
                    · intro w' hSw
                      go_simp
                    simp only [List.getElem_toArray, List.getElem_cons_succ, List.getElem_cons_zero, Act.put, List.setIfInBounds_toArray, List.set_cons_zero, List.set_cons_succ]
                    refine wpAnyH_take (i := 7) (v := (.bool false)) rfl (by kernel_rfl) (by kernel_rfl) (by kernel_rfl) (fun _ _ _ h => h) (Or.inl ⟨by rfl, ?_⟩) (by assumption) ?_
                    · intro w' hSw
                      go_simp
                    simp only [List.getElem_toArray, List.getElem_cons_succ, List.getElem_cons_zero, Act.put, List.setIfInBounds_toArray, List.set_cons_zero, List.set_cons_succ]
                    refine wpAnyH_take (i := 8) (v := (.int .i64 0)) rfl (by kernel_rfl) (by kernel_rfl) (by kernel_rfl) (fun _ _ _ h => h) (Or.inl ⟨by rfl, ?_⟩) (by assumption) ?_
                    · intro w' hSw
                      go_simp
                    simp only [List.getElem_toArray, List.getElem_cons_succ, List.getElem_cons_zero, Act.put, List.setIfInBounds_toArray, List.set_cons_zero, List.set_cons_succ]
                    refine wpAnyH_take (i := 9) (v := (.bool true)) rfl (by kernel_rfl) (by kernel_rfl) (by kernel_rfl) (fun _ _ _ h => h) (Or.inl ⟨by rfl, ?_⟩) (by assumption) ?_
                    · intro w' hSw
                      go_simp
                    simp only [List.getElem_toArray, List.getElem_cons_succ, List.getElem_cons_zero, Act.put, List.setIfInBounds_toArray, List.set_cons_zero, List.set_cons_succ]
                    refine wpAnyH_take (i := 10) (v := (.bool true)) rfl (by kernel_rfl) (by kernel_rfl) (by kernel_rfl) (fun _ _ _ h => h) (Or.inl ⟨by rfl, ?_⟩) (by assumption) ?_
                    · intro w' hSw
                      go_simp
                    simp only [List.getElem_toArray, List.getElem_cons_succ, List.getElem_cons_zero, Act.put, List.setIfInBounds_toArray, List.set_cons_zero, List.set_cons_succ]
                    refine wpAnyH_take (i := 11) (v := (.agg #[.int .i64 r, .int .i64 c, .slice po (r * c) pk])) rfl (by kernel_rfl) (by kernel_rfl) (by kernel_rfl) (fun _ _ _ h => h) (Or.inl ⟨by rfl, ?_⟩) (by assumption) ?_
                    · intro w' hSw
                      go_simp
                    simp only [List.getElem_toArray, List.getElem_cons_succ, List.getElem_cons_zero, Act.put, List.setIfInBounds_toArray, List.set_cons_zero, List.set_cons_succ]
                    refine wpAnyH_take (i := 12) (v := (.agg #[.int .i64 r, .int .i64 m, .slice (some ⟨g1, 0, none⟩) m1 j1])) rfl (by kernel_rfl) (by kernel_rfl) (by kernel_rfl) (fun _ _ _ h => h) (Or.inl ⟨by rfl, ?_⟩) (by assumption) ?_
                    · intro w' hSw
                      go_simp
                    simp only [List.getElem_toArray, List.getElem_cons_succ, List.getElem_cons_zero, Act.put, List.setIfInBounds_toArray, List.set_cons_zero, List.set_cons_succ]
                    refine wpAnyH_take (i := 13) (v := (.agg #[.int .i64 m, .int .i64 c, .slice (some ⟨g2, 0, none⟩) m2 j2])) rfl (by kernel_rfl) (by kernel_rfl) (by kernel_rfl) (fun _ _ _ h => h) (Or.inl ⟨by rfl, ?_⟩) (by assumption) ?_
                    · intro w' hSw
                      go_simp
                    simp only [List.getElem_toArray, List.getElem_cons_succ, List.getElem_cons_zero, Act.put, List.setIfInBounds_toArray, List.set_cons_zero, List.set_cons_succ]
                    refine wpAnyH_ready (rs := [14]) (by kernel_rfl) (by simp) ?_
                    refine AllReadyH.cons rfl (fun K hK => ?_) AllReadyH.nil
                    simp only [List.getElem_toArray, List.getElem_cons_succ, List.getElem_cons_zero]
                    rw [if_pos (by rfl)]
                    go_wp2_with fail
                    refine (refTimes_any r m c g1 0 m1 j1 g2 0 m2 j2 A B _ (by exact MA.below BD) (by exact MB.below BD)).mono ?_
                    rintro e wT ⟨gT, kT, rfl, FT, BT⟩
                    replace BT : Below w15.heap.size w15 wT := BD.trans BT
                    unfold matV
                    go_wp2_with fail
                    refine hK.out _ _ ⟨(X0.below BT).c0, (X0.below BT).c1, (X0.below BT).c2, (X1.below BT).c0, (X1.below BT).c1, (X1.below BT).c2, (X7.below BT).c0, (X7.below BT).c1, (X7.below BT).c2⟩ (fun hHeld => ?_)
                    clear hK K
                    refine wpAnyH_ready (rs := [15]) (by kernel_rfl) (by simp) ?_
                    refine AllReadyH.cons rfl (fun K hK => ?_) AllReadyH.nil
                    simp only [List.getElem_toArray, List.getElem_cons_succ, List.getElem_cons_zero]
                    rw [if_pos (by rfl)]
                    go_wp2_with fail
                    refine (msame_any r c _ _ (r * c) _ _ (prodN A B r m c) _ (by exact FP.below BT) (by exact FT.rowAt)).mono ?_
                    rintro e wS ⟨rfl, BS⟩
                    replace BS := below_then BT BS
                    go_wp2_with fail
                    refine hK.out _ _ ⟨(X0.below BS).c0, (X0.below BS).c1, (X0.below BS).c2, (X1.below BS).c0, (X1.below BS).c1, (X1.below BS).c2, (X7.below BS).c0, (X7.below BS).c1, (X7.below BS).c2⟩ (fun hHeld => ?_)
                    clear hK K
                    refine wpAnyH_take (i := 16) (v := (.bool true)) rfl (by kernel_rfl) (by kernel_rfl) (by kernel_rfl) (fun _ _ _ h => h) (Or.inl ⟨by rfl, ?_⟩) (by assumption) ?_
                    · intro w' hSw
                      go_simp
                    simp only [List.getElem_toArray, List.getElem_cons_succ, List.getElem_cons_zero, Act.put, List.setIfInBounds_toArray, List.set_cons_zero, List.set_cons_succ]
                    refine wpAnyH_take (i := 17) (v := (.bool true)) rfl (by kernel_rfl) (by kernel_rfl) (by kernel_rfl) (fun _ _ _ h => h) (Or.inl ⟨by rfl, ?_⟩) (by assumption) ?_
                    · intro w' hSw
                      go_simp
                    simp only [List.getElem_toArray, List.getElem_cons_succ, List.getElem_cons_zero, Act.put, List.setIfInBounds_toArray, List.set_cons_zero, List.set_cons_succ]
                    refine wpAnyH_take (i := 18) (v := (.bool true)) rfl (by kernel_rfl) (by kernel_rfl) (by kernel_rfl) (fun _ _ _ h => h) (Or.inl ⟨by rfl, ?_⟩) (by assumption) ?_
                    · intro w' hSw
                      go_simp
                    simp only [List.getElem_toArray, List.getElem_cons_succ, List.getElem_cons_zero, Act.put, List.setIfInBounds_toArray, List.set_cons_zero, List.set_cons_succ]
                    refine wpAnyH_done (by kernel_rfl) ?_ _
                    go_wp2
                    go_ret
                    exact ⟨rfl, below_then B15 BS⟩
                  · obtain ⟨rfl, rfl, rfl⟩ := P1.out hw0
                    have hw1 : (W == 0) = false := by simpa using hw0
                    clear P1 P2 HA HB HW X0 X1 F1 F2 FP b1 b2 h1 h2 h3 h4
                    have z0 := X7.c0
                    have z1 := X7.c1
                    have z2 := X7.c2
                    go_wp2_with fail
                    refine wp_region_held_drew (S := fun w' => w'.cell? ⟨g7, 0, none⟩ = some (.int .i64 0) ∧ w'.cell? ⟨g7, 1, none⟩ = some (.int .i64 0) ∧ w'.cell? ⟨g7, 2, none⟩ = some (.slice po 0 pk)) (by kernel_rfl) ⟨(X7.below BD).c0, (X7.below BD).c1, (X7.below BD).c2⟩ (fun hHeld => ?_)
                    refine wpAnyH_take (i := 0) (v := (.int .i64 W)) rfl (by kernel_rfl) (by kernel_rfl) (by kernel_rfl) (fun _ _ _ h => h) (Or.inl ⟨by rfl, ?_⟩) (by assumption) ?_
                    · intro w' hSw
                      go_simp
                    simp only [List.getElem_toArray, List.getElem_cons_zero, Act.put, List.setIfInBounds_toArray, List.set_cons_zero, List.set_cons_succ]
                    refine wpAnyH_take (i := 1) (v := (.bool true)) rfl (by kernel_rfl) (by kernel_rfl) (by kernel_rfl) (fun _ _ _ h => h) (Or.inl ⟨by rfl, ?_⟩) (by assumption) ?_
                    · intro w' hSw
                      go_simp
                    simp only [List.getElem_toArray, List.getElem_cons_succ, List.getElem_cons_zero, Act.put, List.setIfInBounds_toArray, List.set_cons_zero, List.set_cons_succ]
                    refine wpAnyH_take (i := 2) (v := (.bool true)) rfl (by kernel_rfl) (by kernel_rfl) (by kernel_rfl) (fun _ _ _ h => h) (Or.inl ⟨by rfl, ?_⟩) (by assumption) ?_
                    · intro w' hSw
                      go_simp
                    simp only [List.getElem_toArray, List.getElem_cons_succ, List.getElem_cons_zero, Act.put, List.setIfInBounds_toArray, List.set_cons_zero, List.set_cons_succ]
                    refine wpAnyH_take (i := 3) (v := (.agg #[.int .i64 0, .int .i64 0, .slice po 0 pk])) rfl (by kernel_rfl) (by kernel_rfl) (by kernel_rfl) (fun _ _ _ h => h) (Or.inl ⟨by rfl, ?_⟩) (by assumption) ?_
                    · intro w' hSw
                      go_simp
                    simp only [List.getElem_toArray, List.getElem_cons_succ, List.getElem_cons_zero, Act.put, List.setIfInBounds_toArray, List.set_cons_zero, List.set_cons_succ]
                    refine wpAnyH_take (i := 4) (v := (.agg #[.int .i64 0, .int .i64 0, .slice none 0 0])) rfl (by kernel_rfl) (by kernel_rfl) (by kernel_rfl) (fun _ _ _ h => h) (Or.inl ⟨by rfl, ?_⟩) (by assumption) ?_
                    · intro w' hSw
                      go_simp
                    simp only [List.getElem_toArray, List.getElem_cons_succ, List.getElem_cons_zero, Act.put, List.setIfInBounds_toArray, List.set_cons_zero, List.set_cons_succ]
                    refine wpAnyH_ready (rs := [5]) (by kernel_rfl) (by simp) ?_
                    refine AllReadyH.cons rfl (fun K hK => ?_) AllReadyH.nil
                    simp only [List.getElem_toArray, List.getElem_cons_succ, List.getElem_cons_zero]
                    rw [if_pos (by rfl)]
                    go_wp2_with fail
                    refine (msame_any 0 0 po none 0 pk 0 [] _ (RowAt.nil _ _) (RowAt.nil _ _)).mono ?_
                    rintro e wS ⟨rfl, BS⟩
                    replace BS : Below w15.heap.size w15 wS := BD.trans BS
                    go_wp2_with fail
                    refine hK.out _ _ ⟨(X7.below BS).c0, (X7.below BS).c1, (X7.below BS).c2⟩ (fun hHeld => ?_)
                    clear hK K
                    refine wpAnyH_take (i := 6) (v := (.bool true)) rfl (by kernel_rfl) (by kernel_rfl) (by kernel_rfl) (fun _ _ _ h => h) (Or.inl ⟨by rfl, ?_⟩) (by assumption) ?_
                    · intro w' hSw
                      go_simp
                    simp only [List.getElem_toArray, List.getElem_cons_succ, List.getElem_cons_zero, Act.put, List.setIfInBounds_toArray, List.set_cons_zero, List.set_cons_succ]
                    refine wpAnyH_take (i := 7) (v := (.bool true)) rfl (by kernel_rfl) (by kernel_rfl) (by kernel_rfl) (fun _ _ _ h => h) (Or.inl ⟨by rfl, ?_⟩) (by assumption) ?_
                    · intro w' hSw
                      go_simp
                    simp only [List.getElem_toArray, List.getElem_cons_succ, List.getElem_cons_zero, Act.put, List.setIfInBounds_toArray, List.set_cons_zero, List.set_cons_succ]
                    refine wpAnyH_take (i := 8) (v := undef) rfl (by kernel_rfl) (by kernel_rfl) (by kernel_rfl) (fun _ _ _ h => h) (Or.inr ⟨by rfl, rfl⟩) (by assumption) ?_
                    simp only [List.getElem_toArray, List.getElem_cons_succ, List.getElem_cons_zero, Act.put, List.setIfInBounds_toArray, List.set_cons_zero, List.set_cons_succ]
                    refine wpAnyH_take (i := 9) (v := undef) rfl (by kernel_rfl) (by kernel_rfl) (by kernel_rfl) (fun _ _ _ h => h) (Or.inr ⟨by rfl, rfl⟩) (by assumption) ?_
                    simp only [List.getElem_toArray, List.getElem_cons_succ, List.getElem_cons_zero, Act.put, List.setIfInBounds_toArray, List.set_cons_zero, List.set_cons_succ]
                    refine wpAnyH_take (i := 10) (v := undef) rfl (by kernel_rfl) (by kernel_rfl) (by kernel_rfl) (fun _ _ _ h => h) (Or.inr ⟨by rfl, rfl⟩) (by assumption) ?_
                    simp only [List.getElem_toArray, List.getElem_cons_succ, List.getElem_cons_zero, Act.put, List.setIfInBounds_toArray, List.set_cons_zero, List.set_cons_succ]
                    refine wpAnyH_take (i := 11) (v := undef) rfl (by kernel_rfl) (by kernel_rfl) (by kernel_rfl) (fun _ _ _ h => h) (Or.inr ⟨by rfl, rfl⟩) (by assumption) ?_
                    simp only [List.getElem_toArray, List.getElem_cons_succ, List.getElem_cons_zero, Act.put, List.setIfInBounds_toArray, List.set_cons_zero, List.set_cons_succ]
                    refine wpAnyH_take (i := 12) (v := undef) rfl (by kernel_rfl) (by kernel_rfl) (by kernel_rfl) (fun _ _ _ h => h) (Or.inr ⟨by rfl, rfl⟩) (by assumption) ?_
                    simp only [List.getElem_toArray, List.getElem_cons_succ, List.getElem_cons_zero, Act.put, List.setIfInBounds_toArray, List.set_cons_zero, List.set_cons_succ]
                    refine wpAnyH_take (i := 13) (v := undef) rfl (by kernel_rfl) (by kernel_rfl) (by kernel_rfl) (fun _ _ _ h => h) (Or.inr ⟨by rfl, rfl⟩) (by assumption) ?_
                    simp only [List.getElem_toArray, List.getElem_cons_succ, List.getElem_cons_zero, Act.put, List.setIfInBounds_toArray, List.set_cons_zero, List.set_cons_succ]
                    refine wpAnyH_take (i := 14) (v := undef) rfl (by kernel_rfl) (by kernel_rfl) (by kernel_rfl) (fun _ _ _ h => h) (Or.inr ⟨by rfl, rfl⟩) (by assumption) ?_
                    simp only [List.getElem_toArray, List.getElem_cons_succ, List.getElem_cons_zero, Act.put, List.setIfInBounds_toArray, List.set_cons_zero, List.set_cons_succ]
                    refine wpAnyH_take (i := 15) (v := undef) rfl (by kernel_rfl) (by kernel_rfl) (by kernel_rfl) (fun _ _ _ h => h) (Or.inr ⟨by rfl, rfl⟩) (by assumption) ?_
                    simp only [List.getElem_toArray, List.getElem_cons_succ, List.getElem_cons_zero, Act.put, List.setIfInBounds_toArray, List.set_cons_zero, List.set_cons_succ]
                    refine wpAnyH_take (i := 16) (v := undef) rfl (by kernel_rfl) (by kernel_rfl) (by kernel_rfl) (fun _ _ _ h => h) (Or.inr ⟨by rfl, rfl⟩) (by assumption) ?_
                    simp only [List.getElem_toArray, List.getElem_cons_succ, List.getElem_cons_zero, Act.put, List.setIfInBounds_toArray, List.set_cons_zero, List.set_cons_succ]
                    refine wpAnyH_take (i := 17) (v := (.bool true)) rfl (by kernel_rfl) (by kernel_rfl) (by kernel_rfl) (fun _ _ _ h => h) (Or.inl ⟨by rfl, ?_⟩) (by assumption) ?_
                    · intro w' hSw
                      go_simp
                    simp only [List.getElem_toArray, List.getElem_cons_succ, List.getElem_cons_zero, Act.put, List.setIfInBounds_toArray, List.set_cons_zero, List.set_cons_succ]
                    refine wpAnyH_take (i := 18) (v := (.bool true)) rfl (by kernel_rfl) (by kernel_rfl) (by kernel_rfl) (fun _ _ _ h => h) (Or.inl ⟨by rfl, ?_⟩) (by assumption) ?_
                    · intro w' hSw
                      go_simp
                    simp only [List.getElem_toArray, List.getElem_cons_succ, List.getElem_cons_zero, Act.put, List.setIfInBounds_toArray, List.set_cons_zero, List.set_cons_succ]
                    refine wpAnyH_done (by kernel_rfl) ?_ _
                    go_wp2
                    go_ret
                    exact ⟨rfl, below_then B15 BS⟩
end Go.Proofs.Ythbkibcdcnpaoab
