/- The walk of MatRows: at every matrix, number and row the law returns true, and what was there stays. -/
import Derived.Test.YthbkibcdcnpaoaaMatR
import Derived.Deep.Cut
namespace Go.Proofs.Ythbkibcdcnpaoaa
open Go.ChangeShapes Go.WideShapes Go.ChangeAt Go.RowKit
theorem turn_row (D : List Int) (r c j : Nat) (hj : j < c) : rowN (turnN D r c) r j = colN D r c j := by
  unfold rowN colN
  refine tab_congr fun i hi => ?_
  have hq : j * r + i < c * r := by have := row_in (c := r) hj; omega
  have e : el (turnN D r c) (j * r + i) = el D (((j * r + i) % r) * c + (j * r + i) / r) := el_tab hq
  obtain ⟨h1, h2⟩ := (place_eq (r := r) (j := j) (k := i) hi).1 rfl
  rw [e, h1, h2]
theorem Box.putOther {w : World} {g : Nat} {r c : Int} {ao : Option Addr} {n ca : Nat} (h : Box w g r c ao n ca) {k : Nat} (hg : g ≠ k) (u v x : Value) : Box (((w.setCell ⟨k, 0, none⟩ u).setCell ⟨k, 1, none⟩ v).setCell ⟨k, 2, none⟩ x) g r c ao n ca :=
  ((h.block (Below.heap_setCell w ⟨k, 0, none⟩ u g hg)).block (Below.heap_setCell _ ⟨k, 1, none⟩ v g hg)).block (Below.heap_setCell _ ⟨k, 2, none⟩ x g hg)
/-- A row of a sound matrix, asked for at any place. -/
theorem row_all (r c b o n ca : Nat) (D : List Int) (i : Int) (w : World) (h : MatAt w r c b o n ca D) :
   Calls Try.prog 27 #[matV r c (some ⟨b, o, none⟩) n ca, .int .i64 i] w fun e w' => ∃ ro rn rc ev R, e = .returned (.tuple #[.slice ro rn rc, .int .i64 ev]) ∧ RowAt w' ro rn R ∧ Below w.heap.size w w' ∧
     ((i < 0 ∨ (r : Int) ≤ i) → ev = 8 ∧ rn = 0) ∧ (∀ t : Nat, i = t → t < r → ev = 0 ∧ rn = c ∧ R = rowN D c t) := by
  by_cases hi : i < 0 ∨ (r : Int) ≤ i
  · exact (row_none r c b o n ca D i w h hi).mono fun e w' ⟨he, hb⟩ => ⟨none, 0, 0, 8, [], he, RowAt.nil _ _, hb, fun _ => ⟨rfl, rfl⟩, fun t e1 e2 => by omega⟩
  · obtain ⟨t, rfl⟩ : ∃ t : Nat, i = t := ⟨i.toNat, by omega⟩
    exact (row_any r c b o n ca D t w h (by omega)).mono fun e w' ⟨g, cap, he, hF, hb⟩ => ⟨some ⟨g, 0, none⟩, c, cap, 0, rowN D c t, he, hF.rowAt, hb, fun x => absurd x hi, fun t' e1 e2 => by
      obtain rfl : t = t' := by omega
      exact ⟨rfl, rfl, rfl⟩⟩
/-- What a sound matrix makes of any row. -/
theorem apply_all (r c b o n ca : Nat) (D : List Int) (vo : Option Addr) (m cv : Nat) (V : List Int) (w : World) (h : MatAt w r c b o n ca D) (hV : RowAt w vo m V) :
   Calls Try.prog 29 #[matV r c (some ⟨b, o, none⟩) n ca, .slice vo m cv] w fun e w' => ∃ ro rn rc ev R, e = .returned (.tuple #[.slice ro rn rc, .int .i64 ev]) ∧ RowAt w' ro rn R ∧ Below w.heap.size w w' ∧
     (m ≠ c → ev = 6 ∧ rn = 0) ∧ (m = c → ev = 0 ∧ rn = r ∧ R = tab r fun i => dotN (rowN D c i) V c) := by
  by_cases hm : m = c
  · subst hm
    exact (apply_any r m b o n ca D vo cv V w h hV).mono fun e w' ⟨g, he, hF, hb⟩ => ⟨some ⟨g, 0, none⟩, r, r, 0, _, he, hF.rowAt, hb, fun x => absurd rfl x, fun _ => ⟨rfl, rfl, rfl⟩⟩
  · exact (apply_len r c b o n ca D vo m cv w h hm).mono fun e w' ⟨he, hb⟩ => ⟨none, 0, 0, 6, [], he, RowAt.nil _ _, hb, fun _ => ⟨rfl, rfl⟩, fun x => absurd x hm⟩
set_option maxHeartbeats 3200000 in
set_option maxRecDepth 100000 in
theorem matRows_walk (r c : Int) (ao : Option Addr) (n ca : Nat) (D : List Int) (i : Int) (vo : Option Addr) (m cv : Nat) (V : List Int) (w : World)
    (hr : -9223372036854775808 ≤ r ∧ r ≤ 9223372036854775807) (hc : -9223372036854775808 ≤ c ∧ c ≤ 9223372036854775807) (hD : Arg w ao n ca D) (hi0 : -9223372036854775808 ≤ i ∧ i ≤ 9223372036854775807) (hV : Arg w vo m cv V) :
    Calls Try.prog 8 #[matV r c ao n ca, .int .i64 i, .slice vo m cv] w fun e w' => e = .returned (.bool true) ∧ Below w.heap.size w w' := by
  have X0 := box_new w r c ao n ca
  have B0 : Below w.heap.size w (w.alloc (.cells #[.int .i64 r, .int .i64 c, .slice ao n ca] 46)) := (Below.refl _ _).alloc (Nat.le_refl _) _
  generalize hw0 : w.alloc (.cells #[.int .i64 r, .int .i64 c, .slice ao n ca] 46) = w0 at X0 B0
  have q0 := X0.c0
  have q1 := X0.c1
  have q2 := X0.c2
  have i0 := X0.lt
  replace hD := hD.below B0
  replace hV := hV.below B0
  go_enter Try.func8, Try.ntmps8
  unfold matV
  go_wp2_with fail
  have K := mfew_any r c ao n ca D w0 hD
  unfold matV at K
  refine K.mono ?_
  rintro e w1 ⟨g1, n1, c1, D1, rfl, l1, F1, B1⟩
  clear K hD hw0 q0 q1 q2
  have j1 := F1.base
  have s1 := B1.size
  replace X0 := X0.below B1
  replace hV := hV.below B1
  replace B1 := below_then B0 B1
  go_wp2_with fail
  refine (few_any vo m cv V 200 200 _ rfl (by exact hV) (by omega)).mono ?_
  rintro e w2 ⟨g2, n2, c2, rfl, l2, F2, B2⟩
  generalize V.take 200 = V' at *
  have j2 := F2.base
  replace X0 := X0.below B2
  replace F1 := F1.below B2
  replace B2 := below_then B1 B2
  clear hV B0 B1
  have q0 := X0.c0
  have q1 := X0.c1
  have q2 := X0.c2
  have f0 := X0.frozen 0
  have f1 := X0.frozen 1
  have f2 := X0.frozen 2
  have X3 := X0.put r c (some ⟨g1, 0, none⟩) n1 c1
  have F1' := F1.put (k := w.heap.size) (by omega) (.int .i64 r) (.int .i64 c) (.slice (some ⟨g1, 0, none⟩) n1 c1)
  have F2' := F2.put (k := w.heap.size) (by omega) (.int .i64 r) (.int .i64 c) (.slice (some ⟨g1, 0, none⟩) n1 c1)
  have B3 := Below.put B2 (g := w.heap.size) (by omega) (.int .i64 r) (.int .i64 c) (.slice (some ⟨g1, 0, none⟩) n1 c1)
  generalize hw3 : ((w2.setCell ⟨w.heap.size, 0, none⟩ (.int .i64 r)).setCell ⟨w.heap.size, 1, none⟩ (.int .i64 c)).setCell ⟨w.heap.size, 2, none⟩ (.slice (some ⟨g1, 0, none⟩) n1 c1) = w3 at X3 F1' F2' B3
  have p0 := X3.c0
  have p1 := X3.c1
  have p2 := X3.c2
  go_wp2_with fail
  clear hw3 X0 F1 F2 B2 q0 q1 q2 f0 f1 f2
  refine (refCheck_any r c _ n1 c1 w3).mono ?_
  rintro e w4 ⟨rfl, B4⟩
  replace X3 := X3.below B4
  replace F1 := F1'.below B4
  replace F2 := F2'.below B4
  replace B4 := below_then B3 B4
  clear F1' F2' B3 p0 p1 p2
  by_cases hk : chkN r c n1 = 0
  · obtain ⟨r, c, rfl, rfl, r1, r2, k1, k2, hsz⟩ := chk_zero hk
    have M : MatAt w4 r c g1 0 n1 c1 D1 := ⟨r1, r2, k1, k2, hsz, F1.fit, F1.max, F1.rowAt⟩
    have hcr := size_le k2 r2
    have RV := F2.rowAt
    have HK : Hid (chkN r c n1 = 0) := hk
    have HT : Hid (chkN c r (c * r) = 0) := chk_ok (r := c) (c := r) k1 k2 r1 r2 rfl
    rw [hk]
    clear hk hsz F1 F2 hr hc
    have p0 := X3.c0
    have p1 := X3.c1
    have p2 := X3.c2
    go_wp2_with fail
    refine (row_all r c g1 0 n1 c1 D1 i w4 M).mono ?_
    rintro e w5 ⟨ro, rn, rcap, ev, R5, rfl, F5, B5, o1, o2⟩
    replace X3 := X3.below B5
    replace M := M.below B5
    replace RV := RV.below B5
    replace B5 := below_then B4 B5
    replace p0 := X3.c0
    replace p1 := X3.c1
    replace p2 := X3.c2
    have O1 : Hid ((i < 0 ∨ (r : Int) ≤ i) → ev = 8 ∧ rn = 0) := o1
    have O2 : Hid (∀ t : Nat, i = t → t < r → ev = 0 ∧ rn = c ∧ R5 = rowN D1 c t) := o2
    clear o1 o2
    go_wp2_with fail
    refine (turn_any r c g1 0 n1 c1 D1 w5 M).mono ?_
    rintro e w6 ⟨g6, rfl, F6, B6⟩
    unfold matV
    replace F5 := F5.below B6
    replace X3 := X3.below B6
    replace M := M.below B6
    replace RV := RV.below B6
    replace B6 := below_then B5 B6
    have X7 := box_new w6 c r (some ⟨g6, 0, none⟩) (c * r) (c * r)
    have B7 : Below w6.heap.size w6 (w6.alloc (.cells #[.int .i64 c, .int .i64 r, .slice (some ⟨g6, 0, none⟩) (c * r) (c * r)] 46)) := (Below.refl _ _).alloc (Nat.le_refl _) _
    generalize hw7 : w6.alloc (.cells #[.int .i64 c, .int .i64 r, .slice (some ⟨g6, 0, none⟩) (c * r) (c * r)] 46) = w7 at X7 B7
    replace F5 := F5.below B7
    replace X3 := X3.below B7
    replace M := M.below B7
    replace RV := RV.below B7
    replace F6 := F6.below B7
    replace B7 := below_then B6 B7
    replace p0 := X3.c0
    replace p1 := X3.c1
    replace p2 := X3.c2
    go_wp2_with fail
    clear hw7 B4 B5 B6
    refine (apply_all r c g1 0 n1 c1 D1 _ n2 _ V' w7 M RV).mono ?_
    rintro e w8 ⟨so, sn, scap, ew, S8, rfl, F8, B8, o1, o2⟩
    have O3 : Hid (n2 ≠ c → ew = 6 ∧ sn = 0) := o1
    have O4 : Hid (n2 = c → ew = 0 ∧ sn = r ∧ S8 = tab r fun i => dotN (rowN D1 c i) V' c) := o2
    clear o1 o2
    replace F5 := F5.below B8
    replace X3 := X3.below B8
    replace X7 := X7.below B8
    replace M := M.below B8
    replace RV := RV.below B8
    replace F6 := F6.below B8
    replace B8 := below_then B7 B8
    clear p0 p1 p2 B7
    go_wp2_with fail
    refine (mawake_any w8).mono ?_
    rintro e w9 ⟨rfl, B9⟩
    replace F5 := F5.below B9
    replace F8 := F8.below B9
    replace X3 := X3.below B9
    replace X7 := X7.below B9
    replace M := M.below B9
    replace RV := RV.below B9
    replace F6 := F6.below B9
    replace B9 := below_then B8 B9
    have p0 := X3.c0
    have p1 := X3.c1
    have p2 := X3.c2
    go_wp2_with fail
    refine (check_any _ _ _ n1 c1 w9 (by omega) (by omega)).mono ?_
    rintro e w10 ⟨rfl, B10⟩
    rw [HK.out]
    replace F5 := F5.below B10
    replace F8 := F8.below B10
    replace X3 := X3.below B10
    replace X7 := X7.below B10
    replace M := M.below B10
    replace RV := RV.below B10
    replace F6 := F6.below B10
    replace B10 := below_then B9 B10
    replace p0 := X3.c0
    replace p1 := X3.c1
    replace p2 := X3.c2
    clear B8 B9
    go_upto_region 10 with fail
    go_cut [83] from 15 (fun s wc => s = .bool (decide (i < 0 ∨ (r : Int) ≤ i)) ∧ wc = w10)
    case first =>
      by_cases h1 : i < 0
      · go_wp2_with fail
        go_meet
        case rel => exact ⟨by rw [decide_eq_true (Or.inl h1)], rfl⟩
      · by_cases h2 : (r : Int) ≤ i
        · go_wp2_with fail
          go_meet
          case rel => exact ⟨by rw [decide_eq_true (Or.inr h2)], rfl⟩
        · go_wp2_with fail
          go_meet
          case rel => exact ⟨by rw [decide_eq_false (by omega)], rfl⟩
    case rest =>
      obtain ⟨rfl, hwc0⟩ := hcut
      rw [hwc0]
      clear hwc0
      go_upto_if 83 with fail
      go_cut [] from 15 (fun wc => Below w10.heap.size w10 wc)
      case first =>
        by_cases hI : i < 0 ∨ (r : Int) ≤ i
        · rw [decide_eq_true hI]
          obtain ⟨rfl, rfl⟩ := O1.out hI
          go_wp2_with fail
          go_meet
          case rel => exact Below.refl _ _
        · rw [decide_eq_false hI]
          obtain ⟨t, rfl⟩ : ∃ t : Nat, i = t := ⟨i.toNat, by omega⟩
          obtain ⟨rfl, rfl, rfl⟩ := O2.out t rfl (by omega)
          go_wp2_with fail
          refine (refRow_any r rn g1 0 n1 c1 D1 t _ M (by omega)).mono ?_
          rintro e w11 ⟨g11, c11, rfl, F11, B11⟩
          replace F5 := F5.below B11
          clear p0 p1 p2
          go_wp2_with fail
          refine (same_any _ _ _ _ _ _ _ F5 F11.rowAt).mono ?_
          rintro e w12 ⟨rfl, m12, rfl⟩
          go_wp2_with fail
          go_meet
          case rel => exact below_drewN B11 m12
      case rest =>
        replace F8 := F8.below hcut
        replace X3 := X3.below hcut
        replace X7 := X7.below hcut
        replace M := M.below hcut
        replace RV := RV.below hcut
        replace F6 := F6.below hcut
        replace B10 := below_then B10 hcut
        replace p0 := X3.c0
        replace p1 := X3.c1
        replace p2 := X3.c2
        clear hcut F5 O1 O2
        generalize hwc : wc = w11 at *
        clear hwc
        go_upto_if 105 with fail
        go_cut [] from 15 (fun wc => Below w11.heap.size w11 wc)
        case first =>
          by_cases hv : n2 = c
          · obtain ⟨rfl, rfl, rfl⟩ := O4.out hv
            subst hv
            go_wp2_with fail
            refine (refApply_any _ n2 g1 0 n1 c1 D1 _ _ V' _ M RV).mono ?_
            rintro e w12 ⟨g12, c12, rfl, F12, B12⟩
            replace F8 := F8.below B12
            clear p0 p1 p2
            go_wp2_with fail
            refine (same_any _ _ _ _ _ _ _ F8 F12.rowAt).mono ?_
            rintro e w13 ⟨rfl, m13, rfl⟩
            go_wp2_with fail
            go_meet
            case rel => exact below_drewN B12 m13
          · obtain ⟨rfl, rfl⟩ := O3.out hv
            go_wp2_with fail
            go_meet
            case rel => exact Below.refl _ _
        case rest =>
          replace X3 := X3.below hcut
          replace X7 := X7.below hcut
          replace M := M.below hcut
          replace F6 := F6.below hcut
          replace B10 := below_then B10 hcut
          replace p0 := X3.c0
          replace p1 := X3.c1
          replace p2 := X3.c2
          have z0 := X7.c0
          have z1 := X7.c1
          have z2 := X7.c2
          clear hcut F8 O3 O4 RV
          go_wp2_with fail
          refine (refCheck_any _ _ _ _ _ _).mono ?_
          rintro e w13 ⟨rfl, B13⟩
          rw [HT.out]
          replace X3 := X3.below B13
          replace X7 := X7.below B13
          replace M := M.below B13
          replace F6 := F6.below B13
          replace B13 := below_then B10 B13
          clear p0 p1 p2 z0 z1 z2 B10
          have p0 := X3.c0
          have p1 := X3.c1
          have p2 := X3.c2
          have z0 := X7.c0
          have z1 := X7.c1
          have z2 := X7.c2
          go_wp2_with fail
          have M2 : MatAt w13 c r g6 0 (c * r) (c * r) (turnN D1 r c) := ⟨k1, k2, r1, r2, rfl, F6.fit, F6.max, F6.rowAt⟩
          go_loopg [14] c (fun k0 ii wr => ∃ j : Nat, j ≤ c ∧ k0 = c - j ∧ ii = .int .i64 j ∧ Below w13.heap.size w13 wr)
          case atStart => exact ⟨0, by omega, by omega, rfl, Below.refl _ _⟩
          case round =>
            obtain ⟨j, hj, rfl, rfl, B14⟩ := hrel
            replace X3 := X3.below B14
            replace X7 := X7.below B14
            replace M := M.below B14
            replace M2 := M2.below B14
            have B15 := below_then B13 B14
            clear p0 p1 p2 z0 z1 z2
            have p0 := X3.c0
            have p1 := X3.c1
            have p2 := X3.c2
            have z0 := X7.c0
            have z1 := X7.c1
            have z2 := X7.c2
            by_cases hjc : j < c
            · go_wp2_with fail
              have BD : Below wr.heap.size wr wr.drew := (Below.refl _ _).drew
              go_region_with (first
                | (go_at_call 33; refine (refRow_any c r g6 0 _ _ (turnN D1 r c) j _ (by exact M2.below BD) hjc).mono ?_; rintro e w16 ⟨g16, c16, rfl, F16, B16⟩; replace B16 : Below wr.heap.size wr w16 := BD.trans B16; have y0 := (X3.below B16).c0; have y1 := (X3.below B16).c1; have y2 := (X3.below B16).c2)
                | (go_at_call 35; refine (refColumn_any r c g1 0 n1 c1 D1 j _ (by exact M.below B16) hjc).mono ?_; rintro e w17 ⟨g17, c17, rfl, F17, B17⟩; replace F16 := F16.below B17; replace B17 := below_then B16 B17)
                | (go_at_call 23; refine (same_any _ _ r _ _ (colN D1 r c j) _ (by rw [← turn_row D1 r c j hjc]; exact F16.rowAt) (by exact F17.rowAt)).mono ?_; rintro e w18 ⟨rfl, m18, hw18⟩; have B18 : Below w13.heap.size w13 w18 := hw18 ▸ below_drewN (below_then B14 B17) m18; clear hw18))
              all_goals
                go_wp2
                go_roundg (c - (j + 1))
                case measure => omega
                case rel => exact ⟨j + 1, by omega, rfl, by go_num, B18⟩
            · go_wp2
              go_ret
              exact ⟨rfl, B15⟩
  · have hk' : (chkN r c n1 == 0) = false := by simpa using hk
    have p0 := X3.c0
    have p1 := X3.c1
    have p2 := X3.c2
    go_wp2_with fail
    refine (row_bad r c _ n1 c1 i w4 hr hc hk).mono ?_
    rintro e w5 ⟨rfl, B5⟩
    replace X3 := X3.below B5
    replace B5 := below_then B4 B5
    replace p0 := X3.c0
    replace p1 := X3.c1
    replace p2 := X3.c2
    go_wp2_with fail
    refine (turn_bad r c _ n1 c1 w5 hr hc hk).mono ?_
    rintro e w6 ⟨rfl, B6⟩
    unfold matV
    replace X3 := X3.below B6
    replace B6 := below_then B5 B6
    have X7 := box_new w6 0 0 none 0 0
    have B7 : Below w6.heap.size w6 (w6.alloc (.cells #[.int .i64 0, .int .i64 0, .slice none 0 0] 46)) := (Below.refl _ _).alloc (Nat.le_refl _) _
    generalize hw7 : w6.alloc (.cells #[.int .i64 0, .int .i64 0, .slice none 0 0] 46) = w7 at X7 B7
    have i3 := X3.lt
    have s6 := B6.size
    replace X3 := X3.below B7
    replace B7 := below_then B6 B7
    have z0 := X7.c0
    have z1 := X7.c1
    have z2 := X7.c2
    have y0 := X7.frozen 0
    have y1 := X7.frozen 1
    have y2 := X7.frozen 2
    replace X7 := X7.put 0 0 none 0 0
    replace X3 := X3.putOther (k := w6.heap.size) (by omega) (.int .i64 0) (.int .i64 0) (.slice none 0 0)
    replace B7 := Below.put B7 (g := w6.heap.size) s6 (.int .i64 0) (.int .i64 0) (.slice none 0 0)
    generalize hw7' : ((w7.setCell ⟨w6.heap.size, 0, none⟩ (.int .i64 0)).setCell ⟨w6.heap.size, 1, none⟩ (.int .i64 0)).setCell ⟨w6.heap.size, 2, none⟩ (.slice none 0 0) = w7' at X3 X7 B7
    replace p0 := X3.c0
    replace p1 := X3.c1
    replace p2 := X3.c2
    go_wp2_with fail
    clear hw7 hw7' z0 z1 z2 y0 y1 y2
    refine (apply_bad r c _ n1 c1 _ w7' hr hc hk).mono ?_
    rintro e w8 ⟨rfl, B8⟩
    replace X3 := X3.below B8
    replace X7 := X7.below B8
    replace B8 := below_then B7 B8
    clear p0 p1 p2
    go_wp2_with fail
    refine (mawake_any w8).mono ?_
    rintro e w9 ⟨rfl, B9⟩
    replace X3 := X3.below B9
    replace X7 := X7.below B9
    replace B9 := below_then B8 B9
    have p0 := X3.c0
    have p1 := X3.c1
    have p2 := X3.c2
    go_wp2_with fail
    refine (check_any r c _ n1 c1 w9 hr hc).mono ?_
    rintro e w10 ⟨rfl, B10⟩
    replace X7 := X7.below B10
    replace B10 := below_then B9 B10
    clear p0 p1 p2
    have p0 := X7.c0
    have p1 := X7.c1
    have p2 := X7.c2
    clear B4 B5 B6 B7 B8 B9
    generalize chkN r c n1 = q at *
    go_wp2_with fail
    refine (msame_any 0 0 none none 0 0 0 [] w10 (RowAt.nil _ _) (RowAt.nil _ _)).mono ?_
    rintro e w11 ⟨rfl, B11⟩
    replace B11 := below_then B10 B11
    go_wp2
    go_ret
    exact ⟨rfl, B11⟩
end Go.Proofs.Ythbkibcdcnpaoaa
