/- The walk of MatTurned: at every two matrices the law returns true, and what was there stays. -/
import Derived.Test.YthbkibcdcnpaoabMatT3
namespace Go.Proofs.Ythbkibcdcnpaoab
open Go.ChangeShapes Go.WideShapes Go.ChangeAt Go.RowKit
set_option maxHeartbeats 1600000 in
set_option maxRecDepth 100000 in
theorem matTurned_walk (r1 c1 : Int) (a1 : Option Addr) (n1 k1 : Nat) (D1 : List Int) (r2 c2 : Int) (a2 : Option Addr) (n2 k2 : Nat) (D2 : List Int) (w : World)
    (h1 : -9223372036854775808 ≤ r1 ∧ r1 ≤ 9223372036854775807) (h2 : -9223372036854775808 ≤ c1 ∧ c1 ≤ 9223372036854775807) (hD1 : Arg w a1 n1 k1 D1)
    (h3 : -9223372036854775808 ≤ r2 ∧ r2 ≤ 9223372036854775807) (h4 : -9223372036854775808 ≤ c2 ∧ c2 ≤ 9223372036854775807) (hD2 : Arg w a2 n2 k2 D2) :
    Calls Try.prog 5 #[matV r1 c1 a1 n1 k1, matV r2 c2 a2 n2 k2] w fun e w' => e = .returned (.bool true) ∧ Below w.heap.size w w' := by
  obtain ⟨w0, w1, hw0, hw1, hs0, hs1, X0, X1, B1⟩ := two_start w r1 c1 r2 c2 a1 a2 n1 k1 n2 k2
  go_enter Try.func5, Try.ntmps5
  unfold matV
  go_upto_region 1 with fail
  clear hw0 hw1
  go_cut [] from 15 (fun wc => Two w r1 c1 r2 c2 wc)
  case first =>
    have q0 := X0.c0
    have q1 := X0.c1
    have q2 := X0.c2
    have p0 := X1.c0
    have p1 := X1.c1
    have p2 := X1.c2
    have BD : Below w1.heap.size w1 w1.drew := (Below.refl _ _).drew
    go_region_with (first
      | (go_at_call 8; refine (mfew_any r1 c1 a1 n1 k1 D1 _ (by exact hD1.below (below_then B1 BD))).mono ?_; rintro e w2 ⟨g1, m1, j1, E1, rfl, l1, F1, B2⟩; replace B2 : Below w1.heap.size w1 w2 := BD.trans B2; unfold matV; have u0 := (X1.below B2).c0; have u1 := (X1.below B2).c1; have u2 := (X1.below B2).c2)
      | (go_at_call 8; refine (mfew_any r2 c2 a2 n2 k2 D2 _ (by exact hD2.below (below_then B1 B2))).mono ?_; rintro e w3 ⟨g2, m2, j2, E2, rfl, l2, F2, B3⟩; unfold matV; have F1' := F1.below B3; have B4 := below_then B2 B3; have v0 := (X0.below B4).c0; have v1 := (X0.below B4).c1; have v2 := (X0.below B4).c2; have vf0 := (X0.below B4).frozen 0; have vf1 := (X0.below B4).frozen 1; have vf2 := (X0.below B4).frozen 2; have z0 := (X1.below B4).c0; have z1 := (X1.below B4).c1; have z2 := (X1.below B4).c2; have zf0 := (X1.below B4).frozen 0; have zf1 := (X1.below B4).frozen 1; have zf2 := (X1.below B4).frozen 2))
    all_goals
      have T := two_put (r1 := r1) (c1 := c1) (r2 := r2) (c2 := c2) (X0.below B4) (X1.below B4) F1' F2 (by rw [← hs1]; exact Nat.le_refl _) (by have := B2.size; omega) (below_then B1 B4) l1 l2
      go_wp2_with fail
      go_meet
      case rel => exact T
  case rest =>
    obtain ⟨g1, m1, j1, A, g2, m2, j2, B, l1, l2, X0, X1, F1, F2, B5⟩ := hcut
    have b1 := F1.base
    have b2 := F2.base
    have q0 := X0.c0
    have q1 := X0.c1
    have q2 := X0.c2
    have p0 := X1.c0
    have p1 := X1.c1
    have p2 := X1.c2
    clear hs0 hs1 hD1 hD2 B1
    by_cases hgo : chkN r1 c1 m1 = 0 ∧ chkN r2 c2 m2 = 0 ∧ c1 = r2
    · obtain ⟨ha, hb, hc⟩ := hgo
      obtain ⟨r, m, rfl, rfl, y1, y2, y3, y4, hsa⟩ := chk_zero ha
      obtain ⟨m', c, hm', rfl, x1, x2, x3, x4, hsb⟩ := chk_zero hb
      obtain rfl : m = m' := by omega
      subst hm'
      have MA : MatAt wc r m g1 0 m1 j1 A := ⟨y1, y2, y3, y4, hsa, F1.fit, F1.max, F1.rowAt⟩
      have MB : MatAt wc m c g2 0 m2 j2 B := ⟨x1, x2, x3, x4, hsb, F2.fit, F2.max, F2.rowAt⟩
      clear ha hb hc hsa hsb F1 F2 h1 h2 h3 h4
      go_wp2_with fail
      refine (times_any r m c g1 0 m1 j1 g2 0 m2 j2 A B wc MA MB).mono ?_
      rintro e w6 ⟨g6, rfl, F6, B6⟩
      unfold matV
      replace X0 := X0.below B6
      replace X1 := X1.below B6
      replace MA := MA.below B6
      replace MB := MB.below B6
      replace B6 := below_then B5 B6
      have X7 := box_new w6 r c (some ⟨g6, 0, none⟩) (r * c) (r * c)
      have B7 : Below w6.heap.size w6 (w6.alloc (.cells #[.int .i64 r, .int .i64 c, .slice (some ⟨g6, 0, none⟩) (r * c) (r * c)] 24)) := (Below.refl _ _).alloc (Nat.le_refl _) _
      generalize hw7 : w6.alloc (.cells #[.int .i64 r, .int .i64 c, .slice (some ⟨g6, 0, none⟩) (r * c) (r * c)] 24) = w7 at X7 B7
      replace X0 := X0.below B7
      replace X1 := X1.below B7
      replace MA := MA.below B7
      replace MB := MB.below B7
      replace F6 := F6.below B7
      replace B7 := below_then B6 B7
      clear q0 q1 q2 p0 p1 p2 B5 B6
      have q0 := X0.c0
      have q1 := X0.c1
      have q2 := X0.c2
      go_wp2_with fail
      clear hw7 q0 q1 q2
      refine (turn_any r m g1 0 m1 j1 A w7 MA).mono ?_
      rintro e w8 ⟨g8, rfl, F8, B8⟩
      unfold matV
      replace X1 := X1.below B8
      replace X7 := X7.below B8
      replace MB := MB.below B8
      replace F6 := F6.below B8
      replace B8 := below_then B7 B8
      have X9 := box_new w8 m r (some ⟨g8, 0, none⟩) (m * r) (m * r)
      have B9 : Below w8.heap.size w8 (w8.alloc (.cells #[.int .i64 m, .int .i64 r, .slice (some ⟨g8, 0, none⟩) (m * r) (m * r)] 24)) := (Below.refl _ _).alloc (Nat.le_refl _) _
      generalize hw9 : w8.alloc (.cells #[.int .i64 m, .int .i64 r, .slice (some ⟨g8, 0, none⟩) (m * r) (m * r)] 24) = w9 at X9 B9
      replace X1 := X1.below B9
      replace X7 := X7.below B9
      replace MB := MB.below B9
      replace F6 := F6.below B9
      replace F8 := F8.below B9
      replace B9 := below_then B8 B9
      clear X0 MA B7 B8
      have q0 := X1.c0
      have q1 := X1.c1
      have q2 := X1.c2
      go_wp2_with fail
      clear hw9 q0 q1 q2
      refine (turn_any m c g2 0 m2 j2 B w9 MB).mono ?_
      rintro e w10 ⟨g10, rfl, F10, B10⟩
      unfold matV
      replace X7 := X7.below B10
      replace X9 := X9.below B10
      replace F6 := F6.below B10
      replace F8 := F8.below B10
      replace B10 := below_then B9 B10
      have X11 := box_new w10 c m (some ⟨g10, 0, none⟩) (c * m) (c * m)
      have B11 : Below w10.heap.size w10 (w10.alloc (.cells #[.int .i64 c, .int .i64 m, .slice (some ⟨g10, 0, none⟩) (c * m) (c * m)] 24)) := (Below.refl _ _).alloc (Nat.le_refl _) _
      generalize hw11 : w10.alloc (.cells #[.int .i64 c, .int .i64 m, .slice (some ⟨g10, 0, none⟩) (c * m) (c * m)] 24) = w11 at X11 B11
      replace X7 := X7.below B11
      replace X9 := X9.below B11
      replace F6 := F6.below B11
      replace F8 := F8.below B11
      replace F10 := F10.below B11
      replace B11 := below_then B10 B11
      clear X1 MB B9 B10
      have q0 := X9.c0
      have q1 := X9.c1
      have q2 := X9.c2
      have p0 := X11.c0
      have p1 := X11.c1
      have p2 := X11.c2
      go_wp2_with fail
      clear hw11 q0 q1 q2 p0 p1 p2
      refine (times_any c m r g10 0 (c * m) (c * m) g8 0 (m * r) (m * r) (turnN B m c) (turnN A r m) w11 ⟨x3, x4, x1, x2, rfl, F10.fit, F10.max, F10.rowAt⟩ ⟨x1, x2, y1, y2, rfl, F8.fit, F8.max, F8.rowAt⟩).mono ?_
      rintro e w12 ⟨g12, rfl, F12, B12⟩
      unfold matV
      replace X7 := X7.below B12
      replace F6 := F6.below B12
      replace B12 := below_then B11 B12
      have X13 := box_new w12 c r (some ⟨g12, 0, none⟩) (c * r) (c * r)
      have B13 : Below w12.heap.size w12 (w12.alloc (.cells #[.int .i64 c, .int .i64 r, .slice (some ⟨g12, 0, none⟩) (c * r) (c * r)] 24)) := (Below.refl _ _).alloc (Nat.le_refl _) _
      generalize hw13 : w12.alloc (.cells #[.int .i64 c, .int .i64 r, .slice (some ⟨g12, 0, none⟩) (c * r) (c * r)] 24) = w13 at X13 B13
      replace X7 := X7.below B13
      replace F6 := F6.below B13
      replace F12 := F12.below B13
      replace B13 := below_then B12 B13
      clear X9 X11 F8 F10 B11 B12
      have q0 := X7.c0
      have q1 := X7.c1
      have q2 := X7.c2
      go_wp2_with fail
      clear hw13 q0 q1 q2
      refine (turn_any r c g6 0 (r * c) (r * c) (prodN A B r m c) w13 ⟨y1, y2, x3, x4, rfl, F6.fit, F6.max, F6.rowAt⟩).mono ?_
      rintro e w14 ⟨g14, rfl, F14, B14⟩
      unfold matV
      replace X13 := X13.below B14
      replace F12 := F12.below B14
      replace B14 := below_then B13 B14
      have X15 := box_new w14 c r (some ⟨g14, 0, none⟩) (c * r) (c * r)
      have B15 : Below w14.heap.size w14 (w14.alloc (.cells #[.int .i64 c, .int .i64 r, .slice (some ⟨g14, 0, none⟩) (c * r) (c * r)] 24)) := (Below.refl _ _).alloc (Nat.le_refl _) _
      generalize hw15 : w14.alloc (.cells #[.int .i64 c, .int .i64 r, .slice (some ⟨g14, 0, none⟩) (c * r) (c * r)] 24) = w15 at X15 B15
      replace X13 := X13.below B15
      replace F12 := F12.below B15
      replace F14 := F14.below B15
      replace B15 := below_then B14 B15
      clear X7 F6 B13 B14
      go_wp2_with fail
      clear hw15
      refine (mawake_any w15).mono ?_
      rintro e w16 ⟨rfl, B16⟩
      replace X13 := X13.below B16
      replace X15 := X15.below B16
      replace F12 := F12.below B16
      replace F14 := F14.below B16
      replace B16 := below_then B15 B16
      rw [prod_turned A B r m c y1] at F12
      have q0 := X13.c0
      have q1 := X13.c1
      have q2 := X13.c2
      have p0 := X15.c0
      have p1 := X15.c1
      have p2 := X15.c2
      go_wp2_with fail
      refine (msame_any c r _ _ (c * r) _ _ _ w16 F12.rowAt F14.rowAt).mono ?_
      rintro e w17 ⟨rfl, B17⟩
      replace B17 := below_then B16 B17
      clear q0 q1 q2 p0 p1 p2
      go_wp2
      go_ret
      exact ⟨rfl, B17⟩
    · go_wp2_with fail
      refine (times_no r1 c1 r2 c2 g1 m1 j1 g2 m2 j2 A B wc h1 h2 h3 h4 F1.arg F2.arg hgo).mono ?_
      rintro e w6 ⟨ev, hev, rfl, B6⟩
      unfold matV
      replace B6 := below_then B5 B6
      clear q0 q1 q2 p0 p1 p2 X0 X1 F1 F2 hgo
      have hev' : (ev == 0) = false := by simpa using hev
      have s6 := B6.size
      have X7 := box_new w6 0 0 none 0 0
      have B7 : Below w6.heap.size w6 (w6.alloc (.cells #[.int .i64 0, .int .i64 0, .slice none 0 0] 24)) := (Below.refl _ _).alloc (Nat.le_refl _) _
      generalize hw7 : w6.alloc (.cells #[.int .i64 0, .int .i64 0, .slice none 0 0] 24) = w7 at X7 B7
      replace B7 := below_then B6 B7
      have z0 := X7.c0
      have z1 := X7.c1
      have z2 := X7.c2
      have v0 := X7.frozen 0
      have v1 := X7.frozen 1
      have v2 := X7.frozen 2
      replace X7 := X7.put 0 0 none 0 0
      replace B7 := Below.put B7 (g := w6.heap.size) s6 (.int .i64 0) (.int .i64 0) (.slice none 0 0)
      generalize hw8 : ((w7.setCell ⟨w6.heap.size, 0, none⟩ (.int .i64 0)).setCell ⟨w6.heap.size, 1, none⟩ (.int .i64 0)).setCell ⟨w6.heap.size, 2, none⟩ (.slice none 0 0) = w8 at X7 B7
      go_wp2_with fail
      clear hw7 hw8 z0 z1 z2 v0 v1 v2
      refine (mawake_any w8).mono ?_
      rintro e w9 ⟨rfl, B9⟩
      replace X7 := X7.below B9
      replace B9 := below_then B7 B9
      have p0 := X7.c0
      have p1 := X7.c1
      have p2 := X7.c2
      go_wp2_with fail
      refine (msame_any 0 0 none none 0 0 0 [] w9 (RowAt.nil _ _) (RowAt.nil _ _)).mono ?_
      rintro e w10 ⟨rfl, B10⟩
      replace B10 := below_then B9 B10
      clear p0 p1 p2
      go_wp2
      go_ret
      exact ⟨rfl, B10⟩
end Go.Proofs.Ythbkibcdcnpaoab
