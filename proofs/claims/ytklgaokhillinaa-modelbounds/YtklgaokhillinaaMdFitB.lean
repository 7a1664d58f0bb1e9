/- Whether one layer's numbers fit a configuration. -/
import Derived.Test.YtklgaokhillinaaMdCheck
namespace Go.Proofs.Ytklgaokhillinaa
open Go.ChangeShapes Go.WideShapes Go.ChangeAt Go.RowKit
set_option maxRecDepth 100000 in
set_option maxHeartbeats 3200000 in
theorem blockFits_any (V D Hd H L : Int) (b : Bk) (w : World) (hb : b.Ok) (hD : I64 D) :
   Calls Try.prog 38 #[.agg (cfgC V D Hd H L), .agg b.cells] w fun e w' => e = .returned (.bool (bkB D H b)) ∧ Below w.heap.size w w' := by
  have HQ := fun wv => hasSides_any b.q D D wv hb.q
  have HK := fun wv => hasSides_any b.k D D wv hb.k
  have HV := fun wv => hasSides_any b.v D D wv hb.v
  have HO := fun wv => hasSides_any b.o D D wv hb.o
  have HU := fun wv => hasSides_any b.u H D wv hb.u
  have HD := fun wv => hasSides_any b.d D H wv hb.d
  have hf := hb.f
  have hs := hb.s
  clear hb
  have HB : Hid (bkB D H b = (decide ((b.f.n : Int) = D) && decide ((b.s.n : Int) = D) && sidesB b.q D D && sidesB b.k D D && sidesB b.v D D && sidesB b.o D D && sidesB b.u H D && sidesB b.d D H)) := rfl
  generalize bkB D H b = res at *
  generalize sidesB b.q D D = xq at *
  generalize sidesB b.k D D = xk at *
  generalize sidesB b.v D D = xv at *
  generalize sidesB b.o D D = xo at *
  generalize sidesB b.u H D = xu at *
  generalize sidesB b.d D H = xd at *
  obtain ⟨⟨fa, fn, fz⟩, ⟨qr, qc, ⟨qa, qn, qz⟩⟩, ⟨kr, kc, ⟨ka, kn, kz⟩⟩, ⟨vr, vc, ⟨va, vn, vz⟩⟩, ⟨or, oc, ⟨oa, on, oz⟩⟩, ⟨sa, sn, sz⟩, ⟨ur, uc, ⟨ua, un, uz⟩⟩, ⟨dr, dc, ⟨da, dn, dz⟩⟩⟩ := b
  unfold I64 at hD
  show Calls Try.prog 38 #[.agg #[.int .i64 V, .int .i64 D, .int .i64 Hd, .int .i64 H, .int .i64 L], .agg #[.slice fa fn fz, .int .i64 qr, .int .i64 qc, .slice qa qn qz, .int .i64 kr, .int .i64 kc, .slice ka kn kz, .int .i64 vr, .int .i64 vc, .slice va vn vz, .int .i64 or, .int .i64 oc, .slice oa on oz, .slice sa sn sz, .int .i64 ur, .int .i64 uc, .slice ua un uz, .int .i64 dr, .int .i64 dc, .slice da dn dz]] w _
  have X0 := blk_new w 23 #[.int .i64 V, .int .i64 D, .int .i64 Hd, .int .i64 H, .int .i64 L]
  have B0 : Below w.heap.size w (w.alloc (.cells #[.int .i64 V, .int .i64 D, .int .i64 Hd, .int .i64 H, .int .i64 L] 23)) := (Below.refl _ _).alloc (Nat.le_refl _) _
  have s0 : (w.alloc (.cells #[.int .i64 V, .int .i64 D, .int .i64 Hd, .int .i64 H, .int .i64 L] 23)).heap.size = w.heap.size + 1 := by simp
  generalize hw0 : w.alloc (.cells #[.int .i64 V, .int .i64 D, .int .i64 Hd, .int .i64 H, .int .i64 L] 23) = w0 at *
  have X1 := blk_new w0 57 #[.slice fa fn fz, .int .i64 qr, .int .i64 qc, .slice qa qn qz, .int .i64 kr, .int .i64 kc, .slice ka kn kz, .int .i64 vr, .int .i64 vc, .slice va vn vz, .int .i64 or, .int .i64 oc, .slice oa on oz, .slice sa sn sz, .int .i64 ur, .int .i64 uc, .slice ua un uz, .int .i64 dr, .int .i64 dc, .slice da dn dz]
  have B1 : Below w0.heap.size w0 (w0.alloc (.cells #[.slice fa fn fz, .int .i64 qr, .int .i64 qc, .slice qa qn qz, .int .i64 kr, .int .i64 kc, .slice ka kn kz, .int .i64 vr, .int .i64 vc, .slice va vn vz, .int .i64 or, .int .i64 oc, .slice oa on oz, .slice sa sn sz, .int .i64 ur, .int .i64 uc, .slice ua un uz, .int .i64 dr, .int .i64 dc, .slice da dn dz] 57)) := (Below.refl _ _).alloc (Nat.le_refl _) _
  have s1 : (w0.alloc (.cells #[.slice fa fn fz, .int .i64 qr, .int .i64 qc, .slice qa qn qz, .int .i64 kr, .int .i64 kc, .slice ka kn kz, .int .i64 vr, .int .i64 vc, .slice va vn vz, .int .i64 or, .int .i64 oc, .slice oa on oz, .slice sa sn sz, .int .i64 ur, .int .i64 uc, .slice ua un uz, .int .i64 dr, .int .i64 dc, .slice da dn dz] 57)).heap.size = w0.heap.size + 1 := by simp
  rw [s0] at X1 s1
  generalize hw1 : w0.alloc (.cells #[.slice fa fn fz, .int .i64 qr, .int .i64 qc, .slice qa qn qz, .int .i64 kr, .int .i64 kc, .slice ka kn kz, .int .i64 vr, .int .i64 vc, .slice va vn vz, .int .i64 or, .int .i64 oc, .slice oa on oz, .slice sa sn sz, .int .i64 ur, .int .i64 uc, .slice ua un uz, .int .i64 dr, .int .i64 dc, .slice da dn dz] 57) = w1 at *
  replace X0 := X0.below B1
  replace B1 := below_then B0 B1
  unfold matV at *
  simp only at HQ HK HV HO HU HD HB hf hs
  have a1 : w1.cell? ⟨w.heap.size, 1, none⟩ = some (.int .i64 D) := X0.cell 1 rfl
  have b0 : w1.cell? ⟨w.heap.size + 1, 0, none⟩ = some (.slice fa fn fz) := X1.cell 0 rfl
  have b13 : w1.cell? ⟨w.heap.size + 1, 13, none⟩ = some (.slice sa sn sz) := X1.cell 13 rfl
  by_cases h1 : (fn : Int) = D
  · by_cases h2 : (sn : Int) = D
    · have HB2 : Hid (res = (xq && xk && xv && xo && xu && xd)) := by show _ = _; rw [HB.out, decide_eq_true h1, decide_eq_true h2]; simp only [Bool.true_and]
      clear HB
      subst h1
      obtain rfl : sn = fn := by omega
      clear h2
      have b1 : w1.cell? ⟨w.heap.size + 1, 1, none⟩ = some (.int .i64 qr) := X1.cell 1 rfl
      have b2 : w1.cell? ⟨w.heap.size + 1, 2, none⟩ = some (.int .i64 qc) := X1.cell 2 rfl
      have b3 : w1.cell? ⟨w.heap.size + 1, 3, none⟩ = some (.slice qa qn qz) := X1.cell 3 rfl
      have b4 : w1.cell? ⟨w.heap.size + 1, 4, none⟩ = some (.int .i64 kr) := X1.cell 4 rfl
      have b5 : w1.cell? ⟨w.heap.size + 1, 5, none⟩ = some (.int .i64 kc) := X1.cell 5 rfl
      have b6 : w1.cell? ⟨w.heap.size + 1, 6, none⟩ = some (.slice ka kn kz) := X1.cell 6 rfl
      have b7 : w1.cell? ⟨w.heap.size + 1, 7, none⟩ = some (.int .i64 vr) := X1.cell 7 rfl
      have b8 : w1.cell? ⟨w.heap.size + 1, 8, none⟩ = some (.int .i64 vc) := X1.cell 8 rfl
      have b9 : w1.cell? ⟨w.heap.size + 1, 9, none⟩ = some (.slice va vn vz) := X1.cell 9 rfl
      have b10 : w1.cell? ⟨w.heap.size + 1, 10, none⟩ = some (.int .i64 or) := X1.cell 10 rfl
      have b11 : w1.cell? ⟨w.heap.size + 1, 11, none⟩ = some (.int .i64 oc) := X1.cell 11 rfl
      have b12 : w1.cell? ⟨w.heap.size + 1, 12, none⟩ = some (.slice oa on oz) := X1.cell 12 rfl
      have XM := blk_new w1 26 #[.int .i64 qr, .int .i64 qc, .slice qa qn qz, .int .i64 kr, .int .i64 kc, .slice ka kn kz, .int .i64 vr, .int .i64 vc, .slice va vn vz, .int .i64 or, .int .i64 oc, .slice oa on oz]
      have B2 : Below w1.heap.size w1 (w1.alloc (.cells #[.int .i64 qr, .int .i64 qc, .slice qa qn qz, .int .i64 kr, .int .i64 kc, .slice ka kn kz, .int .i64 vr, .int .i64 vc, .slice va vn vz, .int .i64 or, .int .i64 oc, .slice oa on oz] 26)) := (Below.refl _ _).alloc (Nat.le_refl _) _
      generalize hw2 : w1.alloc (.cells #[.int .i64 qr, .int .i64 qc, .slice qa qn qz, .int .i64 kr, .int .i64 kc, .slice ka kn kz, .int .i64 vr, .int .i64 vc, .slice va vn vz, .int .i64 or, .int .i64 oc, .slice oa on oz] 26) = w2 at *
      rw [s1] at XM
      go_enter Try.func38, Try.ntmps38
      go_wp2_with fail
      clear hw0 hw1 hw2 s0 s1 a1 b0 b13 b1 b2 b3 b4 b5 b6 b7 b8 b9 b10 b11 b12 B0
      have Y0 := X0.below B2
      have Y1 := X1.below B2
      replace B2 := below_then B1 B2
      clear X0 X1 B1
      go_loopg [31] 4 (fun r i wr => ∃ k : Nat, k ≤ 4 ∧ r = 4 - k ∧ i = .int .i64 k ∧ (1 ≤ k → xq = true) ∧ (2 ≤ k → xk = true) ∧ (3 ≤ k → xv = true) ∧ (4 ≤ k → xo = true) ∧ Below w2.heap.size w2 wr)
      case atStart => exact ⟨0, by omega, by omega, rfl, fun h => by omega, fun h => by omega, fun h => by omega, fun h => by omega, Below.refl _ _⟩
      case round =>
        obtain ⟨k, hk, rfl, rfl, q1, q2, q3, q4, B3⟩ := hrel
        have Z0 := Y0.below B3
        have Z1 := Y1.below B3
        have ZM := XM.below B3
        have s3 := B3.size
        have s2 := B2.size
        have BK := B3
        replace B3 := below_then B2 B3
        by_cases hlt : k < 4
        · have hor : k = 0 ∨ k = 1 ∨ k = 2 ∨ k = 3 := by omega
          have a1 : wr.cell? ⟨w.heap.size, 1, none⟩ = some (.int .i64 (sn : Int)) := Z0.cell 1 rfl
          rcases hor with rfl | rfl | rfl | rfl
          · have m0 : wr.cell? ⟨w.heap.size + 1 + 1, 0, none⟩ = some (.int .i64 qr) := ZM.cell 0 rfl
            have m1 : wr.cell? ⟨w.heap.size + 1 + 1, 1, none⟩ = some (.int .i64 qc) := ZM.cell 1 rfl
            have m2 : wr.cell? ⟨w.heap.size + 1 + 1, 2, none⟩ = some (.slice qa qn qz) := ZM.cell 2 rfl
            have XX := box_new wr qr qc qa qn qz
            have BX : Below wr.heap.size wr (wr.alloc (.cells #[.int .i64 qr, .int .i64 qc, .slice qa qn qz] 26)) := (Below.refl _ _).alloc (Nat.le_refl _) _
            generalize hwx : wr.alloc (.cells #[.int .i64 qr, .int .i64 qc, .slice qa qn qz] 26) = wx at *
            have x0 := XX.c0
            have x1 := XX.c1
            have x2 := XX.c2
            have d1 : wx.cell? ⟨w.heap.size, 1, none⟩ = some (.int .i64 (sn : Int)) := (Z0.below BX).cell 1 rfl
            go_wp2_with fail
            refine (HQ wx).mono ?_
            rintro e wy ⟨rfl, BY⟩
            have Bz := below_then BX BY
            have Bw := below_then B3 Bz
            clear hwx XX BX x0 x1 x2 d1 m0 m1 m2 a1 BY
            cases xq with
            | false =>
              have HF : Hid (res = false) := by show _ = _; rw [HB2.out]; simp
              go_wp2
              go_ret
              exact ⟨by rw [HF.out]; rfl, Bw⟩
            | true =>
              go_wp2
              go_roundg (4 - (0 + 1))
              case measure => omega
              case rel => exact ⟨1, by omega, rfl, by go_num, (by first | exact fun _ => rfl | exact fun _ => trivial), fun h => by omega, fun h => by omega, fun h => by omega, BK.trans (Bz.mono s3)⟩
          · have m0 : wr.cell? ⟨w.heap.size + 1 + 1, 3, none⟩ = some (.int .i64 kr) := ZM.cell 3 rfl
            have m1 : wr.cell? ⟨w.heap.size + 1 + 1, 4, none⟩ = some (.int .i64 kc) := ZM.cell 4 rfl
            have m2 : wr.cell? ⟨w.heap.size + 1 + 1, 5, none⟩ = some (.slice ka kn kz) := ZM.cell 5 rfl
            have XX := box_new wr kr kc ka kn kz
            have BX : Below wr.heap.size wr (wr.alloc (.cells #[.int .i64 kr, .int .i64 kc, .slice ka kn kz] 26)) := (Below.refl _ _).alloc (Nat.le_refl _) _
            generalize hwx : wr.alloc (.cells #[.int .i64 kr, .int .i64 kc, .slice ka kn kz] 26) = wx at *
            have x0 := XX.c0
            have x1 := XX.c1
            have x2 := XX.c2
            have d1 : wx.cell? ⟨w.heap.size, 1, none⟩ = some (.int .i64 (sn : Int)) := (Z0.below BX).cell 1 rfl
            go_wp2_with fail
            refine (HK wx).mono ?_
            rintro e wy ⟨rfl, BY⟩
            have Bz := below_then BX BY
            have Bw := below_then B3 Bz
            clear hwx XX BX x0 x1 x2 d1 m0 m1 m2 a1 BY
            cases xk with
            | false =>
              have HF : Hid (res = false) := by show _ = _; rw [HB2.out]; simp
              go_wp2
              go_ret
              exact ⟨by rw [HF.out]; rfl, Bw⟩
            | true =>
              go_wp2
              go_roundg (4 - (1 + 1))
              case measure => omega
              case rel => exact ⟨2, by omega, rfl, by go_num, fun _ => q1 (by omega), (by first | exact fun _ => rfl | exact fun _ => trivial), fun h => by omega, fun h => by omega, BK.trans (Bz.mono s3)⟩
          · have m0 : wr.cell? ⟨w.heap.size + 1 + 1, 6, none⟩ = some (.int .i64 vr) := ZM.cell 6 rfl
            have m1 : wr.cell? ⟨w.heap.size + 1 + 1, 7, none⟩ = some (.int .i64 vc) := ZM.cell 7 rfl
            have m2 : wr.cell? ⟨w.heap.size + 1 + 1, 8, none⟩ = some (.slice va vn vz) := ZM.cell 8 rfl
            have XX := box_new wr vr vc va vn vz
            have BX : Below wr.heap.size wr (wr.alloc (.cells #[.int .i64 vr, .int .i64 vc, .slice va vn vz] 26)) := (Below.refl _ _).alloc (Nat.le_refl _) _
            generalize hwx : wr.alloc (.cells #[.int .i64 vr, .int .i64 vc, .slice va vn vz] 26) = wx at *
            have x0 := XX.c0
            have x1 := XX.c1
            have x2 := XX.c2
            have d1 : wx.cell? ⟨w.heap.size, 1, none⟩ = some (.int .i64 (sn : Int)) := (Z0.below BX).cell 1 rfl
            go_wp2_with fail
            refine (HV wx).mono ?_
            rintro e wy ⟨rfl, BY⟩
            have Bz := below_then BX BY
            have Bw := below_then B3 Bz
            clear hwx XX BX x0 x1 x2 d1 m0 m1 m2 a1 BY
            cases xv with
            | false =>
              have HF : Hid (res = false) := by show _ = _; rw [HB2.out]; simp
              go_wp2
              go_ret
              exact ⟨by rw [HF.out]; rfl, Bw⟩
            | true =>
              go_wp2
              go_roundg (4 - (2 + 1))
              case measure => omega
              case rel => exact ⟨3, by omega, rfl, by go_num, fun _ => q1 (by omega), fun _ => q2 (by omega), (by first | exact fun _ => rfl | exact fun _ => trivial), fun h => by omega, BK.trans (Bz.mono s3)⟩
          · have m0 : wr.cell? ⟨w.heap.size + 1 + 1, 9, none⟩ = some (.int .i64 or) := ZM.cell 9 rfl
            have m1 : wr.cell? ⟨w.heap.size + 1 + 1, 10, none⟩ = some (.int .i64 oc) := ZM.cell 10 rfl
            have m2 : wr.cell? ⟨w.heap.size + 1 + 1, 11, none⟩ = some (.slice oa on oz) := ZM.cell 11 rfl
            have XX := box_new wr or oc oa on oz
            have BX : Below wr.heap.size wr (wr.alloc (.cells #[.int .i64 or, .int .i64 oc, .slice oa on oz] 26)) := (Below.refl _ _).alloc (Nat.le_refl _) _
            generalize hwx : wr.alloc (.cells #[.int .i64 or, .int .i64 oc, .slice oa on oz] 26) = wx at *
            have x0 := XX.c0
            have x1 := XX.c1
            have x2 := XX.c2
            have d1 : wx.cell? ⟨w.heap.size, 1, none⟩ = some (.int .i64 (sn : Int)) := (Z0.below BX).cell 1 rfl
            go_wp2_with fail
            refine (HO wx).mono ?_
            rintro e wy ⟨rfl, BY⟩
            have Bz := below_then BX BY
            have Bw := below_then B3 Bz
            clear hwx XX BX x0 x1 x2 d1 m0 m1 m2 a1 BY
            cases xo with
            | false =>
              have HF : Hid (res = false) := by show _ = _; rw [HB2.out]; simp
              go_wp2
              go_ret
              exact ⟨by rw [HF.out]; rfl, Bw⟩
            | true =>
              go_wp2
              go_roundg (4 - (3 + 1))
              case measure => omega
              case rel => exact ⟨4, by omega, rfl, by go_num, fun _ => q1 (by omega), fun _ => q2 (by omega), fun _ => q3 (by omega), (by first | exact fun _ => rfl | exact fun _ => trivial), BK.trans (Bz.mono s3)⟩
        · obtain rfl : k = 4 := by omega
          obtain rfl := q1 (by omega)
          obtain rfl := q2 (by omega)
          obtain rfl := q3 (by omega)
          obtain rfl := q4 (by omega)
          have HB3 : Hid (res = (xu && xd)) := by show _ = _; rw [HB2.out]; simp
          have b14 : wr.cell? ⟨w.heap.size + 1, 14, none⟩ = some (.int .i64 ur) := Z1.cell 14 rfl
          have b15 : wr.cell? ⟨w.heap.size + 1, 15, none⟩ = some (.int .i64 uc) := Z1.cell 15 rfl
          have b16 : wr.cell? ⟨w.heap.size + 1, 16, none⟩ = some (.slice ua un uz) := Z1.cell 16 rfl
          have b17 : wr.cell? ⟨w.heap.size + 1, 17, none⟩ = some (.int .i64 dr) := Z1.cell 17 rfl
          have b18 : wr.cell? ⟨w.heap.size + 1, 18, none⟩ = some (.int .i64 dc) := Z1.cell 18 rfl
          have b19 : wr.cell? ⟨w.heap.size + 1, 19, none⟩ = some (.slice da dn dz) := Z1.cell 19 rfl
          have a1 : wr.cell? ⟨w.heap.size, 1, none⟩ = some (.int .i64 (sn : Int)) := Z0.cell 1 rfl
          have a3 : wr.cell? ⟨w.heap.size, 3, none⟩ = some (.int .i64 H) := Z0.cell 3 rfl
          go_wp2_with fail
          refine (HU wr).mono ?_
          rintro e wy ⟨rfl, BY⟩
          have Z0' := Z0.below BY
          have Z1' := Z1.below BY
          have BW := below_then B3 BY
          clear b14 b15 b16 b17 b18 b19 a1 a3 BY
          have b17 : wy.cell? ⟨w.heap.size + 1, 17, none⟩ = some (.int .i64 dr) := Z1'.cell 17 rfl
          have b18 : wy.cell? ⟨w.heap.size + 1, 18, none⟩ = some (.int .i64 dc) := Z1'.cell 18 rfl
          have b19 : wy.cell? ⟨w.heap.size + 1, 19, none⟩ = some (.slice da dn dz) := Z1'.cell 19 rfl
          have a1 : wy.cell? ⟨w.heap.size, 1, none⟩ = some (.int .i64 (sn : Int)) := Z0'.cell 1 rfl
          have a3 : wy.cell? ⟨w.heap.size, 3, none⟩ = some (.int .i64 H) := Z0'.cell 3 rfl
          cases xu with
          | false =>
            go_wp2
            go_ret
            exact ⟨by rw [HB3.out]; rfl, BW⟩
          | true =>
            go_wp2_with (go_at_call 37; refine (HD _).mono ?_; rintro e wz ⟨rfl, BZ⟩)
            go_ret
            exact ⟨by rw [HB3.out]; rfl, below_then BW BZ⟩
    · have HF : Hid (res = false) := by show _ = _; rw [HB.out, decide_eq_false h2]; simp
      clear HB
      subst h1
      have h2' : ((sn : Int) == (fn : Int)) = false := by simpa using h2
      go_enter Try.func38, Try.ntmps38
      go_wp2
      go_ret
      exact ⟨by rw [HF.out]; rfl, B1⟩
  · have HF : Hid (res = false) := by show _ = _; rw [HB.out, decide_eq_false h1]; simp
    have h1' : ((fn : Int) == D) = false := by simpa using h1
    clear HB
    go_enter Try.func38, Try.ntmps38
    go_wp2
    go_ret
    exact ⟨by rw [HF.out]; rfl, B1⟩
end Go.Proofs.Ytklgaokhillinaa
