/- Contracts of the program's functions, part 5 of 13: what each call returns and leaves of memory. -/
import Derived.Test.YtcanjlofnpnhkaaGreatDoorPk4
import Derived.Test.YtcanjlofnpnhkaaGreatDoorPk3
import Derived.Deep.RegionHeld3
import Derived.OwnWalk
import Derived.Test.YtcanjlofnpnhkaaGreatDoorPk2
/- Whether one layer's numbers fit a configuration. -/
namespace Go.Proofs.YtcanjlofnpnhkaaGreatDoor
open Go.ChangeShapes Go.WideShapes Go.ChangeAt Go.RowKit
set_option maxRecDepth 100000 in
set_option maxHeartbeats 3200000 in
theorem blockFits_any (V D Hd H L : Int) (b : Bk) (w : World) (hb : b.Ok) (hD : I64 D) :
   Calls Tryz.prog 67 #[.agg (cfgC V D Hd H L), .agg b.cells] w fun e w' => e = .returned (.bool (bkB D H b)) ∧ Below w.heap.size w w' := by
  have HQ := fun wv => hasSides_any b.q D D wv hb.q
  have HK := fun wv => hasSides_any b.k D D wv hb.k
  have HV := fun wv => hasSides_any b.v D D wv hb.v
  have HO := fun wv => hasSides_any b.o D D wv hb.o
  have HU := fun wv => hasSides_any b.u H D wv hb.u
  have HD := fun wv => hasSides_any b.d D H wv hb.d
  have hf := hb.f
  have hs := hb.s
  clear hb
  have HB : Hid (bkB D H b = (decide ((b.f.n : Int) = D) && decide ((b.s.n : Int) = D) && sidesB b.q D D && sidesB b.k D D && sidesB b.v D D && sidesB b.o D D && sidesB b.u H D && sidesB b.d D H)) := rfl
  generalize bkB D H b = res at *
  generalize sidesB b.q D D = xq at *
  generalize sidesB b.k D D = xk at *
  generalize sidesB b.v D D = xv at *
  generalize sidesB b.o D D = xo at *
  generalize sidesB b.u H D = xu at *
  generalize sidesB b.d D H = xd at *
  obtain ⟨⟨fa, fn, fz⟩, ⟨qr, qc, ⟨qa, qn, qz⟩⟩, ⟨kr, kc, ⟨ka, kn, kz⟩⟩, ⟨vr, vc, ⟨va, vn, vz⟩⟩, ⟨or, oc, ⟨oa, on, oz⟩⟩, ⟨sa, sn, sz⟩, ⟨ur, uc, ⟨ua, un, uz⟩⟩, ⟨dr, dc, ⟨da, dn, dz⟩⟩⟩ := b
  unfold I64 at hD
  show Calls Tryz.prog 67 #[.agg #[.int .i64 V, .int .i64 D, .int .i64 Hd, .int .i64 H, .int .i64 L], .agg #[.slice fa fn fz, .int .i64 qr, .int .i64 qc, .slice qa qn qz, .int .i64 kr, .int .i64 kc, .slice ka kn kz, .int .i64 vr, .int .i64 vc, .slice va vn vz, .int .i64 or, .int .i64 oc, .slice oa on oz, .slice sa sn sz, .int .i64 ur, .int .i64 uc, .slice ua un uz, .int .i64 dr, .int .i64 dc, .slice da dn dz]] w _
  have X0 := blk_new w 23 #[.int .i64 V, .int .i64 D, .int .i64 Hd, .int .i64 H, .int .i64 L]
  have B0 : Below w.heap.size w (w.alloc (.cells #[.int .i64 V, .int .i64 D, .int .i64 Hd, .int .i64 H, .int .i64 L] 23)) := (Below.refl _ _).alloc (Nat.le_refl _) _
  have s0 : (w.alloc (.cells #[.int .i64 V, .int .i64 D, .int .i64 Hd, .int .i64 H, .int .i64 L] 23)).heap.size = w.heap.size + 1 := by simp
  generalize hw0 : w.alloc (.cells #[.int .i64 V, .int .i64 D, .int .i64 Hd, .int .i64 H, .int .i64 L] 23) = w0 at *
  have X1 := blk_new w0 80 #[.slice fa fn fz, .int .i64 qr, .int .i64 qc, .slice qa qn qz, .int .i64 kr, .int .i64 kc, .slice ka kn kz, .int .i64 vr, .int .i64 vc, .slice va vn vz, .int .i64 or, .int .i64 oc, .slice oa on oz, .slice sa sn sz, .int .i64 ur, .int .i64 uc, .slice ua un uz, .int .i64 dr, .int .i64 dc, .slice da dn dz]
  have B1 : Below w0.heap.size w0 (w0.alloc (.cells #[.slice fa fn fz, .int .i64 qr, .int .i64 qc, .slice qa qn qz, .int .i64 kr, .int .i64 kc, .slice ka kn kz, .int .i64 vr, .int .i64 vc, .slice va vn vz, .int .i64 or, .int .i64 oc, .slice oa on oz, .slice sa sn sz, .int .i64 ur, .int .i64 uc, .slice ua un uz, .int .i64 dr, .int .i64 dc, .slice da dn dz] 80)) := (Below.refl _ _).alloc (Nat.le_refl _) _
  have s1 : (w0.alloc (.cells #[.slice fa fn fz, .int .i64 qr, .int .i64 qc, .slice qa qn qz, .int .i64 kr, .int .i64 kc, .slice ka kn kz, .int .i64 vr, .int .i64 vc, .slice va vn vz, .int .i64 or, .int .i64 oc, .slice oa on oz, .slice sa sn sz, .int .i64 ur, .int .i64 uc, .slice ua un uz, .int .i64 dr, .int .i64 dc, .slice da dn dz] 80)).heap.size = w0.heap.size + 1 := by simp
  rw [s0] at X1 s1
  generalize hw1 : w0.alloc (.cells #[.slice fa fn fz, .int .i64 qr, .int .i64 qc, .slice qa qn qz, .int .i64 kr, .int .i64 kc, .slice ka kn kz, .int .i64 vr, .int .i64 vc, .slice va vn vz, .int .i64 or, .int .i64 oc, .slice oa on oz, .slice sa sn sz, .int .i64 ur, .int .i64 uc, .slice ua un uz, .int .i64 dr, .int .i64 dc, .slice da dn dz] 80) = w1 at *
  replace X0 := X0.below B1
  replace B1 := below_then B0 B1
  unfold matV at *
  simp only at HQ HK HV HO HU HD HB hf hs
  have a1 : w1.cell? ⟨w.heap.size, 1, none⟩ = some (.int .i64 D) := X0.cell 1 rfl
  have b0 : w1.cell? ⟨w.heap.size + 1, 0, none⟩ = some (.slice fa fn fz) := X1.cell 0 rfl
  have b13 : w1.cell? ⟨w.heap.size + 1, 13, none⟩ = some (.slice sa sn sz) := X1.cell 13 rfl
  by_cases h1 : (fn : Int) = D
  · by_cases h2 : (sn : Int) = D
    · have HB2 : Hid (res = (xq && xk && xv && xo && xu && xd)) := by show _ = _; rw [HB.out, decide_eq_true h1, decide_eq_true h2]; simp only [Bool.true_and]
      clear HB
      subst h1
      obtain rfl : sn = fn := by omega
      clear h2
      have b1 : w1.cell? ⟨w.heap.size + 1, 1, none⟩ = some (.int .i64 qr) := X1.cell 1 rfl
      have b2 : w1.cell? ⟨w.heap.size + 1, 2, none⟩ = some (.int .i64 qc) := X1.cell 2 rfl
      have b3 : w1.cell? ⟨w.heap.size + 1, 3, none⟩ = some (.slice qa qn qz) := X1.cell 3 rfl
      have b4 : w1.cell? ⟨w.heap.size + 1, 4, none⟩ = some (.int .i64 kr) := X1.cell 4 rfl
      have b5 : w1.cell? ⟨w.heap.size + 1, 5, none⟩ = some (.int .i64 kc) := X1.cell 5 rfl
      have b6 : w1.cell? ⟨w.heap.size + 1, 6, none⟩ = some (.slice ka kn kz) := X1.cell 6 rfl
      have b7 : w1.cell? ⟨w.heap.size + 1, 7, none⟩ = some (.int .i64 vr) := X1.cell 7 rfl
      have b8 : w1.cell? ⟨w.heap.size + 1, 8, none⟩ = some (.int .i64 vc) := X1.cell 8 rfl
      have b9 : w1.cell? ⟨w.heap.size + 1, 9, none⟩ = some (.slice va vn vz) := X1.cell 9 rfl
      have b10 : w1.cell? ⟨w.heap.size + 1, 10, none⟩ = some (.int .i64 or) := X1.cell 10 rfl
      have b11 : w1.cell? ⟨w.heap.size + 1, 11, none⟩ = some (.int .i64 oc) := X1.cell 11 rfl
      have b12 : w1.cell? ⟨w.heap.size + 1, 12, none⟩ = some (.slice oa on oz) := X1.cell 12 rfl
      have XM := blk_new w1 37 #[.int .i64 qr, .int .i64 qc, .slice qa qn qz, .int .i64 kr, .int .i64 kc, .slice ka kn kz, .int .i64 vr, .int .i64 vc, .slice va vn vz, .int .i64 or, .int .i64 oc, .slice oa on oz]
      have B2 : Below w1.heap.size w1 (w1.alloc (.cells #[.int .i64 qr, .int .i64 qc, .slice qa qn qz, .int .i64 kr, .int .i64 kc, .slice ka kn kz, .int .i64 vr, .int .i64 vc, .slice va vn vz, .int .i64 or, .int .i64 oc, .slice oa on oz] 37)) := (Below.refl _ _).alloc (Nat.le_refl _) _
      generalize hw2 : w1.alloc (.cells #[.int .i64 qr, .int .i64 qc, .slice qa qn qz, .int .i64 kr, .int .i64 kc, .slice ka kn kz, .int .i64 vr, .int .i64 vc, .slice va vn vz, .int .i64 or, .int .i64 oc, .slice oa on oz] 37) = w2 at *
      rw [s1] at XM
      go_enter Tryz.func67, Tryz.ntmps67
      go_wp2_with fail
      clear hw0 hw1 hw2 s0 s1 a1 b0 b13 b1 b2 b3 b4 b5 b6 b7 b8 b9 b10 b11 b12 B0
      have Y0 := X0.below B2
      have Y1 := X1.below B2
      replace B2 := below_then B1 B2
      clear X0 X1 B1
      go_loopg [31] 4 (fun r i wr => ∃ k : Nat, k ≤ 4 ∧ r = 4 - k ∧ i = .int .i64 k ∧ (1 ≤ k → xq = true) ∧ (2 ≤ k → xk = true) ∧ (3 ≤ k → xv = true) ∧ (4 ≤ k → xo = true) ∧ Below w2.heap.size w2 wr)
      case atStart => exact ⟨0, by omega, by omega, rfl, fun h => by omega, fun h => by omega, fun h => by omega, fun h => by omega, Below.refl _ _⟩
      case round =>
        obtain ⟨k, hk, rfl, rfl, q1, q2, q3, q4, B3⟩ := hrel
        have Z0 := Y0.below B3
        have Z1 := Y1.below B3
        have ZM := XM.below B3
        have s3 := B3.size
        have s2 := B2.size
        have BK := B3
        replace B3 := below_then B2 B3
        by_cases hlt : k < 4
        · have hor : k = 0 ∨ k = 1 ∨ k = 2 ∨ k = 3 := by omega
          have a1 : wr.cell? ⟨w.heap.size, 1, none⟩ = some (.int .i64 (sn : Int)) := Z0.cell 1 rfl
          rcases hor with rfl | rfl | rfl | rfl
          · have m0 : wr.cell? ⟨w.heap.size + 1 + 1, 0, none⟩ = some (.int .i64 qr) := ZM.cell 0 rfl
            have m1 : wr.cell? ⟨w.heap.size + 1 + 1, 1, none⟩ = some (.int .i64 qc) := ZM.cell 1 rfl
            have m2 : wr.cell? ⟨w.heap.size + 1 + 1, 2, none⟩ = some (.slice qa qn qz) := ZM.cell 2 rfl
            have XX := box_new wr qr qc qa qn qz
            have BX : Below wr.heap.size wr (wr.alloc (.cells #[.int .i64 qr, .int .i64 qc, .slice qa qn qz] 37)) := (Below.refl _ _).alloc (Nat.le_refl _) _
            generalize hwx : wr.alloc (.cells #[.int .i64 qr, .int .i64 qc, .slice qa qn qz] 37) = wx at *
            have x0 := XX.c0
            have x1 := XX.c1
            have x2 := XX.c2
            have d1 : wx.cell? ⟨w.heap.size, 1, none⟩ = some (.int .i64 (sn : Int)) := (Z0.below BX).cell 1 rfl
            go_wp2_with fail
            refine (HQ wx).mono ?_
            rintro e wy ⟨rfl, BY⟩
            have Bz := below_then BX BY
            have Bw := below_then B3 Bz
            clear hwx XX BX x0 x1 x2 d1 m0 m1 m2 a1 BY
            cases xq with
            | false =>
              have HF : Hid (res = false) := by show _ = _; rw [HB2.out]; simp
              go_wp2
              go_ret
              exact ⟨by rw [HF.out]; rfl, Bw⟩
            | true =>
              go_wp2
              go_roundg (4 - (0 + 1))
              case measure => omega
              case rel => exact ⟨1, by omega, rfl, by go_num, (by first | exact fun _ => rfl | exact fun _ => trivial), fun h => by omega, fun h => by omega, fun h => by omega, BK.trans (Bz.mono s3)⟩
          · have m0 : wr.cell? ⟨w.heap.size + 1 + 1, 3, none⟩ = some (.int .i64 kr) := ZM.cell 3 rfl
            have m1 : wr.cell? ⟨w.heap.size + 1 + 1, 4, none⟩ = some (.int .i64 kc) := ZM.cell 4 rfl
            have m2 : wr.cell? ⟨w.heap.size + 1 + 1, 5, none⟩ = some (.slice ka kn kz) := ZM.cell 5 rfl
            have XX := box_new wr kr kc ka kn kz
            have BX : Below wr.heap.size wr (wr.alloc (.cells #[.int .i64 kr, .int .i64 kc, .slice ka kn kz] 37)) := (Below.refl _ _).alloc (Nat.le_refl _) _
            generalize hwx : wr.alloc (.cells #[.int .i64 kr, .int .i64 kc, .slice ka kn kz] 37) = wx at *
            have x0 := XX.c0
            have x1 := XX.c1
            have x2 := XX.c2
            have d1 : wx.cell? ⟨w.heap.size, 1, none⟩ = some (.int .i64 (sn : Int)) := (Z0.below BX).cell 1 rfl
            go_wp2_with fail
            refine (HK wx).mono ?_
            rintro e wy ⟨rfl, BY⟩
            have Bz := below_then BX BY
            have Bw := below_then B3 Bz
            clear hwx XX BX x0 x1 x2 d1 m0 m1 m2 a1 BY
            cases xk with
            | false =>
              have HF : Hid (res = false) := by show _ = _; rw [HB2.out]; simp
              go_wp2
              go_ret
              exact ⟨by rw [HF.out]; rfl, Bw⟩
            | true =>
              go_wp2
              go_roundg (4 - (1 + 1))
              case measure => omega
              case rel => exact ⟨2, by omega, rfl, by go_num, fun _ => q1 (by omega), (by first | exact fun _ => rfl | exact fun _ => trivial), fun h => by omega, fun h => by omega, BK.trans (Bz.mono s3)⟩
          · have m0 : wr.cell? ⟨w.heap.size + 1 + 1, 6, none⟩ = some (.int .i64 vr) := ZM.cell 6 rfl
            have m1 : wr.cell? ⟨w.heap.size + 1 + 1, 7, none⟩ = some (.int .i64 vc) := ZM.cell 7 rfl
            have m2 : wr.cell? ⟨w.heap.size + 1 + 1, 8, none⟩ = some (.slice va vn vz) := ZM.cell 8 rfl
            have XX := box_new wr vr vc va vn vz
            have BX : Below wr.heap.size wr (wr.alloc (.cells #[.int .i64 vr, .int .i64 vc, .slice va vn vz] 37)) := (Below.refl _ _).alloc (Nat.le_refl _) _
            generalize hwx : wr.alloc (.cells #[.int .i64 vr, .int .i64 vc, .slice va vn vz] 37) = wx at *
            have x0 := XX.c0
            have x1 := XX.c1
            have x2 := XX.c2
            have d1 : wx.cell? ⟨w.heap.size, 1, none⟩ = some (.int .i64 (sn : Int)) := (Z0.below BX).cell 1 rfl
            go_wp2_with fail
            refine (HV wx).mono ?_
            rintro e wy ⟨rfl, BY⟩
            have Bz := below_then BX BY
            have Bw := below_then B3 Bz
            clear hwx XX BX x0 x1 x2 d1 m0 m1 m2 a1 BY
            cases xv with
            | false =>
              have HF : Hid (res = false) := by show _ = _; rw [HB2.out]; simp
              go_wp2
              go_ret
              exact ⟨by rw [HF.out]; rfl, Bw⟩
            | true =>
              go_wp2
              go_roundg (4 - (2 + 1))
              case measure => omega
              case rel => exact ⟨3, by omega, rfl, by go_num, fun _ => q1 (by omega), fun _ => q2 (by omega), (by first | exact fun _ => rfl | exact fun _ => trivial), fun h => by omega, BK.trans (Bz.mono s3)⟩
          · have m0 : wr.cell? ⟨w.heap.size + 1 + 1, 9, none⟩ = some (.int .i64 or) := ZM.cell 9 rfl
            have m1 : wr.cell? ⟨w.heap.size + 1 + 1, 10, none⟩ = some (.int .i64 oc) := ZM.cell 10 rfl
            have m2 : wr.cell? ⟨w.heap.size + 1 + 1, 11, none⟩ = some (.slice oa on oz) := ZM.cell 11 rfl
            have XX := box_new wr or oc oa on oz
            have BX : Below wr.heap.size wr (wr.alloc (.cells #[.int .i64 or, .int .i64 oc, .slice oa on oz] 37)) := (Below.refl _ _).alloc (Nat.le_refl _) _
            generalize hwx : wr.alloc (.cells #[.int .i64 or, .int .i64 oc, .slice oa on oz] 37) = wx at *
            have x0 := XX.c0
            have x1 := XX.c1
            have x2 := XX.c2
            have d1 : wx.cell? ⟨w.heap.size, 1, none⟩ = some (.int .i64 (sn : Int)) := (Z0.below BX).cell 1 rfl
            go_wp2_with fail
            refine (HO wx).mono ?_
            rintro e wy ⟨rfl, BY⟩
            have Bz := below_then BX BY
            have Bw := below_then B3 Bz
            clear hwx XX BX x0 x1 x2 d1 m0 m1 m2 a1 BY
            cases xo with
            | false =>
              have HF : Hid (res = false) := by show _ = _; rw [HB2.out]; simp
              go_wp2
              go_ret
              exact ⟨by rw [HF.out]; rfl, Bw⟩
            | true =>
              go_wp2
              go_roundg (4 - (3 + 1))
              case measure => omega
              case rel => exact ⟨4, by omega, rfl, by go_num, fun _ => q1 (by omega), fun _ => q2 (by omega), fun _ => q3 (by omega), (by first | exact fun _ => rfl | exact fun _ => trivial), BK.trans (Bz.mono s3)⟩
        · obtain rfl : k = 4 := by omega
          obtain rfl := q1 (by omega)
          obtain rfl := q2 (by omega)
          obtain rfl := q3 (by omega)
          obtain rfl := q4 (by omega)
          have HB3 : Hid (res = (xu && xd)) := by show _ = _; rw [HB2.out]; simp
          have b14 : wr.cell? ⟨w.heap.size + 1, 14, none⟩ = some (.int .i64 ur) := Z1.cell 14 rfl
          have b15 : wr.cell? ⟨w.heap.size + 1, 15, none⟩ = some (.int .i64 uc) := Z1.cell 15 rfl
          have b16 : wr.cell? ⟨w.heap.size + 1, 16, none⟩ = some (.slice ua un uz) := Z1.cell 16 rfl
          have b17 : wr.cell? ⟨w.heap.size + 1, 17, none⟩ = some (.int .i64 dr) := Z1.cell 17 rfl
          have b18 : wr.cell? ⟨w.heap.size + 1, 18, none⟩ = some (.int .i64 dc) := Z1.cell 18 rfl
          have b19 : wr.cell? ⟨w.heap.size + 1, 19, none⟩ = some (.slice da dn dz) := Z1.cell 19 rfl
          have a1 : wr.cell? ⟨w.heap.size, 1, none⟩ = some (.int .i64 (sn : Int)) := Z0.cell 1 rfl
          have a3 : wr.cell? ⟨w.heap.size, 3, none⟩ = some (.int .i64 H) := Z0.cell 3 rfl
          go_wp2_with fail
          refine (HU wr).mono ?_
          rintro e wy ⟨rfl, BY⟩
          have Z0' := Z0.below BY
          have Z1' := Z1.below BY
          have BW := below_then B3 BY
          clear b14 b15 b16 b17 b18 b19 a1 a3 BY
          have b17 : wy.cell? ⟨w.heap.size + 1, 17, none⟩ = some (.int .i64 dr) := Z1'.cell 17 rfl
          have b18 : wy.cell? ⟨w.heap.size + 1, 18, none⟩ = some (.int .i64 dc) := Z1'.cell 18 rfl
          have b19 : wy.cell? ⟨w.heap.size + 1, 19, none⟩ = some (.slice da dn dz) := Z1'.cell 19 rfl
          have a1 : wy.cell? ⟨w.heap.size, 1, none⟩ = some (.int .i64 (sn : Int)) := Z0'.cell 1 rfl
          have a3 : wy.cell? ⟨w.heap.size, 3, none⟩ = some (.int .i64 H) := Z0'.cell 3 rfl
          cases xu with
          | false =>
            go_wp2
            go_ret
            exact ⟨by rw [HB3.out]; rfl, BW⟩
          | true =>
            go_wp2_with (go_at_call 66; refine (HD _).mono ?_; rintro e wz ⟨rfl, BZ⟩)
            go_ret
            exact ⟨by rw [HB3.out]; rfl, below_then BW BZ⟩
    · have HF : Hid (res = false) := by show _ = _; rw [HB.out, decide_eq_false h2]; simp
      clear HB
      subst h1
      have h2' : ((sn : Int) == (fn : Int)) = false := by simpa using h2
      go_enter Tryz.func67, Tryz.ntmps67
      go_wp2
      go_ret
      exact ⟨by rw [HF.out]; rfl, B1⟩
  · have HF : Hid (res = false) := by show _ = _; rw [HB.out, decide_eq_false h1]; simp
    have h1' : ((fn : Int) == D) = false := by simpa using h1
    clear HB
    go_enter Tryz.func67, Tryz.ntmps67
    go_wp2
    go_ret
    exact ⟨by rw [HF.out]; rfl, B1⟩
end Go.Proofs.YtcanjlofnpnhkaaGreatDoor

/- Whether all numbers fit a configuration. -/
namespace Go.Proofs.YtcanjlofnpnhkaaGreatDoor
open Go.ChangeShapes Go.WideShapes Go.ChangeAt Go.RowKit
/-- In w the slice b reads as the layers bs. -/
structure BlocksAt (w : World) (b : Sl) (bs : List Bk) : Prop where
  len : bs.length = b.n
  max : b.n ≤ 9223372036854775807
  ok : ∀ x ∈ bs, x.Ok
  cells : 0 < b.n → ∃ g o, b.ao = some ⟨g, o, none⟩ ∧ ∀ (t : Nat) (x : Bk), bs[t]? = some x → w.rangeAt g (o + t * 20) x.cells.toList
theorem BlocksAt.below {w w' : World} {b : Sl} {bs : List Bk} (h : BlocksAt w b bs) (hb : Below w.heap.size w w') : BlocksAt w' b bs := by
  refine ⟨h.len, h.max, h.ok, fun hn => ?_⟩
  obtain ⟨g, o, e, hc⟩ := h.cells hn
  refine ⟨g, o, e, fun t x hx => ?_⟩
  have r := hc t x hx
  have c0 := r 0 x.f.v rfl
  have hlt : g < w.heap.size := by simpa using World.block_lt_of_cell? w _ c0
  exact rangeAt_block r (hb.block g hlt)
def fitsB (V D H L : Int) (W : Wt) (bs : List Bk) : Bool := sidesB W.e V D && sidesB W.o V D && decide ((W.l.n : Int) = D) && decide ((W.b.n : Int) = L) && bs.all (bkB D H)
structure Wt.Ok (W : Wt) : Prop where
  e : W.e.Ok
  l : W.l.n ≤ 9223372036854775807
  o : W.o.Ok
theorem bk_one (b : Bk) : b.cells.all (·.oneCell') = true := by simp [Bk.cells, bcs, Sl.v, Value.oneCell']
theorem bk_size (b : Bk) : b.cells.size = 20 := rfl
theorem all_take {bs : List Bk} {p : Bk → Bool} {t : Nat} {x : Bk} (h : bs[t]? = some x) : (bs.take (t + 1)).all p = ((bs.take t).all p && p x) := by
  rw [List.take_add_one, h, List.all_append]; simp
set_option maxRecDepth 100000 in
set_option maxHeartbeats 3200000 in
theorem fits_any (V D Hd H L : Int) (W : Wt) (bs : List Bk) (w : World) (hW : W.Ok) (hb : BlocksAt w W.b bs) (hD : I64 D) (hL : I64 L) :
   Calls Tryz.prog 57 #[.agg (cfgC V D Hd H L), .agg W.cells] w fun e w' => e = .returned (.bool (fitsB V D H L W bs)) ∧ Below w.heap.size w w' := by
  have HE := fun wv => hasSides_any W.e V D wv hW.e
  have HO := fun wv => hasSides_any W.o V D wv hW.o
  have HX := fun (x : Bk) (hx : x.Ok) wv => blockFits_any V D Hd H L x wv hx hD
  have hl := hW.l
  clear hW
  have HB : Hid (fitsB V D H L W bs = (sidesB W.e V D && sidesB W.o V D && decide ((W.l.n : Int) = D) && decide ((W.b.n : Int) = L) && bs.all (bkB D H))) := rfl
  generalize fitsB V D H L W bs = res at *
  generalize sidesB W.e V D = xe at *
  generalize sidesB W.o V D = xo at *
  obtain ⟨⟨er, ec, ⟨ea, en, ez⟩⟩, ⟨ba, bn, bz⟩, ⟨la, ln, lz⟩, ⟨or, oc, ⟨oa, on, oz⟩⟩⟩ := W
  unfold I64 at hD hL
  have hmax := hb.max
  simp only at hmax hl HB
  show Calls Tryz.prog 57 #[.agg #[.int .i64 V, .int .i64 D, .int .i64 Hd, .int .i64 H, .int .i64 L], .agg #[.int .i64 er, .int .i64 ec, .slice ea en ez, .slice ba bn bz, .slice la ln lz, .int .i64 or, .int .i64 oc, .slice oa on oz]] w _
  have X0 := blk_new w 23 #[.int .i64 V, .int .i64 D, .int .i64 Hd, .int .i64 H, .int .i64 L]
  have B0 : Below w.heap.size w (w.alloc (.cells #[.int .i64 V, .int .i64 D, .int .i64 Hd, .int .i64 H, .int .i64 L] 23)) := (Below.refl _ _).alloc (Nat.le_refl _) _
  have s0 : (w.alloc (.cells #[.int .i64 V, .int .i64 D, .int .i64 Hd, .int .i64 H, .int .i64 L] 23)).heap.size = w.heap.size + 1 := by simp
  generalize hw0 : w.alloc (.cells #[.int .i64 V, .int .i64 D, .int .i64 Hd, .int .i64 H, .int .i64 L] 23) = w0 at *
  have X1 := blk_new w0 40 #[.int .i64 er, .int .i64 ec, .slice ea en ez, .slice ba bn bz, .slice la ln lz, .int .i64 or, .int .i64 oc, .slice oa on oz]
  have B1 : Below w0.heap.size w0 (w0.alloc (.cells #[.int .i64 er, .int .i64 ec, .slice ea en ez, .slice ba bn bz, .slice la ln lz, .int .i64 or, .int .i64 oc, .slice oa on oz] 40)) := (Below.refl _ _).alloc (Nat.le_refl _) _
  rw [s0] at X1
  generalize hw1 : w0.alloc (.cells #[.int .i64 er, .int .i64 ec, .slice ea en ez, .slice ba bn bz, .slice la ln lz, .int .i64 or, .int .i64 oc, .slice oa on oz] 40) = w1 at *
  replace X0 := X0.below B1
  replace B1 := below_then B0 B1
  replace hb := hb.below B1
  unfold matV at *
  simp only at HE HO
  have a0 : w1.cell? ⟨w.heap.size, 0, none⟩ = some (.int .i64 V) := X0.cell 0 rfl
  have a1 : w1.cell? ⟨w.heap.size, 1, none⟩ = some (.int .i64 D) := X0.cell 1 rfl
  have b0 : w1.cell? ⟨w.heap.size + 1, 0, none⟩ = some (.int .i64 er) := X1.cell 0 rfl
  have b1 : w1.cell? ⟨w.heap.size + 1, 1, none⟩ = some (.int .i64 ec) := X1.cell 1 rfl
  have b2 : w1.cell? ⟨w.heap.size + 1, 2, none⟩ = some (.slice ea en ez) := X1.cell 2 rfl
  go_enter Tryz.func57, Tryz.ntmps57
  go_wp2_with fail
  refine (HE w1).mono ?_
  rintro e w2 ⟨rfl, B2⟩
  replace X0 := X0.below B2
  replace X1 := X1.below B2
  replace hb := hb.below B2
  replace B2 := below_then B1 B2
  clear a0 a1 b0 b1 b2 hw0 hw1 s0 B0 B1 HE
  cases xe with
  | false =>
    have HF : Hid (res = false) := by show _ = _; rw [HB.out]; simp
    clear HB
    go_wp2
    go_ret
    exact ⟨by rw [HF.out]; rfl, B2⟩
  | true =>
    have a0 : w2.cell? ⟨w.heap.size, 0, none⟩ = some (.int .i64 V) := X0.cell 0 rfl
    have a1 : w2.cell? ⟨w.heap.size, 1, none⟩ = some (.int .i64 D) := X0.cell 1 rfl
    have b5 : w2.cell? ⟨w.heap.size + 1, 5, none⟩ = some (.int .i64 or) := X1.cell 5 rfl
    have b6 : w2.cell? ⟨w.heap.size + 1, 6, none⟩ = some (.int .i64 oc) := X1.cell 6 rfl
    have b7 : w2.cell? ⟨w.heap.size + 1, 7, none⟩ = some (.slice oa on oz) := X1.cell 7 rfl
    go_wp2_with fail
    refine (HO w2).mono ?_
    rintro e w3 ⟨rfl, B3⟩
    replace X0 := X0.below B3
    replace X1 := X1.below B3
    replace hb := hb.below B3
    replace B3 := below_then B2 B3
    clear a0 a1 b5 b6 b7 B2 HO
    cases xo with
    | false =>
      have HF : Hid (res = false) := by show _ = _; rw [HB.out]; simp
      clear HB
      go_wp2
      go_ret
      exact ⟨by rw [HF.out]; rfl, B3⟩
    | true =>
      have a1 : w3.cell? ⟨w.heap.size, 1, none⟩ = some (.int .i64 D) := X0.cell 1 rfl
      have a4 : w3.cell? ⟨w.heap.size, 4, none⟩ = some (.int .i64 L) := X0.cell 4 rfl
      have b3 : w3.cell? ⟨w.heap.size + 1, 3, none⟩ = some (.slice ba bn bz) := X1.cell 3 rfl
      have b4 : w3.cell? ⟨w.heap.size + 1, 4, none⟩ = some (.slice la ln lz) := X1.cell 4 rfl
      by_cases h1 : (ln : Int) = D
      · by_cases h2 : (bn : Int) = L
        · have HB2 : Hid (res = bs.all (bkB D H)) := by show _ = _; rw [HB.out, decide_eq_true h1, decide_eq_true h2]; simp
          clear HB
          subst h1 h2
          go_wp2_with fail
          clear a1 a4 b3 b4
          go_loopg [42] bn (fun r i wr => ∃ t : Nat, t ≤ bn ∧ r = bn - t ∧ i = .int .i64 t ∧ (bs.take t).all (bkB ln H) = true ∧ Below w3.heap.size w3 wr)
          case atStart => exact ⟨0, by omega, by omega, rfl, by simp, Below.refl _ _⟩
          case round =>
            obtain ⟨t, ht, rfl, rfl, hal, B4⟩ := hrel
            have Z0 := X0.below B4
            have hb4 := hb.below B4
            have BW := below_then B3 B4
            by_cases hlt : t < bn
            · have hlen := hb.len
              simp only at hlen
              obtain ⟨x, hx⟩ : ∃ x, bs[t]? = some x := ⟨_, List.getElem?_eq_getElem (by omega)⟩
              have hxo := hb.ok x (List.mem_of_getElem? hx)
              obtain ⟨g, o, e0, hc⟩ := hb4.cells (by show 0 < bn; omega)
              simp only at e0
              subst e0
              have r0 := hc t x hx
              have HT := all_take (p := bkB ln H) hx
              rw [hal, Bool.true_and] at HT
              have HC := HX x hxo
              have HR : Hid (bkB ln H x = false → res = false) := fun hf => by
                rw [HB2.out]
                rw [← Bool.not_eq_true]
                intro hall
                have := List.all_eq_true.1 hall x (List.mem_of_getElem? hx)
                rw [hf] at this
                cases this
              generalize bkB ln H x = xb at *
              have one := bk_one x
              have siz := bk_size x
              generalize x.cells = cs at *
              have XZ := blk_new wr 80 #[.slice none 0 0, .int .i64 0, .int .i64 0, .slice none 0 0, .int .i64 0, .int .i64 0, .slice none 0 0, .int .i64 0, .int .i64 0, .slice none 0 0, .int .i64 0, .int .i64 0, .slice none 0 0, .slice none 0 0, .int .i64 0, .int .i64 0, .slice none 0 0, .int .i64 0, .int .i64 0, .slice none 0 0]
              have BZ : Below wr.heap.size wr (wr.alloc (.cells #[.slice none 0 0, .int .i64 0, .int .i64 0, .slice none 0 0, .int .i64 0, .int .i64 0, .slice none 0 0, .int .i64 0, .int .i64 0, .slice none 0 0, .int .i64 0, .int .i64 0, .slice none 0 0, .slice none 0 0, .int .i64 0, .int .i64 0, .slice none 0 0, .int .i64 0, .int .i64 0, .slice none 0 0] 80)) := (Below.refl _ _).alloc (Nat.le_refl _) _
              generalize hwz : wr.alloc (.cells #[.slice none 0 0, .int .i64 0, .int .i64 0, .slice none 0 0, .int .i64 0, .int .i64 0, .slice none 0 0, .int .i64 0, .int .i64 0, .slice none 0 0, .int .i64 0, .int .i64 0, .slice none 0 0, .slice none 0 0, .int .i64 0, .int .i64 0, .slice none 0 0, .int .i64 0, .int .i64 0, .slice none 0 0] 80) = wz at *
              have XR := XZ.row cs
              have BR := below_setRow BZ (Nat.le_refl _) cs
              generalize hwy : wz.setRow wr.heap.size cs = wy at *
              replace Z0 := Z0.below BR
              have s4 := B4.size
              have BK := B4.trans (BR.mono s4)
              replace BW := below_then BW BR
              have a0 : wy.cell? ⟨w.heap.size, 0, none⟩ = some (.int .i64 V) := Z0.cell 0 rfl
              have a1 : wy.cell? ⟨w.heap.size, 1, none⟩ = some (.int .i64 (ln : Int)) := Z0.cell 1 rfl
              have a2 : wy.cell? ⟨w.heap.size, 2, none⟩ = some (.int .i64 Hd) := Z0.cell 2 rfl
              have a3 : wy.cell? ⟨w.heap.size, 3, none⟩ = some (.int .i64 H) := Z0.cell 3 rfl
              have a4 : wy.cell? ⟨w.heap.size, 4, none⟩ = some (.int .i64 (bn : Int)) := Z0.cell 4 rfl
              have HL : Hid (cs.toList.toArray = cs) := by show _ = _; simp
              unfold cfgC at HC
              clear hc hb4 X0 X1 hb HX
              go_wp2_with (first | (refine wpList_load_mid rfl 80 _ rfl g (o + t * 20) rfl cs.toList _ r0 Tryz.underlying80 rfl (by rw [Array.length_toList, siz]; exact Tryz.infoB) ?_; rw [HL.out]) | (refine wpList_store_row rfl 80 _ _ rfl wr.heap.size cs rfl rfl 80 _ XZ (by rw [siz]; exact Tryz.infoB) siz.symm one ?_; rw [hwy]) | (refine wpList_load_row rfl 80 _ rfl wr.heap.size rfl 80 cs (0, 0) _ XR Tryz.underlying80 rfl (by rw [siz]; exact Tryz.infoB) ?_))
              refine (HC wy).mono ?_
              rintro e wx ⟨rfl, BX⟩
              have sy := BR.size
              replace BW := below_then BW BX
              replace BK := BK.trans (BX.mono (by have := BK.size; omega))
              clear a0 a1 a2 a3 a4 hwz hwy XZ XR r0 HC
              cases xb with
              | false =>
                have HF := HR.out rfl
                have HF' : Hid (res = false) := HF
                clear HF HR HB2
                go_wp2
                go_ret
                exact ⟨by rw [HF'.out]; rfl, BW⟩
              | true =>
                go_wp2
                go_roundg (bn - (t + 1))
                case measure => omega
                case rel => exact ⟨t + 1, by omega, rfl, by go_num, HT, BK⟩
            · obtain rfl : t = bn := by omega
              have hlen := hb.len
              simp only at hlen
              rw [List.take_of_length_le (by omega)] at hal
              have HF : Hid (res = true) := by show _ = _; rw [HB2.out, hal]
              go_wp2
              go_ret
              exact ⟨by rw [HF.out]; rfl, BW⟩
        · have HF : Hid (res = false) := by show _ = _; rw [HB.out, decide_eq_false h2]; simp
          have h2' : ((bn : Int) == L) = false := by simpa using h2
          clear HB
          subst h1
          go_wp2
          go_ret
          exact ⟨by rw [HF.out]; rfl, B3⟩
      · have HF : Hid (res = false) := by show _ = _; rw [HB.out, decide_eq_false h1]; simp
        have h1' : ((ln : Int) == D) = false := by simpa using h1
        clear HB
        go_wp2
        go_ret
        exact ⟨by rw [HF.out]; rfl, B3⟩
/-- The error's number of numbers for a configuration. -/
def checkN (V D Hd H L : Int) (W : Wt) (bs : List Bk) : Int := if shapeN V D Hd H L ≠ 0 then shapeN V D Hd H L else if fitsB V D H L W bs = true then 0 else 4
set_option maxRecDepth 100000 in
set_option maxHeartbeats 1600000 in
theorem mcheck_any (C : Cfg) (hC : C.Ok) (W : Wt) (bs : List Bk) (w : World) (hW : W.Ok) (hb : BlocksAt w W.b bs) :
   Calls Tryz.prog 46 #[C.val, .agg W.cells] w fun e w' => e = .returned (.int .i64 (checkN C.V C.D C.Hd C.H C.L W bs)) ∧ Below w.heap.size w w' := by
  obtain ⟨V, D, Hd, H, L⟩ := C
  have SH := fun wv => shape_any V D Hd H L wv hC.V hC.D hC.Hd hC.H hC.L
  have FT := fun wv hbv => fits_any V D Hd H L W bs wv hW hbv hC.D hC.L
  have HN : Hid (checkN V D Hd H L W bs = if shapeN V D Hd H L ≠ 0 then shapeN V D Hd H L else if fitsB V D H L W bs = true then 0 else 4) := rfl
  show Calls Tryz.prog 46 #[.agg (cfgC V D Hd H L), .agg W.cells] w fun e w' => e = .returned (.int .i64 (checkN V D Hd H L W bs)) ∧ Below w.heap.size w w'
  generalize checkN V D Hd H L W bs = res at *
  generalize shapeN V D Hd H L = q at *
  generalize fitsB V D H L W bs = xf at *
  have siz : W.cells.size = 8 := rfl
  have one : W.cells.all (·.oneCell') = true := by simp [Wt.cells, Sl.v, Value.oneCell']
  generalize W.cells = ws at *
  unfold cfgC at *
  have X0 := blk_new w 23 #[.int .i64 V, .int .i64 D, .int .i64 Hd, .int .i64 H, .int .i64 L]
  have B0 : Below w.heap.size w (w.alloc (.cells #[.int .i64 V, .int .i64 D, .int .i64 Hd, .int .i64 H, .int .i64 L] 23)) := (Below.refl _ _).alloc (Nat.le_refl _) _
  have s0 : (w.alloc (.cells #[.int .i64 V, .int .i64 D, .int .i64 Hd, .int .i64 H, .int .i64 L] 23)).heap.size = w.heap.size + 1 := by simp
  generalize hw0 : w.alloc (.cells #[.int .i64 V, .int .i64 D, .int .i64 Hd, .int .i64 H, .int .i64 L] 23) = w0 at *
  have X1 := blk_new w0 40 ws
  have B1 : Below w0.heap.size w0 (w0.alloc (.cells ws 40)) := (Below.refl _ _).alloc (Nat.le_refl _) _
  rw [s0] at X1
  generalize hw1 : w0.alloc (.cells ws 40) = w1 at *
  replace X0 := X0.below B1
  replace B1 := below_then B0 B1
  replace hb := hb.below B1
  have a0 : w1.cell? ⟨w.heap.size, 0, none⟩ = some (.int .i64 V) := X0.cell 0 rfl
  have a1 : w1.cell? ⟨w.heap.size, 1, none⟩ = some (.int .i64 D) := X0.cell 1 rfl
  have a2 : w1.cell? ⟨w.heap.size, 2, none⟩ = some (.int .i64 Hd) := X0.cell 2 rfl
  have a3 : w1.cell? ⟨w.heap.size, 3, none⟩ = some (.int .i64 H) := X0.cell 3 rfl
  have a4 : w1.cell? ⟨w.heap.size, 4, none⟩ = some (.int .i64 L) := X0.cell 4 rfl
  go_enter Tryz.func46, Tryz.ntmps46
  go_wp2_with fail
  refine (SH w1).mono ?_
  rintro e w2 ⟨rfl, B2⟩
  replace X0 := X0.below B2
  replace X1 := X1.below B2
  replace hb := hb.below B2
  replace B2 := below_then B1 B2
  clear a0 a1 a2 a3 a4 hw0 hw1 s0 B0 B1 SH
  by_cases hq : q = 0
  · subst hq
    have HR : Hid (res = if xf = true then 0 else 4) := by show _ = _; rw [HN.out, if_neg (by simp)]
    clear HN
    have a0 : w2.cell? ⟨w.heap.size, 0, none⟩ = some (.int .i64 V) := X0.cell 0 rfl
    have a1 : w2.cell? ⟨w.heap.size, 1, none⟩ = some (.int .i64 D) := X0.cell 1 rfl
    have a2 : w2.cell? ⟨w.heap.size, 2, none⟩ = some (.int .i64 Hd) := X0.cell 2 rfl
    have a3 : w2.cell? ⟨w.heap.size, 3, none⟩ = some (.int .i64 H) := X0.cell 3 rfl
    have a4 : w2.cell? ⟨w.heap.size, 4, none⟩ = some (.int .i64 L) := X0.cell 4 rfl
    go_wp2_with (refine wpList_load_row rfl 40 _ rfl (w.heap.size + 1) rfl 40 ws (0, 0) _ X1 Tryz.underlying40 rfl (by rw [siz]; exact Tryz.infoW) ?_)
    refine (FT w2 hb).mono ?_
    rintro e w3 ⟨rfl, B3⟩
    cases xf with
    | false =>
      have HF : Hid (res = 4) := by show _ = _; rw [HR.out]; rfl
      clear HR
      go_wp2
      go_ret
      exact ⟨ret_int HF.out.symm, below_then B2 B3⟩
    | true =>
      have HF : Hid (res = 0) := by show _ = _; rw [HR.out]; rfl
      clear HR
      go_wp2
      go_ret
      exact ⟨ret_int HF.out.symm, below_then B2 B3⟩
  · have HF : Hid (res = q) := by show _ = _; rw [HN.out, if_pos hq]
    have hq' : (q == 0) = false := by simpa using hq
    clear HN
    go_wp2
    go_ret
    exact ⟨ret_int HF.out.symm, B2⟩
end Go.Proofs.YtcanjlofnpnhkaaGreatDoor

/- Package pass: what a layer makes of one row more, behind keys and values. -/
namespace Go.Proofs.YtcanjlofnpnhkaaGreatDoor
open Go.ChangeShapes Go.WideShapes Go.ChangeAt Go.RowKit
/-- A layer's numbers. -/
structure Lay where
  F : List Int
  Q : List Int
  K : List Int
  V : List Int
  O : List Int
  S : List Int
  U : List Int
  N : List Int
def nrm (X G : List Int) (D : Nat) : List Int := tab D (normN X G D)
def apl (M V : List Int) (r c : Nat) : List Int := tab r fun i => dotN (rowN M c i) V c
def plusR (A B : List Int) (n : Nat) : List Int := tab n fun j => addN (el A j) (el B j)
def riseR (A : List Int) (n : Nat) : List Int := tab n fun j => max (el A j) 0
def keyR (L : Lay) (D : Nat) (X : List Int) : List Int := apl L.K (nrm X L.F D) D D
def valR (L : Lay) (D : Nat) (X : List Int) : List Int := apl L.V (nrm X L.F D) D D
/-- What the heads make of a row behind the rows K and V. -/
def attR (L : Lay) (D Hd : Nat) (X : List Int) (K V : List (List Int)) (m : Nat) : List Int := tab D (attEl (apl L.Q (nrm X L.F D) D D) (K ++ [keyR L D X]) (V ++ [valR L D X]) (m + 1) (D / Hd))
def midR (L : Lay) (D Hd : Nat) (X : List Int) (K V : List (List Int)) (m : Nat) : List Int := plusR X (apl L.O (attR L D Hd X K V m) D D) D
/-- What a layer makes of a row. -/
def endR (L : Lay) (D H : Nat) (Y : List Int) : List Int := plusR Y (apl L.N (riseR (apl L.U (nrm Y L.S D) H D) H) D H) D
def oneR (L : Lay) (D H Hd : Nat) (X : List Int) (K V : List (List Int)) (m : Nat) : List Int := endR L D H (midR L D Hd X K V m)
/-- A slice that reads as numbers; a matrix; a layer. -/
structure SlAt (w : World) (s : Sl) (n : Nat) (A : List Int) : Prop where
  len : s.n = n
  arg : Arg w s.ao n s.c A
def MtAt (w : World) (m : Mt) (r c : Nat) (A : List Int) : Prop := ∃ b o n ca, m = ⟨r, c, ⟨some ⟨b, o, none⟩, n, ca⟩⟩ ∧ MatAt w r c b o n ca A
structure BkAt (w : World) (D H : Nat) (b : Bk) (L : Lay) : Prop where
  f : SlAt w b.f D L.F
  q : MtAt w b.q D D L.Q
  k : MtAt w b.k D D L.K
  v : MtAt w b.v D D L.V
  o : MtAt w b.o D D L.O
  s : SlAt w b.s D L.S
  u : MtAt w b.u H D L.U
  d : MtAt w b.d D H L.N
theorem SlAt.below {w w' : World} {s : Sl} {n : Nat} {A : List Int} (h : SlAt w s n A) (hb : Below w.heap.size w w') : SlAt w' s n A := ⟨h.len, h.arg.below hb⟩
theorem MtAt.below {w w' : World} {m : Mt} {r c : Nat} {A : List Int} (h : MtAt w m r c A) (hb : Below w.heap.size w w') : MtAt w' m r c A := by
  obtain ⟨b, o, n, ca, e, M⟩ := h
  exact ⟨b, o, n, ca, e, M.below hb⟩
theorem BkAt.below {w w' : World} {D H : Nat} {b : Bk} {L : Lay} (h : BkAt w D H b L) (hb : Below w.heap.size w w') : BkAt w' D H b L :=
  ⟨h.f.below hb, h.q.below hb, h.k.below hb, h.v.below hb, h.o.below hb, h.s.below hb, h.u.below hb, h.d.below hb⟩
theorem hchkN_at {n m : Nat} {K V : List (List Int)} {h : Nat} (h1 : 1 ≤ h) (h4 : h ≤ 4) (n1 : 1 ≤ n) (n2 : n ≤ 32) (m1 : 1 ≤ m) (m2 : m ≤ 128) (hd : n % h = 0) (hk : ∀ t, t < m → (rowOf K t).length = n) (hv : ∀ t, t < m → (rowOf V t).length = n) : hchkN n m m K V (h : Int) = 0 := by
  unfold hchkN
  rw [if_neg (by omega), if_neg (by omega), if_neg (by omega), if_neg]
  rw [Int.toNat_natCast, longs_of hk, longs_of hv]
  simp [hd]
theorem rowOf_snoc_len {K : List (List Int)} {Y : List Int} {m n : Nat} (hl : K.length = m) (hk : ∀ t, t < m → (rowOf K t).length = n) (hy : Y.length = n) : ∀ t, t < m + 1 → (rowOf (K ++ [Y]) t).length = n := fun t ht => by
  unfold rowOf
  simp only [List.getD_eq_getElem?_getD]
  rcases Nat.lt_or_ge t m with h | h
  · rw [List.getElem?_append_left (by omega), ← List.getD_eq_getElem?_getD]
    exact hk t h
  · obtain rfl : t = K.length := by omega
    simp [hy]
theorem apl_len (M V : List Int) (r c : Nat) : (apl M V r c).length = r := tab_len _ _
set_option maxRecDepth 100000 in
set_option maxHeartbeats 3200000 in
theorem one_any (Vo : Int) (D Hd : Nat) (H' : Int) (H : Nat) (Ly : Int) (b : Bk) (L : Lay) (xo : Option Addr) (cx : Nat) (X : List Int) (ko vo : Option Addr) (m ck cv : Nat) (K V : List (List Int)) (w : World) (hT : Tab w) (hB : BkAt w D H b L) (hX : Arg w xo D cx X) (hK : GridAt w ko m K) (hV : GridAt w vo m V) (hck : ko = none → ck = 0) (hcv : vo = none → cv = 0) (hlk : ∀ t, t < m → (rowOf K t).length = D) (hlv : ∀ t, t < m → (rowOf V t).length = D) (hm : m ≤ 127) (h1 : 1 ≤ D) (h2 : D ≤ 32) (g1 : 1 ≤ Hd) (g2 : Hd ≤ 4) (hd : D % Hd = 0) (hH : H ≤ 128) :
   Calls Tryz.prog 60 #[.agg (cfgC Vo D Hd H' Ly), .agg b.cells, .slice xo D cx, .slice ko m ck, .slice vo m cv] w fun e w' => ∃ o1 o2 o3, e = .returned (.tuple #[.slice (some ⟨o1, 0, none⟩) D D, .slice (some ⟨o2, 0, none⟩) D D, .slice (some ⟨o3, 0, none⟩) D D]) ∧ Fresh w' w.heap.size o1 D D (oneR L D H Hd X K V m) ∧ Fresh w' w.heap.size o2 D D (keyR L D X) ∧ Fresh w' w.heap.size o3 D D (valR L D X) ∧ Below w.heap.size w w' := by
  obtain ⟨⟨fa, fn, fz⟩, q, k, v, o, ⟨sa, sn, sz⟩, u, d⟩ := b
  obtain ⟨⟨fe, AF⟩, ⟨qb, qo, qn, qz, rfl, MQ⟩, ⟨kb, k2, kn, kz, rfl, MK⟩, ⟨vb, v2, vn, vz, rfl, MV⟩, ⟨ob, oo, on, oz, rfl, MO⟩, ⟨se, AS⟩, ⟨ub, uo, un, uz, rfl, MU⟩, ⟨db, d2, dn, dz, rfl, MD⟩⟩ := hB
  simp only at fe se AF AS MQ MK MV MO MU MD
  replace fe := fe.symm
  subst fe
  replace se := se.symm
  subst se
  have HX : Hid (∀ wv, Below w.heap.size w wv → Arg wv xo D cx X) := fun wv hb => hX.below hb
  have HF : Hid (∀ wv, Below w.heap.size w wv → Arg wv fa D fz L.F) := fun wv hb => AF.below hb
  have HS : Hid (∀ wv, Below w.heap.size w wv → Arg wv sa D sz L.S) := fun wv hb => AS.below hb
  have HK : Hid (∀ wv, Below w.heap.size w wv → GridAt wv ko m K) := fun wv hb => hK.below hb
  have HV : Hid (∀ wv, Below w.heap.size w wv → GridAt wv vo m V) := fun wv hb => hV.below hb
  have HT : Hid (∀ wv, Below w.heap.size w wv → Tab wv) := fun wv hb => hT.next hb
  have HMq : Hid (∀ wv, Below w.heap.size w wv → MatAt wv D D qb qo qn qz L.Q) := fun wv hb => MQ.below hb
  have HMk : Hid (∀ wv, Below w.heap.size w wv → MatAt wv D D kb k2 kn kz L.K) := fun wv hb => MK.below hb
  have HMv : Hid (∀ wv, Below w.heap.size w wv → MatAt wv D D vb v2 vn vz L.V) := fun wv hb => MV.below hb
  have HMo : Hid (∀ wv, Below w.heap.size w wv → MatAt wv D D ob oo on oz L.O) := fun wv hb => MO.below hb
  have HMu : Hid (∀ wv, Below w.heap.size w wv → MatAt wv H D ub uo un uz L.U) := fun wv hb => MU.below hb
  have HMd : Hid (∀ wv, Below w.heap.size w wv → MatAt wv D H db d2 dn dz L.N) := fun wv hb => MD.below hb
  have lK := hK.len
  have lV := hV.len
  clear hX AF AS hK hV hT MQ MK MV MO MU MD
  show Calls Tryz.prog 60 #[.agg #[.int .i64 Vo, .int .i64 (D : Int), .int .i64 (Hd : Int), .int .i64 H', .int .i64 Ly], .agg #[.slice fa D fz, .int .i64 (D : Int), .int .i64 (D : Int), .slice (some ⟨qb, qo, none⟩) qn qz, .int .i64 (D : Int), .int .i64 (D : Int), .slice (some ⟨kb, k2, none⟩) kn kz, .int .i64 (D : Int), .int .i64 (D : Int), .slice (some ⟨vb, v2, none⟩) vn vz, .int .i64 (D : Int), .int .i64 (D : Int), .slice (some ⟨ob, oo, none⟩) on oz, .slice sa D sz, .int .i64 (H : Int), .int .i64 (D : Int), .slice (some ⟨ub, uo, none⟩) un uz, .int .i64 (D : Int), .int .i64 (H : Int), .slice (some ⟨db, d2, none⟩) dn dz], .slice xo D cx, .slice ko m ck, .slice vo m cv] w _
  have X0 := blk_new w 23 #[.int .i64 Vo, .int .i64 (D : Int), .int .i64 (Hd : Int), .int .i64 H', .int .i64 Ly]
  have B0 : Below w.heap.size w (w.alloc (.cells #[.int .i64 Vo, .int .i64 (D : Int), .int .i64 (Hd : Int), .int .i64 H', .int .i64 Ly] 23)) := (Below.refl _ _).alloc (Nat.le_refl _) _
  have s0 : (w.alloc (.cells #[.int .i64 Vo, .int .i64 (D : Int), .int .i64 (Hd : Int), .int .i64 H', .int .i64 Ly] 23)).heap.size = w.heap.size + 1 := by simp
  generalize hw0 : w.alloc (.cells #[.int .i64 Vo, .int .i64 (D : Int), .int .i64 (Hd : Int), .int .i64 H', .int .i64 Ly] 23) = w0 at *
  have X1 := blk_new w0 80 #[.slice fa D fz, .int .i64 (D : Int), .int .i64 (D : Int), .slice (some ⟨qb, qo, none⟩) qn qz, .int .i64 (D : Int), .int .i64 (D : Int), .slice (some ⟨kb, k2, none⟩) kn kz, .int .i64 (D : Int), .int .i64 (D : Int), .slice (some ⟨vb, v2, none⟩) vn vz, .int .i64 (D : Int), .int .i64 (D : Int), .slice (some ⟨ob, oo, none⟩) on oz, .slice sa D sz, .int .i64 (H : Int), .int .i64 (D : Int), .slice (some ⟨ub, uo, none⟩) un uz, .int .i64 (D : Int), .int .i64 (H : Int), .slice (some ⟨db, d2, none⟩) dn dz]
  have B1 : Below w0.heap.size w0 (w0.alloc (.cells #[.slice fa D fz, .int .i64 (D : Int), .int .i64 (D : Int), .slice (some ⟨qb, qo, none⟩) qn qz, .int .i64 (D : Int), .int .i64 (D : Int), .slice (some ⟨kb, k2, none⟩) kn kz, .int .i64 (D : Int), .int .i64 (D : Int), .slice (some ⟨vb, v2, none⟩) vn vz, .int .i64 (D : Int), .int .i64 (D : Int), .slice (some ⟨ob, oo, none⟩) on oz, .slice sa D sz, .int .i64 (H : Int), .int .i64 (D : Int), .slice (some ⟨ub, uo, none⟩) un uz, .int .i64 (D : Int), .int .i64 (H : Int), .slice (some ⟨db, d2, none⟩) dn dz] 80)) := (Below.refl _ _).alloc (Nat.le_refl _) _
  rw [s0] at X1
  generalize hw1 : w0.alloc (.cells #[.slice fa D fz, .int .i64 (D : Int), .int .i64 (D : Int), .slice (some ⟨qb, qo, none⟩) qn qz, .int .i64 (D : Int), .int .i64 (D : Int), .slice (some ⟨kb, k2, none⟩) kn kz, .int .i64 (D : Int), .int .i64 (D : Int), .slice (some ⟨vb, v2, none⟩) vn vz, .int .i64 (D : Int), .int .i64 (D : Int), .slice (some ⟨ob, oo, none⟩) on oz, .slice sa D sz, .int .i64 (H : Int), .int .i64 (D : Int), .slice (some ⟨ub, uo, none⟩) un uz, .int .i64 (D : Int), .int .i64 (H : Int), .slice (some ⟨db, d2, none⟩) dn dz] 80) = w1 at *
  replace X0 := X0.below B1
  replace B1 := below_then B0 B1
  have b0 : w1.cell? ⟨w.heap.size + 1, 0, none⟩ = some (.slice fa D fz) := X1.cell 0 rfl
  have hsz : sizeN D = 0 := by unfold sizeN; rw [if_neg (by omega), if_neg (by omega)]
  go_enter Tryz.func60, Tryz.ntmps60
  go_wp2_with fail
  refine (pnorm_any _ _ _ _ _ X L.F _ (HX.out _ B1).row (HF.out _ B1).row hsz).mono ?_
  rintro e w2 ⟨gn, rfl, F2, B2⟩
  replace X0 := X0.below B2
  replace X1 := X1.below B2
  have D2 := below_then B1 B2
  clear b0 hw0 hw1 s0 B0 B1 B2
  replace X0 := X0.below ((Below.refl _ _).drew)
  replace X1 := X1.below ((Below.refl _ _).drew)
  replace F2 := F2.drew
  replace D2 := D2.drew
  go_wp2_with fail
  refine wp_region_held_drew (S := fun w' => Blk w' (w.heap.size + 1) 80 #[.slice fa D fz, .int .i64 (D : Int), .int .i64 (D : Int), .slice (some ⟨qb, qo, none⟩) qn qz, .int .i64 (D : Int), .int .i64 (D : Int), .slice (some ⟨kb, k2, none⟩) kn kz, .int .i64 (D : Int), .int .i64 (D : Int), .slice (some ⟨vb, v2, none⟩) vn vz, .int .i64 (D : Int), .int .i64 (D : Int), .slice (some ⟨ob, oo, none⟩) on oz, .slice sa D sz, .int .i64 (H : Int), .int .i64 (D : Int), .slice (some ⟨ub, uo, none⟩) un uz, .int .i64 (D : Int), .int .i64 (H : Int), .slice (some ⟨db, d2, none⟩) dn dz]) (by kernel_rfl) (X1) (fun hHeld => ?_)
  refine wpAnyH_take (i := 0) (v := (.pointer (some ⟨w.heap.size + 1, 1, none⟩))) rfl (by kernel_rfl) (by kernel_rfl) (by kernel_rfl) (fun _ _ _ h => h) (Or.inl ⟨by rfl, ?_⟩) (by assumption) ?_
  · intro w' hSw
    go_simp
  simp only [List.getElem_toArray, List.getElem_cons_zero, Act.put, List.setIfInBounds_toArray, List.set_cons_zero, List.set_cons_succ]
  refine wpAnyH_take (i := 1) (v := (.agg #[.int .i64 (D : Int), .int .i64 (D : Int), .slice (some ⟨qb, qo, none⟩) qn qz])) rfl (by kernel_rfl) (by kernel_rfl) (by kernel_rfl) (fun _ _ _ h => h) (Or.inl ⟨by rfl, ?_⟩) (by assumption) ?_
  · intro w' hSw
    have c1 : w'.cell? ⟨w.heap.size + 1, 1, none⟩ = some (.int .i64 (D : Int)) := hSw.cell 1 rfl
    have c2 : w'.cell? ⟨w.heap.size + 1, 2, none⟩ = some (.int .i64 (D : Int)) := hSw.cell 2 rfl
    have c3 : w'.cell? ⟨w.heap.size + 1, 3, none⟩ = some (.slice (some ⟨qb, qo, none⟩) qn qz) := hSw.cell 3 rfl
    go_simp
  simp only [List.getElem_toArray, List.getElem_cons_succ, List.getElem_cons_zero, Act.put, List.setIfInBounds_toArray, List.set_cons_zero, List.set_cons_succ]
  refine wpAnyH_take (i := 2) (v := (.slice (some ⟨gn, 0, none⟩) D D)) rfl (by kernel_rfl) (by kernel_rfl) (by kernel_rfl) (fun _ _ _ h => h) (Or.inl ⟨by rfl, ?_⟩) (by assumption) ?_
  · intro w' hSw
    go_simp
  simp only [List.getElem_toArray, List.getElem_cons_succ, List.getElem_cons_zero, Act.put, List.setIfInBounds_toArray, List.set_cons_zero, List.set_cons_succ]
  refine wpAnyH_take (i := 4) (v := (.pointer (some ⟨w.heap.size + 1, 4, none⟩))) rfl (by kernel_rfl) (by kernel_rfl) (by kernel_rfl) (fun _ _ _ h => h) (Or.inl ⟨by rfl, ?_⟩) (by assumption) ?_
  · intro w' hSw
    go_simp
  simp only [List.getElem_toArray, List.getElem_cons_succ, List.getElem_cons_zero, Act.put, List.setIfInBounds_toArray, List.set_cons_zero, List.set_cons_succ]
  refine wpAnyH_take (i := 5) (v := (.agg #[.int .i64 (D : Int), .int .i64 (D : Int), .slice (some ⟨kb, k2, none⟩) kn kz])) rfl (by kernel_rfl) (by kernel_rfl) (by kernel_rfl) (fun _ _ _ h => h) (Or.inl ⟨by rfl, ?_⟩) (by assumption) ?_
  · intro w' hSw
    have c4 : w'.cell? ⟨w.heap.size + 1, 4, none⟩ = some (.int .i64 (D : Int)) := hSw.cell 4 rfl
    have c5 : w'.cell? ⟨w.heap.size + 1, 5, none⟩ = some (.int .i64 (D : Int)) := hSw.cell 5 rfl
    have c6 : w'.cell? ⟨w.heap.size + 1, 6, none⟩ = some (.slice (some ⟨kb, k2, none⟩) kn kz) := hSw.cell 6 rfl
    go_simp
  simp only [List.getElem_toArray, List.getElem_cons_succ, List.getElem_cons_zero, Act.put, List.setIfInBounds_toArray, List.set_cons_zero, List.set_cons_succ]
  refine wpAnyH_take (i := 6) (v := (.slice (some ⟨gn, 0, none⟩) D D)) rfl (by kernel_rfl) (by kernel_rfl) (by kernel_rfl) (fun _ _ _ h => h) (Or.inl ⟨by rfl, ?_⟩) (by assumption) ?_
  · intro w' hSw
    go_simp
  simp only [List.getElem_toArray, List.getElem_cons_succ, List.getElem_cons_zero, Act.put, List.setIfInBounds_toArray, List.set_cons_zero, List.set_cons_succ]
  refine wpAnyH_take (i := 8) (v := (.pointer (some ⟨w.heap.size + 1, 7, none⟩))) rfl (by kernel_rfl) (by kernel_rfl) (by kernel_rfl) (fun _ _ _ h => h) (Or.inl ⟨by rfl, ?_⟩) (by assumption) ?_
  · intro w' hSw
    go_simp
  simp only [List.getElem_toArray, List.getElem_cons_succ, List.getElem_cons_zero, Act.put, List.setIfInBounds_toArray, List.set_cons_zero, List.set_cons_succ]
  refine wpAnyH_take (i := 9) (v := (.agg #[.int .i64 (D : Int), .int .i64 (D : Int), .slice (some ⟨vb, v2, none⟩) vn vz])) rfl (by kernel_rfl) (by kernel_rfl) (by kernel_rfl) (fun _ _ _ h => h) (Or.inl ⟨by rfl, ?_⟩) (by assumption) ?_
  · intro w' hSw
    have c7 : w'.cell? ⟨w.heap.size + 1, 7, none⟩ = some (.int .i64 (D : Int)) := hSw.cell 7 rfl
    have c8 : w'.cell? ⟨w.heap.size + 1, 8, none⟩ = some (.int .i64 (D : Int)) := hSw.cell 8 rfl
    have c9 : w'.cell? ⟨w.heap.size + 1, 9, none⟩ = some (.slice (some ⟨vb, v2, none⟩) vn vz) := hSw.cell 9 rfl
    go_simp
  simp only [List.getElem_toArray, List.getElem_cons_succ, List.getElem_cons_zero, Act.put, List.setIfInBounds_toArray, List.set_cons_zero, List.set_cons_succ]
  refine wpAnyH_take (i := 10) (v := (.slice (some ⟨gn, 0, none⟩) D D)) rfl (by kernel_rfl) (by kernel_rfl) (by kernel_rfl) (fun _ _ _ h => h) (Or.inl ⟨by rfl, ?_⟩) (by assumption) ?_
  · intro w' hSw
    go_simp
  simp only [List.getElem_toArray, List.getElem_cons_succ, List.getElem_cons_zero, Act.put, List.setIfInBounds_toArray, List.set_cons_zero, List.set_cons_succ]
  refine wpAnyH_ready (rs := [3]) (by kernel_rfl) (by simp) ?_
  refine AllReadyH.cons rfl (fun Kc hKc => ?_) AllReadyH.nil
  simp only [List.getElem_toArray, List.getElem_cons_succ, List.getElem_cons_zero]
  rw [if_pos (by rfl)]
  go_wp2_with fail
  refine (papply_any _ _ _ _ _ _ L.Q _ _ (nrm X L.F D) _ (HMq.out _ D2) F2.rowAt).mono ?_
  rintro e w3 ⟨gq, rfl, F3, B3⟩
  replace X0 := X0.below B3
  replace X1 := X1.below B3
  replace F2 := F2.below B3
  have D3 := below_then D2 B3
  clear D2
  go_wp2_with fail
  refine hKc.out _ _ (X1) (fun hHeld => ?_)
  clear hKc Kc
  refine wpAnyH_ready (rs := [7]) (by kernel_rfl) (by simp) ?_
  refine AllReadyH.cons rfl (fun Kc hKc => ?_) AllReadyH.nil
  simp only [List.getElem_toArray, List.getElem_cons_succ, List.getElem_cons_zero]
  rw [if_pos (by rfl)]
  go_wp2_with fail
  refine (papply_any _ _ _ _ _ _ L.K _ _ (nrm X L.F D) _ (HMk.out _ D3) F2.rowAt).mono ?_
  rintro e w4 ⟨gk, rfl, F4, B4⟩
  have hs4 : Hid (w.heap.size ≤ w3.heap.size) := D3.size
  replace X0 := X0.below B4
  replace X1 := X1.below B4
  replace F2 := F2.below B4
  replace F3 := F3.below B4
  have D4 := below_then D3 B4
  clear D3 B3
  go_wp2_with fail
  refine hKc.out _ _ (X1) (fun hHeld => ?_)
  clear hKc Kc
  refine wpAnyH_ready (rs := [11]) (by kernel_rfl) (by simp) ?_
  refine AllReadyH.cons rfl (fun Kc hKc => ?_) AllReadyH.nil
  simp only [List.getElem_toArray, List.getElem_cons_succ, List.getElem_cons_zero]
  rw [if_pos (by rfl)]
  go_wp2_with fail
  refine (papply_any _ _ _ _ _ _ L.V _ _ (nrm X L.F D) _ (HMv.out _ D4) F2.rowAt).mono ?_
  rintro e w5 ⟨gv, rfl, F5, B5⟩
  have hs5 : Hid (w.heap.size ≤ w4.heap.size) := D4.size
  replace X0 := X0.below B5
  replace X1 := X1.below B5
  replace F3 := F3.below B5
  replace F4 := F4.below B5
  have D5 := below_then D4 B5
  clear F2 D4 B4 B5
  go_wp2_with fail
  refine hKc.out _ _ (X1) (fun hHeld => ?_)
  clear hKc Kc
  refine wpAnyH_take (i := 12) (v := (.slice (some ⟨gq, 0, none⟩) D D)) rfl (by kernel_rfl) (by kernel_rfl) (by kernel_rfl) (fun _ _ _ h => h) (Or.inl ⟨by rfl, ?_⟩) (by assumption) ?_
  · intro w' hSw
    go_simp
  simp only [List.getElem_toArray, List.getElem_cons_succ, List.getElem_cons_zero, Act.put, List.setIfInBounds_toArray, List.set_cons_zero, List.set_cons_succ]
  refine wpAnyH_take (i := 13) (v := (.slice (some ⟨gk, 0, none⟩) D D)) rfl (by kernel_rfl) (by kernel_rfl) (by kernel_rfl) (fun _ _ _ h => h) (Or.inl ⟨by rfl, ?_⟩) (by assumption) ?_
  · intro w' hSw
    go_simp
  simp only [List.getElem_toArray, List.getElem_cons_succ, List.getElem_cons_zero, Act.put, List.setIfInBounds_toArray, List.set_cons_zero, List.set_cons_succ]
  refine wpAnyH_take (i := 14) (v := (.slice (some ⟨gv, 0, none⟩) D D)) rfl (by kernel_rfl) (by kernel_rfl) (by kernel_rfl) (fun _ _ _ h => h) (Or.inl ⟨by rfl, ?_⟩) (by assumption) ?_
  · intro w' hSw
    go_simp
  simp only [List.getElem_toArray, List.getElem_cons_succ, List.getElem_cons_zero, Act.put, List.setIfInBounds_toArray, List.set_cons_zero, List.set_cons_succ]
  refine wpAnyH_done (by kernel_rfl) ?_ _
  clear hHeld
  replace X0 := X0.below ((Below.refl _ _).drew)
  replace X1 := X1.below ((Below.refl _ _).drew)
  replace F3 := F3.drew
  replace F4 := F4.drew
  replace F5 := F5.drew
  replace D5 := D5.drew
  go_wp2_with fail
  refine wp_region_held_drew (S := fun w' => Blk w' w.heap.size 23 #[.int .i64 Vo, .int .i64 (D : Int), .int .i64 (Hd : Int), .int .i64 H', .int .i64 Ly]) (by kernel_rfl) (X0) (fun hHeld => ?_)
  refine wpAnyH_take (i := 0) (v := (.slice (some ⟨gq, 0, none⟩) D D)) rfl (by kernel_rfl) (by kernel_rfl) (by kernel_rfl) (fun _ _ _ h => h) (Or.inl ⟨by rfl, ?_⟩) (by assumption) ?_
  · intro w' hSw
    go_simp
  simp only [List.getElem_toArray, List.getElem_cons_zero, Act.put, List.setIfInBounds_toArray, List.set_cons_zero, List.set_cons_succ]
  refine wpAnyH_take (i := 1) (v := (.slice ko m ck)) rfl (by kernel_rfl) (by kernel_rfl) (by kernel_rfl) (fun _ _ _ h => h) (Or.inl ⟨by rfl, ?_⟩) (by assumption) ?_
  · intro w' hSw
    go_simp
  simp only [List.getElem_toArray, List.getElem_cons_succ, List.getElem_cons_zero, Act.put, List.setIfInBounds_toArray, List.set_cons_zero, List.set_cons_succ]
  refine wpAnyH_take (i := 2) (v := (.slice (some ⟨gk, 0, none⟩) D D)) rfl (by kernel_rfl) (by kernel_rfl) (by kernel_rfl) (fun _ _ _ h => h) (Or.inl ⟨by rfl, ?_⟩) (by assumption) ?_
  · intro w' hSw
    go_simp
  simp only [List.getElem_toArray, List.getElem_cons_succ, List.getElem_cons_zero, Act.put, List.setIfInBounds_toArray, List.set_cons_zero, List.set_cons_succ]
  refine wpAnyH_take (i := 4) (v := (.slice vo m cv)) rfl (by kernel_rfl) (by kernel_rfl) (by kernel_rfl) (fun _ _ _ h => h) (Or.inl ⟨by rfl, ?_⟩) (by assumption) ?_
  · intro w' hSw
    go_simp
  simp only [List.getElem_toArray, List.getElem_cons_succ, List.getElem_cons_zero, Act.put, List.setIfInBounds_toArray, List.set_cons_zero, List.set_cons_succ]
  refine wpAnyH_take (i := 5) (v := (.slice (some ⟨gv, 0, none⟩) D D)) rfl (by kernel_rfl) (by kernel_rfl) (by kernel_rfl) (fun _ _ _ h => h) (Or.inl ⟨by rfl, ?_⟩) (by assumption) ?_
  · intro w' hSw
    go_simp
  simp only [List.getElem_toArray, List.getElem_cons_succ, List.getElem_cons_zero, Act.put, List.setIfInBounds_toArray, List.set_cons_zero, List.set_cons_succ]
  refine wpAnyH_take (i := 7) (v := (.pointer (some ⟨w.heap.size, 2, none⟩))) rfl (by kernel_rfl) (by kernel_rfl) (by kernel_rfl) (fun _ _ _ h => h) (Or.inl ⟨by rfl, ?_⟩) (by assumption) ?_
  · intro w' hSw
    go_simp
  simp only [List.getElem_toArray, List.getElem_cons_succ, List.getElem_cons_zero, Act.put, List.setIfInBounds_toArray, List.set_cons_zero, List.set_cons_succ]
  refine wpAnyH_take (i := 8) (v := (.int .i64 (Hd : Int))) rfl (by kernel_rfl) (by kernel_rfl) (by kernel_rfl) (fun _ _ _ h => h) (Or.inl ⟨by rfl, ?_⟩) (by assumption) ?_
  · intro w' hSw
    have c2 : w'.cell? ⟨w.heap.size, 2, none⟩ = some (.int .i64 (Hd : Int)) := hSw.cell 2 rfl
    go_simp
  simp only [List.getElem_toArray, List.getElem_cons_succ, List.getElem_cons_zero, Act.put, List.setIfInBounds_toArray, List.set_cons_zero, List.set_cons_succ]
  refine wpAnyH_ready (rs := [3]) (by kernel_rfl) (by simp) ?_
  refine AllReadyH.cons rfl (fun Kc hKc => ?_) AllReadyH.nil
  simp only [List.getElem_toArray, List.getElem_cons_succ, List.getElem_cons_zero]
  rw [if_pos (by rfl)]
  go_wp2_with fail
  refine (behind_any _ _ _ K _ _ _ (keyR L D X) _ (HK.out _ D5) hck (by omega) F4.arg).mono ?_
  rintro e w6 ⟨gK, cK, rfl, G6, B6⟩
  replace X0 := X0.below B6
  replace X1 := X1.below B6
  replace F3 := F3.below B6
  replace F4 := F4.below B6
  replace F5 := F5.below B6
  have D6 := below_then D5 B6
  clear D5 B6
  go_wp2_with fail
  refine hKc.out _ _ (X0) (fun hHeld => ?_)
  clear hKc Kc
  refine wpAnyH_ready (rs := [6]) (by kernel_rfl) (by simp) ?_
  refine AllReadyH.cons rfl (fun Kc hKc => ?_) AllReadyH.nil
  simp only [List.getElem_toArray, List.getElem_cons_succ, List.getElem_cons_zero]
  rw [if_pos (by rfl)]
  go_wp2_with fail
  refine (behind_any _ _ _ V _ _ _ (valR L D X) _ (HV.out _ D6) hcv (by omega) F5.arg).mono ?_
  rintro e w7 ⟨gV, cV, rfl, G7, B7⟩
  replace X0 := X0.below B7
  replace X1 := X1.below B7
  replace F3 := F3.below B7
  replace F4 := F4.below B7
  replace F5 := F5.below B7
  replace G6 := G6.below B7
  have D7 := below_then D6 B7
  clear D6 B7
  go_wp2_with fail
  refine hKc.out _ _ (X0) (fun hHeld => ?_)
  clear hKc Kc
  refine wpAnyH_ready (rs := [9]) (by kernel_rfl) (by simp) ?_
  refine AllReadyH.cons rfl (fun Kc hKc => ?_) AllReadyH.nil
  simp only [List.getElem_toArray, List.getElem_cons_succ, List.getElem_cons_zero]
  rw [if_pos (by rfl)]
  go_wp2_with fail
  refine (attend_any _ _ _ _ _ _ _ _ _ (apl L.Q (nrm X L.F D) D D) (K ++ [keyR L D X]) (V ++ [valR L D X]) _ _ (HT.out _ D7) F3.arg G6 G7 (hchkN_at g1 g2 h1 h2 (by omega) (by omega) hd (rowOf_snoc_len lK hlk (apl_len _ _ _ _)) (rowOf_snoc_len lV hlv (apl_len _ _ _ _)))).mono ?_
  rintro e w8 ⟨ga, ca, rfl, F8, B8⟩
  rw [Int.toNat_natCast] at F8
  replace X0 := X0.below B8
  replace X1 := X1.below B8
  replace F4 := F4.below B8
  replace F5 := F5.below B8
  have D8 := below_then D7 B8
  clear F3 D7 B8 G6 G7
  go_wp2_with fail
  refine hKc.out _ _ (X0) (fun hHeld => ?_)
  clear hKc Kc
  refine wpAnyH_take (i := 10) (v := (.tuple #[.slice (some ⟨ga, 0, none⟩) D ca, .int .i64 0])) rfl (by kernel_rfl) (by kernel_rfl) (by kernel_rfl) (fun _ _ _ h => h) (Or.inl ⟨by rfl, ?_⟩) (by assumption) ?_
  · intro w' hSw
    go_simp
  simp only [List.getElem_toArray, List.getElem_cons_succ, List.getElem_cons_zero, Act.put, List.setIfInBounds_toArray, List.set_cons_zero, List.set_cons_succ]
  refine wpAnyH_take (i := 11) (v := (.slice (some ⟨ga, 0, none⟩) D ca)) rfl (by kernel_rfl) (by kernel_rfl) (by kernel_rfl) (fun _ _ _ h => h) (Or.inl ⟨by rfl, ?_⟩) (by assumption) ?_
  · intro w' hSw
    go_simp
  simp only [List.getElem_toArray, List.getElem_cons_succ, List.getElem_cons_zero, Act.put, List.setIfInBounds_toArray, List.set_cons_zero, List.set_cons_succ]
  refine wpAnyH_take (i := 12) (v := (.int .i64 0)) rfl (by kernel_rfl) (by kernel_rfl) (by kernel_rfl) (fun _ _ _ h => h) (Or.inl ⟨by rfl, ?_⟩) (by assumption) ?_
  · intro w' hSw
    go_simp
  simp only [List.getElem_toArray, List.getElem_cons_succ, List.getElem_cons_zero, Act.put, List.setIfInBounds_toArray, List.set_cons_zero, List.set_cons_succ]
  refine wpAnyH_take (i := 13) (v := (.slice (some ⟨ga, 0, none⟩) D ca)) rfl (by kernel_rfl) (by kernel_rfl) (by kernel_rfl) (fun _ _ _ h => h) (Or.inl ⟨by rfl, ?_⟩) (by assumption) ?_
  · intro w' hSw
    go_simp
  simp only [List.getElem_toArray, List.getElem_cons_succ, List.getElem_cons_zero, Act.put, List.setIfInBounds_toArray, List.set_cons_zero, List.set_cons_succ]
  refine wpAnyH_take (i := 14) (v := (.int .i64 0)) rfl (by kernel_rfl) (by kernel_rfl) (by kernel_rfl) (fun _ _ _ h => h) (Or.inl ⟨by rfl, ?_⟩) (by assumption) ?_
  · intro w' hSw
    go_simp
  simp only [List.getElem_toArray, List.getElem_cons_succ, List.getElem_cons_zero, Act.put, List.setIfInBounds_toArray, List.set_cons_zero, List.set_cons_succ]
  refine wpAnyH_done (by kernel_rfl) ?_ _
  clear hHeld X0
  have b10 : w8.cell? ⟨w.heap.size + 1, 10, none⟩ = some (.int .i64 (D : Int)) := X1.cell 10 rfl
  have b11 : w8.cell? ⟨w.heap.size + 1, 11, none⟩ = some (.int .i64 (D : Int)) := X1.cell 11 rfl
  have b12 : w8.cell? ⟨w.heap.size + 1, 12, none⟩ = some (.slice (some ⟨ob, oo, none⟩) on oz) := X1.cell 12 rfl
  go_wp2_with fail
  refine (papply_any _ _ _ _ _ _ L.O _ _ (attR L D Hd X K V m) _ (HMo.out _ D8) F8.rowAt).mono ?_
  rintro e w9 ⟨go, rfl, F9, B9⟩
  replace X1 := X1.below B9
  replace F4 := F4.below B9
  replace F5 := F5.below B9
  have D9 := below_then D8 B9
  clear F8 D8 B9 b10 b11 b12
  go_wp2_with fail
  refine (padd_any _ _ _ _ _ X (apl L.O (attR L D Hd X K V m) D D) _ (HX.out _ D9).row F9.rowAt (by omega)).mono ?_
  rintro e wa ⟨gy, rfl, Fa, Ba⟩
  replace X1 := X1.below Ba
  replace F4 := F4.below Ba
  replace F5 := F5.below Ba
  have Da := below_then D9 Ba
  clear F9 D9 Ba
  have b13 : wa.cell? ⟨w.heap.size + 1, 13, none⟩ = some (.slice sa D sz) := X1.cell 13 rfl
  go_wp2_with fail
  refine (pnorm_any _ _ _ _ _ (midR L D Hd X K V m) L.S _ Fa.rowAt (HS.out _ Da).row hsz).mono ?_
  rintro e wb ⟨gm, rfl, Fb, Bb⟩
  replace X1 := X1.below Bb
  replace F4 := F4.below Bb
  replace F5 := F5.below Bb
  replace Fa := Fa.below Bb
  have Db := below_then Da Bb
  clear Da Bb b13
  replace X1 := X1.below ((Below.refl _ _).drew)
  replace F4 := F4.drew
  replace F5 := F5.drew
  replace Fa := Fa.drew
  replace Fb := Fb.drew
  replace Db := Db.drew
  go_wp2_with fail
  refine wp_region_held_drew (S := fun w' => Blk w' (w.heap.size + 1) 80 #[.slice fa D fz, .int .i64 (D : Int), .int .i64 (D : Int), .slice (some ⟨qb, qo, none⟩) qn qz, .int .i64 (D : Int), .int .i64 (D : Int), .slice (some ⟨kb, k2, none⟩) kn kz, .int .i64 (D : Int), .int .i64 (D : Int), .slice (some ⟨vb, v2, none⟩) vn vz, .int .i64 (D : Int), .int .i64 (D : Int), .slice (some ⟨ob, oo, none⟩) on oz, .slice sa D sz, .int .i64 (H : Int), .int .i64 (D : Int), .slice (some ⟨ub, uo, none⟩) un uz, .int .i64 (D : Int), .int .i64 (H : Int), .slice (some ⟨db, d2, none⟩) dn dz]) (by kernel_rfl) (X1) (fun hHeld => ?_)
  refine wpAnyH_take (i := 0) (v := (.slice (some ⟨gy, 0, none⟩) D D)) rfl (by kernel_rfl) (by kernel_rfl) (by kernel_rfl) (fun _ _ _ h => h) (Or.inl ⟨by rfl, ?_⟩) (by assumption) ?_
  · intro w' hSw
    go_simp
  simp only [List.getElem_toArray, List.getElem_cons_zero, Act.put, List.setIfInBounds_toArray, List.set_cons_zero, List.set_cons_succ]
  refine wpAnyH_take (i := 1) (v := (.pointer (some ⟨w.heap.size + 1, 17, none⟩))) rfl (by kernel_rfl) (by kernel_rfl) (by kernel_rfl) (fun _ _ _ h => h) (Or.inl ⟨by rfl, ?_⟩) (by assumption) ?_
  · intro w' hSw
    go_simp
  simp only [List.getElem_toArray, List.getElem_cons_succ, List.getElem_cons_zero, Act.put, List.setIfInBounds_toArray, List.set_cons_zero, List.set_cons_succ]
  refine wpAnyH_take (i := 2) (v := (.agg #[.int .i64 (D : Int), .int .i64 (H : Int), .slice (some ⟨db, d2, none⟩) dn dz])) rfl (by kernel_rfl) (by kernel_rfl) (by kernel_rfl) (fun _ _ _ h => h) (Or.inl ⟨by rfl, ?_⟩) (by assumption) ?_
  · intro w' hSw
    have c17 : w'.cell? ⟨w.heap.size + 1, 17, none⟩ = some (.int .i64 (D : Int)) := hSw.cell 17 rfl
    have c18 : w'.cell? ⟨w.heap.size + 1, 18, none⟩ = some (.int .i64 (H : Int)) := hSw.cell 18 rfl
    have c19 : w'.cell? ⟨w.heap.size + 1, 19, none⟩ = some (.slice (some ⟨db, d2, none⟩) dn dz) := hSw.cell 19 rfl
    go_simp
  simp only [List.getElem_toArray, List.getElem_cons_succ, List.getElem_cons_zero, Act.put, List.setIfInBounds_toArray, List.set_cons_zero, List.set_cons_succ]
  refine wpAnyH_take (i := 3) (v := (.pointer (some ⟨w.heap.size + 1, 14, none⟩))) rfl (by kernel_rfl) (by kernel_rfl) (by kernel_rfl) (fun _ _ _ h => h) (Or.inl ⟨by rfl, ?_⟩) (by assumption) ?_
  · intro w' hSw
    go_simp
  simp only [List.getElem_toArray, List.getElem_cons_succ, List.getElem_cons_zero, Act.put, List.setIfInBounds_toArray, List.set_cons_zero, List.set_cons_succ]
  refine wpAnyH_take (i := 4) (v := (.agg #[.int .i64 (H : Int), .int .i64 (D : Int), .slice (some ⟨ub, uo, none⟩) un uz])) rfl (by kernel_rfl) (by kernel_rfl) (by kernel_rfl) (fun _ _ _ h => h) (Or.inl ⟨by rfl, ?_⟩) (by assumption) ?_
  · intro w' hSw
    have c14 : w'.cell? ⟨w.heap.size + 1, 14, none⟩ = some (.int .i64 (H : Int)) := hSw.cell 14 rfl
    have c15 : w'.cell? ⟨w.heap.size + 1, 15, none⟩ = some (.int .i64 (D : Int)) := hSw.cell 15 rfl
    have c16 : w'.cell? ⟨w.heap.size + 1, 16, none⟩ = some (.slice (some ⟨ub, uo, none⟩) un uz) := hSw.cell 16 rfl
    go_simp
  simp only [List.getElem_toArray, List.getElem_cons_succ, List.getElem_cons_zero, Act.put, List.setIfInBounds_toArray, List.set_cons_zero, List.set_cons_succ]
  refine wpAnyH_take (i := 5) (v := (.slice (some ⟨gm, 0, none⟩) D D)) rfl (by kernel_rfl) (by kernel_rfl) (by kernel_rfl) (fun _ _ _ h => h) (Or.inl ⟨by rfl, ?_⟩) (by assumption) ?_
  · intro w' hSw
    go_simp
  simp only [List.getElem_toArray, List.getElem_cons_succ, List.getElem_cons_zero, Act.put, List.setIfInBounds_toArray, List.set_cons_zero, List.set_cons_succ]
  refine wpAnyH_take (i := 10) (v := (.slice (some ⟨gk, 0, none⟩) D D)) rfl (by kernel_rfl) (by kernel_rfl) (by kernel_rfl) (fun _ _ _ h => h) (Or.inl ⟨by rfl, ?_⟩) (by assumption) ?_
  · intro w' hSw
    go_simp
  simp only [List.getElem_toArray, List.getElem_cons_succ, List.getElem_cons_zero, Act.put, List.setIfInBounds_toArray, List.set_cons_zero, List.set_cons_succ]
  refine wpAnyH_take (i := 11) (v := (.slice (some ⟨gv, 0, none⟩) D D)) rfl (by kernel_rfl) (by kernel_rfl) (by kernel_rfl) (fun _ _ _ h => h) (Or.inl ⟨by rfl, ?_⟩) (by assumption) ?_
  · intro w' hSw
    go_simp
  simp only [List.getElem_toArray, List.getElem_cons_succ, List.getElem_cons_zero, Act.put, List.setIfInBounds_toArray, List.set_cons_zero, List.set_cons_succ]
  refine wpAnyH_ready (rs := [6]) (by kernel_rfl) (by simp) ?_
  refine AllReadyH.cons rfl (fun Kc hKc => ?_) AllReadyH.nil
  simp only [List.getElem_toArray, List.getElem_cons_succ, List.getElem_cons_zero]
  rw [if_pos (by rfl)]
  go_wp2_with fail
  refine (papply_any _ _ _ _ _ _ L.U _ _ (nrm (midR L D Hd X K V m) L.S D) _ (HMu.out _ Db) Fb.rowAt).mono ?_
  rintro e wc ⟨gu, rfl, Fc, Bc⟩
  replace X1 := X1.below Bc
  replace F4 := F4.below Bc
  replace F5 := F5.below Bc
  replace Fa := Fa.below Bc
  have Dc := below_then Db Bc
  clear Fb Db Bc
  go_wp2_with fail
  refine hKc.out _ _ (X1) (fun hHeld => ?_)
  clear hKc Kc
  refine wpAnyH_ready (rs := [7]) (by kernel_rfl) (by simp) ?_
  refine AllReadyH.cons rfl (fun Kc hKc => ?_) AllReadyH.nil
  simp only [List.getElem_toArray, List.getElem_cons_succ, List.getElem_cons_zero]
  rw [if_pos (by rfl)]
  go_wp2_with fail
  refine (rise_any _ _ _ (apl L.U (nrm (midR L D Hd X K V m) L.S D) H D) _ Fc.rowAt (by omega)).mono ?_
  rintro e wd ⟨gr, rfl, Fd, Bd⟩
  replace X1 := X1.below Bd
  replace F4 := F4.below Bd
  replace F5 := F5.below Bd
  replace Fa := Fa.below Bd
  have Dd := below_then Dc Bd
  clear Fc Dc Bd
  go_wp2_with fail
  refine hKc.out _ _ (X1) (fun hHeld => ?_)
  clear hKc Kc
  refine wpAnyH_ready (rs := [8]) (by kernel_rfl) (by simp) ?_
  refine AllReadyH.cons rfl (fun Kc hKc => ?_) AllReadyH.nil
  simp only [List.getElem_toArray, List.getElem_cons_succ, List.getElem_cons_zero]
  rw [if_pos (by rfl)]
  go_wp2_with fail
  refine (papply_any _ _ _ _ _ _ L.N _ _ (riseR (apl L.U (nrm (midR L D Hd X K V m) L.S D) H D) H) _ (HMd.out _ Dd) Fd.rowAt).mono ?_
  rintro e we ⟨gd, rfl, Fe, Be⟩
  replace X1 := X1.below Be
  replace F4 := F4.below Be
  replace F5 := F5.below Be
  replace Fa := Fa.below Be
  have De := below_then Dd Be
  clear Fd Dd Be
  go_wp2_with fail
  refine hKc.out _ _ (X1) (fun hHeld => ?_)
  clear hKc Kc
  refine wpAnyH_ready (rs := [9]) (by kernel_rfl) (by simp) ?_
  refine AllReadyH.cons rfl (fun Kc hKc => ?_) AllReadyH.nil
  simp only [List.getElem_toArray, List.getElem_cons_succ, List.getElem_cons_zero]
  rw [if_pos (by rfl)]
  go_wp2_with fail
  refine (padd_any _ _ _ _ _ (midR L D Hd X K V m) (apl L.N (riseR (apl L.U (nrm (midR L D Hd X K V m) L.S D) H D) H) D H) _ Fa.rowAt Fe.rowAt (by omega)).mono ?_
  rintro e wf ⟨gz, rfl, Ff, Bf⟩
  replace X1 := X1.below Bf
  replace F4 := F4.below Bf
  replace F5 := F5.below Bf
  have Df := below_then De Bf
  go_wp2_with fail
  refine hKc.out _ _ (X1) (fun hHeld => ?_)
  clear hKc Kc
  refine wpAnyH_take (i := 12) (v := (.slice (some ⟨gz, 0, none⟩) D D)) rfl (by kernel_rfl) (by kernel_rfl) (by kernel_rfl) (fun _ _ _ h => h) (Or.inl ⟨by rfl, ?_⟩) (by assumption) ?_
  · intro w' hSw
    go_simp
  simp only [List.getElem_toArray, List.getElem_cons_succ, List.getElem_cons_zero, Act.put, List.setIfInBounds_toArray, List.set_cons_zero, List.set_cons_succ]
  refine wpAnyH_take (i := 13) (v := (.slice (some ⟨gk, 0, none⟩) D D)) rfl (by kernel_rfl) (by kernel_rfl) (by kernel_rfl) (fun _ _ _ h => h) (Or.inl ⟨by rfl, ?_⟩) (by assumption) ?_
  · intro w' hSw
    go_simp
  simp only [List.getElem_toArray, List.getElem_cons_succ, List.getElem_cons_zero, Act.put, List.setIfInBounds_toArray, List.set_cons_zero, List.set_cons_succ]
  refine wpAnyH_take (i := 14) (v := (.slice (some ⟨gv, 0, none⟩) D D)) rfl (by kernel_rfl) (by kernel_rfl) (by kernel_rfl) (fun _ _ _ h => h) (Or.inl ⟨by rfl, ?_⟩) (by assumption) ?_
  · intro w' hSw
    go_simp
  simp only [List.getElem_toArray, List.getElem_cons_succ, List.getElem_cons_zero, Act.put, List.setIfInBounds_toArray, List.set_cons_zero, List.set_cons_succ]
  refine wpAnyH_done (by kernel_rfl) ?_ _
  go_wp2
  go_ret3
  have s4 := hs4.out
  have s5 := hs5.out
  exact ⟨gz, gk, gv, rfl, Ff.mono De.size, F4.mono s4, F5.mono s5, Df⟩
end Go.Proofs.YtcanjlofnpnhkaaGreatDoor

/- Package pass: the row of a token at a place, and how much each token is liked behind a last row. -/
namespace Go.Proofs.YtcanjlofnpnhkaaGreatDoor
open Go.ChangeShapes Go.WideShapes Go.ChangeAt Go.RowKit
/-- A model's numbers. -/
structure Mdl where
  E : List Int
  Ls : List Lay
  G : List Int
  O : List Int
structure WtAt (w : World) (V D H : Nat) (W : Wt) (bs : List Bk) (M : Mdl) : Prop where
  e : MtAt w W.e V D M.E
  b : BlocksAt w W.b bs
  len : bs.length = M.Ls.length
  ls : ∀ (t : Nat) (x : Bk), bs[t]? = some x → ∃ L, M.Ls[t]? = some L ∧ BkAt w D H x L
  l : SlAt w W.l D M.G
  o : MtAt w W.o V D M.O
theorem WtAt.below {w w' : World} {V D H : Nat} {W : Wt} {bs : List Bk} {M : Mdl} (h : WtAt w V D H W bs M) (hb : Below w.heap.size w w') : WtAt w' V D H W bs M :=
  ⟨h.e.below hb, h.b.below hb, h.len, fun t x hx => let ⟨L, h1, h2⟩ := h.ls t x hx; ⟨L, h1, h2.below hb⟩, h.l.below hb, h.o.below hb⟩
/-- What is added at a place. -/
def atN (at' j : Nat) : Int := sat ((at' : Int) * ((j % 3 : Nat) : Int) * 4096)
def begR (E : List Int) (D tok at' : Nat) : List Int := tab D fun j => addN (el (rowN E D tok) j) (atN at' j)
def likR (M : Mdl) (V D : Nat) (X : List Int) : List Int := apl M.O (nrm X M.G D) V D
theorem tab_put {n : Nat} {f r : Nat → Int} {k : Nat} (hk : k < n) : (tab n (fun j => if j < k then f j else r j)).set k (f k) = tab n (fun j => if j < k + 1 then f j else r j) := by
  rw [tab_set hk]
  refine tab_congr fun j _ => ?_
  by_cases h1 : j = k
  · subst h1; rw [if_pos rfl, if_pos (by omega)]
  · rw [if_neg h1]
    by_cases h2 : j < k
    · rw [if_pos h2, if_pos (by omega)]
    · rw [if_neg h2, if_neg (by omega)]
set_option maxRecDepth 100000 in
set_option maxHeartbeats 800000 in
theorem begin_any (V D H : Nat) (W : Wt) (bs : List Bk) (M : Mdl) (tok at' : Nat) (w : World) (hW : WtAt w V D H W bs M) (ht : tok < V) (ha : at' ≤ 4096) :
   Calls Tryz.prog 59 #[.agg W.cells, .int .i64 tok, .int .i64 at'] w fun e w' => ∃ g cap, e = .returned (.slice (some ⟨g, 0, none⟩) D cap) ∧ Fresh w' w.heap.size g D cap (begR M.E D tok at') ∧ Below w.heap.size w w' := by
  obtain ⟨⟨er, ec, ed⟩, ⟨ba, bn, bz⟩, ⟨la, ln, lz⟩, ⟨or, oc, ⟨oa, on, oz⟩⟩⟩ := W
  obtain ⟨eb, eo, en, ez, e1, ME⟩ := hW.e
  simp only [Mt.mk.injEq] at e1
  obtain ⟨rfl, rfl, rfl⟩ := e1
  clear hW
  have c2 := ME.c2
  have X0 := blk_new w 40 #[.int .i64 (V : Int), .int .i64 (D : Int), .slice (some ⟨eb, eo, none⟩) en ez, .slice ba bn bz, .slice la ln lz, .int .i64 or, .int .i64 oc, .slice oa on oz]
  have B0 : Below w.heap.size w (w.alloc (.cells #[.int .i64 (V : Int), .int .i64 (D : Int), .slice (some ⟨eb, eo, none⟩) en ez, .slice ba bn bz, .slice la ln lz, .int .i64 or, .int .i64 oc, .slice oa on oz] 40)) := (Below.refl _ _).alloc (Nat.le_refl _) _
  show Calls Tryz.prog 59 #[.agg #[.int .i64 (V : Int), .int .i64 (D : Int), .slice (some ⟨eb, eo, none⟩) en ez, .slice ba bn bz, .slice la ln lz, .int .i64 or, .int .i64 oc, .slice oa on oz], .int .i64 tok, .int .i64 at'] w _
  generalize hw0 : w.alloc (.cells #[.int .i64 (V : Int), .int .i64 (D : Int), .slice (some ⟨eb, eo, none⟩) en ez, .slice ba bn bz, .slice la ln lz, .int .i64 or, .int .i64 oc, .slice oa on oz] 40) = w0 at *
  have a0 : w0.cell? ⟨w.heap.size, 0, none⟩ = some (.int .i64 (V : Int)) := X0.cell 0 rfl
  have a1 : w0.cell? ⟨w.heap.size, 1, none⟩ = some (.int .i64 (D : Int)) := X0.cell 1 rfl
  have a2 : w0.cell? ⟨w.heap.size, 2, none⟩ = some (.slice (some ⟨eb, eo, none⟩) en ez) := X0.cell 2 rfl
  have C := row_any V D eb eo en ez M.E tok w0 (ME.below B0) ht
  unfold matV at C
  go_enter Tryz.func59, Tryz.ntmps59
  go_wp2_with fail
  refine C.mono ?_
  rintro e w1 ⟨g, cap, rfl, F1, B1⟩
  have s0 := B0.size
  replace F1 := F1.mono s0
  replace B1 := below_then B0 B1
  clear C a0 a1 a2 X0 B0 hw0 ME
  have HB : Hid (begR M.E D tok at' = tab D fun j => addN (el (rowN M.E D tok) j) (atN at' j)) := rfl
  have lR : (rowN M.E D tok).length = D := tab_len _ _
  generalize rowN M.E D tok = R at *
  have F0 : Fresh w1 w.heap.size g D cap (tab D fun j => if j < 0 then addN (el R j) (atN at' j) else el R j) := by
    have e : (tab D fun j => if j < 0 then addN (el R j) (atN at' j) else el R j) = R := by
      rw [show (tab D fun j => if j < 0 then addN (el R j) (atN at' j) else el R j) = tab D (el R) from tab_congr fun j _ => by rw [if_neg (by omega)]]
      exact tab_el lR
    rw [e]
    exact F1
  have sm := F1.small
  clear F1
  go_wp2_with fail
  go_loopg [19] D (fun r i wr => ∃ k : Nat, k ≤ D ∧ r = D - k ∧ i = .int .i64 k ∧ Fresh wr w.heap.size g D cap (tab D fun j => if j < k then addN (el R j) (atN at' j) else el R j) ∧ Below w.heap.size w wr)
  case atStart => exact ⟨0, by omega, by omega, rfl, F0, B1⟩
  case round =>
    obtain ⟨k, hk, rfl, rfl, F2, B2⟩ := hrel
    clear F0 B1
    by_cases hlt : k < D
    · have c1 := F2.cell hlt
      rw [el_tab hlt, if_neg (by omega)] at c1
      have rx := sm.el k
      have gb := F2.base
      obtain ⟨r3, hr3⟩ : ∃ r3 : Int, r3 = ((k % 3 : Nat) : Int) := ⟨_, rfl⟩
      have hm3 : (k : Int) % 3 = r3 := by rw [hr3]; rfl
      obtain ⟨p, hp⟩ : ∃ p : Int, p = (at' : Int) * r3 * 4096 := ⟨_, rfl⟩
      have hq1 : 0 ≤ (at' : Int) * r3 ∧ (at' : Int) * r3 ≤ 8192 := by
        have h3 : k % 3 ≤ 2 := by omega
        have h4 : at' * (k % 3) ≤ 4096 * 2 := Nat.mul_le_mul ha h3
        rw [hr3, ← Int.natCast_mul]
        omega
      have hpb : 0 ≤ p ∧ p ≤ 33554432 := by omega
      have HA : Hid (addN (el R k) (atN at' k) = addN (el R k) (sat p)) := by show _ = _; unfold atN; rw [hp, hr3]
      have sb := sat_bd p
      have ab := addN_bd (el R k) (sat p)
      have HS : Hid (∀ w', Fresh w' w.heap.size g D cap (tab D fun j => if j < k then addN (el R j) (atN at' j) else el R j) → Fresh (w'.setCell ⟨g, k, none⟩ (.int .i32 (addN (el R k) (sat p)))) w.heap.size g D cap (tab D fun j => if j < k + 1 then addN (el R j) (atN at' j) else el R j)) := fun w' h => by
        have h2 := h.set k (addN (el R k) (sat p)) hlt (by omega)
        rw [← HA.out, tab_put hlt] at h2
        rw [← HA.out]
        exact h2
      have y1 : ∀ p' : Nxt wr, Calls Tryz.prog 71 #[.int .i64 p] p'.to fun e w'' => e = .returned (.int .i32 (sat p)) ∧ ∃ q : Nxt wr, w'' = q.to := fun p' => calls_nxt_same (sat_any _ _ (by omega) (by omega))
      have y2 : ∀ p' : Nxt wr, Calls Tryz.prog 70 #[.int .i32 (el R k), .int .i32 (sat p)] p'.to fun e w'' => e = .returned (.int .i32 (addN (el R k) (sat p))) ∧ ∃ q : Nxt wr, w'' = q.to := fun p' => calls_nxt_same (add_any _ _ _ (by omega) (by omega) (by omega) (by omega))
      clear HA
      clear hr3
      obtain ⟨a3, ha3⟩ : ∃ a3 : Int, a3 = (at' : Int) * r3 := ⟨_, rfl⟩
      have hw1 : IntKind.i64.wrap ((at' : Int) * r3) = a3 := by rw [ha3]; exact wrap_in (by omega)
      have hw2 : IntKind.i64.wrap (a3 * 4096) = p := by rw [ha3, ← hp]; exact wrap_in (by omega)
      clear hq1
      have c2 : ∀ p' : Nxt wr, p'.to.cell? ⟨g, k, none⟩ = some (.int .i32 (el R k)) := fun p' => by
        have := (F2.below p'.ok).cell hlt
        rw [el_tab hlt, if_neg (by omega)] at this
        exact this
      clear hp ha3
      generalize hz2 : addN (el R k) (sat p) = z2 at *
      generalize hz1 : sat p = z1 at *
      clear hz1 hz2
      generalize el R k = xa at *
      go_wp2_with fail
      haveI := nxt_ne wr
      refine wp_region_last_lit (by kernel_rfl) (List.cons_ne_nil _ _) (by kernel_rfl) (by kernel_rfl) (by kernel_rfl) (by kernel_rfl) (by kernel_rfl) ?_
      intro l' z' hl' hz'
      simp only [List.dropLast_cons_cons, List.dropLast_singleton] at hl'
      simp only [List.getLast_cons_cons, List.getLast_singleton] at hz'
      subst hl' hz'
      repeat (first | go_big_quiet_skip | (go_big_quiet_want; go_big_quiet_op; first | go_big_quiet_on | (apply Exists.intro; refine ⟨fun pq => ?_, ?_⟩; (first | (go_at_call 71; exact y1 _) | (go_at_call 70; exact y2 _)); go_big_quiet_on)))
      refine wpQuiet_nil ?_
      intro _ hw'
      obtain ⟨⟨w3, B3⟩, hw''⟩ := hw'
      subst hw''
      have F3 := F2.below B3
      have ff := F3.frozen k
      have fc := F3.cell hlt
      have F4 := HS.out _ F3
      replace B3 := below_then B2 B3
      clear y1 y2 c2 c1 F2
      go_wp2
      go_roundg (D - (k + 1))
      case measure => omega
      case rel => exact ⟨k + 1, by omega, rfl, by go_num, F4, B3.setCell gb _⟩
    · obtain rfl : k = D := by omega
      have e : (tab k fun j => if j < k then addN (el R j) (atN at' j) else el R j) = begR M.E k tok at' := by
        rw [HB.out]
        exact tab_congr fun j hj => by rw [if_pos hj]
      rw [e] at F2
      clear e HB
      go_wp2
      go_ret
      exact ⟨g, cap, rfl, F2, B2⟩
set_option maxRecDepth 100000 in
set_option maxHeartbeats 800000 in
theorem likes_any (V D H : Nat) (W : Wt) (bs : List Bk) (M : Mdl) (xo : Option Addr) (cx : Nat) (X : List Int) (w : World) (hW : WtAt w V D H W bs M) (hX : RowAt w xo D X) (h1 : 1 ≤ D) (h2 : D ≤ 128) :
   Calls Tryz.prog 49 #[.agg W.cells, .slice xo D cx] w fun e w' => ∃ g, e = .returned (.slice (some ⟨g, 0, none⟩) V V) ∧ Fresh w' w.heap.size g V V (likR M V D X) ∧ Below w.heap.size w w' := by
  have hsz : sizeN D = 0 := by unfold sizeN; rw [if_neg (by omega), if_neg (by omega)]
  obtain ⟨⟨er, ec, ⟨ea, en, ez⟩⟩, ⟨ba, bn, bz⟩, ⟨la, ln, lz⟩, ⟨or, oc, od⟩⟩ := W
  obtain ⟨ob, oo, on, oz, e1, MO⟩ := hW.o
  have e2 := hW.l.len
  have AL := hW.l.arg
  simp only [Mt.mk.injEq] at e1
  obtain ⟨rfl, rfl, rfl⟩ := e1
  simp only at e2 AL
  replace e2 := e2.symm
  subst e2
  clear hW
  have X0 := blk_new w 40 #[.int .i64 er, .int .i64 ec, .slice ea en ez, .slice ba bn bz, .slice la D lz, .int .i64 (V : Int), .int .i64 (D : Int), .slice (some ⟨ob, oo, none⟩) on oz]
  have B0 : Below w.heap.size w (w.alloc (.cells #[.int .i64 er, .int .i64 ec, .slice ea en ez, .slice ba bn bz, .slice la D lz, .int .i64 (V : Int), .int .i64 (D : Int), .slice (some ⟨ob, oo, none⟩) on oz] 40)) := (Below.refl _ _).alloc (Nat.le_refl _) _
  show Calls Tryz.prog 49 #[.agg #[.int .i64 er, .int .i64 ec, .slice ea en ez, .slice ba bn bz, .slice la D lz, .int .i64 (V : Int), .int .i64 (D : Int), .slice (some ⟨ob, oo, none⟩) on oz], .slice xo D cx] w _
  generalize hw0 : w.alloc (.cells #[.int .i64 er, .int .i64 ec, .slice ea en ez, .slice ba bn bz, .slice la D lz, .int .i64 (V : Int), .int .i64 (D : Int), .slice (some ⟨ob, oo, none⟩) on oz] 40) = w0 at *
  replace X0 := X0.below ((Below.refl _ _).drew)
  replace B0 := B0.drew
  have HX := hX.below B0
  have HL := (AL.below B0).row
  have HO := MO.below B0
  have HM := MO
  go_enter Tryz.func49, Tryz.ntmps49
  go_wp2_with fail
  refine wp_region_held_drew (S := fun w' => Blk w' w.heap.size 40 #[.int .i64 er, .int .i64 ec, .slice ea en ez, .slice ba bn bz, .slice la D lz, .int .i64 (V : Int), .int .i64 (D : Int), .slice (some ⟨ob, oo, none⟩) on oz]) (by kernel_rfl) (X0) (fun hHeld => ?_)
  refine wpAnyH_take (i := 0) (v := (.pointer (some ⟨w.heap.size, 5, none⟩))) rfl (by kernel_rfl) (by kernel_rfl) (by kernel_rfl) (fun _ _ _ h => h) (Or.inl ⟨by rfl, ?_⟩) (by assumption) ?_
  · intro w' hSw
    go_simp
  simp only [List.getElem_toArray, List.getElem_cons_zero, Act.put, List.setIfInBounds_toArray, List.set_cons_zero, List.set_cons_succ]
  refine wpAnyH_take (i := 1) (v := (.agg #[.int .i64 (V : Int), .int .i64 (D : Int), .slice (some ⟨ob, oo, none⟩) on oz])) rfl (by kernel_rfl) (by kernel_rfl) (by kernel_rfl) (fun _ _ _ h => h) (Or.inl ⟨by rfl, ?_⟩) (by assumption) ?_
  · intro w' hSw
    have c5 : w'.cell? ⟨w.heap.size, 5, none⟩ = some (.int .i64 (V : Int)) := hSw.cell 5 rfl
    have c6 : w'.cell? ⟨w.heap.size, 6, none⟩ = some (.int .i64 (D : Int)) := hSw.cell 6 rfl
    have c7 : w'.cell? ⟨w.heap.size, 7, none⟩ = some (.slice (some ⟨ob, oo, none⟩) on oz) := hSw.cell 7 rfl
    go_simp
  simp only [List.getElem_toArray, List.getElem_cons_succ, List.getElem_cons_zero, Act.put, List.setIfInBounds_toArray, List.set_cons_zero, List.set_cons_succ]
  refine wpAnyH_take (i := 2) (v := (.slice xo D cx)) rfl (by kernel_rfl) (by kernel_rfl) (by kernel_rfl) (fun _ _ _ h => h) (Or.inl ⟨by rfl, ?_⟩) (by assumption) ?_
  · intro w' hSw
    go_simp
  simp only [List.getElem_toArray, List.getElem_cons_succ, List.getElem_cons_zero, Act.put, List.setIfInBounds_toArray, List.set_cons_zero, List.set_cons_succ]
  refine wpAnyH_take (i := 3) (v := (.pointer (some ⟨w.heap.size, 4, none⟩))) rfl (by kernel_rfl) (by kernel_rfl) (by kernel_rfl) (fun _ _ _ h => h) (Or.inl ⟨by rfl, ?_⟩) (by assumption) ?_
  · intro w' hSw
    go_simp
  simp only [List.getElem_toArray, List.getElem_cons_succ, List.getElem_cons_zero, Act.put, List.setIfInBounds_toArray, List.set_cons_zero, List.set_cons_succ]
  refine wpAnyH_take (i := 4) (v := (.slice la D lz)) rfl (by kernel_rfl) (by kernel_rfl) (by kernel_rfl) (fun _ _ _ h => h) (Or.inl ⟨by rfl, ?_⟩) (by assumption) ?_
  · intro w' hSw
    have c4 : w'.cell? ⟨w.heap.size, 4, none⟩ = some (.slice la D lz) := hSw.cell 4 rfl
    go_simp
  simp only [List.getElem_toArray, List.getElem_cons_succ, List.getElem_cons_zero, Act.put, List.setIfInBounds_toArray, List.set_cons_zero, List.set_cons_succ]
  refine wpAnyH_ready (rs := [5]) (by kernel_rfl) (by simp) ?_
  refine AllReadyH.cons rfl (fun Kc hKc => ?_) AllReadyH.nil
  simp only [List.getElem_toArray, List.getElem_cons_succ, List.getElem_cons_zero]
  rw [if_pos (by rfl)]
  go_wp2_with fail
  refine (pnorm_any _ _ _ _ _ X M.G _ HX HL hsz).mono ?_
  rintro e w1 ⟨gn, rfl, F1, B1⟩
  replace X0 := X0.below B1
  have D1 := below_then B0 B1
  go_wp2_with fail
  refine hKc.out _ _ (X0) (fun hHeld => ?_)
  clear hKc Kc
  refine wpAnyH_ready (rs := [6]) (by kernel_rfl) (by simp) ?_
  refine AllReadyH.cons rfl (fun Kc hKc => ?_) AllReadyH.nil
  simp only [List.getElem_toArray, List.getElem_cons_succ, List.getElem_cons_zero]
  rw [if_pos (by rfl)]
  go_wp2_with fail
  refine (papply_any _ _ _ _ _ _ M.O _ _ (nrm X M.G D) _ (HM.below D1) F1.rowAt).mono ?_
  rintro e w2 ⟨gz, rfl, F2, B2⟩
  replace X0 := X0.below B2
  go_wp2_with fail
  refine hKc.out _ _ (X0) (fun hHeld => ?_)
  clear hKc Kc
  refine wpAnyH_take (i := 7) (v := (.slice (some ⟨gz, 0, none⟩) V V)) rfl (by kernel_rfl) (by kernel_rfl) (by kernel_rfl) (fun _ _ _ h => h) (Or.inl ⟨by rfl, ?_⟩) (by assumption) ?_
  · intro w' hSw
    go_simp
  simp only [List.getElem_toArray, List.getElem_cons_succ, List.getElem_cons_zero, Act.put, List.setIfInBounds_toArray, List.set_cons_zero, List.set_cons_succ]
  refine wpAnyH_done (by kernel_rfl) ?_ _
  go_wp2
  go_ret
  exact ⟨gz, rfl, F2.mono D1.size, below_then D1 B2⟩
end Go.Proofs.YtcanjlofnpnhkaaGreatDoor

/- The awake check of the laws of layer 5 is true, and the document's error of a row, where the table of steps lies as the program's text lays it. -/
namespace Go.Proofs.YtcanjlofnpnhkaaGreatDoor
open Go.ChangeShapes Go.WideShapes Go.ChangeAt Go.RowKit
theorem wgt_lit0 : wgt [0, -65536] 2 0 = 43690 := by decide
theorem wgt_lit1 : wgt [0, -65536] 2 1 = 21845 := by decide
theorem mean_lit : meanN [65536, 65536] 2 = 65536 := by decide
end Go.Proofs.YtcanjlofnpnhkaaGreatDoor

/- What each call of the document's package for layer 2 answers, of every input in range. -/
namespace Go.Proofs.YtcanjlofnpnhkaaGreatDoor
open Go.ChangeShapes Go.WideShapes Go.ChangeAt Go.RowKit
end Go.Proofs.YtcanjlofnpnhkaaGreatDoor

/- What the document's steps and powers answer, of every input in range. -/
namespace Go.Proofs.YtcanjlofnpnhkaaGreatDoor
open Go.ChangeShapes Go.WideShapes Go.ChangeAt Go.RowKit
theorem refs_at (l : List Value) (i : Nat) (h : i < l.length) (e : l = stp.map fun (n : Nat) => Value.int .i64 (n : Int)) : l[i]'h = .int .i64 (stepAt i : Int) := by
  subst e
  have hl : i < stp.length := by simpa using h
  simp [stepAt, hl]
theorem below3 {w w1 w2 w3 : World} (h1 : Below w.heap.size w w1) (h2 : Below w1.heap.size w1 w2) (h3 : Below w2.heap.size w2 w3) : Below w.heap.size w w3 := below_then (below_then h1 h2) h3
end Go.Proofs.YtcanjlofnpnhkaaGreatDoor

/- What the document's answers for layer 5 are: means, norms and weights. -/
namespace Go.Proofs.YtcanjlofnpnhkaaGreatDoor
open Go.ChangeShapes Go.WideShapes Go.ChangeAt Go.RowKit
end Go.Proofs.YtcanjlofnpnhkaaGreatDoor

/- What the document's own functions for matrices answer; a copy of a matrix; the awake check of layer 4. -/
namespace Go.Proofs.YtcanjlofnpnhkaaGreatDoor
open Go.ChangeShapes Go.WideShapes Go.ChangeAt Go.RowKit
theorem tab_snoc (k : Nat) (f : Nat → Int) : tab (k + 1) f = tab k f ++ [f k] := by unfold tab; rw [List.range_succ]; simp
theorem lit_row0 : el (tab 2 fun i => dotN (rowN [65536, 131072, 0, 65536] 2 i) [65536, 65536] 2) 0 = 196608 := by decide
theorem lit_row1 : el (tab 2 fun i => dotN (rowN [65536, 131072, 0, 65536] 2 i) [65536, 65536] 2) 1 = 65536 := by decide
end Go.Proofs.YtcanjlofnpnhkaaGreatDoor

/- append onto a row of the call's own: the row stays in its block, or goes into a new one; all other blocks stay. -/
namespace Go.Proofs.YtcanjlofnpnhkaaGreatDoor
open Go.ChangeShapes Go.WideShapes Go.ChangeAt Go.RowKit
section
variable {P : Program} (w : World)
theorem run_append_own2 (base : Nat) (t ty e : TypeId) (i : TypeInfo) (z : Value) (size bytes : Nat) (ht : P.underlying t = some (.slice e)) (hi : P.info? e = some i) (hz : i.zero = some z)
    (hsize : i.size = size) (hby : i.bytes = bytes) (hzs : z.cells.size = size) (hsz : 0 < size)
    (v : Value) (n : Nat) (xs : List Value) (hown : w.ownsRow base e size v n xs)
    (a : Addr) (m c : Nat) (news : List Value) (hl : news.length = m * size) (hnews : ∀ j u, news[j]? = some u → w.cell? (a.add j) = some u) (h1 : ∀ u ∈ news, u.oneCell' = true)
    (h63 : n + m ≤ maxLen) (hbytes : (n + m) * bytes ≤ 140737488355328) (hbase : base ≤ w.heap.size) :
    ∃ v' w', (Builtin.append_ #[t, t] ty #[v, .slice (some a) m c]).run P w = .ok v' w' ∧ w'.ownsRow base e size v' (n + m) (xs ++ news) ∧ w.grownBy w' v.ownBlock ∧
      (v' = .slice none 0 0 ↔ v = .slice none 0 0 ∧ m = 0) ∧ ∀ g', v'.ownBlock = some g' → v.ownBlock = some g' ∨ g' = w.heap.size := by
  obtain ⟨v', w', hr, h2, h3, h4⟩ := run_append_own (P := P) w base t ty e i z size bytes ht hi hz hsize hby hzs hsz v n xs hown a m c news hl hnews h1 h63 hbytes hbase
  refine ⟨v', w', hr, h2, h3, h4, ?_⟩
  subst hsize
  subst hby
  have hsmall : n + m ≤ 9223372036854775807 := by simp only [maxLen] at h63; omega
  rcases hown.2 with ⟨rfl, rfl⟩ | ⟨g, cap, cur, rfl, hbg, hg, hnc, hcm, hcs, htake⟩
  · by_cases hm : m = 0
    · have := h4.2 ⟨rfl, hm⟩
      subst this
      intro g' hg'
      cases hg'
    · have hr2 := run_append_nil (P := P) w t ty e i z ht hi hz a m c news hl hnews (by omega) (by omega) (by have hb := hbytes; simp only [Nat.zero_add] at hb; omega)
      rw [hr] at hr2
      injection hr2 with e1 e2
      subst e1
      intro g' hg'
      exact Or.inr (Option.some.inj hg').symm
  · by_cases hroom : n + m ≤ cap
    · have hfit : n * i.size + news.length ≤ cur.size := by rw [hl, hcs, ← Nat.add_mul]; exact Nat.mul_le_mul_right _ hroom
      have hr2 := run_append_room (P := P) w t ty e i ht hi g n cap cur hg a m c news hl hnews h1 hroom hfit
      rw [hr] at hr2
      injection hr2 with e1 e2
      subst e1
      intro g' hg'
      exact Or.inl hg'
    · have holds : ∀ j u, xs[j]? = some u → w.cell? ((⟨g, 0, none⟩ : Addr).add j) = some u := hown.cells (g := g) rfl
      have hr2 := run_append_grow (P := P) w t ty e i z ht hi hz ⟨g, 0, none⟩ n cap xs hown.1 holds a m c news hl hnews (by omega) (by omega) (growslice_fits (by omega) hbytes)
      rw [hr] at hr2
      injection hr2 with e1 e2
      subst e1
      intro g' hg'
      exact Or.inr (Option.some.inj hg').symm
theorem wp_append_own2 {o : Oper} {a : Act} {K : Act → World → Prop} {Q : Exit → Act → World → Prop} (s x : Operand) (t : TypeId)
    (ho : o.op = .call { callee := .builtin .append, args := #[s, x], argTypes := #[t, t] })
    (base : Nat) (e : TypeId) (i : TypeInfo) (z : Value) (size bytes : Nat) (ht : P.underlying t = some (.slice e)) (hi : P.info? e = some i) (hz : i.zero = some z)
    (hsize : i.size = size) (hby : i.bytes = bytes) (hzs : z.cells.size = size) (hsz : 0 < size)
    (v : Value) (n : Nat) (xs : List Value) (hs : a.eval s = v) (hown : w.ownsRow base e size v n xs)
    (ad : Addr) (m c : Nat) (news : List Value) (hx : a.eval x = .slice (some ad) m c) (hl : news.length = m * size) (hnews : ∀ j u, news[j]? = some u → w.cell? (ad.add j) = some u) (h1 : ∀ u ∈ news, u.oneCell' = true)
    (h63 : n + m ≤ maxLen) (hbytes : (n + m) * bytes ≤ 140737488355328) (hbase : base ≤ w.heap.size)
    (h : ∀ v' w', w'.ownsRow base e size v' (n + m) (xs ++ news) → w.grownBy w' v.ownBlock → (v' = .slice none 0 0 ↔ v = .slice none 0 0 ∧ m = 0) → (∀ g', v'.ownBlock = some g' → v.ownBlock = some g' ∨ g' = w.heap.size) → K (a.put o.dst v') w') : o.wp P a w K Q := by
  obtain ⟨v', w', hr, h2, h3, h4, h5⟩ := run_append_own2 (P := P) w base t o.type e i z size bytes ht hi hz hsize hby hzs hsz v n xs hown ad m c news hl hnews h1 h63 hbytes hbase
  unfold Oper.wp execOp
  simp only [ho, resolve, invoke, builtin, Sem.run_bind, Sem.run_pure, Result.andThen_ok, List.map_toArray, List.map_cons, List.map_nil, hs, hx, hr]
  exact h v' w' h2 h3 h4 h5
end
/-- append(out, x), out a row of the call's own, x one number: all other blocks stay. -/
theorem wpList_append_one2 {w : World} {ops : Array Oper} {rest : List Oper} {o : Oper} {a : Act} {Q : Exit → Act → World → Prop} (hgd : o.guard = none) (s x : Operand)
    (ho : o.op = .call { callee := .builtin .append, args := #[s, x], argTypes := #[35, 35] })
    (B g n cap : Nat) (A : List Int) (hs : a.eval s = .slice (some ⟨g, 0, none⟩) n cap) (hF : Fresh w B g n cap A)
    (bo : Nat) (y : Int) (hx : a.eval x = .slice (some ⟨bo, 0, none⟩) 1 1) (hX : RowAt w (some ⟨bo, 0, none⟩) 1 [y])
    (hlen : n + 1 ≤ 1048576) (hB : B ≤ w.heap.size)
    (h : ∀ g' cap' w', Fresh w' B g' (n + 1) cap' (A ++ [y]) → Below B w w' → (∀ b, b < w.heap.size → b ≠ g → w'.heap[b]? = w.heap[b]?) → (g' = g ∨ g' = w.heap.size) → wpList Tryz.prog ops Q rest (a.put o.dst (.slice (some ⟨g', 0, none⟩) (n + 1) cap')) w') : wpList Tryz.prog ops Q (o :: rest) a w := by
  obtain ⟨i0, hi, hz0, hz1, hz2⟩ := info_parts Tryz.infoNum
  refine wpList_plain hgd fun _ hK => wp_append_own2 w s x 35 ho B 106 i0 (.int .i32 0) 1 4 Tryz.underlying35 hi hz0 hz1 hz2 rfl (by decide) _ n _ hs hF.owns ⟨bo, 0, none⟩ 1 1 [.int .i32 y] hx rfl ?_ (ints_oneCell .i32 [y]) (by unfold maxLen; omega) (by omega) hB ?_
  · intro j u hj
    obtain ⟨b, o', e, hcell⟩ := hX.cells (by omega)
    simp only [Option.some.injEq, Addr.mk.injEq, and_true] at e
    obtain ⟨rfl, rfl⟩ := e
    match j, hj with
    | 0, hj =>
      have h0 := hcell 0 (by omega)
      simp at hj
      subst hj
      have e2 : (Addr.mk bo 0 none).add 0 = ⟨bo, 0 + 0, none⟩ := by simp [Addr.add]
      rw [e2, h0]
      rfl
  · intro v' w' hown hg hnil hwh
    have hb : Below B w w' := (Below.refl _ _).grown hg hB (fun k hk => by simp [Value.ownBlock] at hk; subst hk; exact hF.base)
    obtain ⟨h1, h2⟩ := hown
    rcases h2 with ⟨h3, h4⟩ | ⟨g', c', cur, hv, hr⟩
    · omega
    · subst hv
      have e : A.map (Value.int .i32) ++ [.int .i32 y] = (A ++ [y]).map (Value.int .i32) := by simp
      rw [e] at h1 hr
      obtain ⟨g2, e2, F⟩ := fresh_of_owns (w := w') (B := B) (n := n + 1) (cap := c') (ao := some ⟨g', 0, none⟩) (A := A ++ [y]) ⟨h1, Or.inr ⟨g', c', cur, rfl, hr⟩⟩ (hF.small.append hX.small) (by simp)
      simp only [Option.some.injEq, Addr.mk.injEq, and_true] at e2
      subst e2
      refine hK _ _ (h g' c' w' F hb (fun b hb2 hne => hg.block b hb2 (fun e => hne (Option.some.inj e))) ?_)
      rcases hwh g' rfl with hq | hq
      · exact Or.inl (Option.some.inj hq).symm
      · exact Or.inr hq
end Go.Proofs.YtcanjlofnpnhkaaGreatDoor

/- The document's layer 8: plus, and the row of a token at a place. -/
namespace Go.Proofs.YtcanjlofnpnhkaaGreatDoor
open Go.ChangeShapes Go.WideShapes Go.ChangeAt Go.RowKit
theorem w64_in {x : Int} (h : -9223372036854775808 ≤ x ∧ x ≤ 9223372036854775807) : IntKind.i64.wrap x = x := by
  rw [IntKind.wrap_i64]; omega
end Go.Proofs.YtcanjlofnpnhkaaGreatDoor

/- Rows of whole numbers in memory; what hangs on new blocks alone. -/
namespace Go.Proofs.YtcanjlofnpnhkaaGreatDoor
open Go.ChangeShapes Go.WideShapes Go.ChangeAt Go.RowKit
/-- In w the slice of whole numbers that begins at ao reads as A. -/
structure IRowAt (w : World) (ao : Option Addr) (n : Nat) (A : List Int) : Prop where
  len : A.length = n
  max : n ≤ 9223372036854775807
  small : ∀ k, -9223372036854775808 ≤ el A k ∧ el A k ≤ 9223372036854775807
  cells : 0 < n → ∃ b o, ao = some ⟨b, o, none⟩ ∧ ∀ t, t < n → w.cell? ⟨b, o + t, none⟩ = some (.int .i64 (el A t))
structure IArg (w : World) (ao : Option Addr) (n ca : Nat) (A : List Int) : Prop where
  row : IRowAt w ao n A
  fit : n ≤ ca
  max : ca ≤ 9223372036854775807
  nil : ao = none → ca = 0
theorem IRowAt.below {w w' : World} {ao : Option Addr} {n : Nat} {A : List Int} (h : IRowAt w ao n A) (hb : Below w.heap.size w w') : IRowAt w' ao n A := by
  refine ⟨h.len, h.max, h.small, fun hn => ?_⟩
  obtain ⟨b, o, e, hc⟩ := h.cells hn
  refine ⟨b, o, e, fun t ht => ?_⟩
  have h1 := hc t ht
  have hlt : b < w.heap.size := by simpa using World.block_lt_of_cell? w _ h1
  rw [hb.cell (by exact hlt)]
  exact h1
theorem IArg.below {w w' : World} {ao : Option Addr} {n ca : Nat} {A : List Int} (h : IArg w ao n ca A) (hb : Below w.heap.size w w') : IArg w' ao n ca A := ⟨h.row.below hb, h.fit, h.max, h.nil⟩
theorem iarg_nil (w : World) : IArg w none 0 0 [] := ⟨⟨rfl, by omega, fun k => by simp [el], fun h => by omega⟩, by omega, by omega, fun _ => rfl⟩
theorem IRowAt.vals {w : World} {ad : Addr} {n : Nat} {A : List Int} (h : IRowAt w (some ad) n A) : ∀ j u, (A.map (Value.int .i64))[j]? = some u → w.cell? (ad.add j) = some u := by
  intro j u hj
  have hl := h.len
  have hjm : j < n := by
    have := (List.getElem?_eq_some_iff.1 hj).1
    simpa [hl] using this
  obtain ⟨b, o', e, hcell⟩ := h.cells (by omega)
  simp only [Option.some.injEq] at e
  subst e
  have e2 : (Addr.mk b o' none).add j = ⟨b, o' + j, none⟩ := by simp [Addr.add]
  rw [e2, hcell j hjm]
  rw [List.getElem?_map, List.getElem?_eq_getElem (show j < A.length by omega)] at hj
  simp only [Option.map_some, Option.some.injEq] at hj
  rw [← hj]
  unfold el
  simp [List.getD_eq_getElem?_getD, List.getElem?_eq_getElem (show j < A.length by omega)]
/-- A row of whole numbers of the call's own. -/
def IOwn (w : World) (B : Nat) (v : Value) (n : Nat) (A : List Int) : Prop := w.ownsRow B 3 1 v n (A.map (Value.int .i64))
theorem Tryz.infoInt : (Tryz.prog.info? 3).map (fun i => (i.zero, i.size, i.bytes)) = some (some (.int .i64 0), 1, 8) := by kernel_rfl
theorem IOwn.arg {w : World} {B : Nat} {v : Value} {n : Nat} {A : List Int} (h : IOwn w B v n A) (hs : ∀ k, -9223372036854775808 ≤ el A k ∧ el A k ≤ 9223372036854775807) : ∃ ao c, v = .slice ao n c ∧ IArg w ao n c A := by
  have hl : A.length = n := by have := h.1; simpa using this
  rcases h.2 with ⟨h3, h4⟩ | ⟨g, cap, cur, hv, hg, hh, h5, h6, h7, h8⟩
  · subst h4
    obtain rfl : A = [] := List.length_eq_zero_iff.1 hl
    exact ⟨none, 0, h3, iarg_nil w⟩
  · subst hv
    have hm : cap ≤ 9223372036854775807 := by simpa [maxLen] using h6
    refine ⟨_, _, rfl, ⟨hl, by omega, hs, fun hn => ⟨g, 0, rfl, fun t ht => ?_⟩⟩, h5, hm, fun h => by cases h⟩
    have hc := World.ownsRow.cells h (g := g) rfl t (.int .i64 (el A t)) (by
      rw [List.getElem?_map, List.getElem?_eq_getElem (show t < A.length by omega)]
      unfold el
      simp [List.getD_eq_getElem?_getD, List.getElem?_eq_getElem (show t < A.length by omega)])
    have e2 : (Addr.mk g 0 none).add t = ⟨g, t, none⟩ := by simp [Addr.add]; intro h; exact h.symm
    rw [e2] at hc
    rw [Nat.zero_add]
    exact hc
theorem iclone_any (ao : Option Addr) (n ca : Nat) (A : List Int) (w : World) (hA : IArg w ao n ca A) (hn : n ≤ 1048576) :
   Calls Tryz.prog 38 #[.slice ao n ca] w fun e w' => ∃ v, e = .returned v ∧ IOwn w' w.heap.size v n A ∧ Below w.heap.size w w' := by
  cases ao with
  | none =>
    have hc0 := hA.nil rfl
    subst hc0
    obtain rfl : n = 0 := by have := hA.fit; omega
    obtain rfl : A = [] := List.length_eq_zero_iff.1 hA.row.len
    have hq : ∀ w : World, (binOp .eql 25 (.slice none 0 0) (.slice none 0 0)).run Tryz.prog w = .ok (.bool true) w := fun w => run_eql_nil w _ 3 _ _ _ Tryz.underlying25
    go_enter Tryz.func38, Tryz.ntmps38
    go_wp2
    go_ret
    exact ⟨_, rfl, World.ownsRow_nil _ _ _ _, Below.refl _ _⟩
  | some ad =>
    obtain ⟨i0, hi, hz0, hz1, hz2⟩ := info_parts Tryz.infoInt
    have B0 : Below w.heap.size w (w.alloc (.cells #[] 3)) := (Below.refl _ _).alloc (Nat.le_refl _) _
    have O0 : (w.alloc (.cells #[] 3)).ownsRow w.heap.size 3 1 (.slice (some ⟨w.heap.size, 0, none⟩) 0 0) 0 [] := World.ownsRow_made w #[] 0 (Nat.le_refl _) (by decide) rfl
    have hv2 := (hA.row.below B0).vals
    have hl := hA.row.len
    have hq : ∀ w : World, (binOp .eql 25 (.slice (some ad) n ca) (.slice none 0 0)).run Tryz.prog w = .ok (.bool false) w := fun w => run_eql_nil w _ 3 _ _ _ Tryz.underlying25
    go_enter Tryz.func38, Tryz.ntmps38
    go_wp2_with (at_builtin; refine wpList_append_own _ rfl _ _ 25 rfl w.heap.size 3 i0 (.int .i64 0) 1 8 Tryz.underlying25 hi hz0 hz1 hz2 rfl (by decide) _ 0 [] rfl O0 ad n ca (A.map (Value.int .i64)) rfl (by simp [hl]) hv2 (ints_oneCell _ _) (by unfold maxLen; omega) (by omega) (by simp) ?_; intro v' w' O1 G1 N1)
    have hb : Below w.heap.size (w.alloc (.cells #[] 3)) w' := (Below.refl _ _).grown G1 (by simp) (fun k hk => (O0.lt k hk).1)
    rw [Nat.zero_add, List.nil_append] at O1
    go_ret
    exact ⟨v', rfl, O1, B0.trans hb⟩
/-- Φ hangs on those blocks alone that p tells. -/
def Hangs (p : Nat → Prop) (w : World) (Φ : World → Prop) : Prop := ∀ w2 : World, (∀ b, p b → b < w.heap.size → w2.heap[b]? = w.heap[b]?) → Φ w2
theorem Hangs.now {p : Nat → Prop} {w : World} {Φ : World → Prop} (h : Hangs p w Φ) : Φ w := h w fun _ _ _ => rfl
theorem Hangs.below {p : Nat → Prop} {w w' : World} {Φ : World → Prop} (h : Hangs p w Φ) (hb : Below w.heap.size w w') : Hangs p w' Φ := fun w2 h2 =>
  h w2 fun b h3 h4 => (h2 b h3 (Nat.lt_of_lt_of_le h4 hb.size)).trans (hb.block b h4)
theorem Hangs.mono {p q : Nat → Prop} {w : World} {Φ : World → Prop} (h : Hangs p w Φ) (hq : ∀ b, b < w.heap.size → p b → q b) : Hangs q w Φ := fun w2 h2 => h w2 fun b h3 h4 => h2 b (hq b h4 h3) h4
theorem Hangs.other {p : Nat → Prop} {w w' : World} {Φ : World → Prop} (h : Hangs p w Φ) (hs : w'.heap.size = w.heap.size) (ho : ∀ b, p b → w'.heap[b]? = w.heap[b]?) : Hangs p w' Φ := fun w2 h2 =>
  h w2 fun b h3 h4 => (h2 b h3 (by rw [hs]; exact h4)).trans (ho b h3)
theorem Hangs.set {p : Nat → Prop} {w : World} {Φ : World → Prop} (h : Hangs p w Φ) {a : Addr} (ha : ¬ p a.block) (v : Value) : Hangs p (w.setCell a v) Φ :=
  h.other (by simp [World.setCell]) fun b hb => Below.heap_setCell _ _ _ _ (fun e => ha (by rw [← e]; exact hb))
theorem Hangs.row {p : Nat → Prop} {w : World} {Φ : World → Prop} (h : Hangs p w Φ) {g : Nat} (ha : ¬ p g) (cs : Array Value) : Hangs p (w.setRow g cs) Φ :=
  h.other (by simp [World.setRow]) fun b hb => setRow_other _ _ _ _ (fun e => ha (by rw [← e]; exact hb))
theorem Hangs.imp {p : Nat → Prop} {w : World} {Φ Ψ : World → Prop} (h : Hangs p w Φ) (hi : ∀ w, Φ w → Ψ w) : Hangs p w Ψ := fun w2 h2 => hi _ (h w2 h2)
/-- Φ hangs on the blocks from B on alone. -/
def New (B : Nat) (w : World) (Φ : World → Prop) : Prop := Hangs (fun b => B ≤ b) w Φ
theorem New.mono {B B' : Nat} {w : World} {Φ : World → Prop} (h : New B w Φ) (hB : B' ≤ B) : New B' w Φ := Hangs.mono h fun _ _ h => Nat.le_trans hB h
theorem New.now {B : Nat} {w : World} {Φ : World → Prop} (h : New B w Φ) : Φ w := Hangs.now h
theorem New.below {B : Nat} {w w' : World} {Φ : World → Prop} (h : New B w Φ) (hb : Below w.heap.size w w') : New B w' Φ := Hangs.below h hb
theorem New.set {B : Nat} {w : World} {Φ : World → Prop} (h : New B w Φ) {a : Addr} (ha : a.block < B) (v : Value) : New B (w.setCell a v) Φ := Hangs.set h (by omega) v
theorem New.row {B : Nat} {w : World} {Φ : World → Prop} (h : New B w Φ) {g : Nat} (ha : g < B) (cs : Array Value) : New B (w.setRow g cs) Φ := Hangs.row h (by omega) cs
theorem New.imp {B : Nat} {w : World} {Φ Ψ : World → Prop} (h : New B w Φ) (hi : ∀ w, Φ w → Ψ w) : New B w Ψ := Hangs.imp h hi
theorem Fresh.hangs {w : World} {B g n cap : Nat} {A : List Int} (h : Fresh w B g n cap A) : Hangs (fun b => b = g) w fun w => Fresh w B g n cap A := fun _ h2 => h.of_block (h2 g rfl h.lt)
theorem Fresh.new {w : World} {B g n cap : Nat} {A : List Int} (h : Fresh w B g n cap A) : New B w fun w => Fresh w B g n cap A := h.hangs.mono fun b _ e => by rw [e]; exact h.base
/-- A copy of a row. -/
theorem clone_arg (ao : Option Addr) (n ca : Nat) (A : List Int) (w : World) (hA : Arg w ao n ca A) (hn : n ≤ 1048576) :
   Calls Tryz.prog 64 #[.slice ao n ca] w fun e w' => ∃ ao' c', e = .returned (.slice ao' n c') ∧ New w.heap.size w' (fun w => Arg w ao' n c' A) ∧ Below w.heap.size w w' := by
  cases ao with
  | none =>
    have hc0 := hA.nil rfl
    subst hc0
    obtain rfl : n = 0 := by have := hA.fit; omega
    obtain rfl : A = [] := List.length_eq_zero_iff.1 hA.row.len
    have hq : ∀ w : World, (binOp .eql 35 (.slice none 0 0) (.slice none 0 0)).run Tryz.prog w = .ok (.bool true) w := fun w => run_eql_nil w _ 106 _ _ _ Tryz.underlying35
    go_enter Tryz.func64, Tryz.ntmps64
    go_wp2
    go_ret
    exact ⟨none, 0, rfl, fun _ _ => ⟨RowAt.nil _ _, by omega, by omega, (fun _ => rfl), fun _ _ e => by cases e⟩, Below.refl _ _⟩
  | some ad =>
    have F0 := fresh_empty w
    have B0 : Below w.heap.size w (w.alloc (.cells #[] 106)) := (Below.refl _ _).alloc (Nat.le_refl _) _
    have R := hA.row.below B0
    have hq : ∀ w : World, (binOp .eql 35 (.slice (some ad) n ca) (.slice none 0 0)).run Tryz.prog w = .ok (.bool false) w := fun w => run_eql_nil w _ 106 _ _ _ Tryz.underlying35
    clear hA
    go_enter Tryz.func64, Tryz.ntmps64
    go_wp2_with (at_builtin; refine wpList_append_row rfl _ _ rfl w.heap.size w.heap.size 0 0 [] rfl F0 (some ad) n ca A rfl R (fun h => by cases h) (by omega) (by simp) ?_; intro g' cap' w' F1 B1)
    rw [Nat.zero_add, List.nil_append] at *
    go_ret
    exact ⟨_, _, rfl, F1.new.imp fun w h => h.arg, B0.trans B1⟩
end Go.Proofs.YtcanjlofnpnhkaaGreatDoor

/- append onto a row of the call's own: the row that was there stays as it was. -/
namespace Go.Proofs.YtcanjlofnpnhkaaGreatDoor
open Go.ChangeShapes Go.WideShapes Go.ChangeAt Go.RowKit
section
variable {P : Program} (w : World)
theorem run_append_own3 (base : Nat) (t ty e : TypeId) (i : TypeInfo) (z : Value) (bytes : Nat) (ht : P.underlying t = some (.slice e)) (hi : P.info? e = some i) (hz : i.zero = some z)
    (hsize : i.size = 1) (hby : i.bytes = bytes) (hzs : z.cells.size = 1)
    (v : Value) (n : Nat) (xs : List Value) (hown : w.ownsRow base e 1 v n xs)
    (a : Addr) (m c : Nat) (news : List Value) (hl : news.length = m) (hnews : ∀ j u, news[j]? = some u → w.cell? (a.add j) = some u) (h1 : ∀ u ∈ news, u.oneCell' = true)
    (h63 : n + m ≤ maxLen) (hbytes : (n + m) * bytes ≤ 140737488355328) (hbase : base ≤ w.heap.size) :
    ∃ v' w', (Builtin.append_ #[t, t] ty #[v, .slice (some a) m c]).run P w = .ok v' w' ∧ w'.ownsRow base e 1 v' (n + m) (xs ++ news) ∧ w.grownBy w' v.ownBlock ∧ w'.ownsRow base e 1 v n xs := by
  obtain ⟨v', w', hr, h2, h3, h4⟩ := run_append_own (P := P) w base t ty e i z 1 bytes ht hi hz hsize hby hzs (by decide) v n xs hown a m c news (by omega) hnews h1 h63 hbytes hbase
  refine ⟨v', w', hr, h2, h3, ?_⟩
  have hl1 : news.length = m * i.size := by rw [hsize]; omega
  subst hby
  have hsmall : n + m ≤ 9223372036854775807 := by simp only [maxLen] at h63; omega
  rcases hown.2 with ⟨rfl, rfl⟩ | ⟨g, cap, cur, rfl, hbg, hg, hnc, hcm, hcs, htake⟩
  · have hx : xs = [] := List.eq_nil_of_length_eq_zero (by simpa using hown.1)
    subst hx
    exact World.ownsRow_nil _ _ _ _
  · have hxl : xs.length = n := by have := hown.1; omega
    by_cases hroom : n + m ≤ cap
    · have hfit : n * i.size + news.length ≤ cur.size := by rw [hl, hcs, hsize]; omega
      have hr2 := run_append_room (P := P) w t ty e i ht hi g n cap cur hg a m c news hl1 hnews h1 hroom hfit
      rw [hr] at hr2
      injection hr2 with e1 e2
      subst e2
      refine ⟨hown.1, .inr ⟨g, cap, _, rfl, hbg, setRow_heap w g cur _ e _ hg, hnc, hcm, ?_, ?_⟩⟩
      · simp only [List.size_toArray, List.length_append, List.length_take, List.length_drop, Array.length_toList, hsize]
        omega
      · rw [hsize]
        rw [htake, List.append_assoc, ← hown.1]
        exact List.take_left
    · have holds : ∀ j u, xs[j]? = some u → w.cell? ((⟨g, 0, none⟩ : Addr).add j) = some u := hown.cells (g := g) rfl
      have hr2 := run_append_grow (P := P) w t ty e i z ht hi hz ⟨g, 0, none⟩ n cap xs (by rw [hsize]; omega) holds a m c news hl1 hnews (by omega) (by omega) (growslice_fits (by omega) hbytes)
      rw [hr] at hr2
      injection hr2 with e1 e2
      subst e2
      have hlt : g < w.heap.size := (Array.getElem?_eq_some_iff.1 hg).1
      exact ⟨hown.1, .inr ⟨g, cap, cur, rfl, hbg, (heap_alloc_old w.drew _ hlt).trans hg, hnc, hcm, hcs, htake⟩⟩
end
/-- append(out, x), out a row of whole numbers of the call's own, as one operation. -/
theorem wp_append_int {w : World} {o : Oper} {a : Act} {K : Act → World → Prop} {Q : Exit → Act → World → Prop} (s x : Operand) (ho : o.op = .call { callee := .builtin .append, args := #[s, x], argTypes := #[25, 25] })
    (B : Nat) (v : Value) (n : Nat) (A : List Int) (hs : a.eval s = v) (hown : IOwn w B v n A) (bo : Nat) (y : Int) (hx : a.eval x = .slice (some ⟨bo, 0, none⟩) 1 1) (hX : w.cell? ⟨bo, 0, none⟩ = some (.int .i64 y)) (hn : n ≤ 4096) (hB : B ≤ w.heap.size)
    (h : ∀ v' w', IOwn w' B v' (n + 1) (A ++ [y]) → IOwn w' B v n A → w.grownBy w' v.ownBlock → Below B w w' → K (a.put o.dst v') w') : o.wp Tryz.prog a w K Q := by
  obtain ⟨i0, hi, hz0, hz1, hz2⟩ := info_parts Tryz.infoInt
  have hnews : ∀ j u, ([y].map (Value.int .i64))[j]? = some u → w.cell? ((Addr.mk bo 0 none).add j) = some u := by
    intro j u hj
    match j, hj with
    | 0, hj =>
      simp at hj
      subst hj
      have e2 : (Addr.mk bo 0 none).add 0 = ⟨bo, 0, none⟩ := by simp [Addr.add]
      rw [e2, hX]
  obtain ⟨v', w', hr, h2, h3, h4⟩ := run_append_own3 (P := Tryz.prog) w B 25 o.type 3 i0 (.int .i64 0) 8 Tryz.underlying25 hi hz0 hz1 hz2 rfl v n _ hown ⟨bo, 0, none⟩ 1 1 ([y].map (Value.int .i64)) rfl hnews (ints_oneCell _ _) (by unfold maxLen; omega) (by omega) hB
  unfold Oper.wp execOp
  simp only [ho, resolve, invoke, builtin, Sem.run_bind, Sem.run_pure, Result.andThen_ok, List.map_toArray, List.map_cons, List.map_nil, hs, hx, hr]
  exact h v' w' (by unfold IOwn; rw [List.map_append]; exact h2) h4 h3 ((Below.refl _ _).grown h3 hB (fun k hk => (hown.lt k hk).1))
/-- An operation that is wanted. -/
theorem wpList_run {w : World} {ops : Array Oper} {rest : List Oper} {o : Oper} {a : Act} {Q : Exit → Act → World → Prop} (hw : Region.wanted o (yielded ops a.tmps) = true) (h : ∀ K, (∀ a w, wpList Tryz.prog ops Q rest a w → K a w) → Oper.wp Tryz.prog o a w K Q) : wpList Tryz.prog ops Q (o :: rest) a w := by
  simp only [wpList, hw, if_true]
  exact Or.inl (h _ fun a w h => h)
end Go.Proofs.YtcanjlofnpnhkaaGreatDoor
