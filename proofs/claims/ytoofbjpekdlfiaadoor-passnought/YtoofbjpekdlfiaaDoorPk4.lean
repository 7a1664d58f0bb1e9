/- Contracts of the program's functions, part 4 of 14: what each call returns and leaves of memory. -/
import Derived.Test.YtoofbjpekdlfiaaDoorPk3
import Derived.Test.YtoofbjpekdlfiaaDoorPk2
/- Whether one layer's numbers fit a configuration. -/
namespace Go.Proofs.YtoofbjpekdlfiaaDoor
open Go.ChangeShapes Go.WideShapes Go.ChangeAt Go.RowKit
set_option maxRecDepth 100000 in
set_option maxHeartbeats 3200000 in
theorem blockFits_any (V D Hd H L : Int) (b : Bk) (w : World) (hb : b.Ok) (hD : I64 D) :
   Calls Tryd.prog 55 #[.agg (cfgC V D Hd H L), .agg b.cells] w fun e w' => e = .returned (.bool (bkB D H b)) ∧ Below w.heap.size w w' := by
  have HQ := fun wv => hasSides_any b.q D D wv hb.q
  have HK := fun wv => hasSides_any b.k D D wv hb.k
  have HV := fun wv => hasSides_any b.v D D wv hb.v
  have HO := fun wv => hasSides_any b.o D D wv hb.o
  have HU := fun wv => hasSides_any b.u H D wv hb.u
  have HD := fun wv => hasSides_any b.d D H wv hb.d
  have hf := hb.f
  have hs := hb.s
  clear hb
  have HB : Hid (bkB D H b = (decide ((b.f.n : Int) = D) && decide ((b.s.n : Int) = D) && sidesB b.q D D && sidesB b.k D D && sidesB b.v D D && sidesB b.o D D && sidesB b.u H D && sidesB b.d D H)) := rfl
  generalize bkB D H b = res at *
  generalize sidesB b.q D D = xq at *
  generalize sidesB b.k D D = xk at *
  generalize sidesB b.v D D = xv at *
  generalize sidesB b.o D D = xo at *
  generalize sidesB b.u H D = xu at *
  generalize sidesB b.d D H = xd at *
  obtain ⟨⟨fa, fn, fz⟩, ⟨qr, qc, ⟨qa, qn, qz⟩⟩, ⟨kr, kc, ⟨ka, kn, kz⟩⟩, ⟨vr, vc, ⟨va, vn, vz⟩⟩, ⟨or, oc, ⟨oa, on, oz⟩⟩, ⟨sa, sn, sz⟩, ⟨ur, uc, ⟨ua, un, uz⟩⟩, ⟨dr, dc, ⟨da, dn, dz⟩⟩⟩ := b
  unfold I64 at hD
  show Calls Tryd.prog 55 #[.agg #[.int .i64 V, .int .i64 D, .int .i64 Hd, .int .i64 H, .int .i64 L], .agg #[.slice fa fn fz, .int .i64 qr, .int .i64 qc, .slice qa qn qz, .int .i64 kr, .int .i64 kc, .slice ka kn kz, .int .i64 vr, .int .i64 vc, .slice va vn vz, .int .i64 or, .int .i64 oc, .slice oa on oz, .slice sa sn sz, .int .i64 ur, .int .i64 uc, .slice ua un uz, .int .i64 dr, .int .i64 dc, .slice da dn dz]] w _
  have X0 := blk_new w 23 #[.int .i64 V, .int .i64 D, .int .i64 Hd, .int .i64 H, .int .i64 L]
  have B0 : Below w.heap.size w (w.alloc (.cells #[.int .i64 V, .int .i64 D, .int .i64 Hd, .int .i64 H, .int .i64 L] 23)) := (Below.refl _ _).alloc (Nat.le_refl _) _
  have s0 : (w.alloc (.cells #[.int .i64 V, .int .i64 D, .int .i64 Hd, .int .i64 H, .int .i64 L] 23)).heap.size = w.heap.size + 1 := by simp
  generalize hw0 : w.alloc (.cells #[.int .i64 V, .int .i64 D, .int .i64 Hd, .int .i64 H, .int .i64 L] 23) = w0 at *
  have X1 := blk_new w0 59 #[.slice fa fn fz, .int .i64 qr, .int .i64 qc, .slice qa qn qz, .int .i64 kr, .int .i64 kc, .slice ka kn kz, .int .i64 vr, .int .i64 vc, .slice va vn vz, .int .i64 or, .int .i64 oc, .slice oa on oz, .slice sa sn sz, .int .i64 ur, .int .i64 uc, .slice ua un uz, .int .i64 dr, .int .i64 dc, .slice da dn dz]
  have B1 : Below w0.heap.size w0 (w0.alloc (.cells #[.slice fa fn fz, .int .i64 qr, .int .i64 qc, .slice qa qn qz, .int .i64 kr, .int .i64 kc, .slice ka kn kz, .int .i64 vr, .int .i64 vc, .slice va vn vz, .int .i64 or, .int .i64 oc, .slice oa on oz, .slice sa sn sz, .int .i64 ur, .int .i64 uc, .slice ua un uz, .int .i64 dr, .int .i64 dc, .slice da dn dz] 59)) := (Below.refl _ _).alloc (Nat.le_refl _) _
  have s1 : (w0.alloc (.cells #[.slice fa fn fz, .int .i64 qr, .int .i64 qc, .slice qa qn qz, .int .i64 kr, .int .i64 kc, .slice ka kn kz, .int .i64 vr, .int .i64 vc, .slice va vn vz, .int .i64 or, .int .i64 oc, .slice oa on oz, .slice sa sn sz, .int .i64 ur, .int .i64 uc, .slice ua un uz, .int .i64 dr, .int .i64 dc, .slice da dn dz] 59)).heap.size = w0.heap.size + 1 := by simp
  rw [s0] at X1 s1
  generalize hw1 : w0.alloc (.cells #[.slice fa fn fz, .int .i64 qr, .int .i64 qc, .slice qa qn qz, .int .i64 kr, .int .i64 kc, .slice ka kn kz, .int .i64 vr, .int .i64 vc, .slice va vn vz, .int .i64 or, .int .i64 oc, .slice oa on oz, .slice sa sn sz, .int .i64 ur, .int .i64 uc, .slice ua un uz, .int .i64 dr, .int .i64 dc, .slice da dn dz] 59) = w1 at *
  replace X0 := X0.below B1
  replace B1 := below_then B0 B1
  unfold matV at *
  simp only at HQ HK HV HO HU HD HB hf hs
  have a1 : w1.cell? ⟨w.heap.size, 1, none⟩ = some (.int .i64 D) := X0.cell 1 rfl
  have b0 : w1.cell? ⟨w.heap.size + 1, 0, none⟩ = some (.slice fa fn fz) := X1.cell 0 rfl
  have b13 : w1.cell? ⟨w.heap.size + 1, 13, none⟩ = some (.slice sa sn sz) := X1.cell 13 rfl
  by_cases h1 : (fn : Int) = D
  · by_cases h2 : (sn : Int) = D
    · have HB2 : Hid (res = (xq && xk && xv && xo && xu && xd)) := by show _ = _; rw [HB.out, decide_eq_true h1, decide_eq_true h2]; simp only [Bool.true_and]
      clear HB
      subst h1
      obtain rfl : sn = fn := by omega
      clear h2
      have b1 : w1.cell? ⟨w.heap.size + 1, 1, none⟩ = some (.int .i64 qr) := X1.cell 1 rfl
      have b2 : w1.cell? ⟨w.heap.size + 1, 2, none⟩ = some (.int .i64 qc) := X1.cell 2 rfl
      have b3 : w1.cell? ⟨w.heap.size + 1, 3, none⟩ = some (.slice qa qn qz) := X1.cell 3 rfl
      have b4 : w1.cell? ⟨w.heap.size + 1, 4, none⟩ = some (.int .i64 kr) := X1.cell 4 rfl
      have b5 : w1.cell? ⟨w.heap.size + 1, 5, none⟩ = some (.int .i64 kc) := X1.cell 5 rfl
      have b6 : w1.cell? ⟨w.heap.size + 1, 6, none⟩ = some (.slice ka kn kz) := X1.cell 6 rfl
      have b7 : w1.cell? ⟨w.heap.size + 1, 7, none⟩ = some (.int .i64 vr) := X1.cell 7 rfl
      have b8 : w1.cell? ⟨w.heap.size + 1, 8, none⟩ = some (.int .i64 vc) := X1.cell 8 rfl
      have b9 : w1.cell? ⟨w.heap.size + 1, 9, none⟩ = some (.slice va vn vz) := X1.cell 9 rfl
      have b10 : w1.cell? ⟨w.heap.size + 1, 10, none⟩ = some (.int .i64 or) := X1.cell 10 rfl
      have b11 : w1.cell? ⟨w.heap.size + 1, 11, none⟩ = some (.int .i64 oc) := X1.cell 11 rfl
      have b12 : w1.cell? ⟨w.heap.size + 1, 12, none⟩ = some (.slice oa on oz) := X1.cell 12 rfl
      have XM := blk_new w1 26 #[.int .i64 qr, .int .i64 qc, .slice qa qn qz, .int .i64 kr, .int .i64 kc, .slice ka kn kz, .int .i64 vr, .int .i64 vc, .slice va vn vz, .int .i64 or, .int .i64 oc, .slice oa on oz]
      have B2 : Below w1.heap.size w1 (w1.alloc (.cells #[.int .i64 qr, .int .i64 qc, .slice qa qn qz, .int .i64 kr, .int .i64 kc, .slice ka kn kz, .int .i64 vr, .int .i64 vc, .slice va vn vz, .int .i64 or, .int .i64 oc, .slice oa on oz] 26)) := (Below.refl _ _).alloc (Nat.le_refl _) _
      generalize hw2 : w1.alloc (.cells #[.int .i64 qr, .int .i64 qc, .slice qa qn qz, .int .i64 kr, .int .i64 kc, .slice ka kn kz, .int .i64 vr, .int .i64 vc, .slice va vn vz, .int .i64 or, .int .i64 oc, .slice oa on oz] 26) = w2 at *
      rw [s1] at XM
      go_enter Tryd.func55, Tryd.ntmps55
      go_wp2_with fail
      clear hw0 hw1 hw2 s0 s1 a1 b0 b13 b1 b2 b3 b4 b5 b6 b7 b8 b9 b10 b11 b12 B0
      have Y0 := X0.below B2
      have Y1 := X1.below B2
      replace B2 := below_then B1 B2
      clear X0 X1 B1
      go_loopg [31] 4 (fun r i wr => ∃ k : Nat, k ≤ 4 ∧ r = 4 - k ∧ i = .int .i64 k ∧ (1 ≤ k → xq = true) ∧ (2 ≤ k → xk = true) ∧ (3 ≤ k → xv = true) ∧ (4 ≤ k → xo = true) ∧ Below w2.heap.size w2 wr)
      case atStart => exact ⟨0, by omega, by omega, rfl, fun h => by omega, fun h => by omega, fun h => by omega, fun h => by omega, Below.refl _ _⟩
      case round =>
        obtain ⟨k, hk, rfl, rfl, q1, q2, q3, q4, B3⟩ := hrel
        have Z0 := Y0.below B3
        have Z1 := Y1.below B3
        have ZM := XM.below B3
        have s3 := B3.size
        have s2 := B2.size
        have BK := B3
        replace B3 := below_then B2 B3
        by_cases hlt : k < 4
        · have hor : k = 0 ∨ k = 1 ∨ k = 2 ∨ k = 3 := by omega
          have a1 : wr.cell? ⟨w.heap.size, 1, none⟩ = some (.int .i64 (sn : Int)) := Z0.cell 1 rfl
          rcases hor with rfl | rfl | rfl | rfl
          · have m0 : wr.cell? ⟨w.heap.size + 1 + 1, 0, none⟩ = some (.int .i64 qr) := ZM.cell 0 rfl
            have m1 : wr.cell? ⟨w.heap.size + 1 + 1, 1, none⟩ = some (.int .i64 qc) := ZM.cell 1 rfl
            have m2 : wr.cell? ⟨w.heap.size + 1 + 1, 2, none⟩ = some (.slice qa qn qz) := ZM.cell 2 rfl
            have XX := box_new wr qr qc qa qn qz
            have BX : Below wr.heap.size wr (wr.alloc (.cells #[.int .i64 qr, .int .i64 qc, .slice qa qn qz] 26)) := (Below.refl _ _).alloc (Nat.le_refl _) _
            generalize hwx : wr.alloc (.cells #[.int .i64 qr, .int .i64 qc, .slice qa qn qz] 26) = wx at *
            have x0 := XX.c0
            have x1 := XX.c1
            have x2 := XX.c2
            have d1 : wx.cell? ⟨w.heap.size, 1, none⟩ = some (.int .i64 (sn : Int)) := (Z0.below BX).cell 1 rfl
            go_wp2_with fail
            refine (HQ wx).mono ?_
            rintro e wy ⟨rfl, BY⟩
            have Bz := below_then BX BY
            have Bw := below_then B3 Bz
            clear hwx XX BX x0 x1 x2 d1 m0 m1 m2 a1 BY
            cases xq with
            | false =>
              have HF : Hid (res = false) := by show _ = _; rw [HB2.out]; simp
              go_wp2
              go_ret
              exact ⟨by rw [HF.out]; rfl, Bw⟩
            | true =>
              go_wp2
              go_roundg (4 - (0 + 1))
              case measure => omega
              case rel => exact ⟨1, by omega, rfl, by go_num, (by first | exact fun _ => rfl | exact fun _ => trivial), fun h => by omega, fun h => by omega, fun h => by omega, BK.trans (Bz.mono s3)⟩
          · have m0 : wr.cell? ⟨w.heap.size + 1 + 1, 3, none⟩ = some (.int .i64 kr) := ZM.cell 3 rfl
            have m1 : wr.cell? ⟨w.heap.size + 1 + 1, 4, none⟩ = some (.int .i64 kc) := ZM.cell 4 rfl
            have m2 : wr.cell? ⟨w.heap.size + 1 + 1, 5, none⟩ = some (.slice ka kn kz) := ZM.cell 5 rfl
            have XX := box_new wr kr kc ka kn kz
            have BX : Below wr.heap.size wr (wr.alloc (.cells #[.int .i64 kr, .int .i64 kc, .slice ka kn kz] 26)) := (Below.refl _ _).alloc (Nat.le_refl _) _
            generalize hwx : wr.alloc (.cells #[.int .i64 kr, .int .i64 kc, .slice ka kn kz] 26) = wx at *
            have x0 := XX.c0
            have x1 := XX.c1
            have x2 := XX.c2
            have d1 : wx.cell? ⟨w.heap.size, 1, none⟩ = some (.int .i64 (sn : Int)) := (Z0.below BX).cell 1 rfl
            go_wp2_with fail
            refine (HK wx).mono ?_
            rintro e wy ⟨rfl, BY⟩
            have Bz := below_then BX BY
            have Bw := below_then B3 Bz
            clear hwx XX BX x0 x1 x2 d1 m0 m1 m2 a1 BY
            cases xk with
            | false =>
              have HF : Hid (res = false) := by show _ = _; rw [HB2.out]; simp
              go_wp2
              go_ret
              exact ⟨by rw [HF.out]; rfl, Bw⟩
            | true =>
              go_wp2
              go_roundg (4 - (1 + 1))
              case measure => omega
              case rel => exact ⟨2, by omega, rfl, by go_num, fun _ => q1 (by omega), (by first | exact fun _ => rfl | exact fun _ => trivial), fun h => by omega, fun h => by omega, BK.trans (Bz.mono s3)⟩
          · have m0 : wr.cell? ⟨w.heap.size + 1 + 1, 6, none⟩ = some (.int .i64 vr) := ZM.cell 6 rfl
            have m1 : wr.cell? ⟨w.heap.size + 1 + 1, 7, none⟩ = some (.int .i64 vc) := ZM.cell 7 rfl
            have m2 : wr.cell? ⟨w.heap.size + 1 + 1, 8, none⟩ = some (.slice va vn vz) := ZM.cell 8 rfl
            have XX := box_new wr vr vc va vn vz
            have BX : Below wr.heap.size wr (wr.alloc (.cells #[.int .i64 vr, .int .i64 vc, .slice va vn vz] 26)) := (Below.refl _ _).alloc (Nat.le_refl _) _
            generalize hwx : wr.alloc (.cells #[.int .i64 vr, .int .i64 vc, .slice va vn vz] 26) = wx at *
            have x0 := XX.c0
            have x1 := XX.c1
            have x2 := XX.c2
            have d1 : wx.cell? ⟨w.heap.size, 1, none⟩ = some (.int .i64 (sn : Int)) := (Z0.below BX).cell 1 rfl
            go_wp2_with fail
            refine (HV wx).mono ?_
            rintro e wy ⟨rfl, BY⟩
            have Bz := below_then BX BY
            have Bw := below_then B3 Bz
            clear hwx XX BX x0 x1 x2 d1 m0 m1 m2 a1 BY
            cases xv with
            | false =>
              have HF : Hid (res = false) := by show _ = _; rw [HB2.out]; simp
              go_wp2
              go_ret
              exact ⟨by rw [HF.out]; rfl, Bw⟩
            | true =>
              go_wp2
              go_roundg (4 - (2 + 1))
              case measure => omega
              case rel => exact ⟨3, by omega, rfl, by go_num, fun _ => q1 (by omega), fun _ => q2 (by omega), (by first | exact fun _ => rfl | exact fun _ => trivial), fun h => by omega, BK.trans (Bz.mono s3)⟩
          · have m0 : wr.cell? ⟨w.heap.size + 1 + 1, 9, none⟩ = some (.int .i64 or) := ZM.cell 9 rfl
            have m1 : wr.cell? ⟨w.heap.size + 1 + 1, 10, none⟩ = some (.int .i64 oc) := ZM.cell 10 rfl
            have m2 : wr.cell? ⟨w.heap.size + 1 + 1, 11, none⟩ = some (.slice oa on oz) := ZM.cell 11 rfl
            have XX := box_new wr or oc oa on oz
            have BX : Below wr.heap.size wr (wr.alloc (.cells #[.int .i64 or, .int .i64 oc, .slice oa on oz] 26)) := (Below.refl _ _).alloc (Nat.le_refl _) _
            generalize hwx : wr.alloc (.cells #[.int .i64 or, .int .i64 oc, .slice oa on oz] 26) = wx at *
            have x0 := XX.c0
            have x1 := XX.c1
            have x2 := XX.c2
            have d1 : wx.cell? ⟨w.heap.size, 1, none⟩ = some (.int .i64 (sn : Int)) := (Z0.below BX).cell 1 rfl
            go_wp2_with fail
            refine (HO wx).mono ?_
            rintro e wy ⟨rfl, BY⟩
            have Bz := below_then BX BY
            have Bw := below_then B3 Bz
            clear hwx XX BX x0 x1 x2 d1 m0 m1 m2 a1 BY
            cases xo with
            | false =>
              have HF : Hid (res = false) := by show _ = _; rw [HB2.out]; simp
              go_wp2
              go_ret
              exact ⟨by rw [HF.out]; rfl, Bw⟩
            | true =>
              go_wp2
              go_roundg (4 - (3 + 1))
              case measure => omega
              case rel => exact ⟨4, by omega, rfl, by go_num, fun _ => q1 (by omega), fun _ => q2 (by omega), fun _ => q3 (by omega), (by first | exact fun _ => rfl | exact fun _ => trivial), BK.trans (Bz.mono s3)⟩
        · obtain rfl : k = 4 := by omega
          obtain rfl := q1 (by omega)
          obtain rfl := q2 (by omega)
          obtain rfl := q3 (by omega)
          obtain rfl := q4 (by omega)
          have HB3 : Hid (res = (xu && xd)) := by show _ = _; rw [HB2.out]; simp
          have b14 : wr.cell? ⟨w.heap.size + 1, 14, none⟩ = some (.int .i64 ur) := Z1.cell 14 rfl
          have b15 : wr.cell? ⟨w.heap.size + 1, 15, none⟩ = some (.int .i64 uc) := Z1.cell 15 rfl
          have b16 : wr.cell? ⟨w.heap.size + 1, 16, none⟩ = some (.slice ua un uz) := Z1.cell 16 rfl
          have b17 : wr.cell? ⟨w.heap.size + 1, 17, none⟩ = some (.int .i64 dr) := Z1.cell 17 rfl
          have b18 : wr.cell? ⟨w.heap.size + 1, 18, none⟩ = some (.int .i64 dc) := Z1.cell 18 rfl
          have b19 : wr.cell? ⟨w.heap.size + 1, 19, none⟩ = some (.slice da dn dz) := Z1.cell 19 rfl
          have a1 : wr.cell? ⟨w.heap.size, 1, none⟩ = some (.int .i64 (sn : Int)) := Z0.cell 1 rfl
          have a3 : wr.cell? ⟨w.heap.size, 3, none⟩ = some (.int .i64 H) := Z0.cell 3 rfl
          go_wp2_with fail
          refine (HU wr).mono ?_
          rintro e wy ⟨rfl, BY⟩
          have Z0' := Z0.below BY
          have Z1' := Z1.below BY
          have BW := below_then B3 BY
          clear b14 b15 b16 b17 b18 b19 a1 a3 BY
          have b17 : wy.cell? ⟨w.heap.size + 1, 17, none⟩ = some (.int .i64 dr) := Z1'.cell 17 rfl
          have b18 : wy.cell? ⟨w.heap.size + 1, 18, none⟩ = some (.int .i64 dc) := Z1'.cell 18 rfl
          have b19 : wy.cell? ⟨w.heap.size + 1, 19, none⟩ = some (.slice da dn dz) := Z1'.cell 19 rfl
          have a1 : wy.cell? ⟨w.heap.size, 1, none⟩ = some (.int .i64 (sn : Int)) := Z0'.cell 1 rfl
          have a3 : wy.cell? ⟨w.heap.size, 3, none⟩ = some (.int .i64 H) := Z0'.cell 3 rfl
          cases xu with
          | false =>
            go_wp2
            go_ret
            exact ⟨by rw [HB3.out]; rfl, BW⟩
          | true =>
            go_wp2_with (go_at_call 54; refine (HD _).mono ?_; rintro e wz ⟨rfl, BZ⟩)
            go_ret
            exact ⟨by rw [HB3.out]; rfl, below_then BW BZ⟩
    · have HF : Hid (res = false) := by show _ = _; rw [HB.out, decide_eq_false h2]; simp
      clear HB
      subst h1
      have h2' : ((sn : Int) == (fn : Int)) = false := by simpa using h2
      go_enter Tryd.func55, Tryd.ntmps55
      go_wp2
      go_ret
      exact ⟨by rw [HF.out]; rfl, B1⟩
  · have HF : Hid (res = false) := by show _ = _; rw [HB.out, decide_eq_false h1]; simp
    have h1' : ((fn : Int) == D) = false := by simpa using h1
    clear HB
    go_enter Tryd.func55, Tryd.ntmps55
    go_wp2
    go_ret
    exact ⟨by rw [HF.out]; rfl, B1⟩
end Go.Proofs.YtoofbjpekdlfiaaDoor

/- Whether all numbers fit a configuration. -/
namespace Go.Proofs.YtoofbjpekdlfiaaDoor
open Go.ChangeShapes Go.WideShapes Go.ChangeAt Go.RowKit
/-- In w the slice b reads as the layers bs. -/
structure BlocksAt (w : World) (b : Sl) (bs : List Bk) : Prop where
  len : bs.length = b.n
  max : b.n ≤ 9223372036854775807
  ok : ∀ x ∈ bs, x.Ok
  cells : 0 < b.n → ∃ g o, b.ao = some ⟨g, o, none⟩ ∧ ∀ (t : Nat) (x : Bk), bs[t]? = some x → w.rangeAt g (o + t * 20) x.cells.toList
theorem BlocksAt.below {w w' : World} {b : Sl} {bs : List Bk} (h : BlocksAt w b bs) (hb : Below w.heap.size w w') : BlocksAt w' b bs := by
  refine ⟨h.len, h.max, h.ok, fun hn => ?_⟩
  obtain ⟨g, o, e, hc⟩ := h.cells hn
  refine ⟨g, o, e, fun t x hx => ?_⟩
  have r := hc t x hx
  have c0 := r 0 x.f.v rfl
  have hlt : g < w.heap.size := by simpa using World.block_lt_of_cell? w _ c0
  exact rangeAt_block r (hb.block g hlt)
def fitsB (V D H L : Int) (W : Wt) (bs : List Bk) : Bool := sidesB W.e V D && sidesB W.o V D && decide ((W.l.n : Int) = D) && decide ((W.b.n : Int) = L) && bs.all (bkB D H)
structure Wt.Ok (W : Wt) : Prop where
  e : W.e.Ok
  l : W.l.n ≤ 9223372036854775807
  o : W.o.Ok
theorem bk_one (b : Bk) : b.cells.all (·.oneCell') = true := by simp [Bk.cells, bcs, Sl.v, Value.oneCell']
theorem bk_size (b : Bk) : b.cells.size = 20 := rfl
theorem all_take {bs : List Bk} {p : Bk → Bool} {t : Nat} {x : Bk} (h : bs[t]? = some x) : (bs.take (t + 1)).all p = ((bs.take t).all p && p x) := by
  rw [List.take_add_one, h, List.all_append]; simp
set_option maxRecDepth 100000 in
set_option maxHeartbeats 3200000 in
theorem fits_any (V D Hd H L : Int) (W : Wt) (bs : List Bk) (w : World) (hW : W.Ok) (hb : BlocksAt w W.b bs) (hD : I64 D) (hL : I64 L) :
   Calls Tryd.prog 32 #[.agg (cfgC V D Hd H L), .agg W.cells] w fun e w' => e = .returned (.bool (fitsB V D H L W bs)) ∧ Below w.heap.size w w' := by
  have HE := fun wv => hasSides_any W.e V D wv hW.e
  have HO := fun wv => hasSides_any W.o V D wv hW.o
  have HX := fun (x : Bk) (hx : x.Ok) wv => blockFits_any V D Hd H L x wv hx hD
  have hl := hW.l
  clear hW
  have HB : Hid (fitsB V D H L W bs = (sidesB W.e V D && sidesB W.o V D && decide ((W.l.n : Int) = D) && decide ((W.b.n : Int) = L) && bs.all (bkB D H))) := rfl
  generalize fitsB V D H L W bs = res at *
  generalize sidesB W.e V D = xe at *
  generalize sidesB W.o V D = xo at *
  obtain ⟨⟨er, ec, ⟨ea, en, ez⟩⟩, ⟨ba, bn, bz⟩, ⟨la, ln, lz⟩, ⟨or, oc, ⟨oa, on, oz⟩⟩⟩ := W
  unfold I64 at hD hL
  have hmax := hb.max
  simp only at hmax hl HB
  show Calls Tryd.prog 32 #[.agg #[.int .i64 V, .int .i64 D, .int .i64 Hd, .int .i64 H, .int .i64 L], .agg #[.int .i64 er, .int .i64 ec, .slice ea en ez, .slice ba bn bz, .slice la ln lz, .int .i64 or, .int .i64 oc, .slice oa on oz]] w _
  have X0 := blk_new w 23 #[.int .i64 V, .int .i64 D, .int .i64 Hd, .int .i64 H, .int .i64 L]
  have B0 : Below w.heap.size w (w.alloc (.cells #[.int .i64 V, .int .i64 D, .int .i64 Hd, .int .i64 H, .int .i64 L] 23)) := (Below.refl _ _).alloc (Nat.le_refl _) _
  have s0 : (w.alloc (.cells #[.int .i64 V, .int .i64 D, .int .i64 Hd, .int .i64 H, .int .i64 L] 23)).heap.size = w.heap.size + 1 := by simp
  generalize hw0 : w.alloc (.cells #[.int .i64 V, .int .i64 D, .int .i64 Hd, .int .i64 H, .int .i64 L] 23) = w0 at *
  have X1 := blk_new w0 29 #[.int .i64 er, .int .i64 ec, .slice ea en ez, .slice ba bn bz, .slice la ln lz, .int .i64 or, .int .i64 oc, .slice oa on oz]
  have B1 : Below w0.heap.size w0 (w0.alloc (.cells #[.int .i64 er, .int .i64 ec, .slice ea en ez, .slice ba bn bz, .slice la ln lz, .int .i64 or, .int .i64 oc, .slice oa on oz] 29)) := (Below.refl _ _).alloc (Nat.le_refl _) _
  rw [s0] at X1
  generalize hw1 : w0.alloc (.cells #[.int .i64 er, .int .i64 ec, .slice ea en ez, .slice ba bn bz, .slice la ln lz, .int .i64 or, .int .i64 oc, .slice oa on oz] 29) = w1 at *
  replace X0 := X0.below B1
  replace B1 := below_then B0 B1
  replace hb := hb.below B1
  unfold matV at *
  simp only at HE HO
  have a0 : w1.cell? ⟨w.heap.size, 0, none⟩ = some (.int .i64 V) := X0.cell 0 rfl
  have a1 : w1.cell? ⟨w.heap.size, 1, none⟩ = some (.int .i64 D) := X0.cell 1 rfl
  have b0 : w1.cell? ⟨w.heap.size + 1, 0, none⟩ = some (.int .i64 er) := X1.cell 0 rfl
  have b1 : w1.cell? ⟨w.heap.size + 1, 1, none⟩ = some (.int .i64 ec) := X1.cell 1 rfl
  have b2 : w1.cell? ⟨w.heap.size + 1, 2, none⟩ = some (.slice ea en ez) := X1.cell 2 rfl
  go_enter Tryd.func32, Tryd.ntmps32
  go_wp2_with fail
  refine (HE w1).mono ?_
  rintro e w2 ⟨rfl, B2⟩
  replace X0 := X0.below B2
  replace X1 := X1.below B2
  replace hb := hb.below B2
  replace B2 := below_then B1 B2
  clear a0 a1 b0 b1 b2 hw0 hw1 s0 B0 B1 HE
  cases xe with
  | false =>
    have HF : Hid (res = false) := by show _ = _; rw [HB.out]; simp
    clear HB
    go_wp2
    go_ret
    exact ⟨by rw [HF.out]; rfl, B2⟩
  | true =>
    have a0 : w2.cell? ⟨w.heap.size, 0, none⟩ = some (.int .i64 V) := X0.cell 0 rfl
    have a1 : w2.cell? ⟨w.heap.size, 1, none⟩ = some (.int .i64 D) := X0.cell 1 rfl
    have b5 : w2.cell? ⟨w.heap.size + 1, 5, none⟩ = some (.int .i64 or) := X1.cell 5 rfl
    have b6 : w2.cell? ⟨w.heap.size + 1, 6, none⟩ = some (.int .i64 oc) := X1.cell 6 rfl
    have b7 : w2.cell? ⟨w.heap.size + 1, 7, none⟩ = some (.slice oa on oz) := X1.cell 7 rfl
    go_wp2_with fail
    refine (HO w2).mono ?_
    rintro e w3 ⟨rfl, B3⟩
    replace X0 := X0.below B3
    replace X1 := X1.below B3
    replace hb := hb.below B3
    replace B3 := below_then B2 B3
    clear a0 a1 b5 b6 b7 B2 HO
    cases xo with
    | false =>
      have HF : Hid (res = false) := by show _ = _; rw [HB.out]; simp
      clear HB
      go_wp2
      go_ret
      exact ⟨by rw [HF.out]; rfl, B3⟩
    | true =>
      have a1 : w3.cell? ⟨w.heap.size, 1, none⟩ = some (.int .i64 D) := X0.cell 1 rfl
      have a4 : w3.cell? ⟨w.heap.size, 4, none⟩ = some (.int .i64 L) := X0.cell 4 rfl
      have b3 : w3.cell? ⟨w.heap.size + 1, 3, none⟩ = some (.slice ba bn bz) := X1.cell 3 rfl
      have b4 : w3.cell? ⟨w.heap.size + 1, 4, none⟩ = some (.slice la ln lz) := X1.cell 4 rfl
      by_cases h1 : (ln : Int) = D
      · by_cases h2 : (bn : Int) = L
        · have HB2 : Hid (res = bs.all (bkB D H)) := by show _ = _; rw [HB.out, decide_eq_true h1, decide_eq_true h2]; simp
          clear HB
          subst h1 h2
          go_wp2_with fail
          clear a1 a4 b3 b4
          go_loopg [42] bn (fun r i wr => ∃ t : Nat, t ≤ bn ∧ r = bn - t ∧ i = .int .i64 t ∧ (bs.take t).all (bkB ln H) = true ∧ Below w3.heap.size w3 wr)
          case atStart => exact ⟨0, by omega, by omega, rfl, by simp, Below.refl _ _⟩
          case round =>
            obtain ⟨t, ht, rfl, rfl, hal, B4⟩ := hrel
            have Z0 := X0.below B4
            have hb4 := hb.below B4
            have BW := below_then B3 B4
            by_cases hlt : t < bn
            · have hlen := hb.len
              simp only at hlen
              obtain ⟨x, hx⟩ : ∃ x, bs[t]? = some x := ⟨_, List.getElem?_eq_getElem (by omega)⟩
              have hxo := hb.ok x (List.mem_of_getElem? hx)
              obtain ⟨g, o, e0, hc⟩ := hb4.cells (by show 0 < bn; omega)
              simp only at e0
              subst e0
              have r0 := hc t x hx
              have HT := all_take (p := bkB ln H) hx
              rw [hal, Bool.true_and] at HT
              have HC := HX x hxo
              have HR : Hid (bkB ln H x = false → res = false) := fun hf => by
                rw [HB2.out]
                rw [← Bool.not_eq_true]
                intro hall
                have := List.all_eq_true.1 hall x (List.mem_of_getElem? hx)
                rw [hf] at this
                cases this
              generalize bkB ln H x = xb at *
              have one := bk_one x
              have siz := bk_size x
              generalize x.cells = cs at *
              have XZ := blk_new wr 59 #[.slice none 0 0, .int .i64 0, .int .i64 0, .slice none 0 0, .int .i64 0, .int .i64 0, .slice none 0 0, .int .i64 0, .int .i64 0, .slice none 0 0, .int .i64 0, .int .i64 0, .slice none 0 0, .slice none 0 0, .int .i64 0, .int .i64 0, .slice none 0 0, .int .i64 0, .int .i64 0, .slice none 0 0]
              have BZ : Below wr.heap.size wr (wr.alloc (.cells #[.slice none 0 0, .int .i64 0, .int .i64 0, .slice none 0 0, .int .i64 0, .int .i64 0, .slice none 0 0, .int .i64 0, .int .i64 0, .slice none 0 0, .int .i64 0, .int .i64 0, .slice none 0 0, .slice none 0 0, .int .i64 0, .int .i64 0, .slice none 0 0, .int .i64 0, .int .i64 0, .slice none 0 0] 59)) := (Below.refl _ _).alloc (Nat.le_refl _) _
              generalize hwz : wr.alloc (.cells #[.slice none 0 0, .int .i64 0, .int .i64 0, .slice none 0 0, .int .i64 0, .int .i64 0, .slice none 0 0, .int .i64 0, .int .i64 0, .slice none 0 0, .int .i64 0, .int .i64 0, .slice none 0 0, .slice none 0 0, .int .i64 0, .int .i64 0, .slice none 0 0, .int .i64 0, .int .i64 0, .slice none 0 0] 59) = wz at *
              have XR := XZ.row cs
              have BR := below_setRow BZ (Nat.le_refl _) cs
              generalize hwy : wz.setRow wr.heap.size cs = wy at *
              replace Z0 := Z0.below BR
              have s4 := B4.size
              have BK := B4.trans (BR.mono s4)
              replace BW := below_then BW BR
              have a0 : wy.cell? ⟨w.heap.size, 0, none⟩ = some (.int .i64 V) := Z0.cell 0 rfl
              have a1 : wy.cell? ⟨w.heap.size, 1, none⟩ = some (.int .i64 (ln : Int)) := Z0.cell 1 rfl
              have a2 : wy.cell? ⟨w.heap.size, 2, none⟩ = some (.int .i64 Hd) := Z0.cell 2 rfl
              have a3 : wy.cell? ⟨w.heap.size, 3, none⟩ = some (.int .i64 H) := Z0.cell 3 rfl
              have a4 : wy.cell? ⟨w.heap.size, 4, none⟩ = some (.int .i64 (bn : Int)) := Z0.cell 4 rfl
              have HL : Hid (cs.toList.toArray = cs) := by show _ = _; simp
              unfold cfgC at HC
              clear hc hb4 X0 X1 hb HX
              go_wp2_with (first | (refine wpList_load_mid rfl 59 _ rfl g (o + t * 20) rfl cs.toList _ r0 Tryd.underlying59 rfl (by rw [Array.length_toList, siz]; exact Tryd.infoB) ?_; rw [HL.out]) | (refine wpList_store_row rfl 59 _ _ rfl wr.heap.size cs rfl rfl 59 _ XZ (by rw [siz]; exact Tryd.infoB) siz.symm one ?_; rw [hwy]) | (refine wpList_load_row rfl 59 _ rfl wr.heap.size rfl 59 cs (0, 0) _ XR Tryd.underlying59 rfl (by rw [siz]; exact Tryd.infoB) ?_))
              refine (HC wy).mono ?_
              rintro e wx ⟨rfl, BX⟩
              have sy := BR.size
              replace BW := below_then BW BX
              replace BK := BK.trans (BX.mono (by have := BK.size; omega))
              clear a0 a1 a2 a3 a4 hwz hwy XZ XR r0 HC
              cases xb with
              | false =>
                have HF := HR.out rfl
                have HF' : Hid (res = false) := HF
                clear HF HR HB2
                go_wp2
                go_ret
                exact ⟨by rw [HF'.out]; rfl, BW⟩
              | true =>
                go_wp2
                go_roundg (bn - (t + 1))
                case measure => omega
                case rel => exact ⟨t + 1, by omega, rfl, by go_num, HT, BK⟩
            · obtain rfl : t = bn := by omega
              have hlen := hb.len
              simp only at hlen
              rw [List.take_of_length_le (by omega)] at hal
              have HF : Hid (res = true) := by show _ = _; rw [HB2.out, hal]
              go_wp2
              go_ret
              exact ⟨by rw [HF.out]; rfl, BW⟩
        · have HF : Hid (res = false) := by show _ = _; rw [HB.out, decide_eq_false h2]; simp
          have h2' : ((bn : Int) == L) = false := by simpa using h2
          clear HB
          subst h1
          go_wp2
          go_ret
          exact ⟨by rw [HF.out]; rfl, B3⟩
      · have HF : Hid (res = false) := by show _ = _; rw [HB.out, decide_eq_false h1]; simp
        have h1' : ((ln : Int) == D) = false := by simpa using h1
        clear HB
        go_wp2
        go_ret
        exact ⟨by rw [HF.out]; rfl, B3⟩
/-- The error's number of numbers for a configuration. -/
def checkN (V D Hd H L : Int) (W : Wt) (bs : List Bk) : Int := if shapeN V D Hd H L ≠ 0 then shapeN V D Hd H L else if fitsB V D H L W bs = true then 0 else 4
set_option maxRecDepth 100000 in
set_option maxHeartbeats 1600000 in
theorem mcheck_any (C : Cfg) (hC : C.Ok) (W : Wt) (bs : List Bk) (w : World) (hW : W.Ok) (hb : BlocksAt w W.b bs) :
   Calls Tryd.prog 19 #[C.val, .agg W.cells] w fun e w' => e = .returned (.int .i64 (checkN C.V C.D C.Hd C.H C.L W bs)) ∧ Below w.heap.size w w' := by
  obtain ⟨V, D, Hd, H, L⟩ := C
  have SH := fun wv => shape_any V D Hd H L wv hC.V hC.D hC.Hd hC.H hC.L
  have FT := fun wv hbv => fits_any V D Hd H L W bs wv hW hbv hC.D hC.L
  have HN : Hid (checkN V D Hd H L W bs = if shapeN V D Hd H L ≠ 0 then shapeN V D Hd H L else if fitsB V D H L W bs = true then 0 else 4) := rfl
  show Calls Tryd.prog 19 #[.agg (cfgC V D Hd H L), .agg W.cells] w fun e w' => e = .returned (.int .i64 (checkN V D Hd H L W bs)) ∧ Below w.heap.size w w'
  generalize checkN V D Hd H L W bs = res at *
  generalize shapeN V D Hd H L = q at *
  generalize fitsB V D H L W bs = xf at *
  have siz : W.cells.size = 8 := rfl
  have one : W.cells.all (·.oneCell') = true := by simp [Wt.cells, Sl.v, Value.oneCell']
  generalize W.cells = ws at *
  unfold cfgC at *
  have X0 := blk_new w 23 #[.int .i64 V, .int .i64 D, .int .i64 Hd, .int .i64 H, .int .i64 L]
  have B0 : Below w.heap.size w (w.alloc (.cells #[.int .i64 V, .int .i64 D, .int .i64 Hd, .int .i64 H, .int .i64 L] 23)) := (Below.refl _ _).alloc (Nat.le_refl _) _
  have s0 : (w.alloc (.cells #[.int .i64 V, .int .i64 D, .int .i64 Hd, .int .i64 H, .int .i64 L] 23)).heap.size = w.heap.size + 1 := by simp
  generalize hw0 : w.alloc (.cells #[.int .i64 V, .int .i64 D, .int .i64 Hd, .int .i64 H, .int .i64 L] 23) = w0 at *
  have X1 := blk_new w0 29 ws
  have B1 : Below w0.heap.size w0 (w0.alloc (.cells ws 29)) := (Below.refl _ _).alloc (Nat.le_refl _) _
  rw [s0] at X1
  generalize hw1 : w0.alloc (.cells ws 29) = w1 at *
  replace X0 := X0.below B1
  replace B1 := below_then B0 B1
  replace hb := hb.below B1
  have a0 : w1.cell? ⟨w.heap.size, 0, none⟩ = some (.int .i64 V) := X0.cell 0 rfl
  have a1 : w1.cell? ⟨w.heap.size, 1, none⟩ = some (.int .i64 D) := X0.cell 1 rfl
  have a2 : w1.cell? ⟨w.heap.size, 2, none⟩ = some (.int .i64 Hd) := X0.cell 2 rfl
  have a3 : w1.cell? ⟨w.heap.size, 3, none⟩ = some (.int .i64 H) := X0.cell 3 rfl
  have a4 : w1.cell? ⟨w.heap.size, 4, none⟩ = some (.int .i64 L) := X0.cell 4 rfl
  go_enter Tryd.func19, Tryd.ntmps19
  go_wp2_with fail
  refine (SH w1).mono ?_
  rintro e w2 ⟨rfl, B2⟩
  replace X0 := X0.below B2
  replace X1 := X1.below B2
  replace hb := hb.below B2
  replace B2 := below_then B1 B2
  clear a0 a1 a2 a3 a4 hw0 hw1 s0 B0 B1 SH
  by_cases hq : q = 0
  · subst hq
    have HR : Hid (res = if xf = true then 0 else 4) := by show _ = _; rw [HN.out, if_neg (by simp)]
    clear HN
    have a0 : w2.cell? ⟨w.heap.size, 0, none⟩ = some (.int .i64 V) := X0.cell 0 rfl
    have a1 : w2.cell? ⟨w.heap.size, 1, none⟩ = some (.int .i64 D) := X0.cell 1 rfl
    have a2 : w2.cell? ⟨w.heap.size, 2, none⟩ = some (.int .i64 Hd) := X0.cell 2 rfl
    have a3 : w2.cell? ⟨w.heap.size, 3, none⟩ = some (.int .i64 H) := X0.cell 3 rfl
    have a4 : w2.cell? ⟨w.heap.size, 4, none⟩ = some (.int .i64 L) := X0.cell 4 rfl
    go_wp2_with (refine wpList_load_row rfl 29 _ rfl (w.heap.size + 1) rfl 29 ws (0, 0) _ X1 Tryd.underlying29 rfl (by rw [siz]; exact Tryd.infoW) ?_)
    refine (FT w2 hb).mono ?_
    rintro e w3 ⟨rfl, B3⟩
    cases xf with
    | false =>
      have HF : Hid (res = 4) := by show _ = _; rw [HR.out]; rfl
      clear HR
      go_wp2
      go_ret
      exact ⟨ret_int HF.out.symm, below_then B2 B3⟩
    | true =>
      have HF : Hid (res = 0) := by show _ = _; rw [HR.out]; rfl
      clear HR
      go_wp2
      go_ret
      exact ⟨ret_int HF.out.symm, below_then B2 B3⟩
  · have HF : Hid (res = q) := by show _ = _; rw [HN.out, if_pos hq]
    have hq' : (q == 0) = false := by simpa using hq
    clear HN
    go_wp2
    go_ret
    exact ⟨ret_int HF.out.symm, B2⟩
end Go.Proofs.YtoofbjpekdlfiaaDoor

/- A model's numbers as the document's, all of them: the same rows, the layers in a row of their own. -/
namespace Go.Proofs.YtoofbjpekdlfiaaDoor
open Go.ChangeShapes Go.WideShapes Go.ChangeAt Go.RowKit
theorem Tryd.infoRB : (Tryd.prog.info? 60).map (fun i => (i.zero, i.size, i.bytes)) = some (some (.agg #[.slice none 0 0, .int .i64 0, .int .i64 0, .slice none 0 0, .int .i64 0, .int .i64 0, .slice none 0 0, .int .i64 0, .int .i64 0, .slice none 0 0, .int .i64 0, .int .i64 0, .slice none 0 0, .slice none 0 0, .int .i64 0, .int .i64 0, .slice none 0 0, .int .i64 0, .int .i64 0, .slice none 0 0]), 20, 288) := by kernel_rfl
theorem Tryd.infoRB1 : (Tryd.prog.info? 60).map (·.size) = some 20 := by kernel_rfl
theorem Tryd.infoRW : (Tryd.prog.info? 33).map (·.size) = some 8 := by kernel_rfl
/-- Layers, cell behind cell. -/
def flat (bs : List Bk) : List Value := bs.flatMap fun b => b.cells.toList
theorem flat_len : ∀ bs : List Bk, (flat bs).length = bs.length * 20
  | [] => rfl
  | b :: bs => by
    have := flat_len bs
    unfold flat at *
    rw [List.flatMap_cons, List.length_append, this, List.length_cons]
    show 20 + bs.length * 20 = _
    omega
theorem flat_cons (b : Bk) (bs : List Bk) : flat (b :: bs) = b.cells.toList ++ flat bs := by unfold flat; rw [List.flatMap_cons]
theorem bk_len (b : Bk) : b.cells.toList.length = 20 := rfl
theorem flat_at : ∀ (bs : List Bk) (t : Nat) (x : Bk), bs[t]? = some x → ∀ (j : Nat) (v : Value), x.cells.toList[j]? = some v → (flat bs)[t * 20 + j]? = some v
  | [], t, x, h, _, _, _ => by simp at h
  | b :: bs, t, x, h, j, v, hv => by
    have hl := bk_len b
    have hx := bk_len x
    have hj : j < 20 := by have := (List.getElem?_eq_some_iff.1 hv).1; omega
    cases t with
    | zero =>
      simp at h
      subst h
      rw [flat_cons, Nat.zero_mul, Nat.zero_add, List.getElem?_append_left (by omega)]
      exact hv
    | succ t =>
      have ih := flat_at bs t x (by simpa using h) j v hv
      rw [flat_cons, List.getElem?_append_right (by omega), hl, show (t + 1) * 20 + j - 20 = t * 20 + j by omega]
      exact ih
/-- A row of layers of the call's own. -/
structure OwnB (w : World) (B : Nat) (s : Sl) (bs : List Bk) : Prop where
  own : w.ownsRow B 60 20 s.v s.n (flat bs)
  ok : ∀ x ∈ bs, x.Ok
  few : s.n ≤ 1000000
theorem OwnB.len {w : World} {B : Nat} {s : Sl} {bs : List Bk} (h : OwnB w B s bs) : bs.length = s.n := by
  have := h.own.1
  rw [flat_len] at this
  omega
theorem OwnB.blocks {w : World} {B : Nat} {s : Sl} {bs : List Bk} (h : OwnB w B s bs) : BlocksAt w s bs := by
  refine ⟨h.len, by have := h.few; omega, h.ok, fun hn => ?_⟩
  rcases h.own.2 with ⟨h0, h1⟩ | ⟨g, cap, cur, hv, _⟩
  · omega
  · unfold Sl.v at hv
    simp only [Value.slice.injEq, true_and] at hv
    refine ⟨g, 0, hv.1, fun t x hx j v hv2 => ?_⟩
    have hc := h.own.cells (g := g) (by unfold Sl.v; rw [hv.1]; rfl) (t * 20 + j) v (flat_at bs t x hx j v hv2)
    rw [Addr.add_mid] at hc
    rw [Nat.zero_add] at hc ⊢
    exact hc
theorem OwnB.below {w w' : World} {B : Nat} {s : Sl} {bs : List Bk} (h : OwnB w B s bs) (hb : Below w.heap.size w w') : OwnB w' B s bs := by
  obtain ⟨h1, h2⟩ := h.own
  refine ⟨⟨h1, ?_⟩, h.ok, h.few⟩
  rcases h2 with h2 | ⟨g, cap, cur, hv, hg, hh, r⟩
  · exact Or.inl h2
  · exact Or.inr ⟨g, cap, cur, hv, hg, by rw [hb.block g (Array.getElem?_eq_some_iff.1 hh).1]; exact hh, r⟩
theorem ownB_nil (w : World) (B : Nat) : OwnB w B ⟨none, 0, 0⟩ [] := ⟨World.ownsRow_nil _ _ _ _, (fun x hx => by cases hx), (by show 0 ≤ 1000000; omega)⟩
/-- append(out, block). -/
theorem wpList_append_block {w : World} {ops : Array Oper} {rest : List Oper} {o : Oper} {a : Act} {Q : Exit → Act → World → Prop} (hgd : o.guard = none) (s x : Operand)
    (ho : o.op = .call { callee := .builtin .append, args := #[s, x], argTypes := #[31, 31] })
    (B : Nat) (S : Sl) (bs : List Bk) (hs : a.eval s = S.v) (hF : OwnB w B S bs) (bo : Nat) (y : Bk) (hx : a.eval x = .slice (some ⟨bo, 0, none⟩) 1 1) (hX : Blk w bo 60 y.cells) (hy : y.Ok)
    (hlen : S.n + 1 ≤ 1000000) (hB : B ≤ w.heap.size)
    (h : ∀ S' w', S'.n = S.n + 1 → OwnB w' B S' (bs ++ [y]) → Below B w w' → wpList Tryd.prog ops Q rest (a.put o.dst S'.v) w') : wpList Tryd.prog ops Q (o :: rest) a w := by
  obtain ⟨i0, hi, hz0, hz1, hz2⟩ := info_parts Tryd.infoRB
  refine wpList_append_own w hgd s x 31 ho B 60 i0 (.agg #[.slice none 0 0, .int .i64 0, .int .i64 0, .slice none 0 0, .int .i64 0, .int .i64 0, .slice none 0 0, .int .i64 0, .int .i64 0, .slice none 0 0, .int .i64 0, .int .i64 0, .slice none 0 0, .slice none 0 0, .int .i64 0, .int .i64 0, .slice none 0 0, .int .i64 0, .int .i64 0, .slice none 0 0]) 20 288 Tryd.underlying31 hi hz0 hz1 hz2 rfl (by decide) _ S.n _ hs hF.own ⟨bo, 0, none⟩ 1 1 y.cells.toList hx rfl ?_ ?_ (by unfold maxLen; omega) (by omega) hB ?_
  · intro j u hj
    rw [Addr.add_mid, Nat.zero_add]
    exact hX.cell j (by simpa using hj)
  · intro u hu
    exact (Array.all_eq_true_iff_forall_mem.1 (bk_one y)) u (by simpa using hu)
  · intro v' w' hown hg hnil
    have hb : Below B w w' := (Below.refl _ _).grown hg hB (fun k hk => (hF.own.lt k hk).1)
    have e : flat bs ++ y.cells.toList = flat (bs ++ [y]) := by unfold flat; rw [List.flatMap_append]; simp
    rw [e] at hown
    obtain ⟨h1, h2⟩ := hown
    rcases h2 with ⟨h3, h4⟩ | ⟨g', c', cur, hv, hr⟩
    · omega
    · subst hv
      exact h ⟨some ⟨g', 0, none⟩, S.n + 1, c'⟩ w' rfl ⟨⟨h1, Or.inr ⟨g', c', cur, rfl, hr⟩⟩, fun z hz => (List.mem_append.1 hz).elim (hF.ok z) (fun h => by simp at h; subst h; exact hy), hlen⟩ hb
end Go.Proofs.YtoofbjpekdlfiaaDoor

/- The document's rows and matrices of made numbers. -/
namespace Go.Proofs.YtoofbjpekdlfiaaDoor
open Go.ChangeShapes Go.WideShapes Go.ChangeAt Go.RowKit
theorem tab_snoc4 (n : Nat) (f : Nat → Int) : tab (n + 1) f = tab n f ++ [f n] := by unfold tab; rw [List.range_succ, List.map_append]; rfl
set_option maxHeartbeats 800000 in
theorem rrow_any (seed i n m mo : Nat) (w : World) (hi : i ≤ 500000) (hn : n ≤ 16384) (hm : m ≤ 131072) (h0 : 1 ≤ m) (hmo : mo ≤ 65536) :
   Calls Tryd.prog 44 #[.int .u64 (seed : Int), .int .i64 (i : Int), .int .i64 (n : Int), .int .i64 (m : Int), .int .i64 (mo : Int)] w fun e w' => ∃ g cap, e = .returned (.tuple #[.slice (some ⟨g, 0, none⟩) n cap, .int .i64 ((i + n : Nat) : Int)]) ∧ Fresh w' w.heap.size g n cap (tab n fun j => numN seed (i + j) m + mo) ∧ Below w.heap.size w w' := by
  have F0 := fresh_empty w
  have B0 : Below w.heap.size w (w.alloc (.cells #[] 54)) := (Below.refl _ _).alloc (Nat.le_refl _) _
  go_enter Tryd.func44, Tryd.ntmps44
  go_wp2_with fail
  generalize w.alloc (.cells #[] 54) = w0 at *
  go_loopg [12, 13] n (fun r s q wr => ∃ k g cap : Nat, k ≤ n ∧ r = n - k ∧ q = .int .i64 k ∧ s = .slice (some ⟨g, 0, none⟩) k cap ∧ Fresh wr w.heap.size g k cap (tab k fun j => numN seed (i + j) m + mo) ∧ Below w.heap.size w wr)
  case atStart => exact ⟨0, _, _, by omega, by omega, rfl, rfl, F0, B0⟩
  case round =>
    obtain ⟨k, g, cap, hk, rfl, rfl, rfl, F1, B1⟩ := hrel
    clear F0 B0
    by_cases hlt : k < n
    · have HX : Hid (tab (k + 1) (fun j => numN seed (i + j) m + mo) = tab k (fun j => numN seed (i + j) m + mo) ++ [numN seed (i + k) m + mo]) := tab_snoc4 k _
      have RA : ∀ wv : World, Calls Tryd.prog 66 #[.int .u64 (seed : Int), .int .i64 ((i : Int) + (k : Int)), .int .i64 (m : Int)] wv fun e w' => e = .returned (.int .i32 (numN seed (i + k) m)) ∧ w' = wv := fun wv => by
        have := random_any seed (i + k) m wv (by omega) hm h0
        rwa [Int.natCast_add] at this
      have nb := numN_bd seed (i + k) m hm h0
      generalize numN seed (i + k) m = z at *
      have R := rowAt_one wr (z + mo) (by omega)
      have BA : Below wr.heap.size wr (wr.alloc (.cells #[.int .i32 (z + mo)] 54)) := (Below.refl _ _).alloc (Nat.le_refl _) _
      have F2 := F1.below BA
      have s1 := B1.size
      have s2 := BA.size
      have B2 := below_then B1 BA
      generalize hw2 : wr.alloc (.cells #[.int .i32 (z + mo)] 54) = w2 at *
      go_wp2_with (first | (go_at_call 66; refine (RA _).mono ?_; rintro e wr ⟨rfl, rfl⟩) | (at_builtin; refine wpList_append_row rfl _ _ rfl w.heap.size g k cap _ rfl (by exact F2) (some ⟨wr.heap.size, 0, none⟩) 1 1 _ rfl (by exact R) (fun h => by cases h) (by omega) (by omega) ?_; intro g' cap' w' F3 B3))
      go_roundg (n - (k + 1))
      case measure => omega
      case rel => exact ⟨k + 1, _, _, by omega, rfl, by go_num, rfl, by rw [HX.out]; exact F3, B2.trans B3⟩
    · obtain rfl : k = n := by omega
      go_wp2
      go_ret2
      exact ⟨_, _, rfl, F1, B1⟩
set_option maxHeartbeats 800000 in
theorem rsquare_any (seed i r c m : Nat) (w : World) (hi : i ≤ 500000) (h1 : r ≤ 128) (h2 : c ≤ 128) (hm : m ≤ 131072) (h0 : 1 ≤ m) :
   Calls Tryd.prog 43 #[.int .u64 (seed : Int), .int .i64 (i : Int), .int .i64 (r : Int), .int .i64 (c : Int), .int .i64 (m : Int)] w fun e w' => ∃ g cap, e = .returned (.tuple #[matV r c (some ⟨g, 0, none⟩) (r * c) cap, .int .i64 ((i + r * c : Nat) : Int)]) ∧ Fresh w' w.heap.size g (r * c) cap (numR seed i (r * c) m) ∧ Below w.heap.size w w' := by
  have h6 := size_le h1 h2
  have e1 : (r : Int) * (c : Int) = ((r * c : Nat) : Int) := by rw [Int.natCast_mul]
  have C := fun wv => rrow_any seed i (r * c) m 0 wv hi h6 hm h0 (by omega)
  generalize hrc : r * c = n at *
  have X0 := box_new w 0 0 none 0 0
  have B0 : Below w.heap.size w (w.alloc (.cells #[.int .i64 0, .int .i64 0, .slice none 0 0] 26)) := (Below.refl _ _).alloc (Nat.le_refl _) _
  have s0 : (w.alloc (.cells #[.int .i64 0, .int .i64 0, .slice none 0 0] 26)).heap.size = w.heap.size + 1 := by simp
  generalize hw0 : w.alloc (.cells #[.int .i64 0, .int .i64 0, .slice none 0 0] 26) = w0 at *
  go_enter Tryd.func43, Tryd.ntmps43
  go_wp2_with fail
  refine (C w0).mono ?_
  rintro e w1 ⟨g, cap, rfl, F1, B1⟩
  replace X0 := X0.below B1
  replace B1 := below_then B0 B1
  have hg : g ≠ w.heap.size := by have := F1.base; omega
  have u0 := X0.c0
  have u1 := X0.c1
  have u2 := X0.c2
  have f0 := X0.frozen 0
  have f1 := X0.frozen 1
  have f2 := X0.frozen 2
  clear hw0 C B0
  go_wp2_with fail
  refine bodyPost_ret (results_mat rfl _ _ w.heap.size _ _ _ _ _ rfl (X0.put _ _ _ _ _)) rfl ?_
  refine ⟨g, cap, rfl, ?_, Below.put B1 (Nat.le_refl _) _ _ _⟩
  have e : (tab n fun j => numN seed (i + j) m + ((0 : Nat) : Int)) = numR seed i n m := tab_congr fun j _ => by simp
  rw [e] at F1
  exact (F1.put hg _ _ _).mono (by omega)
end Go.Proofs.YtoofbjpekdlfiaaDoor

/- The document's model, made from a seed. Laid by tools/genrmake.py. -/
namespace Go.Proofs.YtoofbjpekdlfiaaDoor
open Go.ChangeShapes Go.WideShapes Go.ChangeAt Go.RowKit
/-- A slice that is a row of the call's own. -/
def FR (w : World) (B : Nat) (s : Sl) (n : Nat) (A : List Int) : Prop := ∃ g, s.ao = some ⟨g, 0, none⟩ ∧ s.n = n ∧ Fresh w B g n s.c A
theorem FR.below {w w' : World} {B : Nat} {s : Sl} {n : Nat} {A : List Int} (h : FR w B s n A) (hb : Below w.heap.size w w') : FR w' B s n A := by
  obtain ⟨g, h1, h2, F⟩ := h
  exact ⟨g, h1, h2, F.below hb⟩
theorem FR.keep {w w' : World} {B b : Nat} {T : TypeId} {cs : Array Value} {s : Sl} {n : Nat} {A : List Int} (h : FR w B s n A) (hb : Blk w b T cs) (hT : T ≠ 54) (so : ∀ k, k ≠ b → w'.heap[k]? = w.heap[k]?) : FR w' B s n A := by
  obtain ⟨g, h1, h2, F⟩ := h
  exact ⟨g, h1, h2, F.of_block (so g (F.ne hb hT))⟩
theorem FR.row {w : World} {B : Nat} {s : Sl} {n : Nat} {A : List Int} (h : FR w B s n A) : RowAt w s.ao n A := by
  obtain ⟨g, h1, _, F⟩ := h
  rw [h1]; exact F.rowAt
theorem FR.mono {w : World} {B B' : Nat} {s : Sl} {n : Nat} {A : List Int} (h : FR w B s n A) (hB : B' ≤ B) : FR w B' s n A := by
  obtain ⟨g, h1, h2, F⟩ := h
  exact ⟨g, h1, h2, F.mono hB⟩
structure FM (w : World) (B : Nat) (m : Mt) (r c n : Nat) (A : List Int) : Prop where
  r : m.r = r
  c : m.c = c
  d : FR w B m.d n A
/-- A layer of the document's model. -/
structure MadeR (w : World) (B seed i D H : Nat) (x : Bk) : Prop where
  f : FR w B x.f D (gainR seed i D)
  q : FM w B x.q D D (D * D) (numR seed (i + D) (D * D) 65536)
  k : FM w B x.k D D (D * D) (numR seed (i + D + D * D) (D * D) 65536)
  v : FM w B x.v D D (D * D) (numR seed (i + D + D * D + D * D) (D * D) 65536)
  o : FM w B x.o D D (D * D) (numR seed (i + D + D * D + D * D + D * D) (D * D) 65536)
  s : FR w B x.s D (gainR seed (i + D + D * D + D * D + D * D + D * D) D)
  u : FM w B x.u H D (H * D) (numR seed (i + D + D * D + D * D + D * D + D * D + D) (H * D) 65536)
  d : FM w B x.d D H (D * H) (numR seed (i + D + D * D + D * D + D * D + D * D + D + H * D) (D * H) 65536)
theorem MadeR.below {w w' : World} {B seed i D H : Nat} {x : Bk} (h : MadeR w B seed i D H x) (hb : Below w.heap.size w w') : MadeR w' B seed i D H x :=
  ⟨h.f.below hb, ⟨h.q.r, h.q.c, h.q.d.below hb⟩, ⟨h.k.r, h.k.c, h.k.d.below hb⟩, ⟨h.v.r, h.v.c, h.v.d.below hb⟩, ⟨h.o.r, h.o.c, h.o.d.below hb⟩, h.s.below hb, ⟨h.u.r, h.u.c, h.u.d.below hb⟩, ⟨h.d.r, h.d.c, h.d.d.below hb⟩⟩
theorem MadeR.keep {w w' : World} {B b seed i D H : Nat} {T : TypeId} {cs : Array Value} {x : Bk} (h : MadeR w B seed i D H x) (hb : Blk w b T cs) (hT : T ≠ 54) (so : ∀ k, k ≠ b → w'.heap[k]? = w.heap[k]?) : MadeR w' B seed i D H x :=
  ⟨h.f.keep hb hT so, ⟨h.q.r, h.q.c, h.q.d.keep hb hT so⟩, ⟨h.k.r, h.k.c, h.k.d.keep hb hT so⟩, ⟨h.v.r, h.v.c, h.v.d.keep hb hT so⟩, ⟨h.o.r, h.o.c, h.o.d.keep hb hT so⟩, h.s.keep hb hT so, ⟨h.u.r, h.u.c, h.u.d.keep hb hT so⟩, ⟨h.d.r, h.d.c, h.d.d.keep hb hT so⟩⟩
theorem gain_tab (seed i n : Nat) : (tab n fun j => numN seed (i + j) 16384 + ((65536 : Nat) : Int)) = gainR seed i n := tab_congr fun j _ => by rw [Int.add_comm]; rfl
/-- One layer of the document's model, laid into block g8: the eight calls. -/
theorem lenB_le {D H : Nat} (h1 : D ≤ 32) (h2 : H ≤ 64) : lenB D H ≤ 8256 ∧ D * D ≤ 1024 ∧ H * D ≤ 2048 ∧ D * H ≤ 2048 := by
  have a1 : D * D ≤ 32 * 32 := Nat.mul_le_mul h1 h1
  have a2 : H * D ≤ 64 * 32 := Nat.mul_le_mul h2 h1
  have a3 : D * H ≤ 32 * 64 := Nat.mul_le_mul h1 h2
  unfold lenB
  omega

theorem OwnB.ne {w : World} {B : Nat} {s : Sl} {bs : List Bk} (h : OwnB w B s bs) {b : Nat} {T : TypeId} {cs : Array Value} (hb : w.heap[b]? = some (.cells cs T (0, 0))) (hT : T ≠ 60) : some b ≠ s.v.ownBlock := by
  intro e
  rcases h.own.2 with ⟨h0, _⟩ | ⟨g, cap, cur, hv, _, hh, _⟩
  · rw [h0] at e; simp [Value.ownBlock] at e
  · rw [hv] at e
    simp [Value.ownBlock] at e
    subst e
    rw [hb] at hh
    simp at hh
    exact hT hh.2
theorem OwnB.keep {w w' : World} {B b : Nat} {T : TypeId} {cs : Array Value} {s : Sl} {bs : List Bk} (h : OwnB w B s bs) (hb : Blk w b T cs) (hT : T ≠ 60) (so : ∀ k, k ≠ b → w'.heap[k]? = w.heap[k]?) : OwnB w' B s bs := by
  have hne := h.ne hb hT
  obtain ⟨h1, h2⟩ := h.own
  refine ⟨⟨h1, h2.imp id ?_⟩, h.ok, h.few⟩
  rintro ⟨g, cap, cur, hv, hg, hh, r⟩
  exact ⟨g, cap, cur, hv, hg, by rw [so g (fun e => hne (by rw [hv, e]; rfl))]; exact hh, r⟩
theorem OwnB.mono {w : World} {B B' : Nat} {s : Sl} {bs : List Bk} (h : OwnB w B s bs) (hB : B' ≤ B) : OwnB w B' s bs := by
  obtain ⟨h1, h2⟩ := h.own
  refine ⟨⟨h1, h2.imp id ?_⟩, h.ok, h.few⟩
  rintro ⟨g, cap, cur, hv, hg, r⟩
  exact ⟨g, cap, cur, hv, by omega, r⟩
/-- append(out, block): nothing turns but the row of layers. -/
theorem wpList_append_block2 {w : World} {ops : Array Oper} {rest : List Oper} {o : Oper} {a : Act} {Q : Exit → Act → World → Prop} (hgd : o.guard = none) (s x : Operand)
    (ho : o.op = .call { callee := .builtin .append, args := #[s, x], argTypes := #[31, 31] })
    (B : Nat) (S : Sl) (bs : List Bk) (hs : a.eval s = S.v) (hF : OwnB w B S bs) (bo : Nat) (y : Bk) (hx : a.eval x = .slice (some ⟨bo, 0, none⟩) 1 1) (hX : Blk w bo 60 y.cells) (hy : y.Ok)
    (hlen : S.n + 1 ≤ 1000000) (hB : B ≤ w.heap.size)
    (h : ∀ S' w', S'.n = S.n + 1 → OwnB w' B S' (bs ++ [y]) → Below B w w' → (∀ (k : Nat) (T : TypeId) (cs : Array Value), w.heap[k]? = some (.cells cs T (0, 0)) → T ≠ 60 → w'.heap[k]? = w.heap[k]?) → wpList Tryd.prog ops Q rest (a.put o.dst S'.v) w') : wpList Tryd.prog ops Q (o :: rest) a w := by
  obtain ⟨i0, hi, hz0, hz1, hz2⟩ := info_parts Tryd.infoRB
  refine wpList_append_own w hgd s x 31 ho B 60 i0 (.agg #[.slice none 0 0, .int .i64 0, .int .i64 0, .slice none 0 0, .int .i64 0, .int .i64 0, .slice none 0 0, .int .i64 0, .int .i64 0, .slice none 0 0, .int .i64 0, .int .i64 0, .slice none 0 0, .slice none 0 0, .int .i64 0, .int .i64 0, .slice none 0 0, .int .i64 0, .int .i64 0, .slice none 0 0]) 20 288 Tryd.underlying31 hi hz0 hz1 hz2 rfl (by decide) _ S.n _ hs hF.own ⟨bo, 0, none⟩ 1 1 y.cells.toList hx rfl ?_ ?_ (by unfold maxLen; omega) (by omega) hB ?_
  · intro j u hj
    rw [Addr.add_mid, Nat.zero_add]
    exact hX.cell j (by simpa using hj)
  · intro u hu
    exact (Array.all_eq_true_iff_forall_mem.1 (bk_one y)) u (by simpa using hu)
  · intro v' w' hown hg hnil
    have hb : Below B w w' := (Below.refl _ _).grown hg hB (fun k hk => (hF.own.lt k hk).1)
    have hk : ∀ (k : Nat) (T : TypeId) (cs : Array Value), w.heap[k]? = some (.cells cs T (0, 0)) → T ≠ 60 → w'.heap[k]? = w.heap[k]? := fun k T cs h1 h2 => hg.block k (Array.getElem?_eq_some_iff.1 h1).1 (hF.ne h1 h2)
    have e : flat bs ++ y.cells.toList = flat (bs ++ [y]) := by unfold flat; rw [List.flatMap_append]; simp
    rw [e] at hown
    obtain ⟨h1, h2⟩ := hown
    rcases h2 with ⟨h3, h4⟩ | ⟨g', c', cur, hv, hr⟩
    · omega
    · subst hv
      exact h ⟨some ⟨g', 0, none⟩, S.n + 1, c'⟩ w' rfl ⟨⟨h1, Or.inr ⟨g', c', cur, rfl, hr⟩⟩, fun z hz => (List.mem_append.1 hz).elim (hF.ok z) (fun h => by simp at h; subst h; exact hy), hlen⟩ hb hk
theorem FR.type {w w' : World} {B : Nat} {s : Sl} {n : Nat} {A : List Int} (h : FR w B s n A) (hk : ∀ (k : Nat) (T : TypeId) (cs : Array Value), w.heap[k]? = some (.cells cs T (0, 0)) → T ≠ 60 → w'.heap[k]? = w.heap[k]?) : FR w' B s n A := by
  obtain ⟨g, h1, h2, F⟩ := h
  obtain ⟨c9, h9, _⟩ := F.row
  exact ⟨g, h1, h2, F.of_block (hk g _ _ h9 (by decide))⟩
theorem MadeR.type {w w' : World} {B seed i D H : Nat} {x : Bk} (h : MadeR w B seed i D H x) (hk : ∀ (k : Nat) (T : TypeId) (cs : Array Value), w.heap[k]? = some (.cells cs T (0, 0)) → T ≠ 60 → w'.heap[k]? = w.heap[k]?) : MadeR w' B seed i D H x :=
  ⟨h.f.type hk, ⟨h.q.r, h.q.c, h.q.d.type hk⟩, ⟨h.k.r, h.k.c, h.k.d.type hk⟩, ⟨h.v.r, h.v.c, h.v.d.type hk⟩, ⟨h.o.r, h.o.c, h.o.d.type hk⟩, h.s.type hk, ⟨h.u.r, h.u.c, h.u.d.type hk⟩, ⟨h.d.r, h.d.c, h.d.d.type hk⟩⟩
theorem set3_other {w : World} {b o1 o2 o3 : Nat} {v1 v2 v3 : Value} : ∀ k, k ≠ b → (((w.setCell ⟨b, o1, none⟩ v1).setCell ⟨b, o2, none⟩ v2).setCell ⟨b, o3, none⟩ v3).heap[k]? = w.heap[k]? := fun k hk => by
  rw [Below.heap_setCell _ _ _ _ (by exact hk), Below.heap_setCell _ _ _ _ (by exact hk), Below.heap_setCell _ _ _ _ (by exact hk)]
theorem set1_other {w : World} {b o1 : Nat} {v1 : Value} : ∀ k, k ≠ b → (w.setCell ⟨b, o1, none⟩ v1).heap[k]? = w.heap[k]? := fun k hk => by
  rw [Below.heap_setCell _ _ _ _ (by exact hk)]
/-- One layer that is being made: its block, and that all elder ones stand. -/
theorem Below.set3 {B : Nat} {w w' : World} (h : Below B w w') {b : Nat} (hb : B ≤ b) (o1 o2 o3 : Nat) (v1 v2 v3 : Value) : Below B w (((w'.setCell ⟨b, o1, none⟩ v1).setCell ⟨b, o2, none⟩ v2).setCell ⟨b, o3, none⟩ v3) :=
  ((h.setCell (p := ⟨b, o1, none⟩) (by exact hb) _).setCell (p := ⟨b, o2, none⟩) (by exact hb) _).setCell (p := ⟨b, o3, none⟩) (by exact hb) _

set_option maxRecDepth 100000 in
set_option maxHeartbeats 6400000 in
theorem rmake_any (V D Hd H L : Nat) (seed : Nat) (w : World) (hf : shapeN V D Hd H L = 0) :
   Calls Tryd.prog 27 #[.agg (cfgC V D Hd H L), .int .u64 (seed : Int)] w fun e w' => ∃ (E S Ls O : Sl) (bs : List Bk), e = .returned (.agg (Wt.cells ⟨⟨V, D, E⟩, S, Ls, ⟨V, D, O⟩⟩)) ∧ S.n = L ∧ OwnB w' w.heap.size S bs ∧ (∀ j x, bs[j]? = some x → MadeR w' w.heap.size seed (V * D + j * lenB D H) D H x) ∧ FR w' w.heap.size E (V * D) (numR seed 0 (V * D) 131072) ∧ FR w' w.heap.size Ls D (gainR seed (V * D + L * lenB D H) D) ∧ FR w' w.heap.size O (V * D) (numR seed (V * D + L * lenB D H + D) (V * D) 65536) ∧ Below w.heap.size w w' := by
  have hk := shape_ok hf
  obtain ⟨l1, l2, l3, l4⟩ := lenB_le (D := D) (H := H) (by omega) (by omega)
  have vd : V * D ≤ 64 * 32 := Nat.mul_le_mul (by omega) (by omega)
  have X0 := blk_new w 23 (cfgC V D Hd H L)
  have B0 : Below w.heap.size w (w.alloc (.cells (cfgC V D Hd H L) 23)) := (Below.refl _ _).alloc (Nat.le_refl _) _
  have s0 : (w.alloc (.cells (cfgC V D Hd H L) 23)).heap.size = w.heap.size + 1 := by simp
  unfold cfgC at *
  generalize hw0 : w.alloc (.cells #[.int .i64 V, .int .i64 D, .int .i64 Hd, .int .i64 H, .int .i64 L] 23) = w0 at *
  have X1 := blk_new w0 33 #[.int .i64 0, .int .i64 0, .slice none 0 0, .slice none 0 0, .slice none 0 0, .int .i64 0, .int .i64 0, .slice none 0 0]
  have B1 : Below w0.heap.size w0 (w0.alloc (.cells #[.int .i64 0, .int .i64 0, .slice none 0 0, .slice none 0 0, .slice none 0 0, .int .i64 0, .int .i64 0, .slice none 0 0] 33)) := (Below.refl _ _).alloc (Nat.le_refl _) _
  have s1 : (w0.alloc (.cells #[.int .i64 0, .int .i64 0, .slice none 0 0, .slice none 0 0, .slice none 0 0, .int .i64 0, .int .i64 0, .slice none 0 0] 33)).heap.size = w0.heap.size + 1 := by simp
  rw [s0] at X1 s1
  generalize hw1 : w0.alloc (.cells #[.int .i64 0, .int .i64 0, .slice none 0 0, .slice none 0 0, .slice none 0 0, .int .i64 0, .int .i64 0, .slice none 0 0] 33) = w1 at *
  have X5 := blk_new w1 33 #[.int .i64 0, .int .i64 0, .slice none 0 0, .slice none 0 0, .slice none 0 0, .int .i64 0, .int .i64 0, .slice none 0 0]
  have B2 : Below w1.heap.size w1 (w1.alloc (.cells #[.int .i64 0, .int .i64 0, .slice none 0 0, .slice none 0 0, .slice none 0 0, .int .i64 0, .int .i64 0, .slice none 0 0] 33)) := (Below.refl _ _).alloc (Nat.le_refl _) _
  have s2 : (w1.alloc (.cells #[.int .i64 0, .int .i64 0, .slice none 0 0, .slice none 0 0, .slice none 0 0, .int .i64 0, .int .i64 0, .slice none 0 0] 33)).heap.size = w1.heap.size + 1 := by simp
  rw [s1] at X5 s2
  generalize hw2 : w1.alloc (.cells #[.int .i64 0, .int .i64 0, .slice none 0 0, .slice none 0 0, .slice none 0 0, .int .i64 0, .int .i64 0, .slice none 0 0] 33) = w2 at *
  have Y5 := X5.row #[.int .i64 0, .int .i64 0, .slice none 0 0, .slice none 0 0, .slice none 0 0, .int .i64 0, .int .i64 0, .slice none 0 0]
  have B3 := below_setRow B2 (by omega : w1.heap.size ≤ w.heap.size + 1 + 1) #[.int .i64 0, .int .i64 0, .slice none 0 0, .slice none 0 0, .slice none 0 0, .int .i64 0, .int .i64 0, .slice none 0 0]
  have s3 : (w2.setRow (w.heap.size + 1 + 1) #[.int .i64 0, .int .i64 0, .slice none 0 0, .slice none 0 0, .slice none 0 0, .int .i64 0, .int .i64 0, .slice none 0 0]).heap.size = w.heap.size + 1 + 1 + 1 := by simp [World.setRow]; omega
  generalize hw3 : w2.setRow (w.heap.size + 1 + 1) #[.int .i64 0, .int .i64 0, .slice none 0 0, .slice none 0 0, .slice none 0 0, .int .i64 0, .int .i64 0, .slice none 0 0] = w3 at *
  have hall8 : Array.all (#[.int .i64 0, .int .i64 0, .slice none 0 0, .slice none 0 0, .slice none 0 0, .int .i64 0, .int .i64 0, .slice none 0 0] : Array Value) (fun v => v.oneCell') = true := by simp [Value.oneCell']
  replace X0 := (X0.below B1).below B3
  replace X1 := X1.below B3
  replace B3 := below_then (below_then B0 B1) B3
  have c0 : w3.cell? ⟨w.heap.size, 0, none⟩ = some (.int .i64 V) := X0.cell 0 rfl
  have c1 : w3.cell? ⟨w.heap.size, 1, none⟩ = some (.int .i64 D) := X0.cell 1 rfl
  go_enter Tryd.func27, Tryd.ntmps27
  go_wp2_with (refine wpList_store_row rfl 33 _ _ rfl (w.heap.size + 1 + 1) #[.int .i64 0, .int .i64 0, .slice none 0 0, .slice none 0 0, .slice none 0 0, .int .i64 0, .int .i64 0, .slice none 0 0] rfl rfl 33 _ X5 Tryd.infoRW rfl hall8 ?_; rw [hw3])
  clear hw0 hw1 hw2 hw3 c0 c1 X5 B0 B1 B2 s0 s1 s2
  refine (rsquare_any seed 0 V D 131072 _ (by omega) (by omega) (by omega) (by omega) (by omega)).mono ?_
  rintro e w4 ⟨ge, ce, rfl, FE, B4⟩
  unfold matV
  rw [Nat.zero_add]

  have sz4 := B4.size
  replace FE : FR w4 w.heap.size ⟨some ⟨ge, 0, none⟩, V * D, ce⟩ (V * D) (numR seed 0 (V * D) 131072) := ⟨ge, rfl, rfl, FE.mono (by omega)⟩
  replace X0 := X0.below B4
  replace X1 := X1.below B4
  replace Y5 := Y5.below B4
  replace B4 := below_then B3 B4
  have XM := blk_new w4 26 #[.int .i64 0, .int .i64 0, .slice none 0 0]
  have BM : Below w4.heap.size w4 (w4.alloc (.cells #[.int .i64 0, .int .i64 0, .slice none 0 0] 26)) := (Below.refl _ _).alloc (Nat.le_refl _) _
  have sm : (w4.alloc (.cells #[.int .i64 0, .int .i64 0, .slice none 0 0] 26)).heap.size = w4.heap.size + 1 := by simp
  generalize hw5 : w4.alloc (.cells #[.int .i64 0, .int .i64 0, .slice none 0 0] 26) = w5 at *
  replace FE := FE.below BM
  replace X0 := X0.below BM
  replace X1 := X1.below BM
  replace Y5 := Y5.below BM
  replace B4 := below_then B4 BM
  have f0 := XM.frozen 0
  have f1 := XM.frozen 1
  have f2 := XM.frozen 2
  have d0 : w5.cell? ⟨w4.heap.size, 0, none⟩ = some (.int .i64 0) := XM.cell 0 rfl
  have d1 : w5.cell? ⟨w4.heap.size, 1, none⟩ = some (.int .i64 0) := XM.cell 1 rfl
  have d2 : w5.cell? ⟨w4.heap.size, 2, none⟩ = some (.slice none 0 0) := XM.cell 2 rfl
  have so : ∀ k, k ≠ w4.heap.size → (((w5.setCell ⟨w4.heap.size, 0, none⟩ (.int .i64 V)).setCell ⟨w4.heap.size, 1, none⟩ (.int .i64 D)).setCell ⟨w4.heap.size, 2, none⟩ (.slice (some ⟨ge, 0, none⟩) (V * D) ce)).heap[k]? = w5.heap[k]? := set3_other
  have XM2 : Blk (((w5.setCell ⟨w4.heap.size, 0, none⟩ (.int .i64 V)).setCell ⟨w4.heap.size, 1, none⟩ (.int .i64 D)).setCell ⟨w4.heap.size, 2, none⟩ (.slice (some ⟨ge, 0, none⟩) (V * D) ce)) w4.heap.size 26 #[.int .i64 V, .int .i64 D, .slice (some ⟨ge, 0, none⟩) (V * D) ce] := ((XM.set 0 _).set 1 _).set 2 _
  have B5 := Below.set3 B4 (by omega : w.heap.size ≤ w4.heap.size) 0 1 2 (.int .i64 V) (.int .i64 D) (.slice (some ⟨ge, 0, none⟩) (V * D) ce)
  have sm2 : (((w5.setCell ⟨w4.heap.size, 0, none⟩ (.int .i64 V)).setCell ⟨w4.heap.size, 1, none⟩ (.int .i64 D)).setCell ⟨w4.heap.size, 2, none⟩ (.slice (some ⟨ge, 0, none⟩) (V * D) ce)).heap.size = w5.heap.size := by simp [World.setCell]
  generalize hx5 : ((w5.setCell ⟨w4.heap.size, 0, none⟩ (.int .i64 V)).setCell ⟨w4.heap.size, 1, none⟩ (.int .i64 D)).setCell ⟨w4.heap.size, 2, none⟩ (.slice (some ⟨ge, 0, none⟩) (V * D) ce) = x5 at *
  replace FE := FE.keep XM (by decide) so
  replace X0 := X0.of_block (so _ (by omega))
  replace X1 := X1.of_block (so _ (by omega))
  replace Y5 := Y5.of_block (so _ (by omega))
  clear so XM B4 BM B3
  have m0 : x5.cell? ⟨w4.heap.size, 0, none⟩ = some (.int .i64 V) := XM2.cell 0 rfl
  have m1 : x5.cell? ⟨w4.heap.size, 1, none⟩ = some (.int .i64 D) := XM2.cell 1 rfl
  have m2 : x5.cell? ⟨w4.heap.size, 2, none⟩ = some (.slice (some ⟨ge, 0, none⟩) (V * D) ce) := XM2.cell 2 rfl
  have f3 := Y5.frozen 0
  have f4 := Y5.frozen 1
  have f5 := Y5.frozen 2
  have d3 : x5.cell? ⟨w.heap.size + 1 + 1, 0, none⟩ = some (.int .i64 0) := Y5.cell 0 rfl
  have d4 : x5.cell? ⟨w.heap.size + 1 + 1, 1, none⟩ = some (.int .i64 0) := Y5.cell 1 rfl
  have d5 : x5.cell? ⟨w.heap.size + 1 + 1, 2, none⟩ = some (.slice none 0 0) := Y5.cell 2 rfl
  have so : ∀ k, k ≠ w.heap.size + 1 + 1 → (((x5.setCell ⟨w.heap.size + 1 + 1, 0, none⟩ (.int .i64 V)).setCell ⟨w.heap.size + 1 + 1, 1, none⟩ (.int .i64 D)).setCell ⟨w.heap.size + 1 + 1, 2, none⟩ (.slice (some ⟨ge, 0, none⟩) (V * D) ce)).heap[k]? = x5.heap[k]? := set3_other
  have Y6 : Blk (((x5.setCell ⟨w.heap.size + 1 + 1, 0, none⟩ (.int .i64 V)).setCell ⟨w.heap.size + 1 + 1, 1, none⟩ (.int .i64 D)).setCell ⟨w.heap.size + 1 + 1, 2, none⟩ (.slice (some ⟨ge, 0, none⟩) (V * D) ce)) (w.heap.size + 1 + 1) 33 (Wt.cells ⟨⟨V, D, ⟨some ⟨ge, 0, none⟩, V * D, ce⟩⟩, ⟨none, 0, 0⟩, ⟨none, 0, 0⟩, ⟨0, 0, ⟨none, 0, 0⟩⟩⟩) := ((Y5.set 0 _).set 1 _).set 2 _
  have B6 := Below.set3 B5 (by omega : w.heap.size ≤ w.heap.size + 1 + 1) 0 1 2 (.int .i64 V) (.int .i64 D) (.slice (some ⟨ge, 0, none⟩) (V * D) ce)
  have sm3 : (((x5.setCell ⟨w.heap.size + 1 + 1, 0, none⟩ (.int .i64 V)).setCell ⟨w.heap.size + 1 + 1, 1, none⟩ (.int .i64 D)).setCell ⟨w.heap.size + 1 + 1, 2, none⟩ (.slice (some ⟨ge, 0, none⟩) (V * D) ce)).heap.size = x5.heap.size := by simp [World.setCell]
  generalize hx6 : ((x5.setCell ⟨w.heap.size + 1 + 1, 0, none⟩ (.int .i64 V)).setCell ⟨w.heap.size + 1 + 1, 1, none⟩ (.int .i64 D)).setCell ⟨w.heap.size + 1 + 1, 2, none⟩ (.slice (some ⟨ge, 0, none⟩) (V * D) ce) = x6 at *
  replace FE := FE.keep Y5 (by decide) so
  replace X0 := X0.of_block (so _ (by omega))
  replace X1 := X1.of_block (so _ (by omega))
  have s6 : w.heap.size + 1 + 1 + 1 ≤ x6.heap.size := by omega
  clear so XM2 B5 Y5 s3 sz4 sm sm2 sm3
  go_wp2_with fail
  clear hw5 hx5 hx6 f0 f1 f2 f3 f4 f5 d0 d1 d2 d3 d4 d5 m0 m1 m2

  go_loopg [7] L (fun r q wr => ∃ (t i : Nat) (pa : Option Addr) (pc : Nat) (bs : List Bk), t ≤ L ∧ r = L - t ∧ q = .int .i64 (i : Int) ∧ Hid (i = V * D + t * lenB D H) ∧ i ≤ 2048 + t * 8256 ∧ OwnB wr (w.heap.size + 1 + 1 + 1) ⟨pa, t, pc⟩ bs ∧ Hid (∀ j x, bs[j]? = some x → MadeR wr w.heap.size seed (V * D + j * lenB D H) D H x) ∧ FR wr w.heap.size ⟨some ⟨ge, 0, none⟩, V * D, ce⟩ (V * D) (numR seed 0 (V * D) 131072) ∧ Blk wr (w.heap.size + 1 + 1) 33 #[.int .i64 V, .int .i64 D, .slice (some ⟨ge, 0, none⟩) (V * D) ce, .slice pa t pc, .slice none 0 0, .int .i64 0, .int .i64 0, .slice none 0 0] ∧ Blk wr (w.heap.size + 1) 33 #[.int .i64 0, .int .i64 0, .slice none 0 0, .slice none 0 0, .slice none 0 0, .int .i64 0, .int .i64 0, .slice none 0 0] ∧ Blk wr w.heap.size 23 #[.int .i64 V, .int .i64 D, .int .i64 Hd, .int .i64 H, .int .i64 L] ∧ Below w.heap.size w wr ∧ w.heap.size + 1 + 1 + 1 ≤ wr.heap.size)
  case atStart => exact ⟨0, V * D, none, 0, [], by omega, by omega, by simp, (by show _ = _; rw [Nat.zero_mul, Nat.add_zero]), by omega, ownB_nil _ _, (fun j x h => by simp at h), FE, Y6, X1, X0, B6, s6⟩
  case round =>
    clear FE Y6 X1 X0 B6 s6
    obtain ⟨t, i, pa, pc, bs, ht, rfl, rfl, HI, bi, O1, HM, FE, Y6, X1, X0, B6, s6⟩ := hrel
    have c3 : wr.cell? ⟨w.heap.size + 1 + 1, 3, none⟩ = some (.slice pa t pc) := Y6.cell 3 rfl
    have c4 : wr.cell? ⟨w.heap.size, 4, none⟩ = some (.int .i64 L) := X0.cell 4 rfl
    have few := O1.few
    by_cases hlt : t < L
    · have XZ := blk_new wr 60 #[.slice none 0 0, .int .i64 0, .int .i64 0, .slice none 0 0, .int .i64 0, .int .i64 0, .slice none 0 0, .int .i64 0, .int .i64 0, .slice none 0 0, .int .i64 0, .int .i64 0, .slice none 0 0, .slice none 0 0, .int .i64 0, .int .i64 0, .slice none 0 0, .int .i64 0, .int .i64 0, .slice none 0 0]
      have BZ : Below wr.heap.size wr (wr.alloc (.cells #[.slice none 0 0, .int .i64 0, .int .i64 0, .slice none 0 0, .int .i64 0, .int .i64 0, .slice none 0 0, .int .i64 0, .int .i64 0, .slice none 0 0, .int .i64 0, .int .i64 0, .slice none 0 0, .slice none 0 0, .int .i64 0, .int .i64 0, .slice none 0 0, .int .i64 0, .int .i64 0, .slice none 0 0] 60)) := (Below.refl _ _).alloc (Nat.le_refl _) _
      generalize hwz : wr.alloc (.cells #[.slice none 0 0, .int .i64 0, .int .i64 0, .slice none 0 0, .int .i64 0, .int .i64 0, .slice none 0 0, .int .i64 0, .int .i64 0, .slice none 0 0, .int .i64 0, .int .i64 0, .slice none 0 0, .slice none 0 0, .int .i64 0, .int .i64 0, .slice none 0 0, .int .i64 0, .int .i64 0, .slice none 0 0] 60) = wz at *
      have X8 := XZ.row #[.slice none 0 0, .int .i64 0, .int .i64 0, .slice none 0 0, .int .i64 0, .int .i64 0, .slice none 0 0, .int .i64 0, .int .i64 0, .slice none 0 0, .int .i64 0, .int .i64 0, .slice none 0 0, .slice none 0 0, .int .i64 0, .int .i64 0, .slice none 0 0, .int .i64 0, .int .i64 0, .slice none 0 0]
      have K := below_setRow BZ (Nat.le_refl _) #[.slice none 0 0, .int .i64 0, .int .i64 0, .slice none 0 0, .int .i64 0, .int .i64 0, .slice none 0 0, .int .i64 0, .int .i64 0, .slice none 0 0, .int .i64 0, .int .i64 0, .slice none 0 0, .slice none 0 0, .int .i64 0, .int .i64 0, .slice none 0 0, .int .i64 0, .int .i64 0, .slice none 0 0]
      generalize hwy : wz.setRow wr.heap.size #[.slice none 0 0, .int .i64 0, .int .i64 0, .slice none 0 0, .int .i64 0, .int .i64 0, .slice none 0 0, .int .i64 0, .int .i64 0, .slice none 0 0, .int .i64 0, .int .i64 0, .slice none 0 0, .slice none 0 0, .int .i64 0, .int .i64 0, .slice none 0 0, .int .i64 0, .int .i64 0, .slice none 0 0] = wy at *
      have hallB : Array.all (#[.slice none 0 0, .int .i64 0, .int .i64 0, .slice none 0 0, .int .i64 0, .int .i64 0, .slice none 0 0, .int .i64 0, .int .i64 0, .slice none 0 0, .int .i64 0, .int .i64 0, .slice none 0 0, .slice none 0 0, .int .i64 0, .int .i64 0, .slice none 0 0, .int .i64 0, .int .i64 0, .slice none 0 0] : Array Value) (fun v => v.oneCell') = true := by simp [Value.oneCell']
      have c1 : wy.cell? ⟨w.heap.size, 1, none⟩ = some (.int .i64 D) := (X0.below K).cell 1 rfl
      go_wp2_with (refine wpList_store_row rfl 60 _ _ rfl wr.heap.size #[.slice none 0 0, .int .i64 0, .int .i64 0, .slice none 0 0, .int .i64 0, .int .i64 0, .slice none 0 0, .int .i64 0, .int .i64 0, .slice none 0 0, .int .i64 0, .int .i64 0, .slice none 0 0, .slice none 0 0, .int .i64 0, .int .i64 0, .slice none 0 0, .int .i64 0, .int .i64 0, .slice none 0 0] rfl rfl 60 _ XZ Tryd.infoRB1 rfl hallB ?_; rw [hwy])
      clear hwz hwy XZ BZ hallB c3 c4
      have ks := K.size
      refine (rrow_any seed i D 16384 65536 _ (by omega) (by omega) (by omega) (by omega) (by omega)).mono ?_
      rintro e v0 ⟨gf, cf, rfl, Ff, KB⟩
      obtain ⟨i0, Hi0⟩ : ∃ z, Hid (z = i + D) := ⟨_, rfl⟩
      have bi0 : i0 ≤ i + D := Nat.le_of_eq Hi0.out
      rw [← Hi0.out]
      replace Ff : FR v0 w.heap.size ⟨some ⟨gf, 0, none⟩, D, cf⟩ D (gainR seed i D) := ⟨gf, rfl, rfl, by rw [← gain_tab]; exact Ff.mono (by omega)⟩
      replace X8 := X8.below KB
      replace K := below_then K KB
      clear KB ks c1
      have fr0 := X8.frozen 0
      have cc0 : v0.cell? ⟨wr.heap.size, 0, none⟩ = some (.slice none 0 0) := X8.cell 0 rfl
      have so : ∀ k, k ≠ wr.heap.size → (v0.setCell ⟨wr.heap.size, 0, none⟩ (.slice (some ⟨gf, 0, none⟩) (D) cf)).heap[k]? = v0.heap[k]? := set1_other
      have X9 : Blk (v0.setCell ⟨wr.heap.size, 0, none⟩ (.slice (some ⟨gf, 0, none⟩) (D) cf)) wr.heap.size 60 #[.slice (some ⟨gf, 0, none⟩) (D) cf, .int .i64 0, .int .i64 0, .slice none 0 0, .int .i64 0, .int .i64 0, .slice none 0 0, .int .i64 0, .int .i64 0, .slice none 0 0, .int .i64 0, .int .i64 0, .slice none 0 0, .slice none 0 0, .int .i64 0, .int .i64 0, .slice none 0 0, .int .i64 0, .int .i64 0, .slice none 0 0] := (X8.set 0 (.slice (some ⟨gf, 0, none⟩) (D) cf))
      have K9 := K.setCell (p := ⟨wr.heap.size, 0, none⟩) (Nat.le_refl _) (.slice (some ⟨gf, 0, none⟩) (D) cf)
      generalize hx0 : v0.setCell ⟨wr.heap.size, 0, none⟩ (.slice (some ⟨gf, 0, none⟩) (D) cf) = x0 at *
      replace Ff := Ff.keep X8 (by decide) so
      replace X8 := X9
      replace K := K9
      clear X9 K9 so
      have c1 : x0.cell? ⟨w.heap.size, 1, none⟩ = some (.int .i64 D) := (X0.below K).cell 1 rfl
      go_wp2_with fail
      clear hx0 fr0 cc0
      have ks := K.size
      refine (rsquare_any seed i0 D D 65536 _ (by omega) (by omega) (by omega) (by omega) (by omega)).mono ?_
      rintro e v1 ⟨gq, cq, rfl, Fq, KB⟩
      unfold matV
      obtain ⟨i1, Hi1⟩ : ∃ z, Hid (z = i0 + D * D) := ⟨_, rfl⟩
      have bi1 : i1 ≤ i0 + D * D := Nat.le_of_eq Hi1.out
      rw [← Hi1.out]
      replace Fq : FR v1 w.heap.size ⟨some ⟨gq, 0, none⟩, D * D, cq⟩ (D * D) (numR seed i0 (D * D) 65536) := ⟨gq, rfl, rfl, Fq.mono (by omega)⟩
      replace Ff := Ff.below KB
      replace X8 := X8.below KB
      replace K := below_then K KB
      clear KB ks c1
      have fr0 := X8.frozen 1
      have cc0 : v1.cell? ⟨wr.heap.size, 1, none⟩ = some (.int .i64 0) := X8.cell 1 rfl
      have fr1 := X8.frozen 2
      have cc1 : v1.cell? ⟨wr.heap.size, 2, none⟩ = some (.int .i64 0) := X8.cell 2 rfl
      have fr2 := X8.frozen 3
      have cc2 : v1.cell? ⟨wr.heap.size, 3, none⟩ = some (.slice none 0 0) := X8.cell 3 rfl
      have so : ∀ k, k ≠ wr.heap.size → (((v1.setCell ⟨wr.heap.size, 1, none⟩ (.int .i64 D)).setCell ⟨wr.heap.size, 2, none⟩ (.int .i64 D)).setCell ⟨wr.heap.size, 3, none⟩ (.slice (some ⟨gq, 0, none⟩) (D * D) cq)).heap[k]? = v1.heap[k]? := set3_other
      have X9 : Blk (((v1.setCell ⟨wr.heap.size, 1, none⟩ (.int .i64 D)).setCell ⟨wr.heap.size, 2, none⟩ (.int .i64 D)).setCell ⟨wr.heap.size, 3, none⟩ (.slice (some ⟨gq, 0, none⟩) (D * D) cq)) wr.heap.size 60 #[.slice (some ⟨gf, 0, none⟩) (D) cf, .int .i64 D, .int .i64 D, .slice (some ⟨gq, 0, none⟩) (D * D) cq, .int .i64 0, .int .i64 0, .slice none 0 0, .int .i64 0, .int .i64 0, .slice none 0 0, .int .i64 0, .int .i64 0, .slice none 0 0, .slice none 0 0, .int .i64 0, .int .i64 0, .slice none 0 0, .int .i64 0, .int .i64 0, .slice none 0 0] := (((X8.set 1 (.int .i64 D)).set 2 (.int .i64 D)).set 3 (.slice (some ⟨gq, 0, none⟩) (D * D) cq))
      have K9 := Below.set3 K (Nat.le_refl _) 1 2 3 (.int .i64 D) (.int .i64 D) (.slice (some ⟨gq, 0, none⟩) (D * D) cq)
      generalize hx1 : ((v1.setCell ⟨wr.heap.size, 1, none⟩ (.int .i64 D)).setCell ⟨wr.heap.size, 2, none⟩ (.int .i64 D)).setCell ⟨wr.heap.size, 3, none⟩ (.slice (some ⟨gq, 0, none⟩) (D * D) cq) = x1 at *
      replace Ff := Ff.keep X8 (by decide) so
      replace Fq := Fq.keep X8 (by decide) so
      replace X8 := X9
      replace K := K9
      clear X9 K9 so
      have c1 : x1.cell? ⟨w.heap.size, 1, none⟩ = some (.int .i64 D) := (X0.below K).cell 1 rfl
      go_wp2_with fail
      clear hx1 fr0 cc0 fr1 cc1 fr2 cc2
      have ks := K.size
      refine (rsquare_any seed i1 D D 65536 _ (by omega) (by omega) (by omega) (by omega) (by omega)).mono ?_
      rintro e v2 ⟨gk, ck, rfl, Fk, KB⟩
      unfold matV
      obtain ⟨i2, Hi2⟩ : ∃ z, Hid (z = i1 + D * D) := ⟨_, rfl⟩
      have bi2 : i2 ≤ i1 + D * D := Nat.le_of_eq Hi2.out
      rw [← Hi2.out]
      replace Fk : FR v2 w.heap.size ⟨some ⟨gk, 0, none⟩, D * D, ck⟩ (D * D) (numR seed i1 (D * D) 65536) := ⟨gk, rfl, rfl, Fk.mono (by omega)⟩
      replace Ff := Ff.below KB
      replace Fq := Fq.below KB
      replace X8 := X8.below KB
      replace K := below_then K KB
      clear KB ks c1
      have fr0 := X8.frozen 4
      have cc0 : v2.cell? ⟨wr.heap.size, 4, none⟩ = some (.int .i64 0) := X8.cell 4 rfl
      have fr1 := X8.frozen 5
      have cc1 : v2.cell? ⟨wr.heap.size, 5, none⟩ = some (.int .i64 0) := X8.cell 5 rfl
      have fr2 := X8.frozen 6
      have cc2 : v2.cell? ⟨wr.heap.size, 6, none⟩ = some (.slice none 0 0) := X8.cell 6 rfl
      have so : ∀ k, k ≠ wr.heap.size → (((v2.setCell ⟨wr.heap.size, 4, none⟩ (.int .i64 D)).setCell ⟨wr.heap.size, 5, none⟩ (.int .i64 D)).setCell ⟨wr.heap.size, 6, none⟩ (.slice (some ⟨gk, 0, none⟩) (D * D) ck)).heap[k]? = v2.heap[k]? := set3_other
      have X9 : Blk (((v2.setCell ⟨wr.heap.size, 4, none⟩ (.int .i64 D)).setCell ⟨wr.heap.size, 5, none⟩ (.int .i64 D)).setCell ⟨wr.heap.size, 6, none⟩ (.slice (some ⟨gk, 0, none⟩) (D * D) ck)) wr.heap.size 60 #[.slice (some ⟨gf, 0, none⟩) (D) cf, .int .i64 D, .int .i64 D, .slice (some ⟨gq, 0, none⟩) (D * D) cq, .int .i64 D, .int .i64 D, .slice (some ⟨gk, 0, none⟩) (D * D) ck, .int .i64 0, .int .i64 0, .slice none 0 0, .int .i64 0, .int .i64 0, .slice none 0 0, .slice none 0 0, .int .i64 0, .int .i64 0, .slice none 0 0, .int .i64 0, .int .i64 0, .slice none 0 0] := (((X8.set 4 (.int .i64 D)).set 5 (.int .i64 D)).set 6 (.slice (some ⟨gk, 0, none⟩) (D * D) ck))
      have K9 := Below.set3 K (Nat.le_refl _) 4 5 6 (.int .i64 D) (.int .i64 D) (.slice (some ⟨gk, 0, none⟩) (D * D) ck)
      generalize hx2 : ((v2.setCell ⟨wr.heap.size, 4, none⟩ (.int .i64 D)).setCell ⟨wr.heap.size, 5, none⟩ (.int .i64 D)).setCell ⟨wr.heap.size, 6, none⟩ (.slice (some ⟨gk, 0, none⟩) (D * D) ck) = x2 at *
      replace Ff := Ff.keep X8 (by decide) so
      replace Fq := Fq.keep X8 (by decide) so
      replace Fk := Fk.keep X8 (by decide) so
      replace X8 := X9
      replace K := K9
      clear X9 K9 so
      have c1 : x2.cell? ⟨w.heap.size, 1, none⟩ = some (.int .i64 D) := (X0.below K).cell 1 rfl
      go_wp2_with fail
      clear hx2 fr0 cc0 fr1 cc1 fr2 cc2
      have ks := K.size
      refine (rsquare_any seed i2 D D 65536 _ (by omega) (by omega) (by omega) (by omega) (by omega)).mono ?_
      rintro e v3 ⟨gv, cv, rfl, Fv, KB⟩
      unfold matV
      obtain ⟨i3, Hi3⟩ : ∃ z, Hid (z = i2 + D * D) := ⟨_, rfl⟩
      have bi3 : i3 ≤ i2 + D * D := Nat.le_of_eq Hi3.out
      rw [← Hi3.out]
      replace Fv : FR v3 w.heap.size ⟨some ⟨gv, 0, none⟩, D * D, cv⟩ (D * D) (numR seed i2 (D * D) 65536) := ⟨gv, rfl, rfl, Fv.mono (by omega)⟩
      replace Ff := Ff.below KB
      replace Fq := Fq.below KB
      replace Fk := Fk.below KB
      replace X8 := X8.below KB
      replace K := below_then K KB
      clear KB ks c1
      have fr0 := X8.frozen 7
      have cc0 : v3.cell? ⟨wr.heap.size, 7, none⟩ = some (.int .i64 0) := X8.cell 7 rfl
      have fr1 := X8.frozen 8
      have cc1 : v3.cell? ⟨wr.heap.size, 8, none⟩ = some (.int .i64 0) := X8.cell 8 rfl
      have fr2 := X8.frozen 9
      have cc2 : v3.cell? ⟨wr.heap.size, 9, none⟩ = some (.slice none 0 0) := X8.cell 9 rfl
      have so : ∀ k, k ≠ wr.heap.size → (((v3.setCell ⟨wr.heap.size, 7, none⟩ (.int .i64 D)).setCell ⟨wr.heap.size, 8, none⟩ (.int .i64 D)).setCell ⟨wr.heap.size, 9, none⟩ (.slice (some ⟨gv, 0, none⟩) (D * D) cv)).heap[k]? = v3.heap[k]? := set3_other
      have X9 : Blk (((v3.setCell ⟨wr.heap.size, 7, none⟩ (.int .i64 D)).setCell ⟨wr.heap.size, 8, none⟩ (.int .i64 D)).setCell ⟨wr.heap.size, 9, none⟩ (.slice (some ⟨gv, 0, none⟩) (D * D) cv)) wr.heap.size 60 #[.slice (some ⟨gf, 0, none⟩) (D) cf, .int .i64 D, .int .i64 D, .slice (some ⟨gq, 0, none⟩) (D * D) cq, .int .i64 D, .int .i64 D, .slice (some ⟨gk, 0, none⟩) (D * D) ck, .int .i64 D, .int .i64 D, .slice (some ⟨gv, 0, none⟩) (D * D) cv, .int .i64 0, .int .i64 0, .slice none 0 0, .slice none 0 0, .int .i64 0, .int .i64 0, .slice none 0 0, .int .i64 0, .int .i64 0, .slice none 0 0] := (((X8.set 7 (.int .i64 D)).set 8 (.int .i64 D)).set 9 (.slice (some ⟨gv, 0, none⟩) (D * D) cv))
      have K9 := Below.set3 K (Nat.le_refl _) 7 8 9 (.int .i64 D) (.int .i64 D) (.slice (some ⟨gv, 0, none⟩) (D * D) cv)
      generalize hx3 : ((v3.setCell ⟨wr.heap.size, 7, none⟩ (.int .i64 D)).setCell ⟨wr.heap.size, 8, none⟩ (.int .i64 D)).setCell ⟨wr.heap.size, 9, none⟩ (.slice (some ⟨gv, 0, none⟩) (D * D) cv) = x3 at *
      replace Ff := Ff.keep X8 (by decide) so
      replace Fq := Fq.keep X8 (by decide) so
      replace Fk := Fk.keep X8 (by decide) so
      replace Fv := Fv.keep X8 (by decide) so
      replace X8 := X9
      replace K := K9
      clear X9 K9 so
      have c1 : x3.cell? ⟨w.heap.size, 1, none⟩ = some (.int .i64 D) := (X0.below K).cell 1 rfl
      go_wp2_with fail
      clear hx3 fr0 cc0 fr1 cc1 fr2 cc2
      have ks := K.size
      refine (rsquare_any seed i3 D D 65536 _ (by omega) (by omega) (by omega) (by omega) (by omega)).mono ?_
      rintro e v4 ⟨go, co, rfl, Fo, KB⟩
      unfold matV
      obtain ⟨i4, Hi4⟩ : ∃ z, Hid (z = i3 + D * D) := ⟨_, rfl⟩
      have bi4 : i4 ≤ i3 + D * D := Nat.le_of_eq Hi4.out
      rw [← Hi4.out]
      replace Fo : FR v4 w.heap.size ⟨some ⟨go, 0, none⟩, D * D, co⟩ (D * D) (numR seed i3 (D * D) 65536) := ⟨go, rfl, rfl, Fo.mono (by omega)⟩
      replace Ff := Ff.below KB
      replace Fq := Fq.below KB
      replace Fk := Fk.below KB
      replace Fv := Fv.below KB
      replace X8 := X8.below KB
      replace K := below_then K KB
      clear KB ks c1
      have fr0 := X8.frozen 10
      have cc0 : v4.cell? ⟨wr.heap.size, 10, none⟩ = some (.int .i64 0) := X8.cell 10 rfl
      have fr1 := X8.frozen 11
      have cc1 : v4.cell? ⟨wr.heap.size, 11, none⟩ = some (.int .i64 0) := X8.cell 11 rfl
      have fr2 := X8.frozen 12
      have cc2 : v4.cell? ⟨wr.heap.size, 12, none⟩ = some (.slice none 0 0) := X8.cell 12 rfl
      have so : ∀ k, k ≠ wr.heap.size → (((v4.setCell ⟨wr.heap.size, 10, none⟩ (.int .i64 D)).setCell ⟨wr.heap.size, 11, none⟩ (.int .i64 D)).setCell ⟨wr.heap.size, 12, none⟩ (.slice (some ⟨go, 0, none⟩) (D * D) co)).heap[k]? = v4.heap[k]? := set3_other
      have X9 : Blk (((v4.setCell ⟨wr.heap.size, 10, none⟩ (.int .i64 D)).setCell ⟨wr.heap.size, 11, none⟩ (.int .i64 D)).setCell ⟨wr.heap.size, 12, none⟩ (.slice (some ⟨go, 0, none⟩) (D * D) co)) wr.heap.size 60 #[.slice (some ⟨gf, 0, none⟩) (D) cf, .int .i64 D, .int .i64 D, .slice (some ⟨gq, 0, none⟩) (D * D) cq, .int .i64 D, .int .i64 D, .slice (some ⟨gk, 0, none⟩) (D * D) ck, .int .i64 D, .int .i64 D, .slice (some ⟨gv, 0, none⟩) (D * D) cv, .int .i64 D, .int .i64 D, .slice (some ⟨go, 0, none⟩) (D * D) co, .slice none 0 0, .int .i64 0, .int .i64 0, .slice none 0 0, .int .i64 0, .int .i64 0, .slice none 0 0] := (((X8.set 10 (.int .i64 D)).set 11 (.int .i64 D)).set 12 (.slice (some ⟨go, 0, none⟩) (D * D) co))
      have K9 := Below.set3 K (Nat.le_refl _) 10 11 12 (.int .i64 D) (.int .i64 D) (.slice (some ⟨go, 0, none⟩) (D * D) co)
      generalize hx4 : ((v4.setCell ⟨wr.heap.size, 10, none⟩ (.int .i64 D)).setCell ⟨wr.heap.size, 11, none⟩ (.int .i64 D)).setCell ⟨wr.heap.size, 12, none⟩ (.slice (some ⟨go, 0, none⟩) (D * D) co) = x4 at *
      replace Ff := Ff.keep X8 (by decide) so
      replace Fq := Fq.keep X8 (by decide) so
      replace Fk := Fk.keep X8 (by decide) so
      replace Fv := Fv.keep X8 (by decide) so
      replace Fo := Fo.keep X8 (by decide) so
      replace X8 := X9
      replace K := K9
      clear X9 K9 so
      have c1 : x4.cell? ⟨w.heap.size, 1, none⟩ = some (.int .i64 D) := (X0.below K).cell 1 rfl
      go_wp2_with fail
      clear hx4 fr0 cc0 fr1 cc1 fr2 cc2
      have ks := K.size
      refine (rrow_any seed i4 D 16384 65536 _ (by omega) (by omega) (by omega) (by omega) (by omega)).mono ?_
      rintro e v5 ⟨gs, cs, rfl, Fs, KB⟩
      obtain ⟨i5, Hi5⟩ : ∃ z, Hid (z = i4 + D) := ⟨_, rfl⟩
      have bi5 : i5 ≤ i4 + D := Nat.le_of_eq Hi5.out
      rw [← Hi5.out]
      replace Fs : FR v5 w.heap.size ⟨some ⟨gs, 0, none⟩, D, cs⟩ D (gainR seed i4 D) := ⟨gs, rfl, rfl, by rw [← gain_tab]; exact Fs.mono (by omega)⟩
      replace Ff := Ff.below KB
      replace Fq := Fq.below KB
      replace Fk := Fk.below KB
      replace Fv := Fv.below KB
      replace Fo := Fo.below KB
      replace X8 := X8.below KB
      replace K := below_then K KB
      clear KB ks c1
      have fr0 := X8.frozen 13
      have cc0 : v5.cell? ⟨wr.heap.size, 13, none⟩ = some (.slice none 0 0) := X8.cell 13 rfl
      have so : ∀ k, k ≠ wr.heap.size → (v5.setCell ⟨wr.heap.size, 13, none⟩ (.slice (some ⟨gs, 0, none⟩) (D) cs)).heap[k]? = v5.heap[k]? := set1_other
      have X9 : Blk (v5.setCell ⟨wr.heap.size, 13, none⟩ (.slice (some ⟨gs, 0, none⟩) (D) cs)) wr.heap.size 60 #[.slice (some ⟨gf, 0, none⟩) (D) cf, .int .i64 D, .int .i64 D, .slice (some ⟨gq, 0, none⟩) (D * D) cq, .int .i64 D, .int .i64 D, .slice (some ⟨gk, 0, none⟩) (D * D) ck, .int .i64 D, .int .i64 D, .slice (some ⟨gv, 0, none⟩) (D * D) cv, .int .i64 D, .int .i64 D, .slice (some ⟨go, 0, none⟩) (D * D) co, .slice (some ⟨gs, 0, none⟩) (D) cs, .int .i64 0, .int .i64 0, .slice none 0 0, .int .i64 0, .int .i64 0, .slice none 0 0] := (X8.set 13 (.slice (some ⟨gs, 0, none⟩) (D) cs))
      have K9 := K.setCell (p := ⟨wr.heap.size, 13, none⟩) (Nat.le_refl _) (.slice (some ⟨gs, 0, none⟩) (D) cs)
      generalize hx5 : v5.setCell ⟨wr.heap.size, 13, none⟩ (.slice (some ⟨gs, 0, none⟩) (D) cs) = x5 at *
      replace Ff := Ff.keep X8 (by decide) so
      replace Fq := Fq.keep X8 (by decide) so
      replace Fk := Fk.keep X8 (by decide) so
      replace Fv := Fv.keep X8 (by decide) so
      replace Fo := Fo.keep X8 (by decide) so
      replace Fs := Fs.keep X8 (by decide) so
      replace X8 := X9
      replace K := K9
      clear X9 K9 so
      have c1 : x5.cell? ⟨w.heap.size, 1, none⟩ = some (.int .i64 D) := (X0.below K).cell 1 rfl
      have c3 : x5.cell? ⟨w.heap.size, 3, none⟩ = some (.int .i64 H) := (X0.below K).cell 3 rfl
      go_wp2_with fail
      clear hx5 fr0 cc0
      have ks := K.size
      refine (rsquare_any seed i5 H D 65536 _ (by omega) (by omega) (by omega) (by omega) (by omega)).mono ?_
      rintro e v6 ⟨gu, cu, rfl, Fu, KB⟩
      unfold matV
      obtain ⟨i6, Hi6⟩ : ∃ z, Hid (z = i5 + H * D) := ⟨_, rfl⟩
      have bi6 : i6 ≤ i5 + H * D := Nat.le_of_eq Hi6.out
      rw [← Hi6.out]
      replace Fu : FR v6 w.heap.size ⟨some ⟨gu, 0, none⟩, H * D, cu⟩ (H * D) (numR seed i5 (H * D) 65536) := ⟨gu, rfl, rfl, Fu.mono (by omega)⟩
      replace Ff := Ff.below KB
      replace Fq := Fq.below KB
      replace Fk := Fk.below KB
      replace Fv := Fv.below KB
      replace Fo := Fo.below KB
      replace Fs := Fs.below KB
      replace X8 := X8.below KB
      replace K := below_then K KB
      clear KB ks c1 c3
      have fr0 := X8.frozen 14
      have cc0 : v6.cell? ⟨wr.heap.size, 14, none⟩ = some (.int .i64 0) := X8.cell 14 rfl
      have fr1 := X8.frozen 15
      have cc1 : v6.cell? ⟨wr.heap.size, 15, none⟩ = some (.int .i64 0) := X8.cell 15 rfl
      have fr2 := X8.frozen 16
      have cc2 : v6.cell? ⟨wr.heap.size, 16, none⟩ = some (.slice none 0 0) := X8.cell 16 rfl
      have so : ∀ k, k ≠ wr.heap.size → (((v6.setCell ⟨wr.heap.size, 14, none⟩ (.int .i64 H)).setCell ⟨wr.heap.size, 15, none⟩ (.int .i64 D)).setCell ⟨wr.heap.size, 16, none⟩ (.slice (some ⟨gu, 0, none⟩) (H * D) cu)).heap[k]? = v6.heap[k]? := set3_other
      have X9 : Blk (((v6.setCell ⟨wr.heap.size, 14, none⟩ (.int .i64 H)).setCell ⟨wr.heap.size, 15, none⟩ (.int .i64 D)).setCell ⟨wr.heap.size, 16, none⟩ (.slice (some ⟨gu, 0, none⟩) (H * D) cu)) wr.heap.size 60 #[.slice (some ⟨gf, 0, none⟩) (D) cf, .int .i64 D, .int .i64 D, .slice (some ⟨gq, 0, none⟩) (D * D) cq, .int .i64 D, .int .i64 D, .slice (some ⟨gk, 0, none⟩) (D * D) ck, .int .i64 D, .int .i64 D, .slice (some ⟨gv, 0, none⟩) (D * D) cv, .int .i64 D, .int .i64 D, .slice (some ⟨go, 0, none⟩) (D * D) co, .slice (some ⟨gs, 0, none⟩) (D) cs, .int .i64 H, .int .i64 D, .slice (some ⟨gu, 0, none⟩) (H * D) cu, .int .i64 0, .int .i64 0, .slice none 0 0] := (((X8.set 14 (.int .i64 H)).set 15 (.int .i64 D)).set 16 (.slice (some ⟨gu, 0, none⟩) (H * D) cu))
      have K9 := Below.set3 K (Nat.le_refl _) 14 15 16 (.int .i64 H) (.int .i64 D) (.slice (some ⟨gu, 0, none⟩) (H * D) cu)
      generalize hx6 : ((v6.setCell ⟨wr.heap.size, 14, none⟩ (.int .i64 H)).setCell ⟨wr.heap.size, 15, none⟩ (.int .i64 D)).setCell ⟨wr.heap.size, 16, none⟩ (.slice (some ⟨gu, 0, none⟩) (H * D) cu) = x6 at *
      replace Ff := Ff.keep X8 (by decide) so
      replace Fq := Fq.keep X8 (by decide) so
      replace Fk := Fk.keep X8 (by decide) so
      replace Fv := Fv.keep X8 (by decide) so
      replace Fo := Fo.keep X8 (by decide) so
      replace Fs := Fs.keep X8 (by decide) so
      replace Fu := Fu.keep X8 (by decide) so
      replace X8 := X9
      replace K := K9
      clear X9 K9 so
      have c1 : x6.cell? ⟨w.heap.size, 1, none⟩ = some (.int .i64 D) := (X0.below K).cell 1 rfl
      have c3 : x6.cell? ⟨w.heap.size, 3, none⟩ = some (.int .i64 H) := (X0.below K).cell 3 rfl
      go_wp2_with fail
      clear hx6 fr0 cc0 fr1 cc1 fr2 cc2
      have ks := K.size
      refine (rsquare_any seed i6 D H 65536 _ (by omega) (by omega) (by omega) (by omega) (by omega)).mono ?_
      rintro e v7 ⟨gd, cd, rfl, Fd, KB⟩
      unfold matV
      obtain ⟨i7, Hi7⟩ : ∃ z, Hid (z = i6 + D * H) := ⟨_, rfl⟩
      have bi7 : i7 ≤ i6 + D * H := Nat.le_of_eq Hi7.out
      rw [← Hi7.out]
      replace Fd : FR v7 w.heap.size ⟨some ⟨gd, 0, none⟩, D * H, cd⟩ (D * H) (numR seed i6 (D * H) 65536) := ⟨gd, rfl, rfl, Fd.mono (by omega)⟩
      replace Ff := Ff.below KB
      replace Fq := Fq.below KB
      replace Fk := Fk.below KB
      replace Fv := Fv.below KB
      replace Fo := Fo.below KB
      replace Fs := Fs.below KB
      replace Fu := Fu.below KB
      replace X8 := X8.below KB
      replace K := below_then K KB
      clear KB ks c1 c3
      have fr0 := X8.frozen 17
      have cc0 : v7.cell? ⟨wr.heap.size, 17, none⟩ = some (.int .i64 0) := X8.cell 17 rfl
      have fr1 := X8.frozen 18
      have cc1 : v7.cell? ⟨wr.heap.size, 18, none⟩ = some (.int .i64 0) := X8.cell 18 rfl
      have fr2 := X8.frozen 19
      have cc2 : v7.cell? ⟨wr.heap.size, 19, none⟩ = some (.slice none 0 0) := X8.cell 19 rfl
      have so : ∀ k, k ≠ wr.heap.size → (((v7.setCell ⟨wr.heap.size, 17, none⟩ (.int .i64 D)).setCell ⟨wr.heap.size, 18, none⟩ (.int .i64 H)).setCell ⟨wr.heap.size, 19, none⟩ (.slice (some ⟨gd, 0, none⟩) (D * H) cd)).heap[k]? = v7.heap[k]? := set3_other
      have X9 : Blk (((v7.setCell ⟨wr.heap.size, 17, none⟩ (.int .i64 D)).setCell ⟨wr.heap.size, 18, none⟩ (.int .i64 H)).setCell ⟨wr.heap.size, 19, none⟩ (.slice (some ⟨gd, 0, none⟩) (D * H) cd)) wr.heap.size 60 #[.slice (some ⟨gf, 0, none⟩) (D) cf, .int .i64 D, .int .i64 D, .slice (some ⟨gq, 0, none⟩) (D * D) cq, .int .i64 D, .int .i64 D, .slice (some ⟨gk, 0, none⟩) (D * D) ck, .int .i64 D, .int .i64 D, .slice (some ⟨gv, 0, none⟩) (D * D) cv, .int .i64 D, .int .i64 D, .slice (some ⟨go, 0, none⟩) (D * D) co, .slice (some ⟨gs, 0, none⟩) (D) cs, .int .i64 H, .int .i64 D, .slice (some ⟨gu, 0, none⟩) (H * D) cu, .int .i64 D, .int .i64 H, .slice (some ⟨gd, 0, none⟩) (D * H) cd] := (((X8.set 17 (.int .i64 D)).set 18 (.int .i64 H)).set 19 (.slice (some ⟨gd, 0, none⟩) (D * H) cd))
      have K9 := Below.set3 K (Nat.le_refl _) 17 18 19 (.int .i64 D) (.int .i64 H) (.slice (some ⟨gd, 0, none⟩) (D * H) cd)
      generalize hx7 : ((v7.setCell ⟨wr.heap.size, 17, none⟩ (.int .i64 D)).setCell ⟨wr.heap.size, 18, none⟩ (.int .i64 H)).setCell ⟨wr.heap.size, 19, none⟩ (.slice (some ⟨gd, 0, none⟩) (D * H) cd) = x7 at *
      replace Ff := Ff.keep X8 (by decide) so
      replace Fq := Fq.keep X8 (by decide) so
      replace Fk := Fk.keep X8 (by decide) so
      replace Fv := Fv.keep X8 (by decide) so
      replace Fo := Fo.keep X8 (by decide) so
      replace Fs := Fs.keep X8 (by decide) so
      replace Fu := Fu.keep X8 (by decide) so
      replace Fd := Fd.keep X8 (by decide) so
      replace X8 := X9
      replace K := K9
      clear X9 K9 so
      rw [Hi0.out] at Fq
      rw [Hi1.out, Hi0.out] at Fk
      rw [Hi2.out, Hi1.out, Hi0.out] at Fv
      rw [Hi3.out, Hi2.out, Hi1.out, Hi0.out] at Fo
      rw [Hi4.out, Hi3.out, Hi2.out, Hi1.out, Hi0.out] at Fs
      rw [Hi5.out, Hi4.out, Hi3.out, Hi2.out, Hi1.out, Hi0.out] at Fu
      rw [Hi6.out, Hi5.out, Hi4.out, Hi3.out, Hi2.out, Hi1.out, Hi0.out] at Fd
      have HY : Hid (MadeR x7 w.heap.size seed i D H ⟨⟨some ⟨gf, 0, none⟩, D, cf⟩, ⟨D, D, ⟨some ⟨gq, 0, none⟩, D * D, cq⟩⟩, ⟨D, D, ⟨some ⟨gk, 0, none⟩, D * D, ck⟩⟩, ⟨D, D, ⟨some ⟨gv, 0, none⟩, D * D, cv⟩⟩, ⟨D, D, ⟨some ⟨go, 0, none⟩, D * D, co⟩⟩, ⟨some ⟨gs, 0, none⟩, D, cs⟩, ⟨H, D, ⟨some ⟨gu, 0, none⟩, H * D, cu⟩⟩, ⟨D, H, ⟨some ⟨gd, 0, none⟩, D * H, cd⟩⟩⟩) := ⟨Ff, ⟨rfl, rfl, Fq⟩, ⟨rfl, rfl, Fk⟩, ⟨rfl, rfl, Fv⟩, ⟨rfl, rfl, Fo⟩, Fs, ⟨rfl, rfl, Fu⟩, ⟨rfl, rfl, Fd⟩⟩
      have H7 : Hid (i7 = V * D + (t + 1) * lenB D H) := by
        show _ = _
        rw [Hi7.out, Hi6.out, Hi5.out, Hi4.out, Hi3.out, Hi2.out, Hi1.out, Hi0.out, HI.out, Nat.add_mul, Nat.one_mul]
        generalize t * lenB D H = z
        unfold lenB
        omega
      have hb7 : i7 ≤ 2048 + (t + 1) * 8256 := by
        have e7 := H7.out
        have e8 := HI.out
        rw [Nat.add_mul, Nat.one_mul] at e7
        omega
      clear Ff Fq Fk Fv Fo Fs Fu Fd bi0 bi1 bi2 bi3 bi4 bi5 bi6 bi7 Hi0 Hi1 Hi2 Hi3 Hi4 Hi5 Hi6 Hi7
      have i64n : ∀ {n : Nat}, n ≤ 4096 → I64 (n : Int) := fun h => by unfold I64; omega
      have hyo : Bk.Ok ⟨⟨some ⟨gf, 0, none⟩, D, cf⟩, ⟨D, D, ⟨some ⟨gq, 0, none⟩, D * D, cq⟩⟩, ⟨D, D, ⟨some ⟨gk, 0, none⟩, D * D, ck⟩⟩, ⟨D, D, ⟨some ⟨gv, 0, none⟩, D * D, cv⟩⟩, ⟨D, D, ⟨some ⟨go, 0, none⟩, D * D, co⟩⟩, ⟨some ⟨gs, 0, none⟩, D, cs⟩, ⟨H, D, ⟨some ⟨gu, 0, none⟩, H * D, cu⟩⟩, ⟨D, H, ⟨some ⟨gd, 0, none⟩, D * H, cd⟩⟩⟩ := ⟨(by show D ≤ 9223372036854775807; omega), ⟨i64n (by omega), i64n (by omega)⟩, ⟨i64n (by omega), i64n (by omega)⟩, ⟨i64n (by omega), i64n (by omega)⟩, ⟨i64n (by omega), i64n (by omega)⟩, (by show D ≤ 9223372036854775807; omega), ⟨i64n (by omega), i64n (by omega)⟩, ⟨i64n (by omega), i64n (by omega)⟩⟩
      clear i64n
      have XN := blk_new x7 60 #[.slice (some ⟨gf, 0, none⟩) (D) cf, .int .i64 D, .int .i64 D, .slice (some ⟨gq, 0, none⟩) (D * D) cq, .int .i64 D, .int .i64 D, .slice (some ⟨gk, 0, none⟩) (D * D) ck, .int .i64 D, .int .i64 D, .slice (some ⟨gv, 0, none⟩) (D * D) cv, .int .i64 D, .int .i64 D, .slice (some ⟨go, 0, none⟩) (D * D) co, .slice (some ⟨gs, 0, none⟩) (D) cs, .int .i64 H, .int .i64 D, .slice (some ⟨gu, 0, none⟩) (H * D) cu, .int .i64 D, .int .i64 H, .slice (some ⟨gd, 0, none⟩) (D * H) cd]
      have BN : Below x7.heap.size x7 (x7.alloc (.cells #[.slice (some ⟨gf, 0, none⟩) (D) cf, .int .i64 D, .int .i64 D, .slice (some ⟨gq, 0, none⟩) (D * D) cq, .int .i64 D, .int .i64 D, .slice (some ⟨gk, 0, none⟩) (D * D) ck, .int .i64 D, .int .i64 D, .slice (some ⟨gv, 0, none⟩) (D * D) cv, .int .i64 D, .int .i64 D, .slice (some ⟨go, 0, none⟩) (D * D) co, .slice (some ⟨gs, 0, none⟩) (D) cs, .int .i64 H, .int .i64 D, .slice (some ⟨gu, 0, none⟩) (H * D) cu, .int .i64 D, .int .i64 H, .slice (some ⟨gd, 0, none⟩) (D * H) cd] 60)) := (Below.refl _ _).alloc (Nat.le_refl _) _
      generalize hwn : x7.alloc (.cells #[.slice (some ⟨gf, 0, none⟩) (D) cf, .int .i64 D, .int .i64 D, .slice (some ⟨gq, 0, none⟩) (D * D) cq, .int .i64 D, .int .i64 D, .slice (some ⟨gk, 0, none⟩) (D * D) ck, .int .i64 D, .int .i64 D, .slice (some ⟨gv, 0, none⟩) (D * D) cv, .int .i64 D, .int .i64 D, .slice (some ⟨go, 0, none⟩) (D * D) co, .slice (some ⟨gs, 0, none⟩) (D) cs, .int .i64 H, .int .i64 D, .slice (some ⟨gu, 0, none⟩) (H * D) cu, .int .i64 D, .int .i64 H, .slice (some ⟨gd, 0, none⟩) (D * H) cd] 60) = wn at *
      have c9 : x7.cell? ⟨w.heap.size + 1 + 1, 3, none⟩ = some (.slice pa t pc) := (Y6.below K).cell 3 rfl
      have KN := below_then K BN
      have Y6n := Y6.below KN
      have kn := KN.size
      go_wp2_with (first
        | (refine wpList_load_row rfl 60 _ rfl wr.heap.size rfl 60 #[.slice (some ⟨gf, 0, none⟩) (D) cf, .int .i64 D, .int .i64 D, .slice (some ⟨gq, 0, none⟩) (D * D) cq, .int .i64 D, .int .i64 D, .slice (some ⟨gk, 0, none⟩) (D * D) ck, .int .i64 D, .int .i64 D, .slice (some ⟨gv, 0, none⟩) (D * D) cv, .int .i64 D, .int .i64 D, .slice (some ⟨go, 0, none⟩) (D * D) co, .slice (some ⟨gs, 0, none⟩) (D) cs, .int .i64 H, .int .i64 D, .slice (some ⟨gu, 0, none⟩) (H * D) cu, .int .i64 D, .int .i64 H, .slice (some ⟨gd, 0, none⟩) (D * H) cd] (0, 0) _ X8 Tryd.underlying60 rfl Tryd.infoRB1 ?_)
        | (at_builtin; refine wpList_append_block2 rfl (.tmp 113) (.tmp 115) rfl (w.heap.size + 1 + 1 + 1) ⟨pa, t, pc⟩ bs rfl (O1.below KN) x7.heap.size ⟨⟨some ⟨gf, 0, none⟩, D, cf⟩, ⟨D, D, ⟨some ⟨gq, 0, none⟩, D * D, cq⟩⟩, ⟨D, D, ⟨some ⟨gk, 0, none⟩, D * D, ck⟩⟩, ⟨D, D, ⟨some ⟨gv, 0, none⟩, D * D, cv⟩⟩, ⟨D, D, ⟨some ⟨go, 0, none⟩, D * D, co⟩⟩, ⟨some ⟨gs, 0, none⟩, D, cs⟩, ⟨H, D, ⟨some ⟨gu, 0, none⟩, H * D, cu⟩⟩, ⟨D, H, ⟨some ⟨gd, 0, none⟩, D * H, cd⟩⟩⟩ rfl XN hyo (by show t + 1 ≤ 1000000; omega) (by omega) ?_; intro S' wp hS' O9 B9 T9; obtain ⟨pa', pn', pc'⟩ := S'; simp only at hS'; subst hS'; unfold Sl.v; have Y9 := Y6n.of_block (B9.block (w.heap.size + 1 + 1) (by omega)); have f9 := Y9.frozen 3; have d9 : wp.cell? ⟨w.heap.size + 1 + 1, 3, none⟩ = some (.slice pa t pc) := Y9.cell 3 rfl; have s9 := B9.size))
      go_roundg (L - (t + 1))
      case measure => omega
      case rel =>
        have so : ∀ k, k ≠ w.heap.size + 1 + 1 → (wp.setCell ⟨w.heap.size + 1 + 1, 3, none⟩ (.slice pa' (t + 1) pc')).heap[k]? = wp.heap[k]? := set1_other
        have lb : bs.length = t := O1.len
        refine ⟨t + 1, i7, pa', pc', bs ++ [⟨⟨some ⟨gf, 0, none⟩, D, cf⟩, ⟨D, D, ⟨some ⟨gq, 0, none⟩, D * D, cq⟩⟩, ⟨D, D, ⟨some ⟨gk, 0, none⟩, D * D, ck⟩⟩, ⟨D, D, ⟨some ⟨gv, 0, none⟩, D * D, cv⟩⟩, ⟨D, D, ⟨some ⟨go, 0, none⟩, D * D, co⟩⟩, ⟨some ⟨gs, 0, none⟩, D, cs⟩, ⟨H, D, ⟨some ⟨gu, 0, none⟩, H * D, cu⟩⟩, ⟨D, H, ⟨some ⟨gd, 0, none⟩, D * H, cd⟩⟩⟩], by omega, rfl, rfl, H7, hb7, O9.keep Y9 (by decide) so, (fun j x hx => ?_), ((FE.below KN).type T9).keep Y9 (by decide) so, Y9.set 3 _, ((X1.below KN).of_block (B9.block _ (by omega))).of_block (so _ (by omega)), ((X0.below KN).of_block (B9.block _ (by omega))).of_block (so _ (by omega)), ((below_then B6 KN).trans (B9.mono (by omega))).setCell (p := ⟨w.heap.size + 1 + 1, 3, none⟩) (by show w.heap.size ≤ w.heap.size + 1 + 1; omega) _, by simp [World.setCell]; omega⟩
        rcases Nat.lt_or_ge j bs.length with hj | hj
        · rw [List.getElem?_append_left hj] at hx
          exact (((HM.out j x hx).below KN).type T9).keep Y9 (by decide) so
        · rw [List.getElem?_append_right hj] at hx
          have hj2 := (List.getElem?_eq_some_iff.1 hx).1
          simp only [List.length_cons, List.length_nil] at hj2
          obtain rfl : j = t := by omega
          rw [lb, Nat.sub_self] at hx
          simp only [List.getElem?_cons_zero, Option.some.injEq] at hx
          subst hx
          rw [← HI.out]
          exact ((HY.out.below BN).type T9).keep Y9 (by decide) so
    · obtain rfl : L = t := by omega
      have c1 : wr.cell? ⟨w.heap.size, 1, none⟩ = some (.int .i64 D) := X0.cell 1 rfl
      go_wp2_with fail
      clear c3 c4 c1 hlt ht
      refine (rrow_any seed i D 16384 65536 _ (by omega) (by omega) (by omega) (by omega) (by omega)).mono ?_
      rintro e y0 ⟨gl, cl, rfl, Fl, KB⟩
      obtain ⟨i9, H9⟩ : ∃ z, Hid (z = i + D) := ⟨_, rfl⟩
      have bi9 : i9 ≤ i + D := Nat.le_of_eq H9.out
      rw [← H9.out]
      replace Fl : FR y0 w.heap.size ⟨some ⟨gl, 0, none⟩, D, cl⟩ D (gainR seed i D) := ⟨gl, rfl, rfl, by rw [← gain_tab]; exact Fl.mono (by omega)⟩
      have sy := KB.size
      replace HM : Hid (∀ j x, bs[j]? = some x → MadeR y0 w.heap.size seed (V * D + j * lenB D H) D H x) := fun j x hx => (HM.out j x hx).below KB
      replace O1 := O1.below KB
      replace FE := FE.below KB
      replace X0 := X0.below KB
      replace X1 := X1.below KB
      replace Y6 := Y6.below KB
      replace B6 := below_then B6 KB
      have fr := Y6.frozen 4
      have cc : y0.cell? ⟨w.heap.size + 1 + 1, 4, none⟩ = some (.slice none 0 0) := Y6.cell 4 rfl
      have so : ∀ k, k ≠ w.heap.size + 1 + 1 → (y0.setCell ⟨w.heap.size + 1 + 1, 4, none⟩ (.slice (some ⟨gl, 0, none⟩) D cl)).heap[k]? = y0.heap[k]? := set1_other
      have Y7 : Blk (y0.setCell ⟨w.heap.size + 1 + 1, 4, none⟩ (.slice (some ⟨gl, 0, none⟩) D cl)) (w.heap.size + 1 + 1) 33 #[.int .i64 V, .int .i64 D, .slice (some ⟨ge, 0, none⟩) (V * D) ce, .slice pa L pc, .slice (some ⟨gl, 0, none⟩) D cl, .int .i64 0, .int .i64 0, .slice none 0 0] := Y6.set 4 _
      have B7 := B6.setCell (p := ⟨w.heap.size + 1 + 1, 4, none⟩) (by show w.heap.size ≤ w.heap.size + 1 + 1; omega) (.slice (some ⟨gl, 0, none⟩) D cl)
      have sz : (y0.setCell ⟨w.heap.size + 1 + 1, 4, none⟩ (.slice (some ⟨gl, 0, none⟩) D cl)).heap.size = y0.heap.size := by simp [World.setCell]
      generalize hz0 : y0.setCell ⟨w.heap.size + 1 + 1, 4, none⟩ (.slice (some ⟨gl, 0, none⟩) D cl) = z0 at *
      replace HM : Hid (∀ j x, bs[j]? = some x → MadeR z0 w.heap.size seed (V * D + j * lenB D H) D H x) := fun j x hx => (HM.out j x hx).keep Y6 (by decide) so
      replace O1 := O1.keep Y6 (by decide) so
      replace FE := FE.keep Y6 (by decide) so
      replace Fl := Fl.keep Y6 (by decide) so
      replace X0 := X0.of_block (so _ (by omega))
      replace X1 := X1.of_block (so _ (by omega))
      have c0 : z0.cell? ⟨w.heap.size, 0, none⟩ = some (.int .i64 V) := X0.cell 0 rfl
      have c1 : z0.cell? ⟨w.heap.size, 1, none⟩ = some (.int .i64 D) := X0.cell 1 rfl
      clear KB so
      go_wp2_with fail
      clear hz0 fr cc c0 c1 Y6 B6
      refine (rsquare_any seed i9 V D 65536 _ (by omega) (by omega) (by omega) (by omega) (by omega)).mono ?_
      rintro e y1 ⟨gu, cu, rfl, Fu, KB⟩
      unfold matV
      replace Fu : FR y1 w.heap.size ⟨some ⟨gu, 0, none⟩, V * D, cu⟩ (V * D) (numR seed i9 (V * D) 65536) := ⟨gu, rfl, rfl, Fu.mono (by omega)⟩
      have sy1 := KB.size
      replace HM : Hid (∀ j x, bs[j]? = some x → MadeR y1 w.heap.size seed (V * D + j * lenB D H) D H x) := fun j x hx => (HM.out j x hx).below KB
      replace O1 := O1.below KB
      replace FE := FE.below KB
      replace Fl := Fl.below KB
      replace X1 := X1.below KB
      replace Y7 := Y7.below KB
      replace B7 := below_then B7 KB
      have fr0 := Y7.frozen 5
      have fr1 := Y7.frozen 6
      have fr2 := Y7.frozen 7
      have cc0 : y1.cell? ⟨w.heap.size + 1 + 1, 5, none⟩ = some (.int .i64 0) := Y7.cell 5 rfl
      have cc1 : y1.cell? ⟨w.heap.size + 1 + 1, 6, none⟩ = some (.int .i64 0) := Y7.cell 6 rfl
      have cc2 : y1.cell? ⟨w.heap.size + 1 + 1, 7, none⟩ = some (.slice none 0 0) := Y7.cell 7 rfl
      have so : ∀ k, k ≠ w.heap.size + 1 + 1 → (((y1.setCell ⟨w.heap.size + 1 + 1, 5, none⟩ (.int .i64 V)).setCell ⟨w.heap.size + 1 + 1, 6, none⟩ (.int .i64 D)).setCell ⟨w.heap.size + 1 + 1, 7, none⟩ (.slice (some ⟨gu, 0, none⟩) (V * D) cu)).heap[k]? = y1.heap[k]? := set3_other
      have Y8 : Blk (((y1.setCell ⟨w.heap.size + 1 + 1, 5, none⟩ (.int .i64 V)).setCell ⟨w.heap.size + 1 + 1, 6, none⟩ (.int .i64 D)).setCell ⟨w.heap.size + 1 + 1, 7, none⟩ (.slice (some ⟨gu, 0, none⟩) (V * D) cu)) (w.heap.size + 1 + 1) 33 #[.int .i64 V, .int .i64 D, .slice (some ⟨ge, 0, none⟩) (V * D) ce, .slice pa L pc, .slice (some ⟨gl, 0, none⟩) D cl, .int .i64 V, .int .i64 D, .slice (some ⟨gu, 0, none⟩) (V * D) cu] := ((Y7.set 5 _).set 6 _).set 7 _
      have B8 := Below.set3 B7 (by omega : w.heap.size ≤ w.heap.size + 1 + 1) 5 6 7 (.int .i64 V) (.int .i64 D) (.slice (some ⟨gu, 0, none⟩) (V * D) cu)
      generalize hz1 : ((y1.setCell ⟨w.heap.size + 1 + 1, 5, none⟩ (.int .i64 V)).setCell ⟨w.heap.size + 1 + 1, 6, none⟩ (.int .i64 D)).setCell ⟨w.heap.size + 1 + 1, 7, none⟩ (.slice (some ⟨gu, 0, none⟩) (V * D) cu) = z1 at *
      replace HM : Hid (∀ j x, bs[j]? = some x → MadeR z1 w.heap.size seed (V * D + j * lenB D H) D H x) := fun j x hx => (HM.out j x hx).keep Y7 (by decide) so
      replace O1 := O1.keep Y7 (by decide) so
      replace FE := FE.keep Y7 (by decide) so
      replace Fl := Fl.keep Y7 (by decide) so
      replace Fu := Fu.keep Y7 (by decide) so
      replace X1 := X1.of_block (so _ (by omega))
      clear KB so Y7 B7 X0
      have hall : Array.all (#[.int .i64 V, .int .i64 D, .slice (some ⟨ge, 0, none⟩) (V * D) ce, .slice pa L pc, .slice (some ⟨gl, 0, none⟩) D cl, .int .i64 V, .int .i64 D, .slice (some ⟨gu, 0, none⟩) (V * D) cu] : Array Value) (fun v => v.oneCell') = true := by simp [Value.oneCell']
      go_wp2_with (first | (refine wpList_load_row rfl 33 _ rfl (w.heap.size + 1 + 1) rfl 33 #[.int .i64 V, .int .i64 D, .slice (some ⟨ge, 0, none⟩) (V * D) ce, .slice pa L pc, .slice (some ⟨gl, 0, none⟩) D cl, .int .i64 V, .int .i64 D, .slice (some ⟨gu, 0, none⟩) (V * D) cu] (0, 0) _ Y8 Tryd.underlying33 rfl Tryd.infoRW ?_) | (refine wpList_store_row rfl 33 _ _ rfl (w.heap.size + 1) #[.int .i64 V, .int .i64 D, .slice (some ⟨ge, 0, none⟩) (V * D) ce, .slice pa L pc, .slice (some ⟨gl, 0, none⟩) D cl, .int .i64 V, .int .i64 D, .slice (some ⟨gu, 0, none⟩) (V * D) cu] rfl rfl 33 _ X1 Tryd.infoRW rfl hall ?_))
      refine bodyPost_ret (results_cell_row rfl _ _ (w.heap.size + 1) 33 #[.int .i64 V, .int .i64 D, .slice (some ⟨ge, 0, none⟩) (V * D) ce, .slice pa L pc, .slice (some ⟨gl, 0, none⟩) D cl, .int .i64 V, .int .i64 D, .slice (some ⟨gu, 0, none⟩) (V * D) cu] _ _ rfl (X1.row #[.int .i64 V, .int .i64 D, .slice (some ⟨ge, 0, none⟩) (V * D) ce, .slice pa L pc, .slice (some ⟨gl, 0, none⟩) D cl, .int .i64 V, .int .i64 D, .slice (some ⟨gu, 0, none⟩) (V * D) cu]) Tryd.underlying33 rfl Tryd.infoRW) rfl ?_
      have so : ∀ k, k ≠ w.heap.size + 1 → (z1.setRow (w.heap.size + 1) #[.int .i64 V, .int .i64 D, .slice (some ⟨ge, 0, none⟩) (V * D) ce, .slice pa L pc, .slice (some ⟨gl, 0, none⟩) D cl, .int .i64 V, .int .i64 D, .slice (some ⟨gu, 0, none⟩) (V * D) cu]).heap[k]? = z1.heap[k]? := fun k hk => setRow_other _ _ _ _ hk
      have e9 := H9.out
      have eI := HI.out
      rw [e9, eI] at Fu
      rw [eI] at Fl
      exact ⟨⟨some ⟨ge, 0, none⟩, V * D, ce⟩, ⟨pa, L, pc⟩, ⟨some ⟨gl, 0, none⟩, D, cl⟩, ⟨some ⟨gu, 0, none⟩, V * D, cu⟩, bs, rfl, rfl, (O1.keep X1 (by decide) so).mono (by omega), (fun j x hx => (HM.out j x hx).keep X1 (by decide) so), FE.keep X1 (by decide) so, Fl.keep X1 (by decide) so, Fu.keep X1 (by decide) so, below_setRow B8 (by omega) _⟩
end Go.Proofs.YtoofbjpekdlfiaaDoor

/- Rows of layers of the call's own that grow, as one operation. -/
namespace Go.Proofs.YtoofbjpekdlfiaaDoor
open Go.ChangeShapes Go.WideShapes Go.ChangeAt Go.RowKit
theorem wp_append_blockR {w : World} {o : Oper} {a : Act} {K : Act → World → Prop} {Q : Exit → Act → World → Prop} (s x : Operand)
    (ho : o.op = .call { callee := .builtin .append, args := #[s, x], argTypes := #[31, 31] })
    (B : Nat) (S : Sl) (bs : List Bk) (hs : a.eval s = S.v) (hF : OwnB w B S bs) (bo : Nat) (y : Bk) (hx : a.eval x = .slice (some ⟨bo, 0, none⟩) 1 1) (hX : Blk w bo 60 y.cells) (hy : y.Ok)
    (hlen : S.n + 1 ≤ 1000000) (hB : B ≤ w.heap.size)
    (h : ∀ S' w', S'.n = S.n + 1 → OwnB w' B S' (bs ++ [y]) → Below B w w' → (∀ (k : Nat) (T : TypeId) (cs : Array Value), w.heap[k]? = some (.cells cs T (0, 0)) → T ≠ 60 → w'.heap[k]? = w.heap[k]?) → K (a.put o.dst S'.v) w') : o.wp Tryd.prog a w K Q := by
  obtain ⟨i0, hi, hz0, hz1, hz2⟩ := info_parts Tryd.infoRB
  refine wp_append_own w s x 31 ho B 60 i0 (.agg #[.slice none 0 0, .int .i64 0, .int .i64 0, .slice none 0 0, .int .i64 0, .int .i64 0, .slice none 0 0, .int .i64 0, .int .i64 0, .slice none 0 0, .int .i64 0, .int .i64 0, .slice none 0 0, .slice none 0 0, .int .i64 0, .int .i64 0, .slice none 0 0, .int .i64 0, .int .i64 0, .slice none 0 0]) 20 288 Tryd.underlying31 hi hz0 hz1 hz2 rfl (by decide) _ S.n _ hs hF.own ⟨bo, 0, none⟩ 1 1 y.cells.toList hx rfl ?_ ?_ (by unfold maxLen; omega) (by omega) hB ?_
  · intro j u hj
    rw [Addr.add_mid, Nat.zero_add]
    exact hX.cell j (by simpa using hj)
  · intro u hu
    exact (Array.all_eq_true_iff_forall_mem.1 (bk_one y)) u (by simpa using hu)
  · intro v' w' hown hg hnil
    have hb : Below B w w' := (Below.refl _ _).grown hg hB (fun k hk => (hF.own.lt k hk).1)
    have hk : ∀ (k : Nat) (T : TypeId) (cs : Array Value), w.heap[k]? = some (.cells cs T (0, 0)) → T ≠ 60 → w'.heap[k]? = w.heap[k]? := fun k T cs h1 h2 => hg.block k (Array.getElem?_eq_some_iff.1 h1).1 (hF.ne h1 h2)
    have e : flat bs ++ y.cells.toList = flat (bs ++ [y]) := by unfold flat; rw [List.flatMap_append]; simp
    rw [e] at hown
    obtain ⟨h1, h2⟩ := hown
    rcases h2 with ⟨h3, h4⟩ | ⟨g', c', cur, hv, hr⟩
    · omega
    · subst hv
      exact h ⟨some ⟨g', 0, none⟩, S.n + 1, c'⟩ w' rfl ⟨⟨h1, Or.inr ⟨g', c', cur, rfl, hr⟩⟩, fun z hz => (List.mem_append.1 hz).elim (hF.ok z) (fun h => by simp at h; subst h; exact hy), hlen⟩ hb hk
/-- A row of layers of the call's own. -/
structure OwnM (w : World) (B : Nat) (s : Sl) (bs : List Bk) : Prop where
  own : w.ownsRow B 59 20 s.v s.n (flat bs)
  ok : ∀ x ∈ bs, x.Ok
  few : s.n ≤ 1000000
theorem OwnM.len {w : World} {B : Nat} {s : Sl} {bs : List Bk} (h : OwnM w B s bs) : bs.length = s.n := by
  have := h.own.1
  rw [flat_len] at this
  omega
theorem OwnM.blocks {w : World} {B : Nat} {s : Sl} {bs : List Bk} (h : OwnM w B s bs) : BlocksAt w s bs := by
  refine ⟨h.len, by have := h.few; omega, h.ok, fun hn => ?_⟩
  rcases h.own.2 with ⟨h0, h1⟩ | ⟨g, cap, cur, hv, _⟩
  · omega
  · unfold Sl.v at hv
    simp only [Value.slice.injEq, true_and] at hv
    refine ⟨g, 0, hv.1, fun t x hx j v hv2 => ?_⟩
    have hc := h.own.cells (g := g) (by unfold Sl.v; rw [hv.1]; rfl) (t * 20 + j) v (flat_at bs t x hx j v hv2)
    rw [Addr.add_mid] at hc
    rw [Nat.zero_add] at hc ⊢
    exact hc
theorem OwnM.below {w w' : World} {B : Nat} {s : Sl} {bs : List Bk} (h : OwnM w B s bs) (hb : Below w.heap.size w w') : OwnM w' B s bs := by
  obtain ⟨h1, h2⟩ := h.own
  refine ⟨⟨h1, ?_⟩, h.ok, h.few⟩
  rcases h2 with h2 | ⟨g, cap, cur, hv, hg, hh, r⟩
  · exact Or.inl h2
  · exact Or.inr ⟨g, cap, cur, hv, hg, by rw [hb.block g (Array.getElem?_eq_some_iff.1 hh).1]; exact hh, r⟩
theorem ownM_nil (w : World) (B : Nat) : OwnM w B ⟨none, 0, 0⟩ [] := ⟨World.ownsRow_nil _ _ _ _, (fun x hx => by cases hx), (by show 0 ≤ 1000000; omega)⟩
theorem OwnM.ne {w : World} {B : Nat} {s : Sl} {bs : List Bk} (h : OwnM w B s bs) {b : Nat} {T : TypeId} {cs : Array Value} (hb : w.heap[b]? = some (.cells cs T (0, 0))) (hT : T ≠ 59) : some b ≠ s.v.ownBlock := by
  intro e
  rcases h.own.2 with ⟨h0, _⟩ | ⟨g, cap, cur, hv, _, hh, _⟩
  · rw [h0] at e; simp [Value.ownBlock] at e
  · rw [hv] at e
    simp [Value.ownBlock] at e
    subst e
    rw [hb] at hh
    simp at hh
    exact hT hh.2
theorem OwnM.keep {w w' : World} {B b : Nat} {T : TypeId} {cs : Array Value} {s : Sl} {bs : List Bk} (h : OwnM w B s bs) (hb : Blk w b T cs) (hT : T ≠ 59) (so : ∀ k, k ≠ b → w'.heap[k]? = w.heap[k]?) : OwnM w' B s bs := by
  have hne := h.ne hb hT
  obtain ⟨h1, h2⟩ := h.own
  refine ⟨⟨h1, h2.imp id ?_⟩, h.ok, h.few⟩
  rintro ⟨g, cap, cur, hv, hg, hh, r⟩
  exact ⟨g, cap, cur, hv, hg, by rw [so g (fun e => hne (by rw [hv, e]; rfl))]; exact hh, r⟩
theorem OwnM.mono {w : World} {B B' : Nat} {s : Sl} {bs : List Bk} (h : OwnM w B s bs) (hB : B' ≤ B) : OwnM w B' s bs := by
  obtain ⟨h1, h2⟩ := h.own
  refine ⟨⟨h1, h2.imp id ?_⟩, h.ok, h.few⟩
  rintro ⟨g, cap, cur, hv, hg, r⟩
  exact ⟨g, cap, cur, hv, by omega, r⟩
/-- append(out, block): nothing turns but the row of layers. -/
theorem wpList_append_blockM {w : World} {ops : Array Oper} {rest : List Oper} {o : Oper} {a : Act} {Q : Exit → Act → World → Prop} (hgd : o.guard = none) (s x : Operand)
    (ho : o.op = .call { callee := .builtin .append, args := #[s, x], argTypes := #[27, 27] })
    (B : Nat) (S : Sl) (bs : List Bk) (hs : a.eval s = S.v) (hF : OwnM w B S bs) (bo : Nat) (y : Bk) (hx : a.eval x = .slice (some ⟨bo, 0, none⟩) 1 1) (hX : Blk w bo 59 y.cells) (hy : y.Ok)
    (hlen : S.n + 1 ≤ 1000000) (hB : B ≤ w.heap.size)
    (h : ∀ S' w', S'.n = S.n + 1 → OwnM w' B S' (bs ++ [y]) → Below B w w' → (∀ (k : Nat) (T : TypeId) (cs : Array Value), w.heap[k]? = some (.cells cs T (0, 0)) → T ≠ 59 → w'.heap[k]? = w.heap[k]?) → wpList Tryd.prog ops Q rest (a.put o.dst S'.v) w') : wpList Tryd.prog ops Q (o :: rest) a w := by
  obtain ⟨i0, hi, hz0, hz1, hz2⟩ := info_parts Tryd.infoBlk
  refine wpList_append_own w hgd s x 27 ho B 59 i0 (.agg #[.slice none 0 0, .int .i64 0, .int .i64 0, .slice none 0 0, .int .i64 0, .int .i64 0, .slice none 0 0, .int .i64 0, .int .i64 0, .slice none 0 0, .int .i64 0, .int .i64 0, .slice none 0 0, .slice none 0 0, .int .i64 0, .int .i64 0, .slice none 0 0, .int .i64 0, .int .i64 0, .slice none 0 0]) 20 288 Tryd.underlying27 hi hz0 hz1 hz2 rfl (by decide) _ S.n _ hs hF.own ⟨bo, 0, none⟩ 1 1 y.cells.toList hx rfl ?_ ?_ (by unfold maxLen; omega) (by omega) hB ?_
  · intro j u hj
    rw [Addr.add_mid, Nat.zero_add]
    exact hX.cell j (by simpa using hj)
  · intro u hu
    exact (Array.all_eq_true_iff_forall_mem.1 (bk_one y)) u (by simpa using hu)
  · intro v' w' hown hg hnil
    have hb : Below B w w' := (Below.refl _ _).grown hg hB (fun k hk => (hF.own.lt k hk).1)
    have hk : ∀ (k : Nat) (T : TypeId) (cs : Array Value), w.heap[k]? = some (.cells cs T (0, 0)) → T ≠ 59 → w'.heap[k]? = w.heap[k]? := fun k T cs h1 h2 => hg.block k (Array.getElem?_eq_some_iff.1 h1).1 (hF.ne h1 h2)
    have e : flat bs ++ y.cells.toList = flat (bs ++ [y]) := by unfold flat; rw [List.flatMap_append]; simp
    rw [e] at hown
    obtain ⟨h1, h2⟩ := hown
    rcases h2 with ⟨h3, h4⟩ | ⟨g', c', cur, hv, hr⟩
    · omega
    · subst hv
      exact h ⟨some ⟨g', 0, none⟩, S.n + 1, c'⟩ w' rfl ⟨⟨h1, Or.inr ⟨g', c', cur, rfl, hr⟩⟩, fun z hz => (List.mem_append.1 hz).elim (hF.ok z) (fun h => by simp at h; subst h; exact hy), hlen⟩ hb hk
theorem FR.typeM {w w' : World} {B : Nat} {s : Sl} {n : Nat} {A : List Int} (h : FR w B s n A) (hk : ∀ (k : Nat) (T : TypeId) (cs : Array Value), w.heap[k]? = some (.cells cs T (0, 0)) → T ≠ 59 → w'.heap[k]? = w.heap[k]?) : FR w' B s n A := by
  obtain ⟨g, h1, h2, F⟩ := h
  obtain ⟨c9, h9, _⟩ := F.row
  exact ⟨g, h1, h2, F.of_block (hk g _ _ h9 (by decide))⟩
theorem wp_append_blockM {w : World} {o : Oper} {a : Act} {K : Act → World → Prop} {Q : Exit → Act → World → Prop} (s x : Operand)
    (ho : o.op = .call { callee := .builtin .append, args := #[s, x], argTypes := #[27, 27] })
    (B : Nat) (S : Sl) (bs : List Bk) (hs : a.eval s = S.v) (hF : OwnM w B S bs) (bo : Nat) (y : Bk) (hx : a.eval x = .slice (some ⟨bo, 0, none⟩) 1 1) (hX : Blk w bo 59 y.cells) (hy : y.Ok)
    (hlen : S.n + 1 ≤ 1000000) (hB : B ≤ w.heap.size)
    (h : ∀ S' w', S'.n = S.n + 1 → OwnM w' B S' (bs ++ [y]) → Below B w w' → (∀ (k : Nat) (T : TypeId) (cs : Array Value), w.heap[k]? = some (.cells cs T (0, 0)) → T ≠ 59 → w'.heap[k]? = w.heap[k]?) → K (a.put o.dst S'.v) w') : o.wp Tryd.prog a w K Q := by
  obtain ⟨i0, hi, hz0, hz1, hz2⟩ := info_parts Tryd.infoBlk
  refine wp_append_own w s x 27 ho B 59 i0 (.agg #[.slice none 0 0, .int .i64 0, .int .i64 0, .slice none 0 0, .int .i64 0, .int .i64 0, .slice none 0 0, .int .i64 0, .int .i64 0, .slice none 0 0, .int .i64 0, .int .i64 0, .slice none 0 0, .slice none 0 0, .int .i64 0, .int .i64 0, .slice none 0 0, .int .i64 0, .int .i64 0, .slice none 0 0]) 20 288 Tryd.underlying27 hi hz0 hz1 hz2 rfl (by decide) _ S.n _ hs hF.own ⟨bo, 0, none⟩ 1 1 y.cells.toList hx rfl ?_ ?_ (by unfold maxLen; omega) (by omega) hB ?_
  · intro j u hj
    rw [Addr.add_mid, Nat.zero_add]
    exact hX.cell j (by simpa using hj)
  · intro u hu
    exact (Array.all_eq_true_iff_forall_mem.1 (bk_one y)) u (by simpa using hu)
  · intro v' w' hown hg hnil
    have hb : Below B w w' := (Below.refl _ _).grown hg hB (fun k hk => (hF.own.lt k hk).1)
    have hk : ∀ (k : Nat) (T : TypeId) (cs : Array Value), w.heap[k]? = some (.cells cs T (0, 0)) → T ≠ 59 → w'.heap[k]? = w.heap[k]? := fun k T cs h1 h2 => hg.block k (Array.getElem?_eq_some_iff.1 h1).1 (hF.ne h1 h2)
    have e : flat bs ++ y.cells.toList = flat (bs ++ [y]) := by unfold flat; rw [List.flatMap_append]; simp
    rw [e] at hown
    obtain ⟨h1, h2⟩ := hown
    rcases h2 with ⟨h3, h4⟩ | ⟨g', c', cur, hv, hr⟩
    · omega
    · subst hv
      exact h ⟨some ⟨g', 0, none⟩, S.n + 1, c'⟩ w' rfl ⟨⟨h1, Or.inr ⟨g', c', cur, rfl, hr⟩⟩, fun z hz => (List.mem_append.1 hz).elim (hF.ok z) (fun h => by simp at h; subst h; exact hy), hlen⟩ hb hk
end Go.Proofs.YtoofbjpekdlfiaaDoor

/- Rows of rows in memory: what a slice of slices reads as. -/
namespace Go.Proofs.YtoofbjpekdlfiaaDoor
open Go.ChangeShapes Go.WideShapes Go.ChangeAt Go.RowKit
/-- Row t of several; beyond their end: none. -/
def rowOf (R : List (List Int)) (t : Nat) : List Int := R.getD t []
/-- In w the slice that begins at ao, of n rows, reads as R. -/
structure GridAt (w : World) (ao : Option Addr) (n : Nat) (R : List (List Int)) : Prop where
  len : R.length = n
  max : n ≤ 9223372036854775807
  cells : 0 < n → ∃ b o, ao = some ⟨b, o, none⟩ ∧ ∀ t, t < n → ∃ ro m c, w.cell? ⟨b, o + t, none⟩ = some (.slice ro m c) ∧ Arg w ro m c (rowOf R t)
theorem GridAt.nil (w : World) (ao : Option Addr) : GridAt w ao 0 [] := ⟨rfl, by omega, fun h => by omega⟩
theorem GridAt.below {w w' : World} {ao : Option Addr} {n : Nat} {R : List (List Int)} (h : GridAt w ao n R) (hb : Below w.heap.size w w') : GridAt w' ao n R := by
  refine ⟨h.len, h.max, fun hn => ?_⟩
  obtain ⟨b, o, e, hc⟩ := h.cells hn
  refine ⟨b, o, e, fun t ht => ?_⟩
  obtain ⟨ro, m, c, h1, h2⟩ := hc t ht
  have hlt : b < w.heap.size := by simpa using World.block_lt_of_cell? w _ h1
  exact ⟨ro, m, c, by rw [hb.cell (by exact hlt)]; exact h1, h2.below hb⟩
theorem GridAt.drewN {w : World} {ao : Option Addr} {n : Nat} {R : List (List Int)} (h : GridAt w ao n R) (m : Nat) : GridAt (w.drewN m) ao n R := h.below (below_drewN (Below.refl _ _) m)
/-- Are the first k rows as long as the first? -/
def alike (R : List (List Int)) : Nat → Bool
  | 0 => true
  | k + 1 => alike R k && ((rowOf R k).length == (rowOf R 0).length)
theorem alike_len {R : List (List Int)} {n : Nat} (h : alike R n = true) {t : Nat} (ht : t < n) : (rowOf R t).length = (rowOf R 0).length := by
  induction n with
  | zero => omega
  | succ n ih =>
    unfold alike at h
    rw [Bool.and_eq_true] at h
    rcases Nat.lt_or_ge t n with h1 | h1
    · exact ih h.1 h1
    · obtain rfl : t = n := by omega
      simpa using h.2
theorem alike_not {R : List (List Int)} {n t : Nat} (ht : t < n) (h : (rowOf R t).length ≠ (rowOf R 0).length) : alike R n = false := by
  cases e : alike R n with
  | false => rfl
  | true => exact absurd (alike_len e ht) h
/-- The error's number of a mix. -/
def mixedN (n : Nat) (R : List (List Int)) : Int := if n = 0 ∨ R.length = 0 then 8 else if 4096 < n then 2 else if R.length ≠ n then 6 else if alike R n = true then 0 else 6
/-- Column j of n rows. -/
def colOf (R : List (List Int)) (n j : Nat) : List Int := tab n fun i => el (rowOf R i) j
theorem mixedN_ok {n : Nat} {R : List (List Int)} (h : mixedN n R = 0) : 1 ≤ n ∧ n ≤ 4096 ∧ R.length = n ∧ ∀ t, t < n → (rowOf R t).length = (rowOf R 0).length := by
  unfold mixedN at h
  split at h
  · omega
  · split at h
    · omega
    · split at h
      · omega
      · split at h
        · rename_i h1 h2 h3 h4
          exact ⟨by omega, by omega, by omega, fun t ht => alike_len h4 ht⟩
        · omega
end Go.Proofs.YtoofbjpekdlfiaaDoor
