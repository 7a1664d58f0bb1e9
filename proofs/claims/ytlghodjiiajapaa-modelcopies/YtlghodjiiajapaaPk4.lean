/- Contracts of the program's functions, part 4 of 9: what each call returns and leaves of memory. -/
import Derived.Test.YtlghodjiiajapaaPk3
import Derived.Test.YtlghodjiiajapaaPk2
import Derived.Test.YtlghodjiiajapaaRows
import Derived.Test.YtlghodjiiajapaaPk1
import Derived.WalkKit
import Derived.ProofKit
import Derived.OpenShut
import Derived.WalkLawsBesides
import Derived.BigQuiet
import Derived.WalkSmall
import Derived.OwnWalk
import Derived.Laws.CopyOwn
import Derived.Deep.Quiet
import Derived.Deep.LoopGhost
/- Whether one layer's numbers fit a configuration. -/
namespace Go.Proofs.Ytlghodjiiajapaa
open Go.ChangeShapes Go.WideShapes Go.ChangeAt Go.RowKit
set_option maxRecDepth 100000 in
set_option maxHeartbeats 3200000 in
theorem blockFits_any (V D Hd H L : Int) (b : Bk) (w : World) (hb : b.Ok) (hD : I64 D) :
   Calls Try.prog 32 #[.agg (cfgC V D Hd H L), .agg b.cells] w fun e w' => e = .returned (.bool (bkB D H b)) ∧ Below w.heap.size w w' := by
  have HQ := fun wv => hasSides_any b.q D D wv hb.q
  have HK := fun wv => hasSides_any b.k D D wv hb.k
  have HV := fun wv => hasSides_any b.v D D wv hb.v
  have HO := fun wv => hasSides_any b.o D D wv hb.o
  have HU := fun wv => hasSides_any b.u H D wv hb.u
  have HD := fun wv => hasSides_any b.d D H wv hb.d
  have hf := hb.f
  have hs := hb.s
  clear hb
  have HB : Hid (bkB D H b = (decide ((b.f.n : Int) = D) && decide ((b.s.n : Int) = D) && sidesB b.q D D && sidesB b.k D D && sidesB b.v D D && sidesB b.o D D && sidesB b.u H D && sidesB b.d D H)) := rfl
  generalize bkB D H b = res at *
  generalize sidesB b.q D D = xq at *
  generalize sidesB b.k D D = xk at *
  generalize sidesB b.v D D = xv at *
  generalize sidesB b.o D D = xo at *
  generalize sidesB b.u H D = xu at *
  generalize sidesB b.d D H = xd at *
  obtain ⟨⟨fa, fn, fz⟩, ⟨qr, qc, ⟨qa, qn, qz⟩⟩, ⟨kr, kc, ⟨ka, kn, kz⟩⟩, ⟨vr, vc, ⟨va, vn, vz⟩⟩, ⟨or, oc, ⟨oa, on, oz⟩⟩, ⟨sa, sn, sz⟩, ⟨ur, uc, ⟨ua, un, uz⟩⟩, ⟨dr, dc, ⟨da, dn, dz⟩⟩⟩ := b
  unfold I64 at hD
  show Calls Try.prog 32 #[.agg #[.int .i64 V, .int .i64 D, .int .i64 Hd, .int .i64 H, .int .i64 L], .agg #[.slice fa fn fz, .int .i64 qr, .int .i64 qc, .slice qa qn qz, .int .i64 kr, .int .i64 kc, .slice ka kn kz, .int .i64 vr, .int .i64 vc, .slice va vn vz, .int .i64 or, .int .i64 oc, .slice oa on oz, .slice sa sn sz, .int .i64 ur, .int .i64 uc, .slice ua un uz, .int .i64 dr, .int .i64 dc, .slice da dn dz]] w _
  have X0 := blk_new w 23 #[.int .i64 V, .int .i64 D, .int .i64 Hd, .int .i64 H, .int .i64 L]
  have B0 : Below w.heap.size w (w.alloc (.cells #[.int .i64 V, .int .i64 D, .int .i64 Hd, .int .i64 H, .int .i64 L] 23)) := (Below.refl _ _).alloc (Nat.le_refl _) _
  have s0 : (w.alloc (.cells #[.int .i64 V, .int .i64 D, .int .i64 Hd, .int .i64 H, .int .i64 L] 23)).heap.size = w.heap.size + 1 := by simp
  generalize hw0 : w.alloc (.cells #[.int .i64 V, .int .i64 D, .int .i64 Hd, .int .i64 H, .int .i64 L] 23) = w0 at *
  have X1 := blk_new w0 53 #[.slice fa fn fz, .int .i64 qr, .int .i64 qc, .slice qa qn qz, .int .i64 kr, .int .i64 kc, .slice ka kn kz, .int .i64 vr, .int .i64 vc, .slice va vn vz, .int .i64 or, .int .i64 oc, .slice oa on oz, .slice sa sn sz, .int .i64 ur, .int .i64 uc, .slice ua un uz, .int .i64 dr, .int .i64 dc, .slice da dn dz]
  have B1 : Below w0.heap.size w0 (w0.alloc (.cells #[.slice fa fn fz, .int .i64 qr, .int .i64 qc, .slice qa qn qz, .int .i64 kr, .int .i64 kc, .slice ka kn kz, .int .i64 vr, .int .i64 vc, .slice va vn vz, .int .i64 or, .int .i64 oc, .slice oa on oz, .slice sa sn sz, .int .i64 ur, .int .i64 uc, .slice ua un uz, .int .i64 dr, .int .i64 dc, .slice da dn dz] 53)) := (Below.refl _ _).alloc (Nat.le_refl _) _
  have s1 : (w0.alloc (.cells #[.slice fa fn fz, .int .i64 qr, .int .i64 qc, .slice qa qn qz, .int .i64 kr, .int .i64 kc, .slice ka kn kz, .int .i64 vr, .int .i64 vc, .slice va vn vz, .int .i64 or, .int .i64 oc, .slice oa on oz, .slice sa sn sz, .int .i64 ur, .int .i64 uc, .slice ua un uz, .int .i64 dr, .int .i64 dc, .slice da dn dz] 53)).heap.size = w0.heap.size + 1 := by simp
  rw [s0] at X1 s1
  generalize hw1 : w0.alloc (.cells #[.slice fa fn fz, .int .i64 qr, .int .i64 qc, .slice qa qn qz, .int .i64 kr, .int .i64 kc, .slice ka kn kz, .int .i64 vr, .int .i64 vc, .slice va vn vz, .int .i64 or, .int .i64 oc, .slice oa on oz, .slice sa sn sz, .int .i64 ur, .int .i64 uc, .slice ua un uz, .int .i64 dr, .int .i64 dc, .slice da dn dz] 53) = w1 at *
  replace X0 := X0.below B1
  replace B1 := below_then B0 B1
  unfold matV at *
  simp only at HQ HK HV HO HU HD HB hf hs
  have a1 : w1.cell? ⟨w.heap.size, 1, none⟩ = some (.int .i64 D) := X0.cell 1 rfl
  have b0 : w1.cell? ⟨w.heap.size + 1, 0, none⟩ = some (.slice fa fn fz) := X1.cell 0 rfl
  have b13 : w1.cell? ⟨w.heap.size + 1, 13, none⟩ = some (.slice sa sn sz) := X1.cell 13 rfl
  by_cases h1 : (fn : Int) = D
  · by_cases h2 : (sn : Int) = D
    · have HB2 : Hid (res = (xq && xk && xv && xo && xu && xd)) := by show _ = _; rw [HB.out, decide_eq_true h1, decide_eq_true h2]; simp only [Bool.true_and]
      clear HB
      subst h1
      obtain rfl : sn = fn := by omega
      clear h2
      have b1 : w1.cell? ⟨w.heap.size + 1, 1, none⟩ = some (.int .i64 qr) := X1.cell 1 rfl
      have b2 : w1.cell? ⟨w.heap.size + 1, 2, none⟩ = some (.int .i64 qc) := X1.cell 2 rfl
      have b3 : w1.cell? ⟨w.heap.size + 1, 3, none⟩ = some (.slice qa qn qz) := X1.cell 3 rfl
      have b4 : w1.cell? ⟨w.heap.size + 1, 4, none⟩ = some (.int .i64 kr) := X1.cell 4 rfl
      have b5 : w1.cell? ⟨w.heap.size + 1, 5, none⟩ = some (.int .i64 kc) := X1.cell 5 rfl
      have b6 : w1.cell? ⟨w.heap.size + 1, 6, none⟩ = some (.slice ka kn kz) := X1.cell 6 rfl
      have b7 : w1.cell? ⟨w.heap.size + 1, 7, none⟩ = some (.int .i64 vr) := X1.cell 7 rfl
      have b8 : w1.cell? ⟨w.heap.size + 1, 8, none⟩ = some (.int .i64 vc) := X1.cell 8 rfl
      have b9 : w1.cell? ⟨w.heap.size + 1, 9, none⟩ = some (.slice va vn vz) := X1.cell 9 rfl
      have b10 : w1.cell? ⟨w.heap.size + 1, 10, none⟩ = some (.int .i64 or) := X1.cell 10 rfl
      have b11 : w1.cell? ⟨w.heap.size + 1, 11, none⟩ = some (.int .i64 oc) := X1.cell 11 rfl
      have b12 : w1.cell? ⟨w.heap.size + 1, 12, none⟩ = some (.slice oa on oz) := X1.cell 12 rfl
      have XM := blk_new w1 26 #[.int .i64 qr, .int .i64 qc, .slice qa qn qz, .int .i64 kr, .int .i64 kc, .slice ka kn kz, .int .i64 vr, .int .i64 vc, .slice va vn vz, .int .i64 or, .int .i64 oc, .slice oa on oz]
      have B2 : Below w1.heap.size w1 (w1.alloc (.cells #[.int .i64 qr, .int .i64 qc, .slice qa qn qz, .int .i64 kr, .int .i64 kc, .slice ka kn kz, .int .i64 vr, .int .i64 vc, .slice va vn vz, .int .i64 or, .int .i64 oc, .slice oa on oz] 26)) := (Below.refl _ _).alloc (Nat.le_refl _) _
      generalize hw2 : w1.alloc (.cells #[.int .i64 qr, .int .i64 qc, .slice qa qn qz, .int .i64 kr, .int .i64 kc, .slice ka kn kz, .int .i64 vr, .int .i64 vc, .slice va vn vz, .int .i64 or, .int .i64 oc, .slice oa on oz] 26) = w2 at *
      rw [s1] at XM
      go_enter Try.func32, Try.ntmps32
      go_wp2_with fail
      clear hw0 hw1 hw2 s0 s1 a1 b0 b13 b1 b2 b3 b4 b5 b6 b7 b8 b9 b10 b11 b12 B0
      have Y0 := X0.below B2
      have Y1 := X1.below B2
      replace B2 := below_then B1 B2
      clear X0 X1 B1
      go_loopg [31] 4 (fun r i wr => ∃ k : Nat, k ≤ 4 ∧ r = 4 - k ∧ i = .int .i64 k ∧ (1 ≤ k → xq = true) ∧ (2 ≤ k → xk = true) ∧ (3 ≤ k → xv = true) ∧ (4 ≤ k → xo = true) ∧ Below w2.heap.size w2 wr)
      case atStart => exact ⟨0, by omega, by omega, rfl, fun h => by omega, fun h => by omega, fun h => by omega, fun h => by omega, Below.refl _ _⟩
      case round =>
        obtain ⟨k, hk, rfl, rfl, q1, q2, q3, q4, B3⟩ := hrel
        have Z0 := Y0.below B3
        have Z1 := Y1.below B3
        have ZM := XM.below B3
        have s3 := B3.size
        have s2 := B2.size
        have BK := B3
        replace B3 := below_then B2 B3
        by_cases hlt : k < 4
        · have hor : k = 0 ∨ k = 1 ∨ k = 2 ∨ k = 3 := by omega
          have a1 : wr.cell? ⟨w.heap.size, 1, none⟩ = some (.int .i64 (sn : Int)) := Z0.cell 1 rfl
          rcases hor with rfl | rfl | rfl | rfl
          · have m0 : wr.cell? ⟨w.heap.size + 1 + 1, 0, none⟩ = some (.int .i64 qr) := ZM.cell 0 rfl
            have m1 : wr.cell? ⟨w.heap.size + 1 + 1, 1, none⟩ = some (.int .i64 qc) := ZM.cell 1 rfl
            have m2 : wr.cell? ⟨w.heap.size + 1 + 1, 2, none⟩ = some (.slice qa qn qz) := ZM.cell 2 rfl
            have XX := box_new wr qr qc qa qn qz
            have BX : Below wr.heap.size wr (wr.alloc (.cells #[.int .i64 qr, .int .i64 qc, .slice qa qn qz] 26)) := (Below.refl _ _).alloc (Nat.le_refl _) _
            generalize hwx : wr.alloc (.cells #[.int .i64 qr, .int .i64 qc, .slice qa qn qz] 26) = wx at *
            have x0 := XX.c0
            have x1 := XX.c1
            have x2 := XX.c2
            have d1 : wx.cell? ⟨w.heap.size, 1, none⟩ = some (.int .i64 (sn : Int)) := (Z0.below BX).cell 1 rfl
            go_wp2_with fail
            refine (HQ wx).mono ?_
            rintro e wy ⟨rfl, BY⟩
            have Bz := below_then BX BY
            have Bw := below_then B3 Bz
            clear hwx XX BX x0 x1 x2 d1 m0 m1 m2 a1 BY
            cases xq with
            | false =>
              have HF : Hid (res = false) := by show _ = _; rw [HB2.out]; simp
              go_wp2
              go_ret
              exact ⟨by rw [HF.out]; rfl, Bw⟩
            | true =>
              go_wp2
              go_roundg (4 - (0 + 1))
              case measure => omega
              case rel => exact ⟨1, by omega, rfl, by go_num, (by first | exact fun _ => rfl | exact fun _ => trivial), fun h => by omega, fun h => by omega, fun h => by omega, BK.trans (Bz.mono s3)⟩
          · have m0 : wr.cell? ⟨w.heap.size + 1 + 1, 3, none⟩ = some (.int .i64 kr) := ZM.cell 3 rfl
            have m1 : wr.cell? ⟨w.heap.size + 1 + 1, 4, none⟩ = some (.int .i64 kc) := ZM.cell 4 rfl
            have m2 : wr.cell? ⟨w.heap.size + 1 + 1, 5, none⟩ = some (.slice ka kn kz) := ZM.cell 5 rfl
            have XX := box_new wr kr kc ka kn kz
            have BX : Below wr.heap.size wr (wr.alloc (.cells #[.int .i64 kr, .int .i64 kc, .slice ka kn kz] 26)) := (Below.refl _ _).alloc (Nat.le_refl _) _
            generalize hwx : wr.alloc (.cells #[.int .i64 kr, .int .i64 kc, .slice ka kn kz] 26) = wx at *
            have x0 := XX.c0
            have x1 := XX.c1
            have x2 := XX.c2
            have d1 : wx.cell? ⟨w.heap.size, 1, none⟩ = some (.int .i64 (sn : Int)) := (Z0.below BX).cell 1 rfl
            go_wp2_with fail
            refine (HK wx).mono ?_
            rintro e wy ⟨rfl, BY⟩
            have Bz := below_then BX BY
            have Bw := below_then B3 Bz
            clear hwx XX BX x0 x1 x2 d1 m0 m1 m2 a1 BY
            cases xk with
            | false =>
              have HF : Hid (res = false) := by show _ = _; rw [HB2.out]; simp
              go_wp2
              go_ret
              exact ⟨by rw [HF.out]; rfl, Bw⟩
            | true =>
              go_wp2
              go_roundg (4 - (1 + 1))
              case measure => omega
              case rel => exact ⟨2, by omega, rfl, by go_num, fun _ => q1 (by omega), (by first | exact fun _ => rfl | exact fun _ => trivial), fun h => by omega, fun h => by omega, BK.trans (Bz.mono s3)⟩
          · have m0 : wr.cell? ⟨w.heap.size + 1 + 1, 6, none⟩ = some (.int .i64 vr) := ZM.cell 6 rfl
            have m1 : wr.cell? ⟨w.heap.size + 1 + 1, 7, none⟩ = some (.int .i64 vc) := ZM.cell 7 rfl
            have m2 : wr.cell? ⟨w.heap.size + 1 + 1, 8, none⟩ = some (.slice va vn vz) := ZM.cell 8 rfl
            have XX := box_new wr vr vc va vn vz
            have BX : Below wr.heap.size wr (wr.alloc (.cells #[.int .i64 vr, .int .i64 vc, .slice va vn vz] 26)) := (Below.refl _ _).alloc (Nat.le_refl _) _
            generalize hwx : wr.alloc (.cells #[.int .i64 vr, .int .i64 vc, .slice va vn vz] 26) = wx at *
            have x0 := XX.c0
            have x1 := XX.c1
            have x2 := XX.c2
            have d1 : wx.cell? ⟨w.heap.size, 1, none⟩ = some (.int .i64 (sn : Int)) := (Z0.below BX).cell 1 rfl
            go_wp2_with fail
            refine (HV wx).mono ?_
            rintro e wy ⟨rfl, BY⟩
            have Bz := below_then BX BY
            have Bw := below_then B3 Bz
            clear hwx XX BX x0 x1 x2 d1 m0 m1 m2 a1 BY
            cases xv with
            | false =>
              have HF : Hid (res = false) := by show _ = _; rw [HB2.out]; simp
              go_wp2
              go_ret
              exact ⟨by rw [HF.out]; rfl, Bw⟩
            | true =>
              go_wp2
              go_roundg (4 - (2 + 1))
              case measure => omega
              case rel => exact ⟨3, by omega, rfl, by go_num, fun _ => q1 (by omega), fun _ => q2 (by omega), (by first | exact fun _ => rfl | exact fun _ => trivial), fun h => by omega, BK.trans (Bz.mono s3)⟩
          · have m0 : wr.cell? ⟨w.heap.size + 1 + 1, 9, none⟩ = some (.int .i64 or) := ZM.cell 9 rfl
            have m1 : wr.cell? ⟨w.heap.size + 1 + 1, 10, none⟩ = some (.int .i64 oc) := ZM.cell 10 rfl
            have m2 : wr.cell? ⟨w.heap.size + 1 + 1, 11, none⟩ = some (.slice oa on oz) := ZM.cell 11 rfl
            have XX := box_new wr or oc oa on oz
            have BX : Below wr.heap.size wr (wr.alloc (.cells #[.int .i64 or, .int .i64 oc, .slice oa on oz] 26)) := (Below.refl _ _).alloc (Nat.le_refl _) _
            generalize hwx : wr.alloc (.cells #[.int .i64 or, .int .i64 oc, .slice oa on oz] 26) = wx at *
            have x0 := XX.c0
            have x1 := XX.c1
            have x2 := XX.c2
            have d1 : wx.cell? ⟨w.heap.size, 1, none⟩ = some (.int .i64 (sn : Int)) := (Z0.below BX).cell 1 rfl
            go_wp2_with fail
            refine (HO wx).mono ?_
            rintro e wy ⟨rfl, BY⟩
            have Bz := below_then BX BY
            have Bw := below_then B3 Bz
            clear hwx XX BX x0 x1 x2 d1 m0 m1 m2 a1 BY
            cases xo with
            | false =>
              have HF : Hid (res = false) := by show _ = _; rw [HB2.out]; simp
              go_wp2
              go_ret
              exact ⟨by rw [HF.out]; rfl, Bw⟩
            | true =>
              go_wp2
              go_roundg (4 - (3 + 1))
              case measure => omega
              case rel => exact ⟨4, by omega, rfl, by go_num, fun _ => q1 (by omega), fun _ => q2 (by omega), fun _ => q3 (by omega), (by first | exact fun _ => rfl | exact fun _ => trivial), BK.trans (Bz.mono s3)⟩
        · obtain rfl : k = 4 := by omega
          obtain rfl := q1 (by omega)
          obtain rfl := q2 (by omega)
          obtain rfl := q3 (by omega)
          obtain rfl := q4 (by omega)
          have HB3 : Hid (res = (xu && xd)) := by show _ = _; rw [HB2.out]; simp
          have b14 : wr.cell? ⟨w.heap.size + 1, 14, none⟩ = some (.int .i64 ur) := Z1.cell 14 rfl
          have b15 : wr.cell? ⟨w.heap.size + 1, 15, none⟩ = some (.int .i64 uc) := Z1.cell 15 rfl
          have b16 : wr.cell? ⟨w.heap.size + 1, 16, none⟩ = some (.slice ua un uz) := Z1.cell 16 rfl
          have b17 : wr.cell? ⟨w.heap.size + 1, 17, none⟩ = some (.int .i64 dr) := Z1.cell 17 rfl
          have b18 : wr.cell? ⟨w.heap.size + 1, 18, none⟩ = some (.int .i64 dc) := Z1.cell 18 rfl
          have b19 : wr.cell? ⟨w.heap.size + 1, 19, none⟩ = some (.slice da dn dz) := Z1.cell 19 rfl
          have a1 : wr.cell? ⟨w.heap.size, 1, none⟩ = some (.int .i64 (sn : Int)) := Z0.cell 1 rfl
          have a3 : wr.cell? ⟨w.heap.size, 3, none⟩ = some (.int .i64 H) := Z0.cell 3 rfl
          go_wp2_with fail
          refine (HU wr).mono ?_
          rintro e wy ⟨rfl, BY⟩
          have Z0' := Z0.below BY
          have Z1' := Z1.below BY
          have BW := below_then B3 BY
          clear b14 b15 b16 b17 b18 b19 a1 a3 BY
          have b17 : wy.cell? ⟨w.heap.size + 1, 17, none⟩ = some (.int .i64 dr) := Z1'.cell 17 rfl
          have b18 : wy.cell? ⟨w.heap.size + 1, 18, none⟩ = some (.int .i64 dc) := Z1'.cell 18 rfl
          have b19 : wy.cell? ⟨w.heap.size + 1, 19, none⟩ = some (.slice da dn dz) := Z1'.cell 19 rfl
          have a1 : wy.cell? ⟨w.heap.size, 1, none⟩ = some (.int .i64 (sn : Int)) := Z0'.cell 1 rfl
          have a3 : wy.cell? ⟨w.heap.size, 3, none⟩ = some (.int .i64 H) := Z0'.cell 3 rfl
          cases xu with
          | false =>
            go_wp2
            go_ret
            exact ⟨by rw [HB3.out]; rfl, BW⟩
          | true =>
            go_wp2_with (go_at_call 31; refine (HD _).mono ?_; rintro e wz ⟨rfl, BZ⟩)
            go_ret
            exact ⟨by rw [HB3.out]; rfl, below_then BW BZ⟩
    · have HF : Hid (res = false) := by show _ = _; rw [HB.out, decide_eq_false h2]; simp
      clear HB
      subst h1
      have h2' : ((sn : Int) == (fn : Int)) = false := by simpa using h2
      go_enter Try.func32, Try.ntmps32
      go_wp2
      go_ret
      exact ⟨by rw [HF.out]; rfl, B1⟩
  · have HF : Hid (res = false) := by show _ = _; rw [HB.out, decide_eq_false h1]; simp
    have h1' : ((fn : Int) == D) = false := by simpa using h1
    clear HB
    go_enter Try.func32, Try.ntmps32
    go_wp2
    go_ret
    exact ⟨by rw [HF.out]; rfl, B1⟩
end Go.Proofs.Ytlghodjiiajapaa

/- Whether all numbers fit a configuration. -/
namespace Go.Proofs.Ytlghodjiiajapaa
open Go.ChangeShapes Go.WideShapes Go.ChangeAt Go.RowKit
/-- In w the slice b reads as the layers bs. -/
structure BlocksAt (w : World) (b : Sl) (bs : List Bk) : Prop where
  len : bs.length = b.n
  max : b.n ≤ 9223372036854775807
  ok : ∀ x ∈ bs, x.Ok
  cells : 0 < b.n → ∃ g o, b.ao = some ⟨g, o, none⟩ ∧ ∀ (t : Nat) (x : Bk), bs[t]? = some x → w.rangeAt g (o + t * 20) x.cells.toList
theorem BlocksAt.below {w w' : World} {b : Sl} {bs : List Bk} (h : BlocksAt w b bs) (hb : Below w.heap.size w w') : BlocksAt w' b bs := by
  refine ⟨h.len, h.max, h.ok, fun hn => ?_⟩
  obtain ⟨g, o, e, hc⟩ := h.cells hn
  refine ⟨g, o, e, fun t x hx => ?_⟩
  have r := hc t x hx
  have c0 := r 0 x.f.v rfl
  have hlt : g < w.heap.size := by simpa using World.block_lt_of_cell? w _ c0
  exact rangeAt_block r (hb.block g hlt)
def fitsB (V D H L : Int) (W : Wt) (bs : List Bk) : Bool := sidesB W.e V D && sidesB W.o V D && decide ((W.l.n : Int) = D) && decide ((W.b.n : Int) = L) && bs.all (bkB D H)
structure Wt.Ok (W : Wt) : Prop where
  e : W.e.Ok
  l : W.l.n ≤ 9223372036854775807
  o : W.o.Ok
theorem bk_one (b : Bk) : b.cells.all (·.oneCell') = true := by simp [Bk.cells, bcs, Sl.v, Value.oneCell']
theorem bk_size (b : Bk) : b.cells.size = 20 := rfl
theorem all_take {bs : List Bk} {p : Bk → Bool} {t : Nat} {x : Bk} (h : bs[t]? = some x) : (bs.take (t + 1)).all p = ((bs.take t).all p && p x) := by
  rw [List.take_add_one, h, List.all_append]; simp
set_option maxRecDepth 100000 in
set_option maxHeartbeats 3200000 in
theorem fits_any (V D Hd H L : Int) (W : Wt) (bs : List Bk) (w : World) (hW : W.Ok) (hb : BlocksAt w W.b bs) (hD : I64 D) (hL : I64 L) :
   Calls Try.prog 21 #[.agg (cfgC V D Hd H L), .agg W.cells] w fun e w' => e = .returned (.bool (fitsB V D H L W bs)) ∧ Below w.heap.size w w' := by
  have HE := fun wv => hasSides_any W.e V D wv hW.e
  have HO := fun wv => hasSides_any W.o V D wv hW.o
  have HX := fun (x : Bk) (hx : x.Ok) wv => blockFits_any V D Hd H L x wv hx hD
  have hl := hW.l
  clear hW
  have HB : Hid (fitsB V D H L W bs = (sidesB W.e V D && sidesB W.o V D && decide ((W.l.n : Int) = D) && decide ((W.b.n : Int) = L) && bs.all (bkB D H))) := rfl
  generalize fitsB V D H L W bs = res at *
  generalize sidesB W.e V D = xe at *
  generalize sidesB W.o V D = xo at *
  obtain ⟨⟨er, ec, ⟨ea, en, ez⟩⟩, ⟨ba, bn, bz⟩, ⟨la, ln, lz⟩, ⟨or, oc, ⟨oa, on, oz⟩⟩⟩ := W
  unfold I64 at hD hL
  have hmax := hb.max
  simp only at hmax hl HB
  show Calls Try.prog 21 #[.agg #[.int .i64 V, .int .i64 D, .int .i64 Hd, .int .i64 H, .int .i64 L], .agg #[.int .i64 er, .int .i64 ec, .slice ea en ez, .slice ba bn bz, .slice la ln lz, .int .i64 or, .int .i64 oc, .slice oa on oz]] w _
  have X0 := blk_new w 23 #[.int .i64 V, .int .i64 D, .int .i64 Hd, .int .i64 H, .int .i64 L]
  have B0 : Below w.heap.size w (w.alloc (.cells #[.int .i64 V, .int .i64 D, .int .i64 Hd, .int .i64 H, .int .i64 L] 23)) := (Below.refl _ _).alloc (Nat.le_refl _) _
  have s0 : (w.alloc (.cells #[.int .i64 V, .int .i64 D, .int .i64 Hd, .int .i64 H, .int .i64 L] 23)).heap.size = w.heap.size + 1 := by simp
  generalize hw0 : w.alloc (.cells #[.int .i64 V, .int .i64 D, .int .i64 Hd, .int .i64 H, .int .i64 L] 23) = w0 at *
  have X1 := blk_new w0 29 #[.int .i64 er, .int .i64 ec, .slice ea en ez, .slice ba bn bz, .slice la ln lz, .int .i64 or, .int .i64 oc, .slice oa on oz]
  have B1 : Below w0.heap.size w0 (w0.alloc (.cells #[.int .i64 er, .int .i64 ec, .slice ea en ez, .slice ba bn bz, .slice la ln lz, .int .i64 or, .int .i64 oc, .slice oa on oz] 29)) := (Below.refl _ _).alloc (Nat.le_refl _) _
  rw [s0] at X1
  generalize hw1 : w0.alloc (.cells #[.int .i64 er, .int .i64 ec, .slice ea en ez, .slice ba bn bz, .slice la ln lz, .int .i64 or, .int .i64 oc, .slice oa on oz] 29) = w1 at *
  replace X0 := X0.below B1
  replace B1 := below_then B0 B1
  replace hb := hb.below B1
  unfold matV at *
  simp only at HE HO
  have a0 : w1.cell? ⟨w.heap.size, 0, none⟩ = some (.int .i64 V) := X0.cell 0 rfl
  have a1 : w1.cell? ⟨w.heap.size, 1, none⟩ = some (.int .i64 D) := X0.cell 1 rfl
  have b0 : w1.cell? ⟨w.heap.size + 1, 0, none⟩ = some (.int .i64 er) := X1.cell 0 rfl
  have b1 : w1.cell? ⟨w.heap.size + 1, 1, none⟩ = some (.int .i64 ec) := X1.cell 1 rfl
  have b2 : w1.cell? ⟨w.heap.size + 1, 2, none⟩ = some (.slice ea en ez) := X1.cell 2 rfl
  go_enter Try.func21, Try.ntmps21
  go_wp2_with fail
  refine (HE w1).mono ?_
  rintro e w2 ⟨rfl, B2⟩
  replace X0 := X0.below B2
  replace X1 := X1.below B2
  replace hb := hb.below B2
  replace B2 := below_then B1 B2
  clear a0 a1 b0 b1 b2 hw0 hw1 s0 B0 B1 HE
  cases xe with
  | false =>
    have HF : Hid (res = false) := by show _ = _; rw [HB.out]; simp
    clear HB
    go_wp2
    go_ret
    exact ⟨by rw [HF.out]; rfl, B2⟩
  | true =>
    have a0 : w2.cell? ⟨w.heap.size, 0, none⟩ = some (.int .i64 V) := X0.cell 0 rfl
    have a1 : w2.cell? ⟨w.heap.size, 1, none⟩ = some (.int .i64 D) := X0.cell 1 rfl
    have b5 : w2.cell? ⟨w.heap.size + 1, 5, none⟩ = some (.int .i64 or) := X1.cell 5 rfl
    have b6 : w2.cell? ⟨w.heap.size + 1, 6, none⟩ = some (.int .i64 oc) := X1.cell 6 rfl
    have b7 : w2.cell? ⟨w.heap.size + 1, 7, none⟩ = some (.slice oa on oz) := X1.cell 7 rfl
    go_wp2_with fail
    refine (HO w2).mono ?_
    rintro e w3 ⟨rfl, B3⟩
    replace X0 := X0.below B3
    replace X1 := X1.below B3
    replace hb := hb.below B3
    replace B3 := below_then B2 B3
    clear a0 a1 b5 b6 b7 B2 HO
    cases xo with
    | false =>
      have HF : Hid (res = false) := by show _ = _; rw [HB.out]; simp
      clear HB
      go_wp2
      go_ret
      exact ⟨by rw [HF.out]; rfl, B3⟩
    | true =>
      have a1 : w3.cell? ⟨w.heap.size, 1, none⟩ = some (.int .i64 D) := X0.cell 1 rfl
      have a4 : w3.cell? ⟨w.heap.size, 4, none⟩ = some (.int .i64 L) := X0.cell 4 rfl
      have b3 : w3.cell? ⟨w.heap.size + 1, 3, none⟩ = some (.slice ba bn bz) := X1.cell 3 rfl
      have b4 : w3.cell? ⟨w.heap.size + 1, 4, none⟩ = some (.slice la ln lz) := X1.cell 4 rfl
      by_cases h1 : (ln : Int) = D
      · by_cases h2 : (bn : Int) = L
        · have HB2 : Hid (res = bs.all (bkB D H)) := by show _ = _; rw [HB.out, decide_eq_true h1, decide_eq_true h2]; simp
          clear HB
          subst h1 h2
          go_wp2_with fail
          clear a1 a4 b3 b4
          go_loopg [42] bn (fun r i wr => ∃ t : Nat, t ≤ bn ∧ r = bn - t ∧ i = .int .i64 t ∧ (bs.take t).all (bkB ln H) = true ∧ Below w3.heap.size w3 wr)
          case atStart => exact ⟨0, by omega, by omega, rfl, by simp, Below.refl _ _⟩
          case round =>
            obtain ⟨t, ht, rfl, rfl, hal, B4⟩ := hrel
            have Z0 := X0.below B4
            have hb4 := hb.below B4
            have BW := below_then B3 B4
            by_cases hlt : t < bn
            · have hlen := hb.len
              simp only at hlen
              obtain ⟨x, hx⟩ : ∃ x, bs[t]? = some x := ⟨_, List.getElem?_eq_getElem (by omega)⟩
              have hxo := hb.ok x (List.mem_of_getElem? hx)
              obtain ⟨g, o, e0, hc⟩ := hb4.cells (by show 0 < bn; omega)
              simp only at e0
              subst e0
              have r0 := hc t x hx
              have HT := all_take (p := bkB ln H) hx
              rw [hal, Bool.true_and] at HT
              have HC := HX x hxo
              have HR : Hid (bkB ln H x = false → res = false) := fun hf => by
                rw [HB2.out]
                rw [← Bool.not_eq_true]
                intro hall
                have := List.all_eq_true.1 hall x (List.mem_of_getElem? hx)
                rw [hf] at this
                cases this
              generalize bkB ln H x = xb at *
              have one := bk_one x
              have siz := bk_size x
              generalize x.cells = cs at *
              have XZ := blk_new wr 53 #[.slice none 0 0, .int .i64 0, .int .i64 0, .slice none 0 0, .int .i64 0, .int .i64 0, .slice none 0 0, .int .i64 0, .int .i64 0, .slice none 0 0, .int .i64 0, .int .i64 0, .slice none 0 0, .slice none 0 0, .int .i64 0, .int .i64 0, .slice none 0 0, .int .i64 0, .int .i64 0, .slice none 0 0]
              have BZ : Below wr.heap.size wr (wr.alloc (.cells #[.slice none 0 0, .int .i64 0, .int .i64 0, .slice none 0 0, .int .i64 0, .int .i64 0, .slice none 0 0, .int .i64 0, .int .i64 0, .slice none 0 0, .int .i64 0, .int .i64 0, .slice none 0 0, .slice none 0 0, .int .i64 0, .int .i64 0, .slice none 0 0, .int .i64 0, .int .i64 0, .slice none 0 0] 53)) := (Below.refl _ _).alloc (Nat.le_refl _) _
              generalize hwz : wr.alloc (.cells #[.slice none 0 0, .int .i64 0, .int .i64 0, .slice none 0 0, .int .i64 0, .int .i64 0, .slice none 0 0, .int .i64 0, .int .i64 0, .slice none 0 0, .int .i64 0, .int .i64 0, .slice none 0 0, .slice none 0 0, .int .i64 0, .int .i64 0, .slice none 0 0, .int .i64 0, .int .i64 0, .slice none 0 0] 53) = wz at *
              have XR := XZ.row cs
              have BR := below_setRow BZ (Nat.le_refl _) cs
              generalize hwy : wz.setRow wr.heap.size cs = wy at *
              replace Z0 := Z0.below BR
              have s4 := B4.size
              have BK := B4.trans (BR.mono s4)
              replace BW := below_then BW BR
              have a0 : wy.cell? ⟨w.heap.size, 0, none⟩ = some (.int .i64 V) := Z0.cell 0 rfl
              have a1 : wy.cell? ⟨w.heap.size, 1, none⟩ = some (.int .i64 (ln : Int)) := Z0.cell 1 rfl
              have a2 : wy.cell? ⟨w.heap.size, 2, none⟩ = some (.int .i64 Hd) := Z0.cell 2 rfl
              have a3 : wy.cell? ⟨w.heap.size, 3, none⟩ = some (.int .i64 H) := Z0.cell 3 rfl
              have a4 : wy.cell? ⟨w.heap.size, 4, none⟩ = some (.int .i64 (bn : Int)) := Z0.cell 4 rfl
              have HL : Hid (cs.toList.toArray = cs) := by show _ = _; simp
              unfold cfgC at HC
              clear hc hb4 X0 X1 hb HX
              go_wp2_with (first | (refine wpList_load_mid rfl 53 _ rfl g (o + t * 20) rfl cs.toList _ r0 Try.underlying53 rfl (by rw [Array.length_toList, siz]; exact Try.infoB) ?_; rw [HL.out]) | (refine wpList_store_row rfl 53 _ _ rfl wr.heap.size cs rfl rfl 53 _ XZ (by rw [siz]; exact Try.infoB) siz.symm one ?_; rw [hwy]) | (refine wpList_load_row rfl 53 _ rfl wr.heap.size rfl 53 cs (0, 0) _ XR Try.underlying53 rfl (by rw [siz]; exact Try.infoB) ?_))
              refine (HC wy).mono ?_
              rintro e wx ⟨rfl, BX⟩
              have sy := BR.size
              replace BW := below_then BW BX
              replace BK := BK.trans (BX.mono (by have := BK.size; omega))
              clear a0 a1 a2 a3 a4 hwz hwy XZ XR r0 HC
              cases xb with
              | false =>
                have HF := HR.out rfl
                have HF' : Hid (res = false) := HF
                clear HF HR HB2
                go_wp2
                go_ret
                exact ⟨by rw [HF'.out]; rfl, BW⟩
              | true =>
                go_wp2
                go_roundg (bn - (t + 1))
                case measure => omega
                case rel => exact ⟨t + 1, by omega, rfl, by go_num, HT, BK⟩
            · obtain rfl : t = bn := by omega
              have hlen := hb.len
              simp only at hlen
              rw [List.take_of_length_le (by omega)] at hal
              have HF : Hid (res = true) := by show _ = _; rw [HB2.out, hal]
              go_wp2
              go_ret
              exact ⟨by rw [HF.out]; rfl, BW⟩
        · have HF : Hid (res = false) := by show _ = _; rw [HB.out, decide_eq_false h2]; simp
          have h2' : ((bn : Int) == L) = false := by simpa using h2
          clear HB
          subst h1
          go_wp2
          go_ret
          exact ⟨by rw [HF.out]; rfl, B3⟩
      · have HF : Hid (res = false) := by show _ = _; rw [HB.out, decide_eq_false h1]; simp
        have h1' : ((ln : Int) == D) = false := by simpa using h1
        clear HB
        go_wp2
        go_ret
        exact ⟨by rw [HF.out]; rfl, B3⟩
/-- The error's number of numbers for a configuration. -/
def checkN (V D Hd H L : Int) (W : Wt) (bs : List Bk) : Int := if shapeN V D Hd H L ≠ 0 then shapeN V D Hd H L else if fitsB V D H L W bs = true then 0 else 4
set_option maxRecDepth 100000 in
set_option maxHeartbeats 1600000 in
theorem mcheck_any (C : Cfg) (hC : C.Ok) (W : Wt) (bs : List Bk) (w : World) (hW : W.Ok) (hb : BlocksAt w W.b bs) :
   Calls Try.prog 10 #[C.val, .agg W.cells] w fun e w' => e = .returned (.int .i64 (checkN C.V C.D C.Hd C.H C.L W bs)) ∧ Below w.heap.size w w' := by
  obtain ⟨V, D, Hd, H, L⟩ := C
  have SH := fun wv => shape_any V D Hd H L wv hC.V hC.D hC.Hd hC.H hC.L
  have FT := fun wv hbv => fits_any V D Hd H L W bs wv hW hbv hC.D hC.L
  have HN : Hid (checkN V D Hd H L W bs = if shapeN V D Hd H L ≠ 0 then shapeN V D Hd H L else if fitsB V D H L W bs = true then 0 else 4) := rfl
  show Calls Try.prog 10 #[.agg (cfgC V D Hd H L), .agg W.cells] w fun e w' => e = .returned (.int .i64 (checkN V D Hd H L W bs)) ∧ Below w.heap.size w w'
  generalize checkN V D Hd H L W bs = res at *
  generalize shapeN V D Hd H L = q at *
  generalize fitsB V D H L W bs = xf at *
  have siz : W.cells.size = 8 := rfl
  have one : W.cells.all (·.oneCell') = true := by simp [Wt.cells, Sl.v, Value.oneCell']
  generalize W.cells = ws at *
  unfold cfgC at *
  have X0 := blk_new w 23 #[.int .i64 V, .int .i64 D, .int .i64 Hd, .int .i64 H, .int .i64 L]
  have B0 : Below w.heap.size w (w.alloc (.cells #[.int .i64 V, .int .i64 D, .int .i64 Hd, .int .i64 H, .int .i64 L] 23)) := (Below.refl _ _).alloc (Nat.le_refl _) _
  have s0 : (w.alloc (.cells #[.int .i64 V, .int .i64 D, .int .i64 Hd, .int .i64 H, .int .i64 L] 23)).heap.size = w.heap.size + 1 := by simp
  generalize hw0 : w.alloc (.cells #[.int .i64 V, .int .i64 D, .int .i64 Hd, .int .i64 H, .int .i64 L] 23) = w0 at *
  have X1 := blk_new w0 29 ws
  have B1 : Below w0.heap.size w0 (w0.alloc (.cells ws 29)) := (Below.refl _ _).alloc (Nat.le_refl _) _
  rw [s0] at X1
  generalize hw1 : w0.alloc (.cells ws 29) = w1 at *
  replace X0 := X0.below B1
  replace B1 := below_then B0 B1
  replace hb := hb.below B1
  have a0 : w1.cell? ⟨w.heap.size, 0, none⟩ = some (.int .i64 V) := X0.cell 0 rfl
  have a1 : w1.cell? ⟨w.heap.size, 1, none⟩ = some (.int .i64 D) := X0.cell 1 rfl
  have a2 : w1.cell? ⟨w.heap.size, 2, none⟩ = some (.int .i64 Hd) := X0.cell 2 rfl
  have a3 : w1.cell? ⟨w.heap.size, 3, none⟩ = some (.int .i64 H) := X0.cell 3 rfl
  have a4 : w1.cell? ⟨w.heap.size, 4, none⟩ = some (.int .i64 L) := X0.cell 4 rfl
  go_enter Try.func10, Try.ntmps10
  go_wp2_with fail
  refine (SH w1).mono ?_
  rintro e w2 ⟨rfl, B2⟩
  replace X0 := X0.below B2
  replace X1 := X1.below B2
  replace hb := hb.below B2
  replace B2 := below_then B1 B2
  clear a0 a1 a2 a3 a4 hw0 hw1 s0 B0 B1 SH
  by_cases hq : q = 0
  · subst hq
    have HR : Hid (res = if xf = true then 0 else 4) := by show _ = _; rw [HN.out, if_neg (by simp)]
    clear HN
    have a0 : w2.cell? ⟨w.heap.size, 0, none⟩ = some (.int .i64 V) := X0.cell 0 rfl
    have a1 : w2.cell? ⟨w.heap.size, 1, none⟩ = some (.int .i64 D) := X0.cell 1 rfl
    have a2 : w2.cell? ⟨w.heap.size, 2, none⟩ = some (.int .i64 Hd) := X0.cell 2 rfl
    have a3 : w2.cell? ⟨w.heap.size, 3, none⟩ = some (.int .i64 H) := X0.cell 3 rfl
    have a4 : w2.cell? ⟨w.heap.size, 4, none⟩ = some (.int .i64 L) := X0.cell 4 rfl
    go_wp2_with (refine wpList_load_row rfl 29 _ rfl (w.heap.size + 1) rfl 29 ws (0, 0) _ X1 Try.underlying29 rfl (by rw [siz]; exact Try.infoW) ?_)
    refine (FT w2 hb).mono ?_
    rintro e w3 ⟨rfl, B3⟩
    cases xf with
    | false =>
      have HF : Hid (res = 4) := by show _ = _; rw [HR.out]; rfl
      clear HR
      go_wp2
      go_ret
      exact ⟨ret_int HF.out.symm, below_then B2 B3⟩
    | true =>
      have HF : Hid (res = 0) := by show _ = _; rw [HR.out]; rfl
      clear HR
      go_wp2
      go_ret
      exact ⟨ret_int HF.out.symm, below_then B2 B3⟩
  · have HF : Hid (res = q) := by show _ = _; rw [HN.out, if_pos hq]
    have hq' : (q == 0) = false := by simpa using hq
    clear HN
    go_wp2
    go_ret
    exact ⟨ret_int HF.out.symm, B2⟩
end Go.Proofs.Ytlghodjiiajapaa

/- A model's numbers as the document's, all of them: the same rows, the layers in a row of their own. -/
namespace Go.Proofs.Ytlghodjiiajapaa
open Go.ChangeShapes Go.WideShapes Go.ChangeAt Go.RowKit
theorem Try.infoRB : (Try.prog.info? 54).map (fun i => (i.zero, i.size, i.bytes)) = some (some (.agg #[.slice none 0 0, .int .i64 0, .int .i64 0, .slice none 0 0, .int .i64 0, .int .i64 0, .slice none 0 0, .int .i64 0, .int .i64 0, .slice none 0 0, .int .i64 0, .int .i64 0, .slice none 0 0, .slice none 0 0, .int .i64 0, .int .i64 0, .slice none 0 0, .int .i64 0, .int .i64 0, .slice none 0 0]), 20, 288) := by kernel_rfl
theorem Try.infoRB1 : (Try.prog.info? 54).map (·.size) = some 20 := by kernel_rfl
theorem Try.infoRW : (Try.prog.info? 33).map (·.size) = some 8 := by kernel_rfl
/-- Layers, cell behind cell. -/
def flat (bs : List Bk) : List Value := bs.flatMap fun b => b.cells.toList
theorem flat_len : ∀ bs : List Bk, (flat bs).length = bs.length * 20
  | [] => rfl
  | b :: bs => by
    have := flat_len bs
    unfold flat at *
    rw [List.flatMap_cons, List.length_append, this, List.length_cons]
    show 20 + bs.length * 20 = _
    omega
theorem flat_cons (b : Bk) (bs : List Bk) : flat (b :: bs) = b.cells.toList ++ flat bs := by unfold flat; rw [List.flatMap_cons]
theorem bk_len (b : Bk) : b.cells.toList.length = 20 := rfl
theorem flat_at : ∀ (bs : List Bk) (t : Nat) (x : Bk), bs[t]? = some x → ∀ (j : Nat) (v : Value), x.cells.toList[j]? = some v → (flat bs)[t * 20 + j]? = some v
  | [], t, x, h, _, _, _ => by simp at h
  | b :: bs, t, x, h, j, v, hv => by
    have hl := bk_len b
    have hx := bk_len x
    have hj : j < 20 := by have := (List.getElem?_eq_some_iff.1 hv).1; omega
    cases t with
    | zero =>
      simp at h
      subst h
      rw [flat_cons, Nat.zero_mul, Nat.zero_add, List.getElem?_append_left (by omega)]
      exact hv
    | succ t =>
      have ih := flat_at bs t x (by simpa using h) j v hv
      rw [flat_cons, List.getElem?_append_right (by omega), hl, show (t + 1) * 20 + j - 20 = t * 20 + j by omega]
      exact ih
/-- A row of layers of the call's own. -/
structure OwnB (w : World) (B : Nat) (s : Sl) (bs : List Bk) : Prop where
  own : w.ownsRow B 54 20 s.v s.n (flat bs)
  ok : ∀ x ∈ bs, x.Ok
  few : s.n ≤ 1000000
theorem OwnB.len {w : World} {B : Nat} {s : Sl} {bs : List Bk} (h : OwnB w B s bs) : bs.length = s.n := by
  have := h.own.1
  rw [flat_len] at this
  omega
theorem OwnB.blocks {w : World} {B : Nat} {s : Sl} {bs : List Bk} (h : OwnB w B s bs) : BlocksAt w s bs := by
  refine ⟨h.len, by have := h.few; omega, h.ok, fun hn => ?_⟩
  rcases h.own.2 with ⟨h0, h1⟩ | ⟨g, cap, cur, hv, _⟩
  · omega
  · unfold Sl.v at hv
    simp only [Value.slice.injEq, true_and] at hv
    refine ⟨g, 0, hv.1, fun t x hx j v hv2 => ?_⟩
    have hc := h.own.cells (g := g) (by unfold Sl.v; rw [hv.1]; rfl) (t * 20 + j) v (flat_at bs t x hx j v hv2)
    rw [Addr.add_mid] at hc
    rw [Nat.zero_add] at hc ⊢
    exact hc
theorem OwnB.below {w w' : World} {B : Nat} {s : Sl} {bs : List Bk} (h : OwnB w B s bs) (hb : Below w.heap.size w w') : OwnB w' B s bs := by
  obtain ⟨h1, h2⟩ := h.own
  refine ⟨⟨h1, ?_⟩, h.ok, h.few⟩
  rcases h2 with h2 | ⟨g, cap, cur, hv, hg, hh, r⟩
  · exact Or.inl h2
  · exact Or.inr ⟨g, cap, cur, hv, hg, by rw [hb.block g (Array.getElem?_eq_some_iff.1 hh).1]; exact hh, r⟩
theorem ownB_nil (w : World) (B : Nat) : OwnB w B ⟨none, 0, 0⟩ [] := ⟨World.ownsRow_nil _ _ _ _, (fun x hx => by cases hx), (by show 0 ≤ 1000000; omega)⟩
/-- append(out, block). -/
theorem wpList_append_block {w : World} {ops : Array Oper} {rest : List Oper} {o : Oper} {a : Act} {Q : Exit → Act → World → Prop} (hgd : o.guard = none) (s x : Operand)
    (ho : o.op = .call { callee := .builtin .append, args := #[s, x], argTypes := #[31, 31] })
    (B : Nat) (S : Sl) (bs : List Bk) (hs : a.eval s = S.v) (hF : OwnB w B S bs) (bo : Nat) (y : Bk) (hx : a.eval x = .slice (some ⟨bo, 0, none⟩) 1 1) (hX : Blk w bo 54 y.cells) (hy : y.Ok)
    (hlen : S.n + 1 ≤ 1000000) (hB : B ≤ w.heap.size)
    (h : ∀ S' w', S'.n = S.n + 1 → OwnB w' B S' (bs ++ [y]) → Below B w w' → wpList Try.prog ops Q rest (a.put o.dst S'.v) w') : wpList Try.prog ops Q (o :: rest) a w := by
  obtain ⟨i0, hi, hz0, hz1, hz2⟩ := info_parts Try.infoRB
  refine wpList_append_own w hgd s x 31 ho B 54 i0 (.agg #[.slice none 0 0, .int .i64 0, .int .i64 0, .slice none 0 0, .int .i64 0, .int .i64 0, .slice none 0 0, .int .i64 0, .int .i64 0, .slice none 0 0, .int .i64 0, .int .i64 0, .slice none 0 0, .slice none 0 0, .int .i64 0, .int .i64 0, .slice none 0 0, .int .i64 0, .int .i64 0, .slice none 0 0]) 20 288 Try.underlying31 hi hz0 hz1 hz2 rfl (by decide) _ S.n _ hs hF.own ⟨bo, 0, none⟩ 1 1 y.cells.toList hx rfl ?_ ?_ (by unfold maxLen; omega) (by omega) hB ?_
  · intro j u hj
    rw [Addr.add_mid, Nat.zero_add]
    exact hX.cell j (by simpa using hj)
  · intro u hu
    exact (Array.all_eq_true_iff_forall_mem.1 (bk_one y)) u (by simpa using hu)
  · intro v' w' hown hg hnil
    have hb : Below B w w' := (Below.refl _ _).grown hg hB (fun k hk => (hF.own.lt k hk).1)
    have e : flat bs ++ y.cells.toList = flat (bs ++ [y]) := by unfold flat; rw [List.flatMap_append]; simp
    rw [e] at hown
    obtain ⟨h1, h2⟩ := hown
    rcases h2 with ⟨h3, h4⟩ | ⟨g', c', cur, hv, hr⟩
    · omega
    · subst hv
      exact h ⟨some ⟨g', 0, none⟩, S.n + 1, c'⟩ w' rfl ⟨⟨h1, Or.inr ⟨g', c', cur, rfl, hr⟩⟩, fun z hz => (List.mem_append.1 hz).elim (hF.ok z) (fun h => by simp at h; subst h; exact hy), hlen⟩ hb
set_option maxRecDepth 100000 in
set_option maxHeartbeats 3200000 in
theorem full_any (W : Wt) (bs : List Bk) (w : World) (hb : BlocksAt w W.b bs) (hn : W.b.n ≤ 1000) :
   Calls Try.prog 16 #[.agg W.cells] w fun e w' => ∃ S : Sl, e = .returned (.agg (Wt.cells ⟨W.e, S, W.l, W.o⟩)) ∧ OwnB w' w.heap.size S bs ∧ Below w.heap.size w w' := by
  obtain ⟨⟨er, ec, ⟨ea, en, ez⟩⟩, ⟨ba, bn, bz⟩, ⟨la, ln, lz⟩, ⟨gr, gc, ⟨ga, gn, gz⟩⟩⟩ := W
  have hlen := hb.len
  simp only at hn hlen
  show Calls Try.prog 16 #[.agg #[.int .i64 er, .int .i64 ec, .slice ea en ez, .slice ba bn bz, .slice la ln lz, .int .i64 gr, .int .i64 gc, .slice ga gn gz]] w _
  have X0 := blk_new w 29 #[.int .i64 er, .int .i64 ec, .slice ea en ez, .slice ba bn bz, .slice la ln lz, .int .i64 gr, .int .i64 gc, .slice ga gn gz]
  have B0 : Below w.heap.size w (w.alloc (.cells #[.int .i64 er, .int .i64 ec, .slice ea en ez, .slice ba bn bz, .slice la ln lz, .int .i64 gr, .int .i64 gc, .slice ga gn gz] 29)) := (Below.refl _ _).alloc (Nat.le_refl _) _
  have s0 : (w.alloc (.cells #[.int .i64 er, .int .i64 ec, .slice ea en ez, .slice ba bn bz, .slice la ln lz, .int .i64 gr, .int .i64 gc, .slice ga gn gz] 29)).heap.size = w.heap.size + 1 := by simp
  generalize hw0 : w.alloc (.cells #[.int .i64 er, .int .i64 ec, .slice ea en ez, .slice ba bn bz, .slice la ln lz, .int .i64 gr, .int .i64 gc, .slice ga gn gz] 29) = w0 at *
  have X1 := blk_new w0 33 #[.int .i64 0, .int .i64 0, .slice none 0 0, .slice none 0 0, .slice none 0 0, .int .i64 0, .int .i64 0, .slice none 0 0]
  have B1 : Below w0.heap.size w0 (w0.alloc (.cells #[.int .i64 0, .int .i64 0, .slice none 0 0, .slice none 0 0, .slice none 0 0, .int .i64 0, .int .i64 0, .slice none 0 0] 33)) := (Below.refl _ _).alloc (Nat.le_refl _) _
  have s1 : (w0.alloc (.cells #[.int .i64 0, .int .i64 0, .slice none 0 0, .slice none 0 0, .slice none 0 0, .int .i64 0, .int .i64 0, .slice none 0 0] 33)).heap.size = w0.heap.size + 1 := by simp
  rw [s0] at X1 s1
  generalize hw1 : w0.alloc (.cells #[.int .i64 0, .int .i64 0, .slice none 0 0, .slice none 0 0, .slice none 0 0, .int .i64 0, .int .i64 0, .slice none 0 0] 33) = w1 at *
  replace X0 := X0.below B1
  have X2 := blk_new w1 33 #[.int .i64 er, .int .i64 ec, .slice ea en ez, .slice none 0 0, .slice la ln lz, .int .i64 gr, .int .i64 gc, .slice ga gn gz]
  have B2 : Below w1.heap.size w1 (w1.alloc (.cells #[.int .i64 er, .int .i64 ec, .slice ea en ez, .slice none 0 0, .slice la ln lz, .int .i64 gr, .int .i64 gc, .slice ga gn gz] 33)) := (Below.refl _ _).alloc (Nat.le_refl _) _
  have s2 : (w1.alloc (.cells #[.int .i64 er, .int .i64 ec, .slice ea en ez, .slice none 0 0, .slice la ln lz, .int .i64 gr, .int .i64 gc, .slice ga gn gz] 33)).heap.size = w1.heap.size + 1 := by simp
  rw [s1] at X2 s2
  have a0 : w1.cell? ⟨w.heap.size, 0, none⟩ = some (.int .i64 er) := X0.cell 0 rfl
  have a1 : w1.cell? ⟨w.heap.size, 1, none⟩ = some (.int .i64 ec) := X0.cell 1 rfl
  have a2 : w1.cell? ⟨w.heap.size, 2, none⟩ = some (.slice ea en ez) := X0.cell 2 rfl
  have a3 : w1.cell? ⟨w.heap.size, 3, none⟩ = some (.slice ba bn bz) := X0.cell 3 rfl
  have a4 : w1.cell? ⟨w.heap.size, 4, none⟩ = some (.slice la ln lz) := X0.cell 4 rfl
  have a5 : w1.cell? ⟨w.heap.size, 5, none⟩ = some (.int .i64 gr) := X0.cell 5 rfl
  have a6 : w1.cell? ⟨w.heap.size, 6, none⟩ = some (.int .i64 gc) := X0.cell 6 rfl
  have a7 : w1.cell? ⟨w.heap.size, 7, none⟩ = some (.slice ga gn gz) := X0.cell 7 rfl
  generalize hw2 : w1.alloc (.cells #[.int .i64 er, .int .i64 ec, .slice ea en ez, .slice none 0 0, .slice la ln lz, .int .i64 gr, .int .i64 gc, .slice ga gn gz] 33) = w2 at *
  replace X0 := X0.below B2
  replace X1 := X1.below B2
  replace B2 := below_then (below_then B0 B1) B2
  have HB : Hid (∀ wv, Below w.heap.size w wv → BlocksAt wv ⟨ba, bn, bz⟩ bs) := fun wv h => hb.below h
  clear hb
  have b3 : w2.cell? ⟨w.heap.size, 3, none⟩ = some (.slice ba bn bz) := X0.cell 3 rfl
  go_enter Try.func16, Try.ntmps16
  go_wp2_with fail
  clear a0 a1 a2 a3 a4 a5 a6 a7 b3 hw0 hw1 hw2 s0 s1 B0 B1
  go_loopg [16] bn (fun r i wr => ∃ (t : Nat) (S : Sl), t ≤ bn ∧ r = bn - t ∧ i = .int .i64 t ∧ S.n = t ∧ OwnB wr (w.heap.size + 3) S (bs.take t) ∧ Blk wr (w.heap.size + 1 + 1) 33 (Wt.cells ⟨⟨er, ec, ⟨ea, en, ez⟩⟩, S, ⟨la, ln, lz⟩, ⟨gr, gc, ⟨ga, gn, gz⟩⟩⟩) ∧ Blk wr (w.heap.size + 1) 33 #[.int .i64 0, .int .i64 0, .slice none 0 0, .slice none 0 0, .slice none 0 0, .int .i64 0, .int .i64 0, .slice none 0 0] ∧ Below w.heap.size w wr ∧ w.heap.size + 3 ≤ wr.heap.size)
  case atStart => exact ⟨0, ⟨none, 0, 0⟩, by omega, by omega, rfl, rfl, by rw [List.take_zero]; exact ownB_nil _ _, X2, X1, B2, by omega⟩
  case round =>
    clear X0 X1 X2 B2 s2
    obtain ⟨t, S, ht, rfl, rfl, hS, O1, X2, X1, B3, s3⟩ := hrel
    have hb := HB.out _ B3
    by_cases hlt : t < bn
    · obtain ⟨x, hx⟩ : ∃ x, bs[t]? = some x := ⟨_, List.getElem?_eq_getElem (by omega)⟩
      have hxo := hb.ok x (List.mem_of_getElem? hx)
      obtain ⟨g, o, e0, hc⟩ := hb.cells (by show 0 < bn; omega)
      simp only at e0
      subst e0
      have r0 := hc t x hx
      have HT : Hid (bs.take (t + 1) = bs.take t ++ [x]) := by show _ = _; rw [List.take_add_one, hx]; rfl
      obtain ⟨cs, hcs⟩ : ∃ cs, x.cells = cs := ⟨_, rfl⟩
      have one := bk_one x
      have siz := bk_size x
      rw [hcs] at one siz r0
      have HL : Hid (cs.toList.toArray = cs) := by show _ = _; simp
      have XZ := blk_new wr 53 #[.slice none 0 0, .int .i64 0, .int .i64 0, .slice none 0 0, .int .i64 0, .int .i64 0, .slice none 0 0, .int .i64 0, .int .i64 0, .slice none 0 0, .int .i64 0, .int .i64 0, .slice none 0 0, .slice none 0 0, .int .i64 0, .int .i64 0, .slice none 0 0, .int .i64 0, .int .i64 0, .slice none 0 0]
      have BZ : Below wr.heap.size wr (wr.alloc (.cells #[.slice none 0 0, .int .i64 0, .int .i64 0, .slice none 0 0, .int .i64 0, .int .i64 0, .slice none 0 0, .int .i64 0, .int .i64 0, .slice none 0 0, .int .i64 0, .int .i64 0, .slice none 0 0, .slice none 0 0, .int .i64 0, .int .i64 0, .slice none 0 0, .int .i64 0, .int .i64 0, .slice none 0 0] 53)) := (Below.refl _ _).alloc (Nat.le_refl _) _
      generalize hwz : wr.alloc (.cells #[.slice none 0 0, .int .i64 0, .int .i64 0, .slice none 0 0, .int .i64 0, .int .i64 0, .slice none 0 0, .int .i64 0, .int .i64 0, .slice none 0 0, .int .i64 0, .int .i64 0, .slice none 0 0, .slice none 0 0, .int .i64 0, .int .i64 0, .slice none 0 0, .int .i64 0, .int .i64 0, .slice none 0 0] 53) = wz at *
      have XR := XZ.row cs
      have BR := below_setRow BZ (Nat.le_refl _) cs
      generalize hwy : wz.setRow wr.heap.size cs = wy at *
      rw [← hcs] at XR
      have X2y := X2.below BR
      have X1y := X1.below BR
      have O1y := O1.below BR
      have sy : wr.heap.size < wy.heap.size := XR.lt
      have BY := below_then B3 BR
      have c3 : wy.cell? ⟨w.heap.size + 1 + 1, 3, none⟩ = some S.v := X2y.cell 3 rfl
      have XN := blk_new wy 54 x.cells
      have BN : Below wy.heap.size wy (wy.alloc (.cells x.cells 54)) := (Below.refl _ _).alloc (Nat.le_refl _) _
      obtain ⟨⟨fa, fn, fz⟩, ⟨qr, qc, ⟨qa, qn, qz⟩⟩, ⟨kr, kc, ⟨ka, kn, kz⟩⟩, ⟨vr, vc, ⟨va, vn, vz⟩⟩, ⟨or, oc, ⟨oa, on, oz⟩⟩, ⟨sa, sn, sz⟩, ⟨ur, uc, ⟨ua, un, uz⟩⟩, ⟨dr, dc, ⟨da, dn, dz⟩⟩⟩ := x
      have b0 : wy.cell? ⟨wr.heap.size, 0, none⟩ = some (.slice fa fn fz) := XR.cell 0 rfl
      have b1 : wy.cell? ⟨wr.heap.size, 1, none⟩ = some (.int .i64 qr) := XR.cell 1 rfl
      have b2 : wy.cell? ⟨wr.heap.size, 2, none⟩ = some (.int .i64 qc) := XR.cell 2 rfl
      have b3 : wy.cell? ⟨wr.heap.size, 3, none⟩ = some (.slice qa qn qz) := XR.cell 3 rfl
      have b4 : wy.cell? ⟨wr.heap.size, 4, none⟩ = some (.int .i64 kr) := XR.cell 4 rfl
      have b5 : wy.cell? ⟨wr.heap.size, 5, none⟩ = some (.int .i64 kc) := XR.cell 5 rfl
      have b6 : wy.cell? ⟨wr.heap.size, 6, none⟩ = some (.slice ka kn kz) := XR.cell 6 rfl
      have b7 : wy.cell? ⟨wr.heap.size, 7, none⟩ = some (.int .i64 vr) := XR.cell 7 rfl
      have b8 : wy.cell? ⟨wr.heap.size, 8, none⟩ = some (.int .i64 vc) := XR.cell 8 rfl
      have b9 : wy.cell? ⟨wr.heap.size, 9, none⟩ = some (.slice va vn vz) := XR.cell 9 rfl
      have b10 : wy.cell? ⟨wr.heap.size, 10, none⟩ = some (.int .i64 or) := XR.cell 10 rfl
      have b11 : wy.cell? ⟨wr.heap.size, 11, none⟩ = some (.int .i64 oc) := XR.cell 11 rfl
      have b12 : wy.cell? ⟨wr.heap.size, 12, none⟩ = some (.slice oa on oz) := XR.cell 12 rfl
      have b13 : wy.cell? ⟨wr.heap.size, 13, none⟩ = some (.slice sa sn sz) := XR.cell 13 rfl
      have b14 : wy.cell? ⟨wr.heap.size, 14, none⟩ = some (.int .i64 ur) := XR.cell 14 rfl
      have b15 : wy.cell? ⟨wr.heap.size, 15, none⟩ = some (.int .i64 uc) := XR.cell 15 rfl
      have b16 : wy.cell? ⟨wr.heap.size, 16, none⟩ = some (.slice ua un uz) := XR.cell 16 rfl
      have b17 : wy.cell? ⟨wr.heap.size, 17, none⟩ = some (.int .i64 dr) := XR.cell 17 rfl
      have b18 : wy.cell? ⟨wr.heap.size, 18, none⟩ = some (.int .i64 dc) := XR.cell 18 rfl
      have b19 : wy.cell? ⟨wr.heap.size, 19, none⟩ = some (.slice da dn dz) := XR.cell 19 rfl
      replace XN : Blk (wy.alloc (.cells #[.slice fa fn fz, .int .i64 qr, .int .i64 qc, .slice qa qn qz, .int .i64 kr, .int .i64 kc, .slice ka kn kz, .int .i64 vr, .int .i64 vc, .slice va vn vz, .int .i64 or, .int .i64 oc, .slice oa on oz, .slice sa sn sz, .int .i64 ur, .int .i64 uc, .slice ua un uz, .int .i64 dr, .int .i64 dc, .slice da dn dz] 54)) wy.heap.size 54 (Bk.cells ⟨⟨fa, fn, fz⟩, ⟨qr, qc, ⟨qa, qn, qz⟩⟩, ⟨kr, kc, ⟨ka, kn, kz⟩⟩, ⟨vr, vc, ⟨va, vn, vz⟩⟩, ⟨or, oc, ⟨oa, on, oz⟩⟩, ⟨sa, sn, sz⟩, ⟨ur, uc, ⟨ua, un, uz⟩⟩, ⟨dr, dc, ⟨da, dn, dz⟩⟩⟩) := XN
      replace BN : Below wy.heap.size wy (wy.alloc (.cells #[.slice fa fn fz, .int .i64 qr, .int .i64 qc, .slice qa qn qz, .int .i64 kr, .int .i64 kc, .slice ka kn kz, .int .i64 vr, .int .i64 vc, .slice va vn vz, .int .i64 or, .int .i64 oc, .slice oa on oz, .slice sa sn sz, .int .i64 ur, .int .i64 uc, .slice ua un uz, .int .i64 dr, .int .i64 dc, .slice da dn dz] 54)) := BN
      generalize hwn : wy.alloc (.cells #[.slice fa fn fz, .int .i64 qr, .int .i64 qc, .slice qa qn qz, .int .i64 kr, .int .i64 kc, .slice ka kn kz, .int .i64 vr, .int .i64 vc, .slice va vn vz, .int .i64 or, .int .i64 oc, .slice oa on oz, .slice sa sn sz, .int .i64 ur, .int .i64 uc, .slice ua un uz, .int .i64 dr, .int .i64 dc, .slice da dn dz] 54) = wn at *
      have sn2 := BN.size
      clear hc hb XR
      go_wp2_with (first
        | (refine wpList_load_mid rfl 53 _ rfl g (o + t * 20) rfl cs.toList _ r0 Try.underlying53 rfl (by rw [Array.length_toList, siz]; exact Try.infoB) ?_; rw [HL.out])
        | (refine wpList_store_row rfl 53 _ _ rfl wr.heap.size cs rfl rfl 53 _ XZ (by rw [siz]; exact Try.infoB) siz.symm one ?_; rw [hwy])
        | (at_builtin; refine wpList_append_block rfl (.tmp 21) (.tmp 39) rfl (w.heap.size + 3) S _ rfl (O1y.below BN) wy.heap.size _ rfl XN hxo (by omega) (by omega) ?_; intro S' wp hS' O9 B9; obtain ⟨pa, pn, pc⟩ := S'; simp only at hS'; obtain rfl : pn = t + 1 := (by omega); clear hS'; unfold Sl.v; have X2p := (X2y.below BN).of_block (B9.block (w.heap.size + 1 + 1) (by omega)); have fp := X2p.frozen 3; have cp : wp.cell? ⟨w.heap.size + 1 + 1, 3, none⟩ = some S.v := X2p.cell 3 rfl; have s9 := B9.size))
      go_roundg (bn - (t + 1))
      case measure => omega
      case rel =>
        refine ⟨t + 1, ⟨pa, t + 1, pc⟩, by omega, rfl, by go_num, rfl, ?_, X2p.set 3 _, ((X1y.below BN).of_block (B9.block _ (by omega))).other (by show w.heap.size + 1 ≠ w.heap.size + 1 + 1; omega) _, ((below_then BY BN).trans (B9.mono (by omega))).setCell (p := ⟨w.heap.size + 1 + 1, 3, none⟩) (by show w.heap.size ≤ w.heap.size + 1 + 1; omega) _, by simp [World.setCell]; omega⟩
        rw [HT.out]
        obtain ⟨p1, p2⟩ := O9.own
        refine ⟨⟨p1, p2.imp id ?_⟩, O9.ok, O9.few⟩
        rintro ⟨g', cap', cur', hv, hg', hh, r⟩
        exact ⟨g', cap', cur', hv, hg', by rw [Below.heap_setCell _ _ _ _ (by show g' ≠ w.heap.size + 1 + 1; omega)]; exact hh, r⟩
    · obtain rfl : bn = t := by omega
      rw [List.take_of_length_le (by omega)] at O1
      obtain ⟨pa, pn, pc⟩ := S
      simp only at hS
      subst hS
      have hall : Array.all (Wt.cells ⟨⟨er, ec, ⟨ea, en, ez⟩⟩, ⟨pa, pn, pc⟩, ⟨la, ln, lz⟩, ⟨gr, gc, ⟨ga, gn, gz⟩⟩⟩) (fun v => v.oneCell') = true := by simp [Wt.cells, Sl.v, Value.oneCell']
      go_wp2_with (first | (refine wpList_load_row rfl 33 _ rfl (w.heap.size + 1 + 1) rfl 33 _ (0, 0) _ X2 Try.underlying33 rfl Try.infoRW ?_) | (refine wpList_store_row rfl 33 _ _ rfl (w.heap.size + 1) _ rfl rfl 33 _ X1 Try.infoRW rfl hall ?_))
      refine bodyPost_ret (results_cell_row rfl _ _ (w.heap.size + 1) 33 _ _ _ rfl (X1.row _) Try.underlying33 rfl Try.infoRW) rfl ?_
      refine ⟨⟨pa, _, pc⟩, rfl, ?_, below_setRow B3 (by omega) _⟩
      obtain ⟨p1, p2⟩ := O1.own
      refine ⟨⟨p1, p2.imp id ?_⟩, O1.ok, O1.few⟩
      rintro ⟨g', cap', cur', hv, hg', hh, r⟩
      exact ⟨g', cap', cur', hv, by omega, by rw [setRow_other _ _ _ _ (by omega)]; exact hh, r⟩
end Go.Proofs.Ytlghodjiiajapaa

/- The document's rows and matrices of made numbers. -/
namespace Go.Proofs.Ytlghodjiiajapaa
open Go.ChangeShapes Go.WideShapes Go.ChangeAt Go.RowKit
theorem tab_snoc4 (n : Nat) (f : Nat → Int) : tab (n + 1) f = tab n f ++ [f n] := by unfold tab; rw [List.range_succ, List.map_append]; rfl
end Go.Proofs.Ytlghodjiiajapaa

/- The document's model, made from a seed. Laid by tools/genrmake.py. -/
namespace Go.Proofs.Ytlghodjiiajapaa
open Go.ChangeShapes Go.WideShapes Go.ChangeAt Go.RowKit
/-- A slice that is a row of the call's own. -/
def FR (w : World) (B : Nat) (s : Sl) (n : Nat) (A : List Int) : Prop := ∃ g, s.ao = some ⟨g, 0, none⟩ ∧ s.n = n ∧ Fresh w B g n s.c A
theorem FR.below {w w' : World} {B : Nat} {s : Sl} {n : Nat} {A : List Int} (h : FR w B s n A) (hb : Below w.heap.size w w') : FR w' B s n A := by
  obtain ⟨g, h1, h2, F⟩ := h
  exact ⟨g, h1, h2, F.below hb⟩
theorem FR.keep {w w' : World} {B b : Nat} {T : TypeId} {cs : Array Value} {s : Sl} {n : Nat} {A : List Int} (h : FR w B s n A) (hb : Blk w b T cs) (hT : T ≠ 58) (so : ∀ k, k ≠ b → w'.heap[k]? = w.heap[k]?) : FR w' B s n A := by
  obtain ⟨g, h1, h2, F⟩ := h
  exact ⟨g, h1, h2, F.of_block (so g (F.ne hb hT))⟩
theorem FR.row {w : World} {B : Nat} {s : Sl} {n : Nat} {A : List Int} (h : FR w B s n A) : RowAt w s.ao n A := by
  obtain ⟨g, h1, _, F⟩ := h
  rw [h1]; exact F.rowAt
theorem FR.mono {w : World} {B B' : Nat} {s : Sl} {n : Nat} {A : List Int} (h : FR w B s n A) (hB : B' ≤ B) : FR w B' s n A := by
  obtain ⟨g, h1, h2, F⟩ := h
  exact ⟨g, h1, h2, F.mono hB⟩
structure FM (w : World) (B : Nat) (m : Mt) (r c n : Nat) (A : List Int) : Prop where
  r : m.r = r
  c : m.c = c
  d : FR w B m.d n A
/-- A layer of the document's model. -/
structure MadeR (w : World) (B seed i D H : Nat) (x : Bk) : Prop where
  f : FR w B x.f D (gainR seed i D)
  q : FM w B x.q D D (D * D) (numR seed (i + D) (D * D) 65536)
  k : FM w B x.k D D (D * D) (numR seed (i + D + D * D) (D * D) 65536)
  v : FM w B x.v D D (D * D) (numR seed (i + D + D * D + D * D) (D * D) 65536)
  o : FM w B x.o D D (D * D) (numR seed (i + D + D * D + D * D + D * D) (D * D) 65536)
  s : FR w B x.s D (gainR seed (i + D + D * D + D * D + D * D + D * D) D)
  u : FM w B x.u H D (H * D) (numR seed (i + D + D * D + D * D + D * D + D * D + D) (H * D) 65536)
  d : FM w B x.d D H (D * H) (numR seed (i + D + D * D + D * D + D * D + D * D + D + H * D) (D * H) 65536)
theorem MadeR.below {w w' : World} {B seed i D H : Nat} {x : Bk} (h : MadeR w B seed i D H x) (hb : Below w.heap.size w w') : MadeR w' B seed i D H x :=
  ⟨h.f.below hb, ⟨h.q.r, h.q.c, h.q.d.below hb⟩, ⟨h.k.r, h.k.c, h.k.d.below hb⟩, ⟨h.v.r, h.v.c, h.v.d.below hb⟩, ⟨h.o.r, h.o.c, h.o.d.below hb⟩, h.s.below hb, ⟨h.u.r, h.u.c, h.u.d.below hb⟩, ⟨h.d.r, h.d.c, h.d.d.below hb⟩⟩
theorem MadeR.keep {w w' : World} {B b seed i D H : Nat} {T : TypeId} {cs : Array Value} {x : Bk} (h : MadeR w B seed i D H x) (hb : Blk w b T cs) (hT : T ≠ 58) (so : ∀ k, k ≠ b → w'.heap[k]? = w.heap[k]?) : MadeR w' B seed i D H x :=
  ⟨h.f.keep hb hT so, ⟨h.q.r, h.q.c, h.q.d.keep hb hT so⟩, ⟨h.k.r, h.k.c, h.k.d.keep hb hT so⟩, ⟨h.v.r, h.v.c, h.v.d.keep hb hT so⟩, ⟨h.o.r, h.o.c, h.o.d.keep hb hT so⟩, h.s.keep hb hT so, ⟨h.u.r, h.u.c, h.u.d.keep hb hT so⟩, ⟨h.d.r, h.d.c, h.d.d.keep hb hT so⟩⟩
theorem gain_tab (seed i n : Nat) : (tab n fun j => numN seed (i + j) 16384 + ((65536 : Nat) : Int)) = gainR seed i n := tab_congr fun j _ => by rw [Int.add_comm]; rfl
/-- One layer of the document's model, laid into block g8: the eight calls. -/
theorem lenB_le {D H : Nat} (h1 : D ≤ 32) (h2 : H ≤ 64) : lenB D H ≤ 8256 ∧ D * D ≤ 1024 ∧ H * D ≤ 2048 ∧ D * H ≤ 2048 := by
  have a1 : D * D ≤ 32 * 32 := Nat.mul_le_mul h1 h1
  have a2 : H * D ≤ 64 * 32 := Nat.mul_le_mul h2 h1
  have a3 : D * H ≤ 32 * 64 := Nat.mul_le_mul h1 h2
  unfold lenB
  omega

theorem OwnB.ne {w : World} {B : Nat} {s : Sl} {bs : List Bk} (h : OwnB w B s bs) {b : Nat} {T : TypeId} {cs : Array Value} (hb : w.heap[b]? = some (.cells cs T (0, 0))) (hT : T ≠ 54) : some b ≠ s.v.ownBlock := by
  intro e
  rcases h.own.2 with ⟨h0, _⟩ | ⟨g, cap, cur, hv, _, hh, _⟩
  · rw [h0] at e; simp [Value.ownBlock] at e
  · rw [hv] at e
    simp [Value.ownBlock] at e
    subst e
    rw [hb] at hh
    simp at hh
    exact hT hh.2
theorem OwnB.keep {w w' : World} {B b : Nat} {T : TypeId} {cs : Array Value} {s : Sl} {bs : List Bk} (h : OwnB w B s bs) (hb : Blk w b T cs) (hT : T ≠ 54) (so : ∀ k, k ≠ b → w'.heap[k]? = w.heap[k]?) : OwnB w' B s bs := by
  have hne := h.ne hb hT
  obtain ⟨h1, h2⟩ := h.own
  refine ⟨⟨h1, h2.imp id ?_⟩, h.ok, h.few⟩
  rintro ⟨g, cap, cur, hv, hg, hh, r⟩
  exact ⟨g, cap, cur, hv, hg, by rw [so g (fun e => hne (by rw [hv, e]; rfl))]; exact hh, r⟩
theorem OwnB.mono {w : World} {B B' : Nat} {s : Sl} {bs : List Bk} (h : OwnB w B s bs) (hB : B' ≤ B) : OwnB w B' s bs := by
  obtain ⟨h1, h2⟩ := h.own
  refine ⟨⟨h1, h2.imp id ?_⟩, h.ok, h.few⟩
  rintro ⟨g, cap, cur, hv, hg, r⟩
  exact ⟨g, cap, cur, hv, by omega, r⟩
/-- append(out, block): nothing turns but the row of layers. -/
theorem wpList_append_block2 {w : World} {ops : Array Oper} {rest : List Oper} {o : Oper} {a : Act} {Q : Exit → Act → World → Prop} (hgd : o.guard = none) (s x : Operand)
    (ho : o.op = .call { callee := .builtin .append, args := #[s, x], argTypes := #[31, 31] })
    (B : Nat) (S : Sl) (bs : List Bk) (hs : a.eval s = S.v) (hF : OwnB w B S bs) (bo : Nat) (y : Bk) (hx : a.eval x = .slice (some ⟨bo, 0, none⟩) 1 1) (hX : Blk w bo 54 y.cells) (hy : y.Ok)
    (hlen : S.n + 1 ≤ 1000000) (hB : B ≤ w.heap.size)
    (h : ∀ S' w', S'.n = S.n + 1 → OwnB w' B S' (bs ++ [y]) → Below B w w' → (∀ (k : Nat) (T : TypeId) (cs : Array Value), w.heap[k]? = some (.cells cs T (0, 0)) → T ≠ 54 → w'.heap[k]? = w.heap[k]?) → wpList Try.prog ops Q rest (a.put o.dst S'.v) w') : wpList Try.prog ops Q (o :: rest) a w := by
  obtain ⟨i0, hi, hz0, hz1, hz2⟩ := info_parts Try.infoRB
  refine wpList_append_own w hgd s x 31 ho B 54 i0 (.agg #[.slice none 0 0, .int .i64 0, .int .i64 0, .slice none 0 0, .int .i64 0, .int .i64 0, .slice none 0 0, .int .i64 0, .int .i64 0, .slice none 0 0, .int .i64 0, .int .i64 0, .slice none 0 0, .slice none 0 0, .int .i64 0, .int .i64 0, .slice none 0 0, .int .i64 0, .int .i64 0, .slice none 0 0]) 20 288 Try.underlying31 hi hz0 hz1 hz2 rfl (by decide) _ S.n _ hs hF.own ⟨bo, 0, none⟩ 1 1 y.cells.toList hx rfl ?_ ?_ (by unfold maxLen; omega) (by omega) hB ?_
  · intro j u hj
    rw [Addr.add_mid, Nat.zero_add]
    exact hX.cell j (by simpa using hj)
  · intro u hu
    exact (Array.all_eq_true_iff_forall_mem.1 (bk_one y)) u (by simpa using hu)
  · intro v' w' hown hg hnil
    have hb : Below B w w' := (Below.refl _ _).grown hg hB (fun k hk => (hF.own.lt k hk).1)
    have hk : ∀ (k : Nat) (T : TypeId) (cs : Array Value), w.heap[k]? = some (.cells cs T (0, 0)) → T ≠ 54 → w'.heap[k]? = w.heap[k]? := fun k T cs h1 h2 => hg.block k (Array.getElem?_eq_some_iff.1 h1).1 (hF.ne h1 h2)
    have e : flat bs ++ y.cells.toList = flat (bs ++ [y]) := by unfold flat; rw [List.flatMap_append]; simp
    rw [e] at hown
    obtain ⟨h1, h2⟩ := hown
    rcases h2 with ⟨h3, h4⟩ | ⟨g', c', cur, hv, hr⟩
    · omega
    · subst hv
      exact h ⟨some ⟨g', 0, none⟩, S.n + 1, c'⟩ w' rfl ⟨⟨h1, Or.inr ⟨g', c', cur, rfl, hr⟩⟩, fun z hz => (List.mem_append.1 hz).elim (hF.ok z) (fun h => by simp at h; subst h; exact hy), hlen⟩ hb hk
theorem FR.type {w w' : World} {B : Nat} {s : Sl} {n : Nat} {A : List Int} (h : FR w B s n A) (hk : ∀ (k : Nat) (T : TypeId) (cs : Array Value), w.heap[k]? = some (.cells cs T (0, 0)) → T ≠ 54 → w'.heap[k]? = w.heap[k]?) : FR w' B s n A := by
  obtain ⟨g, h1, h2, F⟩ := h
  obtain ⟨c9, h9, _⟩ := F.row
  exact ⟨g, h1, h2, F.of_block (hk g _ _ h9 (by decide))⟩
theorem MadeR.type {w w' : World} {B seed i D H : Nat} {x : Bk} (h : MadeR w B seed i D H x) (hk : ∀ (k : Nat) (T : TypeId) (cs : Array Value), w.heap[k]? = some (.cells cs T (0, 0)) → T ≠ 54 → w'.heap[k]? = w.heap[k]?) : MadeR w' B seed i D H x :=
  ⟨h.f.type hk, ⟨h.q.r, h.q.c, h.q.d.type hk⟩, ⟨h.k.r, h.k.c, h.k.d.type hk⟩, ⟨h.v.r, h.v.c, h.v.d.type hk⟩, ⟨h.o.r, h.o.c, h.o.d.type hk⟩, h.s.type hk, ⟨h.u.r, h.u.c, h.u.d.type hk⟩, ⟨h.d.r, h.d.c, h.d.d.type hk⟩⟩
theorem set3_other {w : World} {b o1 o2 o3 : Nat} {v1 v2 v3 : Value} : ∀ k, k ≠ b → (((w.setCell ⟨b, o1, none⟩ v1).setCell ⟨b, o2, none⟩ v2).setCell ⟨b, o3, none⟩ v3).heap[k]? = w.heap[k]? := fun k hk => by
  rw [Below.heap_setCell _ _ _ _ (by exact hk), Below.heap_setCell _ _ _ _ (by exact hk), Below.heap_setCell _ _ _ _ (by exact hk)]
theorem set1_other {w : World} {b o1 : Nat} {v1 : Value} : ∀ k, k ≠ b → (w.setCell ⟨b, o1, none⟩ v1).heap[k]? = w.heap[k]? := fun k hk => by
  rw [Below.heap_setCell _ _ _ _ (by exact hk)]
/-- One layer that is being made: its block, and that all elder ones stand. -/
theorem Below.set3 {B : Nat} {w w' : World} (h : Below B w w') {b : Nat} (hb : B ≤ b) (o1 o2 o3 : Nat) (v1 v2 v3 : Value) : Below B w (((w'.setCell ⟨b, o1, none⟩ v1).setCell ⟨b, o2, none⟩ v2).setCell ⟨b, o3, none⟩ v3) :=
  ((h.setCell (p := ⟨b, o1, none⟩) (by exact hb) _).setCell (p := ⟨b, o2, none⟩) (by exact hb) _).setCell (p := ⟨b, o3, none⟩) (by exact hb) _

end Go.Proofs.Ytlghodjiiajapaa

/- Rows of layers of the call's own that grow, as one operation. -/
namespace Go.Proofs.Ytlghodjiiajapaa
open Go.ChangeShapes Go.WideShapes Go.ChangeAt Go.RowKit
theorem wp_append_blockR {w : World} {o : Oper} {a : Act} {K : Act → World → Prop} {Q : Exit → Act → World → Prop} (s x : Operand)
    (ho : o.op = .call { callee := .builtin .append, args := #[s, x], argTypes := #[31, 31] })
    (B : Nat) (S : Sl) (bs : List Bk) (hs : a.eval s = S.v) (hF : OwnB w B S bs) (bo : Nat) (y : Bk) (hx : a.eval x = .slice (some ⟨bo, 0, none⟩) 1 1) (hX : Blk w bo 54 y.cells) (hy : y.Ok)
    (hlen : S.n + 1 ≤ 1000000) (hB : B ≤ w.heap.size)
    (h : ∀ S' w', S'.n = S.n + 1 → OwnB w' B S' (bs ++ [y]) → Below B w w' → (∀ (k : Nat) (T : TypeId) (cs : Array Value), w.heap[k]? = some (.cells cs T (0, 0)) → T ≠ 54 → w'.heap[k]? = w.heap[k]?) → K (a.put o.dst S'.v) w') : o.wp Try.prog a w K Q := by
  obtain ⟨i0, hi, hz0, hz1, hz2⟩ := info_parts Try.infoRB
  refine wp_append_own w s x 31 ho B 54 i0 (.agg #[.slice none 0 0, .int .i64 0, .int .i64 0, .slice none 0 0, .int .i64 0, .int .i64 0, .slice none 0 0, .int .i64 0, .int .i64 0, .slice none 0 0, .int .i64 0, .int .i64 0, .slice none 0 0, .slice none 0 0, .int .i64 0, .int .i64 0, .slice none 0 0, .int .i64 0, .int .i64 0, .slice none 0 0]) 20 288 Try.underlying31 hi hz0 hz1 hz2 rfl (by decide) _ S.n _ hs hF.own ⟨bo, 0, none⟩ 1 1 y.cells.toList hx rfl ?_ ?_ (by unfold maxLen; omega) (by omega) hB ?_
  · intro j u hj
    rw [Addr.add_mid, Nat.zero_add]
    exact hX.cell j (by simpa using hj)
  · intro u hu
    exact (Array.all_eq_true_iff_forall_mem.1 (bk_one y)) u (by simpa using hu)
  · intro v' w' hown hg hnil
    have hb : Below B w w' := (Below.refl _ _).grown hg hB (fun k hk => (hF.own.lt k hk).1)
    have hk : ∀ (k : Nat) (T : TypeId) (cs : Array Value), w.heap[k]? = some (.cells cs T (0, 0)) → T ≠ 54 → w'.heap[k]? = w.heap[k]? := fun k T cs h1 h2 => hg.block k (Array.getElem?_eq_some_iff.1 h1).1 (hF.ne h1 h2)
    have e : flat bs ++ y.cells.toList = flat (bs ++ [y]) := by unfold flat; rw [List.flatMap_append]; simp
    rw [e] at hown
    obtain ⟨h1, h2⟩ := hown
    rcases h2 with ⟨h3, h4⟩ | ⟨g', c', cur, hv, hr⟩
    · omega
    · subst hv
      exact h ⟨some ⟨g', 0, none⟩, S.n + 1, c'⟩ w' rfl ⟨⟨h1, Or.inr ⟨g', c', cur, rfl, hr⟩⟩, fun z hz => (List.mem_append.1 hz).elim (hF.ok z) (fun h => by simp at h; subst h; exact hy), hlen⟩ hb hk
/-- A row of layers of the call's own. -/
structure OwnM (w : World) (B : Nat) (s : Sl) (bs : List Bk) : Prop where
  own : w.ownsRow B 53 20 s.v s.n (flat bs)
  ok : ∀ x ∈ bs, x.Ok
  few : s.n ≤ 1000000
theorem OwnM.len {w : World} {B : Nat} {s : Sl} {bs : List Bk} (h : OwnM w B s bs) : bs.length = s.n := by
  have := h.own.1
  rw [flat_len] at this
  omega
theorem OwnM.blocks {w : World} {B : Nat} {s : Sl} {bs : List Bk} (h : OwnM w B s bs) : BlocksAt w s bs := by
  refine ⟨h.len, by have := h.few; omega, h.ok, fun hn => ?_⟩
  rcases h.own.2 with ⟨h0, h1⟩ | ⟨g, cap, cur, hv, _⟩
  · omega
  · unfold Sl.v at hv
    simp only [Value.slice.injEq, true_and] at hv
    refine ⟨g, 0, hv.1, fun t x hx j v hv2 => ?_⟩
    have hc := h.own.cells (g := g) (by unfold Sl.v; rw [hv.1]; rfl) (t * 20 + j) v (flat_at bs t x hx j v hv2)
    rw [Addr.add_mid] at hc
    rw [Nat.zero_add] at hc ⊢
    exact hc
theorem OwnM.below {w w' : World} {B : Nat} {s : Sl} {bs : List Bk} (h : OwnM w B s bs) (hb : Below w.heap.size w w') : OwnM w' B s bs := by
  obtain ⟨h1, h2⟩ := h.own
  refine ⟨⟨h1, ?_⟩, h.ok, h.few⟩
  rcases h2 with h2 | ⟨g, cap, cur, hv, hg, hh, r⟩
  · exact Or.inl h2
  · exact Or.inr ⟨g, cap, cur, hv, hg, by rw [hb.block g (Array.getElem?_eq_some_iff.1 hh).1]; exact hh, r⟩
theorem ownM_nil (w : World) (B : Nat) : OwnM w B ⟨none, 0, 0⟩ [] := ⟨World.ownsRow_nil _ _ _ _, (fun x hx => by cases hx), (by show 0 ≤ 1000000; omega)⟩
theorem OwnM.ne {w : World} {B : Nat} {s : Sl} {bs : List Bk} (h : OwnM w B s bs) {b : Nat} {T : TypeId} {cs : Array Value} (hb : w.heap[b]? = some (.cells cs T (0, 0))) (hT : T ≠ 53) : some b ≠ s.v.ownBlock := by
  intro e
  rcases h.own.2 with ⟨h0, _⟩ | ⟨g, cap, cur, hv, _, hh, _⟩
  · rw [h0] at e; simp [Value.ownBlock] at e
  · rw [hv] at e
    simp [Value.ownBlock] at e
    subst e
    rw [hb] at hh
    simp at hh
    exact hT hh.2
theorem OwnM.keep {w w' : World} {B b : Nat} {T : TypeId} {cs : Array Value} {s : Sl} {bs : List Bk} (h : OwnM w B s bs) (hb : Blk w b T cs) (hT : T ≠ 53) (so : ∀ k, k ≠ b → w'.heap[k]? = w.heap[k]?) : OwnM w' B s bs := by
  have hne := h.ne hb hT
  obtain ⟨h1, h2⟩ := h.own
  refine ⟨⟨h1, h2.imp id ?_⟩, h.ok, h.few⟩
  rintro ⟨g, cap, cur, hv, hg, hh, r⟩
  exact ⟨g, cap, cur, hv, hg, by rw [so g (fun e => hne (by rw [hv, e]; rfl))]; exact hh, r⟩
theorem OwnM.mono {w : World} {B B' : Nat} {s : Sl} {bs : List Bk} (h : OwnM w B s bs) (hB : B' ≤ B) : OwnM w B' s bs := by
  obtain ⟨h1, h2⟩ := h.own
  refine ⟨⟨h1, h2.imp id ?_⟩, h.ok, h.few⟩
  rintro ⟨g, cap, cur, hv, hg, r⟩
  exact ⟨g, cap, cur, hv, by omega, r⟩
/-- append(out, block): nothing turns but the row of layers. -/
theorem wpList_append_blockM {w : World} {ops : Array Oper} {rest : List Oper} {o : Oper} {a : Act} {Q : Exit → Act → World → Prop} (hgd : o.guard = none) (s x : Operand)
    (ho : o.op = .call { callee := .builtin .append, args := #[s, x], argTypes := #[27, 27] })
    (B : Nat) (S : Sl) (bs : List Bk) (hs : a.eval s = S.v) (hF : OwnM w B S bs) (bo : Nat) (y : Bk) (hx : a.eval x = .slice (some ⟨bo, 0, none⟩) 1 1) (hX : Blk w bo 53 y.cells) (hy : y.Ok)
    (hlen : S.n + 1 ≤ 1000000) (hB : B ≤ w.heap.size)
    (h : ∀ S' w', S'.n = S.n + 1 → OwnM w' B S' (bs ++ [y]) → Below B w w' → (∀ (k : Nat) (T : TypeId) (cs : Array Value), w.heap[k]? = some (.cells cs T (0, 0)) → T ≠ 53 → w'.heap[k]? = w.heap[k]?) → wpList Try.prog ops Q rest (a.put o.dst S'.v) w') : wpList Try.prog ops Q (o :: rest) a w := by
  obtain ⟨i0, hi, hz0, hz1, hz2⟩ := info_parts Try.infoBlk
  refine wpList_append_own w hgd s x 27 ho B 53 i0 (.agg #[.slice none 0 0, .int .i64 0, .int .i64 0, .slice none 0 0, .int .i64 0, .int .i64 0, .slice none 0 0, .int .i64 0, .int .i64 0, .slice none 0 0, .int .i64 0, .int .i64 0, .slice none 0 0, .slice none 0 0, .int .i64 0, .int .i64 0, .slice none 0 0, .int .i64 0, .int .i64 0, .slice none 0 0]) 20 288 Try.underlying27 hi hz0 hz1 hz2 rfl (by decide) _ S.n _ hs hF.own ⟨bo, 0, none⟩ 1 1 y.cells.toList hx rfl ?_ ?_ (by unfold maxLen; omega) (by omega) hB ?_
  · intro j u hj
    rw [Addr.add_mid, Nat.zero_add]
    exact hX.cell j (by simpa using hj)
  · intro u hu
    exact (Array.all_eq_true_iff_forall_mem.1 (bk_one y)) u (by simpa using hu)
  · intro v' w' hown hg hnil
    have hb : Below B w w' := (Below.refl _ _).grown hg hB (fun k hk => (hF.own.lt k hk).1)
    have hk : ∀ (k : Nat) (T : TypeId) (cs : Array Value), w.heap[k]? = some (.cells cs T (0, 0)) → T ≠ 53 → w'.heap[k]? = w.heap[k]? := fun k T cs h1 h2 => hg.block k (Array.getElem?_eq_some_iff.1 h1).1 (hF.ne h1 h2)
    have e : flat bs ++ y.cells.toList = flat (bs ++ [y]) := by unfold flat; rw [List.flatMap_append]; simp
    rw [e] at hown
    obtain ⟨h1, h2⟩ := hown
    rcases h2 with ⟨h3, h4⟩ | ⟨g', c', cur, hv, hr⟩
    · omega
    · subst hv
      exact h ⟨some ⟨g', 0, none⟩, S.n + 1, c'⟩ w' rfl ⟨⟨h1, Or.inr ⟨g', c', cur, rfl, hr⟩⟩, fun z hz => (List.mem_append.1 hz).elim (hF.ok z) (fun h => by simp at h; subst h; exact hy), hlen⟩ hb hk
theorem FR.typeM {w w' : World} {B : Nat} {s : Sl} {n : Nat} {A : List Int} (h : FR w B s n A) (hk : ∀ (k : Nat) (T : TypeId) (cs : Array Value), w.heap[k]? = some (.cells cs T (0, 0)) → T ≠ 53 → w'.heap[k]? = w.heap[k]?) : FR w' B s n A := by
  obtain ⟨g, h1, h2, F⟩ := h
  obtain ⟨c9, h9, _⟩ := F.row
  exact ⟨g, h1, h2, F.of_block (hk g _ _ h9 (by decide))⟩
theorem wp_append_blockM {w : World} {o : Oper} {a : Act} {K : Act → World → Prop} {Q : Exit → Act → World → Prop} (s x : Operand)
    (ho : o.op = .call { callee := .builtin .append, args := #[s, x], argTypes := #[27, 27] })
    (B : Nat) (S : Sl) (bs : List Bk) (hs : a.eval s = S.v) (hF : OwnM w B S bs) (bo : Nat) (y : Bk) (hx : a.eval x = .slice (some ⟨bo, 0, none⟩) 1 1) (hX : Blk w bo 53 y.cells) (hy : y.Ok)
    (hlen : S.n + 1 ≤ 1000000) (hB : B ≤ w.heap.size)
    (h : ∀ S' w', S'.n = S.n + 1 → OwnM w' B S' (bs ++ [y]) → Below B w w' → (∀ (k : Nat) (T : TypeId) (cs : Array Value), w.heap[k]? = some (.cells cs T (0, 0)) → T ≠ 53 → w'.heap[k]? = w.heap[k]?) → K (a.put o.dst S'.v) w') : o.wp Try.prog a w K Q := by
  obtain ⟨i0, hi, hz0, hz1, hz2⟩ := info_parts Try.infoBlk
  refine wp_append_own w s x 27 ho B 53 i0 (.agg #[.slice none 0 0, .int .i64 0, .int .i64 0, .slice none 0 0, .int .i64 0, .int .i64 0, .slice none 0 0, .int .i64 0, .int .i64 0, .slice none 0 0, .int .i64 0, .int .i64 0, .slice none 0 0, .slice none 0 0, .int .i64 0, .int .i64 0, .slice none 0 0, .int .i64 0, .int .i64 0, .slice none 0 0]) 20 288 Try.underlying27 hi hz0 hz1 hz2 rfl (by decide) _ S.n _ hs hF.own ⟨bo, 0, none⟩ 1 1 y.cells.toList hx rfl ?_ ?_ (by unfold maxLen; omega) (by omega) hB ?_
  · intro j u hj
    rw [Addr.add_mid, Nat.zero_add]
    exact hX.cell j (by simpa using hj)
  · intro u hu
    exact (Array.all_eq_true_iff_forall_mem.1 (bk_one y)) u (by simpa using hu)
  · intro v' w' hown hg hnil
    have hb : Below B w w' := (Below.refl _ _).grown hg hB (fun k hk => (hF.own.lt k hk).1)
    have hk : ∀ (k : Nat) (T : TypeId) (cs : Array Value), w.heap[k]? = some (.cells cs T (0, 0)) → T ≠ 53 → w'.heap[k]? = w.heap[k]? := fun k T cs h1 h2 => hg.block k (Array.getElem?_eq_some_iff.1 h1).1 (hF.ne h1 h2)
    have e : flat bs ++ y.cells.toList = flat (bs ++ [y]) := by unfold flat; rw [List.flatMap_append]; simp
    rw [e] at hown
    obtain ⟨h1, h2⟩ := hown
    rcases h2 with ⟨h3, h4⟩ | ⟨g', c', cur, hv, hr⟩
    · omega
    · subst hv
      exact h ⟨some ⟨g', 0, none⟩, S.n + 1, c'⟩ w' rfl ⟨⟨h1, Or.inr ⟨g', c', cur, rfl, hr⟩⟩, fun z hz => (List.mem_append.1 hz).elim (hF.ok z) (fun h => by simp at h; subst h; exact hy), hlen⟩ hb hk
end Go.Proofs.Ytlghodjiiajapaa

/- Rows of rows in memory: what a slice of slices reads as. -/
namespace Go.Proofs.Ytlghodjiiajapaa
open Go.ChangeShapes Go.WideShapes Go.ChangeAt Go.RowKit
/-- Row t of several; beyond their end: none. -/
def rowOf (R : List (List Int)) (t : Nat) : List Int := R.getD t []
/-- In w the slice that begins at ao, of n rows, reads as R. -/
structure GridAt (w : World) (ao : Option Addr) (n : Nat) (R : List (List Int)) : Prop where
  len : R.length = n
  max : n ≤ 9223372036854775807
  cells : 0 < n → ∃ b o, ao = some ⟨b, o, none⟩ ∧ ∀ t, t < n → ∃ ro m c, w.cell? ⟨b, o + t, none⟩ = some (.slice ro m c) ∧ Arg w ro m c (rowOf R t)
theorem GridAt.nil (w : World) (ao : Option Addr) : GridAt w ao 0 [] := ⟨rfl, by omega, fun h => by omega⟩
theorem GridAt.below {w w' : World} {ao : Option Addr} {n : Nat} {R : List (List Int)} (h : GridAt w ao n R) (hb : Below w.heap.size w w') : GridAt w' ao n R := by
  refine ⟨h.len, h.max, fun hn => ?_⟩
  obtain ⟨b, o, e, hc⟩ := h.cells hn
  refine ⟨b, o, e, fun t ht => ?_⟩
  obtain ⟨ro, m, c, h1, h2⟩ := hc t ht
  have hlt : b < w.heap.size := by simpa using World.block_lt_of_cell? w _ h1
  exact ⟨ro, m, c, by rw [hb.cell (by exact hlt)]; exact h1, h2.below hb⟩
theorem GridAt.drewN {w : World} {ao : Option Addr} {n : Nat} {R : List (List Int)} (h : GridAt w ao n R) (m : Nat) : GridAt (w.drewN m) ao n R := h.below (below_drewN (Below.refl _ _) m)
/-- Are the first k rows as long as the first? -/
def alike (R : List (List Int)) : Nat → Bool
  | 0 => true
  | k + 1 => alike R k && ((rowOf R k).length == (rowOf R 0).length)
theorem alike_len {R : List (List Int)} {n : Nat} (h : alike R n = true) {t : Nat} (ht : t < n) : (rowOf R t).length = (rowOf R 0).length := by
  induction n with
  | zero => omega
  | succ n ih =>
    unfold alike at h
    rw [Bool.and_eq_true] at h
    rcases Nat.lt_or_ge t n with h1 | h1
    · exact ih h.1 h1
    · obtain rfl : t = n := by omega
      simpa using h.2
theorem alike_not {R : List (List Int)} {n t : Nat} (ht : t < n) (h : (rowOf R t).length ≠ (rowOf R 0).length) : alike R n = false := by
  cases e : alike R n with
  | false => rfl
  | true => exact absurd (alike_len e ht) h
/-- The error's number of a mix. -/
def mixedN (n : Nat) (R : List (List Int)) : Int := if n = 0 ∨ R.length = 0 then 8 else if 4096 < n then 2 else if R.length ≠ n then 6 else if alike R n = true then 0 else 6
/-- Column j of n rows. -/
def colOf (R : List (List Int)) (n j : Nat) : List Int := tab n fun i => el (rowOf R i) j
theorem mixedN_ok {n : Nat} {R : List (List Int)} (h : mixedN n R = 0) : 1 ≤ n ∧ n ≤ 4096 ∧ R.length = n ∧ ∀ t, t < n → (rowOf R t).length = (rowOf R 0).length := by
  unfold mixedN at h
  split at h
  · omega
  · split at h
    · omega
    · split at h
      · omega
      · split at h
        · rename_i h1 h2 h3 h4
          exact ⟨by omega, by omega, by omega, fun t ht => alike_len h4 ht⟩
        · omega
end Go.Proofs.Ytlghodjiiajapaa

/- Mixes of rows: their errors, and what comes out. -/
namespace Go.Proofs.Ytlghodjiiajapaa
open Go.ChangeShapes Go.WideShapes Go.ChangeAt Go.RowKit
end Go.Proofs.Ytlghodjiiajapaa

/- Plain numbers: the steps, powers of two by them, and whole roots; no condition. -/
namespace Go.Proofs.Ytlghodjiiajapaa
def stp : List Nat := [65536, 64830, 64132, 63441, 62757, 62081, 61413, 60751, 60097, 59449, 58809, 58176, 57549, 56929, 56316, 55709, 55109, 54515, 53928, 53347, 52773, 52204, 51642, 51085, 50535, 49991, 49452, 48920, 48393, 47871, 47356, 46846, 46341, 45842, 45348, 44859, 44376, 43898, 43425, 42958, 42495, 42037, 41584, 41136, 40693, 40255, 39821, 39392, 38968, 38548, 38133, 37722, 37316, 36914, 36516, 36123, 35734, 35349, 34968, 34591, 34219, 33850, 33486, 33125, 32768]
def stepAt (i : Nat) : Nat := stp.getD i 0
theorem step_all : (List.range 64).all (fun i => decide (stepAt (i + 1) < stepAt i ∧ stepAt i ≤ stepAt (i + 1) + 706 ∧ 32768 ≤ stepAt (i + 1) ∧ stepAt i ≤ 65536)) = true := by decide
theorem step_at (i : Nat) (h : i < 64) : stepAt (i + 1) < stepAt i ∧ stepAt i ≤ stepAt (i + 1) + 706 ∧ 32768 ≤ stepAt (i + 1) ∧ stepAt i ≤ 65536 := by
  have := List.all_eq_true.1 step_all i (List.mem_range.2 h)
  simpa using this
/-- What is taken off a step. -/
def offN (y : Nat) : Nat := ((stepAt (y / 1024 % 64) - stepAt (y / 1024 % 64 + 1)) * (y % 1024) + 512) / 1024
def vN (y : Nat) : Nat := stepAt (y / 1024 % 64) - offN y
def powN (y : Nat) : Nat := vN y / 2 ^ (y / 65536)
theorem off_le (y : Nat) : offN y ≤ stepAt (y / 1024 % 64) - stepAt (y / 1024 % 64 + 1) := by
  unfold offN
  have h : (stepAt (y / 1024 % 64) - stepAt (y / 1024 % 64 + 1)) * (y % 1024) ≤ (stepAt (y / 1024 % 64) - stepAt (y / 1024 % 64 + 1)) * 1023 := Nat.mul_le_mul_left _ (by omega)
  have s := step_at (y / 1024 % 64) (Nat.mod_lt _ (by decide))
  omega
theorem vN_bd (y : Nat) : stepAt (y / 1024 % 64 + 1) ≤ vN y ∧ vN y ≤ stepAt (y / 1024 % 64) ∧ 32768 ≤ vN y ∧ vN y ≤ 65536 := by
  have a := off_le y
  have s := step_at (y / 1024 % 64) (Nat.mod_lt _ (by decide))
  unfold vN
  omega
theorem powN_bd (y : Nat) : powN y ≤ 65536 := Nat.le_trans (Nat.div_le_self _ _) (vN_bd y).2.2.2
/-- As the program reckons it, in whole numbers with a sign. -/
theorem prod_int (y : Nat) : ((stepAt (y / 1024 % 64) : Int) - (stepAt (y / 1024 % 64 + 1) : Int)) * ((y : Int) % 1024) = (((stepAt (y / 1024 % 64) - stepAt (y / 1024 % 64 + 1)) * (y % 1024) : Nat) : Int) := by
  have s := step_at (y / 1024 % 64) (Nat.mod_lt _ (by decide))
  rw [Int.natCast_mul, Int.ofNat_sub (by omega)]; rfl
theorem v_int (y : Nat) : (stepAt (y / 1024 % 64) : Int) - (((stepAt (y / 1024 % 64) : Int) - (stepAt (y / 1024 % 64 + 1) : Int)) * ((y : Int) % 1024) + 512) / 1024 = (vN y : Int) := by
  have a := off_le y
  rw [prod_int]
  unfold vN offN at *
  omega
theorem prod_bd2 (y : Nat) : 0 ≤ ((stepAt (y / 1024 % 64) : Int) - (stepAt (y / 1024 % 64 + 1) : Int)) * ((y : Int) % 1024) ∧ ((stepAt (y / 1024 % 64) : Int) - (stepAt (y / 1024 % 64 + 1) : Int)) * ((y : Int) % 1024) ≤ 722238 := by
  have s := step_at (y / 1024 % 64) (Nat.mod_lt _ (by decide))
  rw [prod_int]
  have h : (stepAt (y / 1024 % 64) - stepAt (y / 1024 % 64 + 1)) * (y % 1024) ≤ 706 * 1023 := Nat.mul_le_mul (by omega) (by omega)
  omega
theorem div_div (a j : Nat) : a / 2 ^ j / 2 = a / 2 ^ (j + 1) := by rw [Nat.div_div_eq_div_mul, Nat.pow_succ]
theorem div_zero_up (a j k : Nat) (h : a / 2 ^ j = 0) (hk : j ≤ k) : a / 2 ^ k = 0 := by
  have : a < 2 ^ j := by
    rcases Nat.lt_or_ge a (2 ^ j) with h' | h'
    · exact h'
    · have := Nat.div_pos h' (Nat.pow_pos (by decide)); omega
  exact Nat.div_eq_of_lt (Nat.lt_of_lt_of_le this (Nat.pow_le_pow_right (by decide) hk))
/-- The whole root, bit by bit. -/
def rtFrom : Nat → Nat → Nat → Nat
  | 0, r, _ => r
  | k + 1, r, x => if (r + 2 ^ k) * (r + 2 ^ k) ≤ x then rtFrom k (r + 2 ^ k) x else rtFrom k r x
def rt (x : Nat) : Nat := rtFrom 32 0 x
theorem rtFrom_spec : ∀ (k r x : Nat), r * r ≤ x → x < (r + 2 ^ k) * (r + 2 ^ k) → rtFrom k r x * rtFrom k r x ≤ x ∧ x < (rtFrom k r x + 1) * (rtFrom k r x + 1) ∧ r ≤ rtFrom k r x ∧ rtFrom k r x < r + 2 ^ k
  | 0, r, x, h1, h2 => by simpa [rtFrom] using ⟨h1, h2⟩
  | k + 1, r, x, h1, h2 => by
    have e : r + 2 ^ (k + 1) = r + 2 ^ k + 2 ^ k := by rw [Nat.pow_succ]; omega
    have hp : 0 < 2 ^ k := Nat.pow_pos (by decide)
    unfold rtFrom
    split
    · rename_i h
      have := rtFrom_spec k (r + 2 ^ k) x h (by rw [← e]; exact h2)
      omega
    · rename_i h
      have := rtFrom_spec k r x h1 (by omega)
      omega
theorem rt_spec (x : Nat) (h : x < 18446744073709551616) : rt x * rt x ≤ x ∧ x < (rt x + 1) * (rt x + 1) ∧ rt x < 4294967296 := by
  have := rtFrom_spec 32 0 x (by omega) (by simpa using h)
  unfold rt
  omega
/-- A root is the only one. -/
theorem rt_of (x r : Nat) (h : x < 18446744073709551616) (h1 : r * r ≤ x) (h2 : x < (r + 1) * (r + 1)) : rt x = r := by
  obtain ⟨a, b, -⟩ := rt_spec x h
  have p : rt x < r + 1 := by
    rcases Nat.lt_or_ge (rt x) (r + 1) with p | p
    · exact p
    · have := Nat.mul_le_mul p p; omega
  have q : r < rt x + 1 := by
    rcases Nat.lt_or_ge r (rt x + 1) with q | q
    · exact q
    · have := Nat.mul_le_mul q q; omega
  omega
theorem rt_mono (x y : Nat) (hxy : x ≤ y) (hy : y < 18446744073709551616) : rt x ≤ rt y := by
  obtain ⟨a, b, -⟩ := rt_spec x (by omega)
  obtain ⟨c, d, -⟩ := rt_spec y hy
  rcases Nat.lt_or_ge (rt x) (rt y + 1) with p | p
  · omega
  · have := Nat.mul_le_mul p p; omega
/-- The inverse root. -/
def invN (x : Int) : Int := if x ≤ 0 then 2147483647 else (rt (281474976710656 / x.toNat) : Int)
theorem inv_small (x : Nat) : rt (281474976710656 / x) ≤ 16777216 := by
  have h1 : 281474976710656 / x ≤ 281474976710656 := Nat.div_le_self _ _
  have h2 := rt_mono _ _ h1 (by decide)
  have h3 : rt 281474976710656 = 16777216 := rt_of _ _ (by decide) (by decide) (by decide)
  omega
theorem invN_bd (x : Int) : 0 ≤ invN x ∧ invN x ≤ 2147483647 := by
  unfold invN
  split
  · omega
  · have := inv_small x.toNat; omega
end Go.Proofs.Ytlghodjiiajapaa

/- What each call of package curve answers, where the table of steps lies in memory as the program's text lays it. -/
namespace Go.Proofs.Ytlghodjiiajapaa
open Go.ChangeShapes Go.WideShapes Go.ChangeAt Go.RowKit
def tabCells : Array Value := (stp.map fun (n : Nat) => Value.int .i32 (n : Int)).toArray
theorem tab_get (i : Nat) (h : i < 65) : tabCells[i]? = some (.int .i32 (stepAt i : Int)) := by
  have hl : stp.length = 65 := rfl
  simp [tabCells, stepAt, hl, h]
/-- The table of steps lies in block 0. -/
def Tab (w : World) : Prop := ∃ t fr, w.heap[0]? = some (.cells tabCells t fr)
theorem Tab.lt {w : World} (h : Tab w) : 0 < w.heap.size := by
  obtain ⟨t, fr, h⟩ := h
  exact (Array.getElem?_eq_some_iff.1 h).1
theorem Tab.next {w w' : World} (h : Tab w) (hb : Below w.heap.size w w') : Tab w' := by
  obtain ⟨t, fr, h'⟩ := h
  exact ⟨t, fr, (hb.block 0 (Tab.lt ⟨t, fr, h'⟩)).trans h'⟩
theorem Tab.cell {w : World} (h : Tab w) (i : Nat) (hi : i < 65) : w.cell? ⟨0, i, none⟩ = some (.int .i32 (stepAt i : Int)) := by
  obtain ⟨t, fr, h'⟩ := h
  have := tab_get i hi
  simp only [World.cell?, h']
  exact this
theorem shr_v (y v : Nat) (hv : v ≤ 65536) : Op.shift .shr .i64 (v : Int) .i64 ((y : Int) / 65536) = pure (.int .i64 ((v / 2 ^ (y / 65536) : Nat) : Int)) := by
  rw [shift_shr_any _ _ _ _ (by omega)]
  have e : ((y : Int) / 65536).toNat = y / 65536 := by omega
  rw [e]
  congr 2
  show (v : Int) / 2 ^ min (y / 65536) 64 = _
  rcases Nat.lt_or_ge (y / 65536) 64 with h | h
  · rw [Nat.min_eq_left (by omega)]; norm_cast
  · rw [Nat.min_eq_right h]
    have h1 : v / 2 ^ (y / 65536) = 0 := Nat.div_eq_of_lt (Nat.lt_of_le_of_lt hv (Nat.lt_of_lt_of_le (show 65536 < 2 ^ 64 by decide) (Nat.pow_le_pow_right (by decide) h)))
    rw [h1]
    omega
theorem or_add (r b k : Nat) (hb : b = 2 ^ k) (hm : r % (2 * b) = 0) : r ||| b = r + b := by
  have e : 2 * b = 2 ^ (k + 1) := by rw [hb, Nat.pow_succ]; omega
  have h := Nat.two_pow_add_eq_or_of_lt (i := k + 1) (b := b) (by rw [← e, hb]; have : 0 < 2 ^ k := Nat.pow_pos (by decide); omega) (r / (2 * b))
  rw [← e] at h
  have d : 2 * b * (r / (2 * b)) = r := by have := Nat.div_add_mod r (2 * b); omega
  rw [d] at h
  exact h.symm
theorem sq_bd (r b x : Nat) (hle : r + 2 * b ≤ 4294967296) (hb : 1 ≤ b) : (0 : Int) ≤ ((r : Int) + (b : Int)) * ((r : Int) + (b : Int)) ∧ ((r : Int) + (b : Int)) * ((r : Int) + (b : Int)) ≤ 18446744073709551615 ∧ (((r : Int) + (b : Int)) * ((r : Int) + (b : Int)) ≤ (x : Int) ↔ (r + b) * (r + b) ≤ x) := by
  have e : ((r : Int) + (b : Int)) * ((r : Int) + (b : Int)) = (((r + b) * (r + b) : Nat) : Int) := by norm_cast
  have h : (r + b) * (r + b) ≤ 4294967295 * 4294967295 := Nat.mul_le_mul (by omega) (by omega)
  rw [e]
  omega
theorem mod_half {r b : Nat} (h : r % (2 * b) = 0) : r % b = 0 ∧ (r + b) % b = 0 := by
  have h1 : r % b = 0 := Nat.mod_eq_zero_of_dvd (Nat.dvd_trans ⟨2, Nat.mul_comm _ _⟩ (Nat.dvd_of_mod_eq_zero h))
  exact ⟨h1, by rw [Nat.add_mod_right]; exact h1⟩
theorem rt_yes (k r x b : Nat) (hb : b = 2 ^ k) (h : rtFrom (k + 1) r x = rt x) (hc : (r + b) * (r + b) ≤ x) : rtFrom k (r + b) x = rt x := by
  subst hb; rw [← h]; simp [rtFrom, hc]
theorem rt_no (k r x b : Nat) (hb : b = 2 ^ k) (h : rtFrom (k + 1) r x = rt x) (hc : ¬ (r + b) * (r + b) ≤ x) : rtFrom k r x = rt x := by
  subst hb; rw [← h]; simp [rtFrom, hc]
end Go.Proofs.Ytlghodjiiajapaa

/- Plain numbers: powers never fall and halve with each step, inverses never rise, squares have their roots; no condition. -/
namespace Go.Proofs.Ytlghodjiiajapaa
def powI (x : Int) : Int := (powN (-x).toNat : Int)
theorem powI_bd (x : Int) : 0 ≤ powI x ∧ powI x ≤ 65536 := by have := powN_bd (-x).toNat; unfold powI; omega
theorem powI_pos (x : Int) (h : 0 < x) : powI x = 65536 := by unfold powI; rw [show (-x).toNat = 0 by omega]; rfl
theorem powI_neg (y : Nat) : powI (-(y : Int)) = (powN y : Int) := by unfold powI; rw [show (- -(y : Int)).toNat = y by omega]
theorem v_zero (y : Nat) (h : y % 1024 = 0) : vN y = stepAt (y / 1024 % 64) := by
  unfold vN offN; rw [h, Nat.mul_zero]; rfl
theorem pow_step (y : Nat) : powN (y + 1) ≤ powN y := by
  have hv := vN_bd y
  by_cases h1 : y % 1024 < 1023
  · have e1 : (y + 1) / 1024 = y / 1024 := by omega
    have e2 : (y + 1) / 65536 = y / 65536 := by omega
    have e3 : (y + 1) % 1024 = y % 1024 + 1 := by omega
    unfold powN
    rw [e2]
    refine Nat.div_le_div_right ?_
    have s := step_at (y / 1024 % 64) (Nat.mod_lt _ (by decide))
    unfold vN offN
    rw [e1, e3, Nat.mul_add]
    omega
  · by_cases h2 : y / 1024 % 64 < 63
    · have e1 : (y + 1) / 1024 % 64 = y / 1024 % 64 + 1 := by omega
      have e2 : (y + 1) / 65536 = y / 65536 := by omega
      unfold powN
      rw [e2]
      refine Nat.div_le_div_right ?_
      rw [v_zero (y + 1) (by omega), e1]
      exact hv.1
    · have e1 : (y + 1) / 1024 % 64 = 0 := by omega
      have e2 : (y + 1) / 65536 = y / 65536 + 1 := by omega
      unfold powN
      rw [v_zero (y + 1) (by omega), e1, e2, Nat.pow_succ, Nat.mul_comm, ← Nat.div_div_eq_div_mul]
      exact Nat.div_le_div_right hv.2.2.1
theorem pow_anti (a : Nat) : ∀ n, powN (a + n) ≤ powN a
  | 0 => Nat.le_refl _
  | n + 1 => Nat.le_trans (pow_step (a + n)) (pow_anti a n)
theorem powI_mono (x y : Int) (h : x ≤ y) : powI x ≤ powI y := by
  obtain ⟨n, hn⟩ : ∃ n : Nat, (-x).toNat = (-y).toNat + n := ⟨(-x).toNat - (-y).toNat, by omega⟩
  unfold powI
  rw [hn]
  have := pow_anti (-y).toNat n
  omega
theorem pow_half (y : Nat) : powN (y + 65536) = powN y / 2 := by
  have e1 : (y + 65536) / 1024 % 64 = y / 1024 % 64 := by omega
  have e2 : (y + 65536) % 1024 = y % 1024 := by omega
  have e3 : (y + 65536) / 65536 = y / 65536 + 1 := by omega
  unfold powN vN offN
  rw [e1, e2, e3, div_div]
theorem powI_half (x : Int) (h : x ≤ 0) : powI (x - 65536) = powI x / 2 := by
  have e : (-(x - 65536)).toNat = (-x).toNat + 65536 := by omega
  unfold powI
  rw [e, pow_half]
  omega
theorem invN_anti (x y : Int) (h : x ≤ y) : invN y ≤ invN x := by
  unfold invN
  by_cases hx : x ≤ 0
  · rw [if_pos hx]; have := invN_bd y; unfold invN at this; omega
  · rw [if_neg hx, if_neg (by omega)]
    have h1 : 281474976710656 / y.toNat ≤ 281474976710656 / x.toNat := Nat.div_le_div_left (by omega) (by omega)
    have h2 := rt_mono _ _ h1 (Nat.lt_of_le_of_lt (Nat.div_le_self _ _) (by decide))
    omega
theorem rt_sq (z : Nat) (h : z ≤ 4294967295) : rt (z * z) = z := by
  have h1 : z * z ≤ 4294967295 * 4294967295 := Nat.mul_le_mul h h
  exact rt_of _ _ (by omega) (Nat.le_refl _) (Nat.mul_lt_mul'' (by omega) (by omega))
theorem sq_succ (z : Nat) : (z + 1) * (z + 1) = z * z + 2 * z + 1 := by rw [Nat.add_mul, Nat.mul_add]; omega
theorem rt_sq_pred (z : Nat) (h : z ≤ 4294967295) (h0 : 0 < z) : rt (z * z - 1) = z - 1 := by
  have h1 : z * z ≤ 4294967295 * 4294967295 := Nat.mul_le_mul h h
  obtain ⟨m, rfl⟩ : ∃ m, z = m + 1 := ⟨z - 1, by omega⟩
  have e := sq_succ m
  refine rt_of _ _ (by omega) ?_ ?_
  · rw [show m + 1 - 1 = m by omega]; omega
  · rw [show m + 1 - 1 = m by omega]; omega
theorem rt_sq_top (z : Nat) (h : z ≤ 4294967295) : rt (z * z + 2 * z) = z := by
  have h1 : z * z ≤ 4294967295 * 4294967295 := Nat.mul_le_mul h h
  exact rt_of _ _ (by omega) (by omega) (by rw [sq_succ]; omega)
/-- A number times the square of its inverse root. -/
theorem inv_near (x : Nat) (h1 : 256 ≤ x) (h2 : x ≤ 16777216) : x * rt (281474976710656 / x) * rt (281474976710656 / x) ≤ 281474976710656 ∧
    281474976710656 < x * (rt (281474976710656 / x) + 1) * (rt (281474976710656 / x) + 1) ∧ 1 ≤ rt (281474976710656 / x) ∧ rt (281474976710656 / x) ≤ 1048576 := by
  obtain ⟨a, b, -⟩ := rt_spec (281474976710656 / x) (Nat.lt_of_le_of_lt (Nat.div_le_self _ _) (by decide))
  have d1 : 281474976710656 / x ≤ 1099511627776 := by
    have := Nat.div_le_div_left h1 (by decide) (a := 281474976710656); omega
  have d2 : 16777216 ≤ 281474976710656 / x := (Nat.le_div_iff_mul_le (by omega)).2 (by omega)
  have m1 := rt_mono _ _ d1 (by decide)
  have m2 := rt_mono _ _ d2 (Nat.lt_of_le_of_lt (Nat.div_le_self _ _) (by decide))
  have v1 : rt 1099511627776 = 1048576 := rt_of _ _ (by decide) (by decide) (by decide)
  have v2 : rt 16777216 = 4096 := rt_of _ _ (by decide) (by decide) (by decide)
  generalize rt (281474976710656 / x) = y at *
  refine ⟨?_, ?_, by omega, by omega⟩
  · rw [Nat.mul_assoc]
    exact Nat.le_trans (Nat.mul_le_mul_left x a) (Nat.mul_div_le _ _)
  · rw [Nat.mul_assoc]
    exact (Nat.div_lt_iff_lt_mul (by omega)).1 b |> fun h => by rw [Nat.mul_comm]; exact h
theorem cast_near (n y : Nat) : (n : Int) * (y : Int) = ((n * y : Nat) : Int) ∧ (n : Int) * (y : Int) * (y : Int) = ((n * y * y : Nat) : Int) ∧
    (n : Int) * ((y : Int) + 1) = ((n * (y + 1) : Nat) : Int) ∧ (n : Int) * ((y : Int) + 1) * ((y : Int) + 1) = ((n * (y + 1) * (y + 1) : Nat) : Int) := by
  refine ⟨?_, ?_, ?_, ?_⟩ <;> norm_cast
theorem cast_sq (r : Nat) : (r : Int) * (r : Int) = ((r * r : Nat) : Int) ∧ ((r : Int) + 1) * ((r : Int) + 1) = (((r + 1) * (r + 1) : Nat) : Int) := by
  refine ⟨?_, ?_⟩ <;> norm_cast
theorem inv_int (x : Nat) (h1 : 256 ≤ x) (h2 : x ≤ 16777216) : invN (x : Int) = (rt (281474976710656 / x) : Int) := by
  unfold invN; rw [if_neg (by omega)]; rfl
end Go.Proofs.Ytlghodjiiajapaa

/- Powers of every number, where the table of steps lies as the program's text lays it. -/
namespace Go.Proofs.Ytlghodjiiajapaa
open Go.ChangeShapes Go.WideShapes Go.ChangeAt Go.RowKit
end Go.Proofs.Ytlghodjiiajapaa

/- Plain numbers: means of squares, norms, weights by powers, and mixes; no condition. -/
namespace Go.Proofs.Ytlghodjiiajapaa
def sumTo (f : Nat → Int) : Nat → Int
  | 0 => 0
  | k + 1 => sumTo f k + f k
theorem sumTo_zero (f : Nat → Int) : sumTo f 0 = 0 := rfl
theorem sumTo_succ (f : Nat → Int) (k : Nat) : sumTo f (k + 1) = sumTo f k + f k := rfl
theorem sumTo_congr {f g : Nat → Int} {n : Nat} (h : ∀ j, j < n → f j = g j) : sumTo f n = sumTo g n := by
  induction n with
  | zero => rfl
  | succ n ih => rw [sumTo_succ, sumTo_succ, ih (fun j hj => h j (by omega)), h n (by omega)]
theorem sumTo_bd {f : Nat → Int} {B : Int} (hB : ∀ j, 0 ≤ f j ∧ f j ≤ B) (k : Nat) : 0 ≤ sumTo f k ∧ sumTo f k ≤ B * k := by
  induction k with
  | zero => rw [sumTo_zero]; omega
  | succ k ih =>
    rw [sumTo_succ]
    have := hB k
    have e : B * ((k + 1 : Nat) : Int) = B * k + B := by rw [Int.natCast_succ, Int.mul_add, Int.mul_one]
    omega
theorem sumTo_ge {f : Nat → Int} (h0 : ∀ j, 0 ≤ f j) {j n : Nat} (hj : j < n) : f j ≤ sumTo f n := by
  have nn : ∀ k, 0 ≤ sumTo f k := fun k => by
    induction k with
    | zero => rw [sumTo_zero]; omega
    | succ k ih => rw [sumTo_succ]; have := h0 k; omega
  induction n with
  | zero => omega
  | succ n ih =>
    rw [sumTo_succ]
    rcases Nat.lt_or_ge j n with h | h
    · have := ih h; have := h0 n; omega
    · obtain rfl : j = n := by omega
      have := nn j; omega
/-- Parts of a whole, each brought down. -/
theorem parts_low {p : Nat → Int} {S : Int} (hS : 1 ≤ S) (k : Nat) : S * sumTo (fun j => 65536 * p j / S) k ≤ 65536 * sumTo p k ∧ 65536 * sumTo p k - (S - 1) * k ≤ S * sumTo (fun j => 65536 * p j / S) k := by
  induction k with
  | zero => simp [sumTo_zero]
  | succ k ih =>
    rw [sumTo_succ, sumTo_succ, Int.mul_add, Int.mul_add, Int.natCast_succ, Int.mul_add]
    have h1 := Int.mul_ediv_add_emod (65536 * p k) S
    have h2 := Int.emod_nonneg (65536 * p k) (show S ≠ 0 by omega)
    have h3 := Int.emod_lt_of_pos (65536 * p k) (show 0 < S by omega)
    omega
theorem parts_sum {p : Nat → Int} {n : Nat} (hn : 1 ≤ n) (hS : 1 ≤ sumTo p n) : sumTo (fun j => 65536 * p j / sumTo p n) n ≤ 65536 ∧ 65536 - (n : Int) < sumTo (fun j => 65536 * p j / sumTo p n) n := by
  obtain ⟨h1, h2⟩ := parts_low (p := p) hS n
  generalize sumTo (fun j => 65536 * p j / sumTo p n) n = Q at *
  generalize sumTo p n = S at *
  constructor
  · have : S * Q ≤ S * 65536 := by rw [Int.mul_comm S 65536]; exact h1
    exact Int.le_of_mul_le_mul_left this (by omega)
  · have e : S * (65536 - n) < S * Q := by
      rw [Int.mul_sub]
      have e2 : (S - 1) * (n : Int) = S * n - n := by rw [Int.sub_mul, Int.one_mul]
      omega
    exact Int.lt_of_mul_lt_mul_left e (by omega)
theorem sumTo_lin {f g : Nat → Int} {c d e : Int} {n : Nat} (h : ∀ j, j < n → c * f j ≤ d * g j + e) : c * sumTo f n ≤ d * sumTo g n + e * n := by
  induction n with
  | zero => simp [sumTo_zero]
  | succ n ih =>
    have i := ih (fun j hj => h j (by omega))
    have k := h n (by omega)
    rw [sumTo_succ, sumTo_succ, Int.mul_add, Int.mul_add, Int.natCast_succ, Int.mul_add]
    omega
theorem sumTo_mul (f : Nat → Int) (c : Int) (n : Nat) : sumTo (fun j => f j * c) n = sumTo f n * c := by
  induction n with
  | zero => simp [sumTo_zero]
  | succ n ih => rw [sumTo_succ, sumTo_succ, Int.add_mul, ih]
theorem sq_nn (a : Int) : 0 ≤ a * a := by
  rcases Int.le_total 0 a with h | h
  · exact Int.mul_nonneg h h
  · have := Int.mul_nonneg (show 0 ≤ -a by omega) (show 0 ≤ -a by omega); rwa [Int.neg_mul_neg] at this
/-- A rounded number's square, against the square ahead of rounding. -/
theorem sq_near (a y : Int) (h1 : -32768 ≤ 65536 * y - a) (h2 : 65536 * y - a ≤ 32768) :
    562949953421312 * (y * y) ≤ 131073 * (a * a) + 18446884811197906944 ∧ 131071 * (a * a) + -18446744073709551616 ≤ 562949953421312 * (y * y) := by
  obtain ⟨d, hd⟩ : ∃ d, 65536 * y = a + d := ⟨65536 * y - a, by omega⟩
  have e1 : (65536 * y) * (65536 * y) = (a + d) * (a + d) := by rw [hd]
  have q1 := sq_nn (a - 4294967296)
  have q2 := sq_nn (a + 4294967296)
  have hd1 : -32768 ≤ d := by omega
  have hd2 : d ≤ 32768 := by omega
  have q3 : d * d ≤ 1073741824 := by
    have := Int.mul_nonneg (show 0 ≤ 32768 - d by omega) (show 0 ≤ 32768 + d by omega)
    grind
  have q4 : 0 ≤ d * d := sq_nn d
  have q5 : 262144 * (a * d) ≤ a * a + 18446744073709551616 := by
    rcases Int.le_total 0 a with h | h
    · have := Int.mul_le_mul_of_nonneg_left hd2 h
      grind
    · have := Int.mul_le_mul_of_nonpos_left h hd1
      grind
  have q6 : -(a * a + 18446744073709551616) ≤ 262144 * (a * d) := by
    rcases Int.le_total 0 a with h | h
    · have := Int.mul_le_mul_of_nonneg_left hd1 h
      grind
    · have := Int.mul_le_mul_of_nonpos_left h hd2
      grind
  have e2 : 4294967296 * (y * y) = a * a + 2 * (a * d) + d * d := by grind
  clear e1 q1 q2
  generalize a * a = A at *
  generalize y * y = Y at *
  generalize a * d = D at *
  generalize d * d = E at *
  constructor <;> omega
/-- The mean of squares behind a norm is near to one. x: the numbers, y: rounded products with k; M: their mean of squares ahead. -/
theorem norm_size (x y : Nat → Int) (n : Nat) (k M : Int) (hn : 1 ≤ n) (hM : M = sumTo (fun j => x j * x j) n / (n * 65536)) (h4 : 4096 ≤ M) (hk : 20000 ≤ k)
    (k1 : (M + 1) * (k * k) ≤ 281474976710656) (k2 : 281474976710656 ≤ (M + 1) * ((k + 1) * (k + 1)))
    (hy : ∀ j, j < n → -32768 ≤ 65536 * y j - x j * k ∧ 65536 * y j - x j * k ≤ 32768) :
    64000 < sumTo (fun j => y j * y j) n / (n * 65536) ∧ sumTo (fun j => y j * y j) n / (n * 65536) < 67000 := by
  have u := sumTo_lin (f := fun j => y j * y j) (g := fun j => (x j * k) * (x j * k)) (n := n) (c := 562949953421312) (d := 131073) (e := 18446884811197906944) (fun j hj => (sq_near _ _ (hy j hj).1 (hy j hj).2).1)
  have l := sumTo_lin (f := fun j => (x j * k) * (x j * k)) (g := fun j => y j * y j) (n := n) (c := 131071) (d := 562949953421312) (e := 18446744073709551616) (fun j hj => by have := (sq_near _ _ (hy j hj).1 (hy j hj).2).2; show 131071 * (x j * k * (x j * k)) ≤ 562949953421312 * (y j * y j) + _; omega)
  have e : (fun j => (x j * k) * (x j * k)) = fun j => (x j * x j) * (k * k) := by funext j; grind
  rw [e, sumTo_mul] at u l
  generalize sumTo (fun j => x j * x j) n = S at *
  generalize sumTo (fun j => y j * y j) n = T at *
  have hN : (1 : Int) ≤ (n : Int) := by omega
  generalize (n : Int) = N at *
  have s1 : (N * 65536) * M ≤ S := by rw [hM]; exact Int.mul_ediv_self_le (by omega)
  have s2 : S < (N * 65536) * (M + 1) := by rw [hM, Int.mul_add, Int.mul_one]; exact Int.lt_mul_ediv_self_add (by omega)
  clear hM hy e
  have hK : 0 ≤ k * k := sq_nn k
  have p1 : S * (k * k) ≤ N * 65536 * (M + 1) * (k * k) := Int.mul_le_mul_of_nonneg_right (by omega) hK
  have p2 : N * 65536 * M * (k * k) ≤ S * (k * k) := Int.mul_le_mul_of_nonneg_right s1 hK
  have p3 : N * 65536 * (M + 1) * (k * k) ≤ N * 18446744073709551616 := by
    have := Int.mul_le_mul_of_nonneg_left k1 (show 0 ≤ N * 65536 by omega)
    grind
  have r1 : 5000 * ((k + 1) * (k + 1)) ≤ 5001 * (k * k) := by
    have := Int.mul_le_mul_of_nonneg_right hk (show 0 ≤ k by omega)
    grind
  have r2 : 4096 * (M + 1) ≤ 4097 * M := by omega
  have r3 : 281474976710656 * 20480000 ≤ 20489097 * (M * (k * k)) := by
    have a1 := Int.mul_le_mul_of_nonneg_left r1 (show 0 ≤ M + 1 by omega)
    have a2 := Int.mul_le_mul_of_nonneg_right r2 hK
    grind
  have r4 : N * 65536 * 281350000000000 ≤ N * 65536 * M * (k * k) := by
    rw [Int.mul_assoc _ M]
    exact Int.mul_le_mul_of_nonneg_left (by omega) (by omega)
  have hD : 0 < N * 65536 := by omega
  generalize N * 65536 * (M + 1) * (k * k) = P at *
  generalize N * 65536 * M * (k * k) = R at *
  generalize S * (k * k) = X at *
  constructor
  · have : 64001 ≤ T / (N * 65536) := (Int.le_ediv_iff_mul_le hD).2 (by omega)
    omega
  · exact (Int.ediv_lt_iff_lt_mul hD).2 (by omega)
/-- The greatest of the first k numbers (of none: the first). -/
def maxTo (A : List Int) : Nat → Int
  | 0 => el A 0
  | k + 1 => if maxTo A k < el A k then el A k else maxTo A k
theorem maxTo_one (A : List Int) : maxTo A 1 = el A 0 := by unfold maxTo maxTo; omega
theorem maxTo_bd {A : List Int} (h : Small A) (k : Nat) : -2147483648 ≤ maxTo A k ∧ maxTo A k ≤ 2147483647 := by
  induction k with
  | zero => exact h.el 0
  | succ k ih => unfold maxTo; have := h.el k; split <;> omega
theorem maxTo_ge (A : List Int) {j k : Nat} (h : j < k) : el A j ≤ maxTo A k := by
  induction k with
  | zero => omega
  | succ k ih =>
    unfold maxTo
    rcases Nat.lt_or_ge j k with h1 | h1
    · have := ih h1; split <;> omega
    · obtain rfl : j = k := by omega
      split <;> omega
theorem maxTo_at (A : List Int) {k : Nat} (h : 1 ≤ k) : ∃ j, j < k ∧ el A j = maxTo A k := by
  induction k with
  | zero => omega
  | succ k ih =>
    unfold maxTo
    split
    · exact ⟨k, by omega, rfl⟩
    · rcases Nat.eq_zero_or_pos k with h0 | h0
      · subst h0; exact ⟨0, by omega, rfl⟩
      · obtain ⟨j, hj, e⟩ := ih h0; exact ⟨j, by omega, e⟩
theorem amax_max (A : List Int) {k : Nat} (h : 1 ≤ k) : 0 ≤ amax A k ∧ el A (amax A k).toNat = maxTo A k := by
  induction k with
  | zero => omega
  | succ k ih =>
    rcases Nat.eq_zero_or_pos k with h0 | h0
    · subst h0
      rw [maxTo_one]
      have e : amax A 1 = 0 := by unfold amax; rw [if_pos (Or.inl (by show (-1 : Int) < 0; omega))]; rfl
      rw [e]; exact ⟨by omega, rfl⟩
    · obtain ⟨i1, i2⟩ := ih h0
      unfold amax maxTo
      by_cases hc : el A (amax A k).toNat < el A k
      · rw [if_pos (Or.inr hc), if_pos (by omega)]; exact ⟨by omega, by rw [Int.toNat_natCast]⟩
      · rw [if_neg (by omega), if_neg (by omega)]; exact ⟨i1, i2⟩
theorem maxTo_shift {A B : List Int} {c : Int} {n : Nat} (hn : 1 ≤ n) (h : ∀ j, j < n → el B j = el A j + c) : ∀ {k}, k ≤ n → maxTo B k = maxTo A k + c
  | 0, _ => h 0 (by omega)
  | k + 1, hk => by
    unfold maxTo
    rw [maxTo_shift hn h (by omega : k ≤ n), h k (by omega)]
    split <;> split <;> omega
theorem maxTo_same {A : List Int} {x : Int} {n : Nat} (hn : 1 ≤ n) (h : ∀ j, j < n → el A j = x) : ∀ {k}, k ≤ n → maxTo A k = x
  | 0, _ => h 0 (by omega)
  | k + 1, hk => by unfold maxTo; rw [maxTo_same hn h (by omega : k ≤ n), h k (by omega)]; split <;> rfl
/-- The power of number j, below the greatest. -/
def powW (A : List Int) (n j : Nat) : Int := powI (sat (el A j - maxTo A n))
theorem powW_bd (A : List Int) (n j : Nat) : 0 ≤ powW A n j ∧ powW A n j ≤ 65536 := powI_bd _
theorem powI_zero : powI 0 = 65536 := by decide
theorem powW_top {A : List Int} {n j : Nat} (h : el A j = maxTo A n) : powW A n j = 65536 := by
  unfold powW; rw [h, Int.sub_self, show sat 0 = 0 by decide]; exact powI_zero
/-- The sum of the first k powers. -/
def psum (A : List Int) (n k : Nat) : Int := sumTo (powW A n) k
theorem psum_zero (A : List Int) (n : Nat) : psum A n 0 = 0 := rfl
theorem psum_succ (A : List Int) (n k : Nat) : psum A n (k + 1) = psum A n k + powW A n k := rfl
theorem psum_bd (A : List Int) (n k : Nat) : 0 ≤ psum A n k ∧ psum A n k ≤ 65536 * k := sumTo_bd (powW_bd A n) k
theorem psum_top (A : List Int) {n : Nat} (h : 1 ≤ n) : 65536 ≤ psum A n n := by
  obtain ⟨j, hj, e⟩ := maxTo_at A h
  have := sumTo_ge (f := powW A n) (fun j => (powW_bd A n j).1) hj
  rw [powW_top e] at this
  exact this
/-- The weight of number j. -/
def wgt (A : List Int) (n j : Nat) : Int := 65536 * powW A n j / psum A n n
theorem wgt_bd (A : List Int) {n j : Nat} (hj : j < n) : 0 ≤ wgt A n j ∧ wgt A n j ≤ 65536 := by
  have h1 := powW_bd A n j
  have h2 := psum_top A (n := n) (by omega)
  have h3 : powW A n j ≤ psum A n n := sumTo_ge (f := powW A n) (fun j => (powW_bd A n j).1) hj
  unfold wgt
  refine ⟨Int.ediv_nonneg (by omega) (by omega), ?_⟩
  have : 65536 * powW A n j / psum A n n < 65537 := (Int.ediv_lt_iff_lt_mul (by omega)).2 (by omega)
  omega
theorem wgt_sum (A : List Int) {n : Nat} (h : 1 ≤ n) : sumTo (wgt A n) n ≤ 65536 ∧ 65536 - (n : Int) < sumTo (wgt A n) n := by
  have := psum_top A h
  exact parts_sum (p := powW A n) h (by show 1 ≤ psum A n n; omega)
theorem wgt_mono (A : List Int) {n i j : Nat} (hn : 1 ≤ n) (h : el A i ≤ el A j) : wgt A n i ≤ wgt A n j := by
  have h2 := psum_top A hn
  have h3 : powW A n i ≤ powW A n j := powI_mono _ _ (by unfold sat; omega)
  unfold wgt
  exact Int.ediv_le_ediv (by omega) (by omega)
theorem wgt_shift {A B : List Int} {c : Int} {n : Nat} (hn : 1 ≤ n) (h : ∀ j, j < n → el B j = el A j + c) {j : Nat} (hj : j < n) : wgt B n j = wgt A n j := by
  have e : ∀ j, j < n → powW B n j = powW A n j := fun j hj => by
    unfold powW; rw [maxTo_shift hn h (Nat.le_refl n), h j hj]; congr 2; omega
  unfold wgt psum
  rw [e j hj, sumTo_congr e]
theorem wgt_same {A : List Int} {x : Int} {n : Nat} (hn : 1 ≤ n) (h : ∀ j, j < n → el A j = x) {j : Nat} (hj : j < n) : wgt A n j = 65536 / n := by
  have e : ∀ j, j < n → powW A n j = 65536 := fun j hj => powW_top (by rw [h j hj, maxTo_same hn h (Nat.le_refl n)])
  have s : ∀ k, k ≤ n → psum A n k = 65536 * k := fun k hk => by
    induction k with
    | zero => rw [psum_zero]; omega
    | succ k ih => rw [psum_succ, ih (by omega), e k (by omega)]; omega
  unfold wgt
  rw [e j hj, s n (Nat.le_refl n)]
  exact Int.mul_ediv_mul_of_pos _ _ (by omega)
/-- The mean of squares. -/
def meanN (A : List Int) (n : Nat) : Int := sat (dsum A A n / n / 65536)
theorem meanN_bd (A : List Int) (n : Nat) : -2147483647 ≤ meanN A n ∧ meanN A n ≤ 2147483647 := sat_bd _
theorem dsum_sq_nn (A : List Int) (k : Nat) : 0 ≤ dsum A A k := by
  induction k with
  | zero => rw [dsum_zero]; omega
  | succ k ih => rw [dsum_succ]; have := sq_nn (el A k); unfold grow; split <;> (try split) <;> omega
theorem meanN_nn (A : List Int) (n : Nat) : 0 ≤ meanN A n := by
  have h1 : 0 ≤ dsum A A n / n := Int.ediv_nonneg (dsum_sq_nn A n) (by omega)
  have h2 : 0 ≤ dsum A A n / n / 65536 := Int.ediv_nonneg h1 (by omega)
  unfold meanN sat; omega
/-- By what a norm multiplies. -/
def normK (A : List Int) (n : Nat) : Int := invN (sat (meanN A n + 1))
theorem normK_bd (A : List Int) (n : Nat) : 0 ≤ normK A n ∧ normK A n ≤ 2147483647 := invN_bd _
/-- A norm at place j. -/
def normN (A G : List Int) (n j : Nat) : Int := mulN (mulN (el A j) (normK A n)) (el G j)
theorem normN_bd (A G : List Int) (n j : Nat) : -2147483647 ≤ normN A G n j ∧ normN A G n j ≤ 2147483647 := mulN_bd _ _
end Go.Proofs.Ytlghodjiiajapaa

/- A region that draws its order, all of whose operations are quiet in a class of worlds but the last one, which waits for all others (a store): one walk in the order of the text serves every order. -/
namespace Go.Proofs.Ytlghodjiiajapaa
open Go.ChangeShapes Go.WideShapes Go.ChangeAt Go.RowKit
/-- The last operation, made to do nothing. -/
def mute (z : Oper) : Oper := { z with op := .move (.const (.bool false)), dst := none }
section
variable {P : Program} {l : List Oper} {z : Oper} {C : World → Prop}
theorem last_at (y : Oper) : (l ++ [y]).toArray[l.length]? = some y := by simp
theorem front_at (y : Oper) {i : Nat} (h : i < l.length) : (l ++ [y]).toArray[i]? = l[i]? := by simp [List.getElem?_append_left h]
theorem ready_mute (md : Region.Mode) (listed : Array Bool) : Region.ready md (l ++ [mute z]).toArray listed = Region.ready md (l ++ [z]).toArray listed := by
  unfold Region.ready
  have hs : (l ++ [mute z]).toArray.size = (l ++ [z]).toArray.size := by simp
  rw [hs]
  refine List.filter_congr fun i hi => ?_
  have hi' : i < l.length + 1 := by simpa using hi
  by_cases h : i < l.length
  · rw [front_at _ h, front_at _ h]
  · obtain rfl : i = l.length := by omega
    rw [last_at, last_at]
    rfl
theorem yielded_mute (hd : z.dst = none) (t : Array Value) : yielded (l ++ [mute z]).toArray t = yielded (l ++ [z]).toArray t := by
  funext j
  unfold yielded
  by_cases h : j < l.length
  · rw [front_at _ h, front_at _ h]
  · by_cases h2 : j = l.length
    · subst h2
      rw [last_at, last_at]
      simp [mute, hd]
    · have e1 : (l ++ [mute z]).toArray[j]? = none := Array.getElem?_eq_none (by simp; omega)
      have e2 : (l ++ [z]).toArray[j]? = none := Array.getElem?_eq_none (by simp; omega)
      rw [e1, e2]
/-- Every edge leads back. -/
def backB (L : List Oper) : Bool := (List.range L.length).all fun k => ((L[k]?).map (·.after.all fun e => !Region.binds .any e || decide (e.on < k))).getD true
/-- The last waits for all. -/
def waitsB (z : Oper) (n : Nat) : Bool := (List.range n).all fun j => z.after.any fun e => Region.binds .any e && (e.on == j)
theorem some_ready {L : List Oper} (hb : backB L = true) {listed : Array Bool} (hs : listed.size = L.length) {n : Nat} (hn : n < L.length) (hu : listed.getD n true = false) : Region.ready .any L.toArray listed ≠ [] := by
  obtain ⟨i, hi, hmin⟩ := exists_least (p := fun i => i < L.length ∧ listed.getD i true = false) ⟨n, hn, hu⟩
  have hm : i ∈ Region.ready .any L.toArray listed := by
    refine mem_ready.2 ⟨hi.2, L[i]'hi.1, by simp [hi.1], fun e he hbind => ?_⟩
    have h1 := List.all_eq_true.1 hb i (List.mem_range.2 hi.1)
    rw [List.getElem?_eq_getElem hi.1] at h1
    simp only [Option.map_some, Option.getD_some] at h1
    have h2 := (Array.all_eq_true'.1 h1) e he
    simp only [hbind, Bool.not_true, Bool.false_or, decide_eq_true_eq] at h2
    by_cases h3 : listed.getD e.on false = true
    · exact h3
    · have h4 : listed.getD e.on true = false := by
        have hlt : e.on < listed.size := by omega
        simp only [Array.getD, hlt, dif_pos] at h3 ⊢
        simpa using h3
      have := hmin e.on ⟨by omega, h4⟩
      omega
  intro h0
  rw [h0] at hm
  cases hm
theorem all_listed (hw : waitsB z l.length = true) {listed : Array Bool} (hs : listed.size = l.length + 1) (hr : l.length ∈ Region.ready .any (l ++ [z]).toArray listed) : Region.ready .any (l ++ [z]).toArray (listed.setIfInBounds l.length true) = [] := by
  obtain ⟨_, o, ho, hall⟩ := mem_ready.1 hr
  rw [last_at] at ho
  obtain rfl := Option.some.inj ho
  apply List.eq_nil_iff_forall_not_mem.2
  intro j hj
  obtain ⟨h1, o', ho', _⟩ := mem_ready.1 hj
  by_cases hjl : j < l.length
  · have h2 := List.all_eq_true.1 hw j (List.mem_range.2 hjl)
    obtain ⟨e, he, h3⟩ := Array.any_eq_true'.1 h2
    simp only [Bool.and_eq_true, beq_iff_eq] at h3
    have h4 := hall e he h3.1
    rw [h3.2] at h4
    have hlt : j < listed.size := by omega
    rw [getD_set_ne true (show l.length ≠ j by omega)] at h1
    simp only [Array.getD, hlt, dif_pos] at h1 h4
    rw [h4] at h1
    cases h1
  · have hsz : j < (l ++ [z]).toArray.size := (Array.getElem?_eq_some_iff.1 ho').1
    obtain rfl : j = l.length := by simp at hsz; omega
    have hlt : l.length < listed.size := by omega
    simp [Array.getD, hlt] at h1
theorem wpAny_last {O : Array Oper} {Q : Exit → Act → World → Prop} (hg : z.guard = none) (hd : z.dst = none) (hb : backB (l ++ [z]) = true) (hw : waitsB z l.length = true) :
    ∀ (fuel : Nat) (listed : Array Bool) (a : Act) (w : World), C w → listed.size = l.length + 1 → listed.getD l.length true = false →
      wpAnyQ P .any (l ++ [mute z]).toArray C (fun a' => ∀ w', C w' → wpList P O Q [z] a' w') fuel listed a → wpAny P .any (l ++ [z]).toArray Q fuel listed a w := by
  intro fuel
  induction fuel with
  | zero =>
    intro listed a w hC hs hu h
    have h1 := h.1
    rw [ready_mute] at h1
    exact absurd h1 (some_ready hb (by simpa using hs) (n := l.length) (by simp) hu)
  | succ fuel ih =>
    intro listed a w hC hs hu h
    refine ⟨fun h1 => absurd h1 (some_ready hb (by simpa using hs) (n := l.length) (by simp) hu), fun i hi => ?_⟩
    have h1 := h.2 i (by rw [ready_mute]; exact hi)
    by_cases hil : i = l.length
    · subst hil
      have hr := all_listed hw hs hi
      unfold qOp at h1
      rw [last_at] at h1
      have hwant : Region.wanted (mute z) (yielded (l ++ [mute z]).toArray a.tmps) = true := by simp [Region.wanted, mute, hg]
      simp only [hwant, if_true] at h1
      obtain ⟨v, _, h2⟩ := h1
      have e : a.put (mute z).dst v = a := rfl
      rw [e] at h2
      have hQ : ∀ w', C w' → wpList P O Q [z] a w' := by
        cases fuel with
        | zero => exact h2.2
        | succ f => exact h2.1 (by rw [ready_mute]; exact hr)
      unfold wpOp
      rw [last_at]
      have hwant2 : Region.wanted z (yielded (l ++ [z]).toArray a.tmps) = true := by simp [Region.wanted, hg]
      simp only [hwant2, if_true]
      have hq0 := hQ w hC
      have hwant3 : Region.wanted z (yielded O a.tmps) = true := by simp [Region.wanted, hg]
      simp only [wpList, hwant3, if_true] at hq0
      rcases hq0 with hq0 | hq0
      case inr => exact Or.inr hq0
      refine Or.inl (Oper.wp_mono (fun a' w' hq => ?_) hq0)
      cases fuel with
      | zero => exact ⟨hr, hq⟩
      | succ f => exact ⟨fun _ => hq, fun j hj => by rw [hr] at hj; cases hj⟩
    · have hlt : i < l.length := by
        obtain ⟨_, o, ho, _⟩ := mem_ready.1 hi
        have hsz := (Array.getElem?_eq_some_iff.1 ho).1
        simp at hsz
        omega
      have hu' : (listed.setIfInBounds i true).getD l.length true = false := by
        rw [getD_set_ne true hil]
        exact hu
      have hstep := wpOp_of_qOp (Q' := Q) hC (K' := wpAny P .any (l ++ [z]).toArray Q fuel (listed.setIfInBounds i true)) (fun a' w' hw' hh => ih (listed.setIfInBounds i true) a' w' hw' (by simpa using hs) hu' hh) h1
      unfold wpOp at hstep ⊢
      rw [front_at _ hlt] at hstep ⊢
      rw [yielded_mute hd] at hstep
      exact hstep
/-- ONE WALK: the operations but the last one quiet in the class; then the last one, in every world of the class. -/
theorem wp_region_last {L : List Oper} {O : Array Oper} {id : Nat} {Q : Exit → Act → World → Prop} {a : Act} {w : World} (hL : L = l ++ [z]) (hm : P.follows .mixedOrders = true) (hg : z.guard = none) (hd : z.dst = none) (hb : backB L = true) (hw : waitsB z l.length = true)
    (hB : Region.lexB .any (l ++ [mute z]).toArray = true) (hC : C { w with drawn := w.drawn + 1 })
    (h : wpQuiet P (l ++ [mute z]).toArray C (fun a' => ∀ w', C w' → wpList P O Q [z] a' w') l a) : (Code.region id L.toArray true).wp P Q a w := by
  subst hL
  simp only [Region.lexB, Bool.and_eq_true] at hB
  have hsz : (l ++ [z]).toArray.size = l.length + 1 := by simp
  refine wp_region_any hm ?_
  rw [hsz]
  refine wpAny_last (O := O) hg hd hb hw _ _ _ _ hC (by simp) (by simp) ?_
  have hq : wpQuiet P (l ++ [mute z]).toArray C (fun a' => ∀ w', C w' → wpList P O Q [z] a' w') (l ++ [mute z]) a := by
    have app : ∀ (l' : List Oper) (a : Act), wpQuiet P (l ++ [mute z]).toArray C (fun a' => ∀ w', C w' → wpList P O Q [z] a' w') l' a →
        wpQuiet P (l ++ [mute z]).toArray C (fun a' => ∀ w', C w' → wpList P O Q [z] a' w') (l' ++ [mute z]) a := by
      intro l'
      induction l' with
      | nil =>
        intro a h
        have hwant : Region.wanted (mute z) (yielded (l ++ [mute z]).toArray a.tmps) = true := by simp [Region.wanted, mute, hg]
        show (if Region.wanted (mute z) (yielded (l ++ [mute z]).toArray a.tmps) then _ else _)
        rw [if_pos hwant]
        refine ⟨.bool false, fun w _ => ?_, h⟩
        unfold Oper.quietAt
        simp [execOp, mute, Act.eval, Oper.quietUpon]
      | cons o l' ih =>
        intro a h
        have h' : (if Region.wanted o (yielded (l ++ [mute z]).toArray a.tmps) then o.quiet P a C (wpQuiet P (l ++ [mute z]).toArray C _ l') else wpQuiet P (l ++ [mute z]).toArray C _ l' (a.put o.dst undef)) := h
        show (if Region.wanted o (yielded (l ++ [mute z]).toArray a.tmps) then o.quiet P a C (wpQuiet P (l ++ [mute z]).toArray C _ (l' ++ [mute z])) else wpQuiet P (l ++ [mute z]).toArray C _ (l' ++ [mute z]) (a.put o.dst undef))
        split
        · rename_i hw1
          rw [if_pos hw1] at h'
          exact Oper.quiet_mono (fun a' hh => ih a' hh) h'
        · rename_i hw1
          rw [if_neg hw1] at h'
          exact ih _ h'
    exact app l a h
  have := wpAnyQ_lex (C := C) (md := .any) hB.1 (l ++ [mute z]) 0 (Array.replicate (l.length + 1) false) a (by simp) (by simpa using hB.2) hq
  simpa using this
theorem wpQuiet_ops {O1 O2 : Array Oper} (hy : ∀ t, yielded O1 t = yielded O2 t) {Q : Act → Prop} : ∀ (l : List Oper) (a : Act), wpQuiet P O1 C Q l a → wpQuiet P O2 C Q l a
  | [], _, h => h
  | o :: l, a, h => by
    have h' : (if Region.wanted o (yielded O1 a.tmps) then o.quiet P a C (wpQuiet P O1 C Q l) else wpQuiet P O1 C Q l (a.put o.dst undef)) := h
    show (if Region.wanted o (yielded O2 a.tmps) then o.quiet P a C (wpQuiet P O2 C Q l) else wpQuiet P O2 C Q l (a.put o.dst undef))
    rw [hy] at h'
    split
    · rename_i hw1
      rw [if_pos hw1] at h'
      exact Oper.quiet_mono (fun a' hh => wpQuiet_ops hy l a' hh) h'
    · rename_i hw1
      rw [if_neg hw1] at h'
      exact wpQuiet_ops hy l _ h'
/-- The same, of a region that is written out. -/
theorem wp_region_last_lit {L : List Oper} {id : Nat} {Q : Exit → Act → World → Prop} {a : Act} {w : World} (hm : P.follows .mixedOrders = true) (hne : L ≠ []) (hg : (L.getLast hne).guard = none) (hd : (L.getLast hne).dst = none)
    (hb : backB L = true) (hw : waitsB (L.getLast hne) L.dropLast.length = true) (hB : Region.lexB .any (L.dropLast ++ [mute (L.getLast hne)]).toArray = true)
    (h : ∀ (l' : List Oper) (z' : Oper), l' = L.dropLast → z' = L.getLast hne → wpQuiet P L.toArray (fun w' => ∃ p : Nxt w, w' = p.to) (fun a' => ∀ w', (∃ p : Nxt w, w' = p.to) → wpList P L.toArray Q [z'] a' w') l' a) : (Code.region id L.toArray true).wp P Q a w := by
  have e := List.dropLast_concat_getLast hne
  refine wp_region_last (C := fun w' => ∃ p : Nxt w, w' = p.to) (O := L.toArray) e.symm hm hg hd hb hw hB ⟨⟨{ w with drawn := w.drawn + 1 }, (Below.refl _ w).drew⟩, rfl⟩ ?_
  refine wpQuiet_ops (O1 := L.toArray) (fun t => ?_) _ _ (h _ _ rfl rfl)
  rw [yielded_mute hd, e]
end
end Go.Proofs.Ytlghodjiiajapaa

/- What each call of package soft on one row answers: means, norms and weights, where the table of steps lies as the program's text lays it. -/
namespace Go.Proofs.Ytlghodjiiajapaa
open Go.ChangeShapes Go.WideShapes Go.ChangeAt Go.RowKit
/-- The error's number of a row. -/
def sizeN (n : Nat) : Int := if n = 0 then 8 else if 4096 < n then 2 else 0
theorem sizeN_ok {n : Nat} (h : sizeN n = 0) : 1 ≤ n ∧ n ≤ 4096 := by unfold sizeN at h; split at h <;> (try split at h) <;> omega
end Go.Proofs.Ytlghodjiiajapaa

/- Weights: the greatest number, powers below it, and each by their sum, where the table of steps lies as the program's text lays it. -/
namespace Go.Proofs.Ytlghodjiiajapaa
open Go.ChangeShapes Go.WideShapes Go.ChangeAt Go.RowKit
end Go.Proofs.Ytlghodjiiajapaa
