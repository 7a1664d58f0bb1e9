/- The document's pool: a page is held. -/
import Derived.Test.YtfkmmjfahdpfcaaPRef4
namespace Go.Proofs.Ytfkmmjfahdpfcaa
open Go.ChangeShapes Go.WideShapes Go.ChangeAt Go.RowKit
set_option maxHeartbeats 4000000 in
set_option maxRecDepth 100000 in
theorem hold_ref (O : Nat → Prop) (p : RfV) (x : St) (i : Int) (w : World) (h : RfAt O w p x) (hO : ∀ g, w.heap.size ≤ g → O g) (hr : ∀ j, (pg x.L j).r ≤ 1000) : Calls Try.prog 22 #[p.val x, .int .i64 i] w fun e w' => ∃ p', e = .returned (.tuple #[p'.val (holdR x i).x, .int .i64 (holdR x i).e]) ∧ RfAt O w' p' (holdR x i).x ∧ Below w.heap.size w w' := by
  obtain ⟨gp, cP, aI, cI⟩ := p
  have X0 := rbox w ⟨gp, cP, aI, cI⟩ x
  have CT := fun (v : World) (hb : Below w.heap.size w v) => there_ref O ⟨gp, cP, aI, cI⟩ x i v (h.below hb)
  have CL := fun (j : Nat) (v : World) (hb : Below w.heap.size w v) (hs : w.heap.size + 2 ≤ v.heap.size) => less_ref (Not2 O w.heap.size) ⟨gp, cP, aI, cI⟩ x j v (h.not2.below hb) (not2_new hO hs)
  simp only [RfV.val] at X0 CT CL ⊢
  have B0 : Below w.heap.size w (w.alloc (.cells #[.slice (some ⟨gp, 0, none⟩) x.L.length cP, .slice aI x.I.length cI] 31)) := (Below.refl _ _).alloc (Nat.le_refl _) _
  generalize hw0 : w.alloc (.cells #[.slice (some ⟨gp, 0, none⟩) x.L.length cP, .slice aI x.I.length cI] 31) = w0 at *
  have s0 : w0.heap.size = w.heap.size + 1 := by rw [← hw0]; simp
  have X1 := blk_new w0 31 #[.slice none 0 0, .slice none 0 0]
  have B1 : Below w0.heap.size w0 (w0.alloc (.cells #[.slice none 0 0, .slice none 0 0] 31)) := (Below.refl _ _).alloc (Nat.le_refl _) _
  generalize hw1 : w0.alloc (.cells #[.slice none 0 0, .slice none 0 0] 31) = w1 at *
  have s1 : w1.heap.size = w.heap.size + 2 := by rw [← hw1]; simp; omega
  rw [s0] at X1
  have D1 := below_then B0 B1
  replace X0 := X0.below B1 (by omega)
  have c0 := X0.cell 0 (v := .slice (some ⟨gp, 0, none⟩) x.L.length cP) rfl
  have c1 := X0.cell 1 (v := .slice aI x.I.length cI) rfl
  have hf := h.few
  have k4 : w.heap.size ≤ w.heap.size + 1 := by omega
  have C1 := CT w1 D1
  have f0 := X1.frozen 0
  clear CT B0 B1
  cases hfr : (atN x.L i).free with
  | true =>
    have HT : Hid (holdR x i = ⟨x, 8⟩) := by show _ = _; unfold holdR; rw [hfr]; rfl
    rw [hfr] at C1
    clear hfr CL
    go_enter Try.func22, Try.ntmps22
    go_wp2_with (go_at_call 37; refine C1.mono ?_; rintro e w2 ⟨rfl, B2⟩; have Y0 := X0.below B2 X0.lt; have Y1 := X1.below B2 X1.lt; have u0 := Y0.cell 0 (v := .slice (some ⟨gp, 0, none⟩) x.L.length cP) rfl; have u1 := Y0.cell 1 (v := .slice aI x.I.length cI) rfl; have g0 := Y1.frozen 0; have g1 := Y1.frozen 1; have u2 := Y1.cell 0 (v := .slice none 0 0) rfl; have u3 := Y1.cell 1 (v := .slice none 0 0) rfl)
    have b2 := D1.trans (B2.mono D1.size)
    refine bodyPost_ret (results_blk2 rfl _ _ (w.heap.size + 1) _ rfl (load_r (put_r Y1) rfl)) rfl ?_
    refine ⟨⟨gp, cP, aI, cI⟩, by rw [HT.out]; rfl, ?_, below_put_r b2 k4 _ _⟩
    rw [HT.out]
    exact (h.not2.below b2).put _ _
  | false =>
    obtain ⟨j, rfl, hj, ea⟩ := atN_in hfr
    rw [hfr] at C1
    have hq : Qgs w gp x.L := h.pages
    have hlt := hq.lt
    have HQ : Hid (∀ v, Below w.heap.size w v → v.cell? ⟨gp, j * 3, none⟩ = some (.int .i64 ((pg x.L j).r : Int)) ∧ v.cell? ⟨gp, j * 3 + 1, none⟩ = some (.bool (pg x.L j).s) ∧ v.cell? ⟨gp, j * 3 + 2, none⟩ = some (.int .i64 (pg x.L j).k)) := fun v hb => by
      have q := hq.of_block (hb.block _ hlt)
      exact ⟨q.c0 hj, q.c1 hj, q.c2 hj⟩
    have hr1 := hr j
    have hjl : (j : Int) < (x.L.length : Int) := by omega
    by_cases hb : 1000 ≤ (pg x.L j).r
    · have HT : Hid (holdR x (j : Int) = ⟨x, 2⟩) := by show _ = _; unfold holdR; rw [hfr, ea, if_neg (by simp), if_pos hb]
      clear hfr ea CL
      generalize pg x.L j = z at *
      obtain ⟨zr, zs, zk⟩ := z
      simp only at HQ hb hr1
      have hb' : (1000 : Int) ≤ (zr : Int) := by omega
      have hb3 : ¬ (zr : Int) < 1000 := by omega
      clear hb hr1 hr
      go_enter Try.func22, Try.ntmps22
      go_wp2_with (go_at_call 37; refine C1.mono ?_; rintro e w2 ⟨rfl, B2⟩; have Y0 := X0.below B2 X0.lt; have Y1 := X1.below B2 X1.lt; have b2 := D1.trans (B2.mono D1.size); obtain ⟨z0, z1, z2⟩ := HQ.out w2 b2; have u0 := Y0.cell 0 (v := .slice (some ⟨gp, 0, none⟩) x.L.length cP) rfl; have B3 : Below w2.heap.size w2 (w2.alloc (.cells #[.int .i64 (zr : Int), .bool zs, .int .i64 zk] 61)) := (Below.refl _ _).alloc (Nat.le_refl _) _; have V0 := Y0.below B3 Y0.lt; have V1 := Y1.below B3 Y1.lt; have v0 := V0.cell 0 (v := .slice (some ⟨gp, 0, none⟩) x.L.length cP) rfl; have v1 := V0.cell 1 (v := .slice aI x.I.length cI) rfl; have g0 := V1.frozen 0; have g1 := V1.frozen 1; have u2 := V1.cell 0 (v := .slice none 0 0) rfl; have u3 := V1.cell 1 (v := .slice none 0 0) rfl)
      have b3 := b2.trans (B3.mono b2.size)
      refine bodyPost_ret (results_blk2 rfl _ _ (w.heap.size + 1) _ rfl (load_r (put_r V1) rfl)) rfl ?_
      refine ⟨⟨gp, cP, aI, cI⟩, by rw [HT.out]; rfl, ?_, below_put_r b3 k4 _ _⟩
      rw [HT.out]
      exact (h.not2.below b3).put _ _
    · have HT : Hid (holdR x (j : Int) = ⟨⟨x.L.set j { pg x.L j with r := (pg x.L j).r + 1 }, less x.I j⟩, 0⟩) := by show _ = _; unfold holdR; rw [hfr, ea, if_neg (by simp), if_neg hb]; simp only [Int.toNat_natCast]
      have CW2 := fun (p2 : RfV) (v : World) (hR : RfAt (Not2 O w.heap.size) v p2 ⟨x.L, less x.I j⟩) (hs : w.heap.size + 2 ≤ v.heap.size) => with_ref (Not2 O w.heap.size) p2 ⟨x.L, less x.I j⟩ j { pg x.L j with r := (pg x.L j).r + 1 } v hR (not2_new hO hs) hj
      simp only [RfV.val, Pg.val] at CW2
      have CL1 := CL j
      clear hfr ea CL
      generalize pg x.L j = z at *
      obtain ⟨zr, zs, zk⟩ := z
      simp only at HQ hb hr1 CW2 HT
      have hb' : (zr : Int) < 1000 := by omega
      have hb3 : ¬ (1000 : Int) ≤ (zr : Int) := by omega
      have e1 : ((zr + 1 : Nat) : Int) = (zr : Int) + 1 := by omega
      simp only [e1] at CW2
      clear hb hr1 hr e1
      go_enter Try.func22, Try.ntmps22
      go_wp2_with (go_at_call 37; refine C1.mono ?_; rintro e w2 ⟨rfl, B2⟩; have Y0 := X0.below B2 X0.lt; have Y1 := X1.below B2 X1.lt; have b2 := D1.trans (B2.mono D1.size); obtain ⟨z0, z1, z2⟩ := HQ.out w2 b2; have u0 := Y0.cell 0 (v := .slice (some ⟨gp, 0, none⟩) x.L.length cP) rfl)
      have B3 : Below w2.heap.size w2 (w2.alloc (.cells #[.int .i64 ((zr : Int) + 1), .bool zs, .int .i64 zk] 61)) := (Below.refl _ _).alloc (Nat.le_refl _) _
      have P3 := blk_new w2 61 #[.int .i64 ((zr : Int) + 1), .bool zs, .int .i64 zk]
      generalize w2.alloc (.cells #[.int .i64 ((zr : Int) + 1), .bool zs, .int .i64 zk] 61) = w3 at *
      have b3 := (b2.trans (B3.mono b2.size)).drew
      have E3 : Below w3.heap.size w3 w3.drew := (Below.refl _ _).drew
      have V0 := (Y0.below B3 Y0.lt).below E3 (Y0.below B3 Y0.lt).lt
      have V1 := (Y1.below B3 Y1.lt).below E3 (Y1.below B3 Y1.lt).lt
      have P4 := P3.below E3 P3.lt
      have v0 := V0.cell 0 (v := .slice (some ⟨gp, 0, none⟩) x.L.length cP) rfl
      have v1 := V0.cell 1 (v := .slice aI x.I.length cI) rfl
      have q0 := P4.cell 0 rfl
      have q1 := P4.cell 1 rfl
      have q2 := P4.cell 2 rfl
      have CL2 := CL1 _ b3 (by have := V1.lt; omega)
      clear X0 X1 c0 c1 f0 C1 D1 B2 Y0 Y1 b2 HQ z0 z1 z2 u0 hw0 hw1 CL1 E3 B3 P3
      go_region_with (first
        | (go_at_call 36; refine CL2.mono ?_; rintro e w4 ⟨p2', rfl, R4, B4⟩; have b4 := b3.trans (B4.mono b3.size); have V2 := V1.below B4 V1.lt; have P5 := P4.below B4 P4.lt; have r0 := P5.cell 0 rfl; have r1 := P5.cell 1 rfl; have r2 := P5.cell 2 rfl; have CW3 := CW2 p2' w4 R4 (by have := V2.lt; omega))
        | (go_at_call 35; refine CW3.mono ?_; rintro e w5 ⟨p', rfl, R5, B5⟩; have b5 := b4.trans (B5.mono b4.size); have V3 := V2.below B5 V2.lt; have g0 := V3.frozen 0; have g1 := V3.frozen 1; have u2 := V3.cell 0 (v := .slice none 0 0) rfl; have u3 := V3.cell 1 (v := .slice none 0 0) rfl))
      all_goals
        go_wp2
        refine bodyPost_ret (results_blk2 rfl _ _ (w.heap.size + 1) _ rfl (load_r (put_r V3) rfl)) rfl ?_
        refine ⟨p', by rw [HT.out]; simp only [List.length_set]; rfl, ?_, below_put_r b5 k4 _ _⟩
        rw [HT.out]
        exact R5.put _ _
end Go.Proofs.Ytfkmmjfahdpfcaa
