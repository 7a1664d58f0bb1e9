/- The document's pool: a page is sealed. -/
import Derived.Test.YtfkmmjfahdpfcaaPRef5
namespace Go.Proofs.Ytfkmmjfahdpfcaa
open Go.ChangeShapes Go.WideShapes Go.ChangeAt Go.RowKit
set_option maxHeartbeats 4000000 in
set_option maxRecDepth 100000 in
theorem seal_ref (O : Nat → Prop) (p : RfV) (x : St) (i key : Int) (w : World) (h : RfAt O w p x) (hO : ∀ g, w.heap.size ≤ g → O g) : Calls Try.prog 23 #[p.val x, .int .i64 i, .int .i64 key] w fun e w' => ∃ p', e = .returned (.tuple #[p'.val (sealR x i key).x, .int .i64 (sealR x i key).e]) ∧ RfAt O w' p' (sealR x i key).x ∧ Below w.heap.size w w' := by
  obtain ⟨gp, cP, aI, cI⟩ := p
  have X0 := rbox w ⟨gp, cP, aI, cI⟩ x
  have CT := fun (v : World) (hb : Below w.heap.size w v) => there_ref O ⟨gp, cP, aI, cI⟩ x i v (h.below hb)
  have CF := fun (v : World) (hb : Below w.heap.size w v) => find_ref O ⟨gp, cP, aI, cI⟩ x key v (h.below hb)
  have CW := fun (j : Nat) (q : Pg) (hj : j < x.L.length) (v : World) (hb : Below w.heap.size w v) (hs : w.heap.size + 2 ≤ v.heap.size) => with_ref (Not2 O w.heap.size) ⟨gp, cP, aI, cI⟩ x j q v (h.not2.below hb) (not2_new hO hs) hj
  simp only [RfV.val] at X0 CT CF CW ⊢
  have B0 : Below w.heap.size w (w.alloc (.cells #[.slice (some ⟨gp, 0, none⟩) x.L.length cP, .slice aI x.I.length cI] 31)) := (Below.refl _ _).alloc (Nat.le_refl _) _
  generalize hw0 : w.alloc (.cells #[.slice (some ⟨gp, 0, none⟩) x.L.length cP, .slice aI x.I.length cI] 31) = w0 at *
  have s0 : w0.heap.size = w.heap.size + 1 := by rw [← hw0]; simp
  have X1 := blk_new w0 31 #[.slice none 0 0, .slice none 0 0]
  have B1 : Below w0.heap.size w0 (w0.alloc (.cells #[.slice none 0 0, .slice none 0 0] 31)) := (Below.refl _ _).alloc (Nat.le_refl _) _
  generalize hw1 : w0.alloc (.cells #[.slice none 0 0, .slice none 0 0] 31) = w1 at *
  have s1 : w1.heap.size = w.heap.size + 2 := by rw [← hw1]; simp; omega
  rw [s0] at X1
  have D1 := below_then B0 B1
  replace X0 := X0.below B1 (by omega)
  have c0 := X0.cell 0 (v := .slice (some ⟨gp, 0, none⟩) x.L.length cP) rfl
  have c1 := X0.cell 1 (v := .slice aI x.I.length cI) rfl
  have hf := h.few
  have k4 : w.heap.size ≤ w.heap.size + 1 := by omega
  have C1 := CT w1 D1
  clear CT B0 B1
  cases hfr : (atN x.L i).free with
  | true =>
    have HT : Hid (sealR x i key = ⟨x, 8⟩) := by show _ = _; unfold sealR; rw [hfr]; rfl
    rw [hfr] at C1
    clear hfr CF CW
    go_enter Try.func23, Try.ntmps23
    go_wp2_with (go_at_call 37; refine C1.mono ?_; rintro e w2 ⟨rfl, B2⟩; have Y0 := X0.below B2 X0.lt; have Y1 := X1.below B2 X1.lt; have b2 := D1.trans (B2.mono D1.size); have u0 := Y0.cell 0 (v := .slice (some ⟨gp, 0, none⟩) x.L.length cP) rfl; have u1 := Y0.cell 1 (v := .slice aI x.I.length cI) rfl; have g0 := Y1.frozen 0; have g1 := Y1.frozen 1; have u2 := Y1.cell 0 (v := .slice none 0 0) rfl; have u3 := Y1.cell 1 (v := .slice none 0 0) rfl)
    refine bodyPost_ret (results_blk2 rfl _ _ (w.heap.size + 1) _ rfl (load_r (put_r Y1) rfl)) rfl ?_
    refine ⟨⟨gp, cP, aI, cI⟩, by rw [HT.out]; rfl, ?_, below_put_r b2 k4 _ _⟩
    rw [HT.out]
    exact (h.not2.below b2).put _ _
  | false =>
    obtain ⟨j, rfl, hj, ea⟩ := atN_in hfr
    rw [hfr] at C1
    have hq : Qgs w gp x.L := h.pages
    have hlt := hq.lt
    have HQ : Hid (∀ v, Below w.heap.size w v → v.cell? ⟨gp, j * 3, none⟩ = some (.int .i64 ((pg x.L j).r : Int)) ∧ v.cell? ⟨gp, j * 3 + 1, none⟩ = some (.bool (pg x.L j).s) ∧ v.cell? ⟨gp, j * 3 + 2, none⟩ = some (.int .i64 (pg x.L j).k)) := fun v hb => by
      have q := hq.of_block (hb.block _ hlt)
      exact ⟨q.c0 hj, q.c1 hj, q.c2 hj⟩
    have hjl : (j : Int) < (x.L.length : Int) := by omega
    cases hs : (pg x.L j).s with
    | true =>
      have HT : Hid (sealR x (j : Int) key = ⟨x, 9⟩) := by show _ = _; unfold sealR; rw [hfr, ea, hs, if_neg (by simp), if_pos (Or.inr rfl)]
      clear hfr ea CF CW
      generalize pg x.L j = z at *
      obtain ⟨zr, zs, zk⟩ := z
      simp only at HQ hs
      subst hs
      go_enter Try.func23, Try.ntmps23
      go_wp2_with (go_at_call 37; refine C1.mono ?_; rintro e w2 ⟨rfl, B2⟩; have Y0 := X0.below B2 X0.lt; have Y1 := X1.below B2 X1.lt; have b2 := D1.trans (B2.mono D1.size); have u0 := Y0.cell 0 (v := .slice (some ⟨gp, 0, none⟩) x.L.length cP) rfl; have u1 := Y0.cell 1 (v := .slice aI x.I.length cI) rfl; have g0 := Y1.frozen 0; have g1 := Y1.frozen 1; have u2 := Y1.cell 0 (v := .slice none 0 0) rfl; have u3 := Y1.cell 1 (v := .slice none 0 0) rfl; obtain ⟨z0, z1, z2⟩ := HQ.out w2 b2)
      refine bodyPost_ret (results_blk2 rfl _ _ (w.heap.size + 1) _ rfl (load_r (put_r Y1) rfl)) rfl ?_
      refine ⟨⟨gp, cP, aI, cI⟩, by rw [HT.out]; rfl, ?_, below_put_r b2 k4 _ _⟩
      rw [HT.out]
      exact (h.not2.below b2).put _ _
    | false =>
      by_cases hfi : x.L.findIdx (Pg.hit key) < x.L.length
      · have HT : Hid (sealR x (j : Int) key = ⟨x, 9⟩) := by show _ = _; unfold sealR; rw [hfr, ea, hs, if_neg (by simp), if_pos (Or.inl hfi)]
        rw [idxN_pos hfi] at CF
        clear hfr ea CW
        generalize pg x.L j = z at *
        generalize x.L.findIdx (Pg.hit key) = fi at *
        obtain ⟨zr, zs, zk⟩ := z
        simp only at HQ hs
        subst hs
        go_enter Try.func23, Try.ntmps23
        go_wp2_with first
          | (go_at_call 37; refine C1.mono ?_; rintro e w2 ⟨rfl, B2⟩; have Y0 := X0.below B2 X0.lt; have Y1 := X1.below B2 X1.lt; have b2 := D1.trans (B2.mono D1.size); have u0 := Y0.cell 0 (v := .slice (some ⟨gp, 0, none⟩) x.L.length cP) rfl; have u1 := Y0.cell 1 (v := .slice aI x.I.length cI) rfl; have g0 := Y1.frozen 0; have g1 := Y1.frozen 1; have u2 := Y1.cell 0 (v := .slice none 0 0) rfl; have u3 := Y1.cell 1 (v := .slice none 0 0) rfl; obtain ⟨z0, z1, z2⟩ := HQ.out w2 b2; have C2 := CF w2 b2)
          | (go_at_call 27; refine C2.mono ?_; rintro e w3 ⟨rfl, B3⟩; have V0 := Y0.below B3 Y0.lt; have V1 := Y1.below B3 Y1.lt; have v0 := V0.cell 0 (v := .slice (some ⟨gp, 0, none⟩) x.L.length cP) rfl; have v1 := V0.cell 1 (v := .slice aI x.I.length cI) rfl; have l0 := V1.frozen 0; have l1 := V1.frozen 1; have v2 := V1.cell 0 (v := .slice none 0 0) rfl; have v3 := V1.cell 1 (v := .slice none 0 0) rfl)
        have b3 := b2.trans (B3.mono b2.size)
        refine bodyPost_ret (results_blk2 rfl _ _ (w.heap.size + 1) _ rfl (load_r (put_r V1) rfl)) rfl ?_
        refine ⟨⟨gp, cP, aI, cI⟩, by rw [HT.out]; rfl, ?_, below_put_r b3 k4 _ _⟩
        rw [HT.out]
        exact (h.not2.below b3).put _ _
      · have HT : Hid (sealR x (j : Int) key = ⟨⟨x.L.set j ⟨(pg x.L j).r, true, key⟩, x.I⟩, 0⟩) := by show _ = _; unfold sealR; rw [hfr, ea, hs, if_neg (by simp), if_neg (by simp [hfi])]; simp only [Int.toNat_natCast]
        rw [idxN_neg hfi] at CF
        have CW1 := CW j ⟨(pg x.L j).r, true, key⟩ hj
        simp only [Pg.val] at CW1
        clear hfr ea CW hfi
        generalize pg x.L j = z at *
        obtain ⟨zr, zs, zk⟩ := z
        simp only at HQ hs CW1 HT
        subst hs
        go_enter Try.func23, Try.ntmps23
        go_wp2_with first
          | (go_at_call 37; refine C1.mono ?_; rintro e w2 ⟨rfl, B2⟩; have Y0 := X0.below B2 X0.lt; have Y1 := X1.below B2 X1.lt; have b2 := D1.trans (B2.mono D1.size); have u0 := Y0.cell 0 (v := .slice (some ⟨gp, 0, none⟩) x.L.length cP) rfl; have u1 := Y0.cell 1 (v := .slice aI x.I.length cI) rfl; have g0 := Y1.frozen 0; have g1 := Y1.frozen 1; have u2 := Y1.cell 0 (v := .slice none 0 0) rfl; have u3 := Y1.cell 1 (v := .slice none 0 0) rfl; obtain ⟨z0, z1, z2⟩ := HQ.out w2 b2; have C2 := CF w2 b2)
          | (go_at_call 27; refine C2.mono ?_; rintro e w3 ⟨rfl, B3⟩)
        have b3 := (b2.trans (B3.mono b2.size)).drew
        have E3 : Below w3.heap.size w3 w3.drew := (Below.refl _ _).drew
        have V0 := (Y0.below B3 Y0.lt).below E3 (Y0.below B3 Y0.lt).lt
        have V1 := (Y1.below B3 Y1.lt).below E3 (Y1.below B3 Y1.lt).lt
        have v0 := V0.cell 0 (v := .slice (some ⟨gp, 0, none⟩) x.L.length cP) rfl
        have v1 := V0.cell 1 (v := .slice aI x.I.length cI) rfl
        obtain ⟨y0, y1, y2⟩ := HQ.out _ b3
        have CW3 := CW1 _ b3 (by have := V1.lt; omega)
        clear X0 X1 c0 c1 C1 D1 B2 Y0 Y1 b2 HQ z0 z1 z2 u0 u1 g0 g1 u2 u3 hw0 hw1 CW1 E3 B3 CF C2
        go_region_with (go_at_call 35; refine CW3.mono ?_; rintro e w5 ⟨p', rfl, R5, B5⟩; have b5 := b3.trans (B5.mono b3.size); have V3 := V1.below B5 V1.lt; have g0 := V3.frozen 0; have g1 := V3.frozen 1; have u2 := V3.cell 0 (v := .slice none 0 0) rfl; have u3 := V3.cell 1 (v := .slice none 0 0) rfl)
        all_goals
          go_wp2
          refine bodyPost_ret (results_blk2 rfl _ _ (w.heap.size + 1) _ rfl (load_r (put_r V3) rfl)) rfl ?_
          refine ⟨p', by rw [HT.out]; simp only [List.length_set]; rfl, ?_, below_put_r b5 k4 _ _⟩
          rw [HT.out]
          exact R5.put _ _
end Go.Proofs.Ytfkmmjfahdpfcaa
