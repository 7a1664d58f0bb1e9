/- The document's pool: an idle page is forgotten. -/
import Derived.Test.YtfkmmjfahdpfcaaPRef7
namespace Go.Proofs.Ytfkmmjfahdpfcaa
open Go.ChangeShapes Go.WideShapes Go.ChangeAt Go.RowKit
set_option maxHeartbeats 4000000 in
set_option maxRecDepth 100000 in
theorem forget_ref (O : Nat → Prop) (p : RfV) (x : St) (i : Int) (w : World) (h : RfAt O w p x) (hO : ∀ g, w.heap.size ≤ g → O g) (hw : WF x.L x.I) : Calls Try.prog 25 #[p.val x, .int .i64 i] w fun e w' => ∃ p', e = .returned (.tuple #[p'.val (forgetR x i).x, .int .i64 (forgetR x i).e]) ∧ RfAt O w' p' (forgetR x i).x ∧ Below w.heap.size w w' := by
  obtain ⟨gp, cP, aI, cI⟩ := p
  have X0 := rbox w ⟨gp, cP, aI, cI⟩ x
  have CL := fun (j : Nat) (v : World) (hb : Below w.heap.size w v) (hs : w.heap.size + 2 ≤ v.heap.size) => less_ref (Not2 O w.heap.size) ⟨gp, cP, aI, cI⟩ x j v (h.not2.below hb) (not2_new hO hs)
  have CW2 := fun (j : Nat) (hj : j < x.L.length) (p2 : RfV) (v : World) (hR : RfAt (Not2 O w.heap.size) v p2 ⟨x.L, less x.I j⟩) (hs : w.heap.size + 2 ≤ v.heap.size) => with_ref (Not2 O w.heap.size) p2 ⟨x.L, less x.I j⟩ j default v hR (not2_new hO hs) hj
  simp only [RfV.val] at X0 CL CW2 ⊢
  have B0 : Below w.heap.size w (w.alloc (.cells #[.slice (some ⟨gp, 0, none⟩) x.L.length cP, .slice aI x.I.length cI] 31)) := (Below.refl _ _).alloc (Nat.le_refl _) _
  generalize hw0 : w.alloc (.cells #[.slice (some ⟨gp, 0, none⟩) x.L.length cP, .slice aI x.I.length cI] 31) = w0 at *
  have s0 : w0.heap.size = w.heap.size + 1 := by rw [← hw0]; simp
  have X1 := blk_new w0 31 #[.slice none 0 0, .slice none 0 0]
  have B1 : Below w0.heap.size w0 (w0.alloc (.cells #[.slice none 0 0, .slice none 0 0] 31)) := (Below.refl _ _).alloc (Nat.le_refl _) _
  generalize hw1 : w0.alloc (.cells #[.slice none 0 0, .slice none 0 0] 31) = w1 at *
  have s1 : w1.heap.size = w.heap.size + 2 := by rw [← hw1]; simp; omega
  rw [s0] at X1
  have D1 := below_then B0 B1
  replace X0 := X0.below B1 (by omega)
  have c0 := X0.cell 0 (v := .slice (some ⟨gp, 0, none⟩) x.L.length cP) rfl
  have c1 := X0.cell 1 (v := .slice aI x.I.length cI) rfl
  unfold Pg.val at CW2
  have ed : ((default : Pg).r : Int) = 0 ∧ (default : Pg).s = false ∧ (default : Pg).k = 0 := ⟨rfl, rfl, rfl⟩
  simp only [ed.1, ed.2.1, ed.2.2] at CW2
  clear ed
  have hf2 := h.few2
  have k4 : w.heap.size ≤ w.heap.size + 1 := by omega
  generalize hn : x.I.length = n at *
  go_enter Try.func25, Try.ntmps25
  go_wp2
  go_loopg [11] n (fun gg s11 wr => ∃ k : Nat, k ≤ n ∧ gg = n - k ∧ s11 = .int .i64 (k : Int) ∧ wr = w1 ∧ Hid (∀ t, t < k → ((x.I.getD t 0 : Nat) : Int) ≠ i))
  case atStart => exact ⟨0, by omega, by omega, rfl, rfl, fun t ht => by omega⟩
  case round =>
    obtain ⟨k, hk, rfl, rfl, rfl, A⟩ := hrel
    by_cases hlt : k < n
    · obtain ⟨gI, eI, _, hcI⟩ := (h.below D1).idle (by omega)
      have cc := hcI k (by omega)
      simp only at eI
      subst eI
      have hm : x.I.getD k 0 ∈ x.I := by rw [← getD_get (by omega)]; exact List.getElem_mem _
      have hin := (hw.mem _).1 hm
      clear hcI
      generalize hz : x.I.getD k 0 = z at *
      by_cases hzi : (z : Int) = i
      · subst hzi
        have HT : Hid (forgetR x (z : Int) = ⟨⟨x.L.set z default, less x.I z⟩, 0⟩) := by show _ = _; unfold forgetR; rw [atN_nat, hin.2]; simp only [if_true, Int.toNat_natCast]
        have CL1 := CL z wr D1 (by omega)
        have CW3 := CW2 z hin.1
        have f0 := X1.frozen 0
        clear CL CW2 hm hw A
        go_wp2_with first
          | (go_at_call 36; refine CL1.mono ?_; rintro e w2 ⟨p2', rfl, R2, B2⟩; have b2 := D1.trans (B2.mono D1.size); have Y1 := X1.below B2 X1.lt; have CW4 := CW3 p2' w2 R2 (by have := Y1.lt; omega))
          | (go_at_call 35; refine CW4.mono ?_; rintro e w3 ⟨p', rfl, R3, B3⟩; have Y2 := Y1.below B3 Y1.lt; have g0 := Y2.frozen 0; have g1 := Y2.frozen 1; have u2 := Y2.cell 0 (v := .slice none 0 0) rfl; have u3 := Y2.cell 1 (v := .slice none 0 0) rfl)
        refine bodyPost_ret (results_blk2 rfl _ _ (w.heap.size + 1) _ rfl (load_r (put_r Y2) rfl)) rfl ?_
        have b3 := b2.trans (B3.mono b2.size)
        refine ⟨p', by rw [HT.out]; simp only [List.length_set]; rfl, ?_, below_put_r b3 k4 _ _⟩
        rw [HT.out]
        exact R3.put _ _
      · have HZ : Hid _ := hzi
        go_wp2_with fail
        go_roundg (n - (k + 1))
        case measure => omega
        case rel =>
          refine ⟨k + 1, by omega, rfl, by go_num, rfl, fun t ht => ?_⟩
          by_cases e : t = k
          · rw [e, hz]; exact HZ.out
          · exact A.out t (by omega)
    · obtain rfl : k = n := by omega
      have hni : (atN x.L i).idle = false := by
        rcases atN_or x.L i with e | ⟨j, rfl, hj, e⟩
        · rw [e]; rfl
        · cases hq : (atN x.L (j : Int)).idle with
          | false => rfl
          | true =>
            rw [e] at hq
            have hm := (hw.mem j).2 ⟨hj, hq⟩
            obtain ⟨t, ht, e2⟩ := List.getElem_of_mem hm
            exact absurd (by rw [← getD_get ht, e2]) (A.out t (by omega))
      have HT : Hid (forgetR x i = ⟨x, 8⟩) := by show _ = _; unfold forgetR; rw [hni]; rfl
      have g0 := X1.frozen 0
      have g1 := X1.frozen 1
      have u2 := X1.cell 0 (v := .slice none 0 0) rfl
      have u3 := X1.cell 1 (v := .slice none 0 0) rfl
      clear CL CW2 hni A
      go_wp2_with fail
      refine bodyPost_ret (results_blk2 rfl _ _ (w.heap.size + 1) _ rfl (load_r (put_r X1) rfl)) rfl ?_
      refine ⟨⟨gp, cP, aI, cI⟩, by rw [HT.out]; simp only [hn]; rfl, ?_, below_put_r D1 k4 _ _⟩
      rw [HT.out]
      exact (h.not2.below D1).put _ _
end Go.Proofs.Ytfkmmjfahdpfcaa
