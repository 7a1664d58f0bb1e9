/- PoolWhole: free, needed and idle pages are always all pages, and what nobody needs may always be taken. -/
import Derived.Test.YtfkmmjfahdpfcaaPWhole
import Derived.Deep.CutRange
import Derived.Deep.CutBlock
namespace Go.Proofs.Ytfkmmjfahdpfcaa
open Go.ChangeShapes Go.WideShapes Go.ChangeAt Go.RowKit
set_option maxHeartbeats 16000000 in
set_option maxRecDepth 100000 in
theorem poolWhole_walk (x : Int) (ao : Option Addr) (m cap : Nat) (Z : Nat → Act3) (w : World) (hx : -9223372036854775808 ≤ x ∧ x ≤ 9223372036854775807) (hZ : ActsAt w ao m Z) :
   Calls Try.prog 4 #[.int .i64 x, .slice ao m cap] w fun e w' => e = .returned (.bool true) ∧ Below w.heap.size w w' := by
  have A := pawake_any w
  by_cases h0 : x < 1
  · go_enter Try.func4, Try.ntmps4
    go_wp2_with (go_at_call 9; refine A.mono ?_; rintro e w1 ⟨rfl, B1⟩)
    go_ret
    exact ⟨rfl, B1⟩
  by_cases h1 : 64 < x
  · go_enter Try.func4, Try.ntmps4
    go_wp2_with (go_at_call 9; refine A.mono ?_; rintro e w1 ⟨rfl, B1⟩)
    go_ret
    exact ⟨rfl, B1⟩
  obtain ⟨n, rfl⟩ : ∃ n : Nat, x = n := ⟨x.toNat, by omega⟩
  have hn1 : 1 ≤ n := by omega
  have hn2 : n ≤ 64 := by omega
  have C := pnew_any n w hn1 (by omega)
  clear A hx
  have HZ : Hid _ := hZ
  have hmx := hZ.max
  clear hZ
  go_enter Try.func4, Try.ntmps4
  go_upto_block 0 with (go_at_call 8; refine C.mono ?_; rintro e w1 ⟨rfl, p1, B1⟩; clear C)
  have i1 : In w1 w.heap.size ⟨List.replicate n default, []⟩ := ⟨p1, wf_new n, by simp; omega⟩
  clear p1
  go_cut [4, 7, 8, 9, 10, 11, 12, 13] from 47 (fun _ _ _ _ _ _ _ _ wc => ∃ y : St, In wc w.heap.size y ∧ y.L.length = n ∧ Below w.heap.size w wc)
  case first =>
    go_wp2_with fail
    go_loopg [7] (min m 80) (fun gg s7 wr => ∃ (k : Nat) (y : St), k ≤ min m 80 ∧ gg = min m 80 - k ∧ s7 = .int .i64 (k : Int) ∧ In wr w.heap.size y ∧ y.L.length = n ∧ Below w.heap.size w wr)
    case atStart => exact ⟨0, _, by omega, by omega, rfl, i1, by simp, B1⟩
    case round =>
      obtain ⟨k, y, hk, rfl, rfl, hI, hyn, hB⟩ := hrel
      clear i1 B1
      by_cases hlt : k < min m 80
      · have hm1 : (k : Int) < (m : Int) := by omega
        have hm2 : (k : Int) < 80 := by omega
        obtain ⟨bz, oz, rfl, hz⟩ := HZ.out.cells (by omega)
        obtain ⟨z0, z1, z2⟩ := hz k (by omega)
        obtain ⟨b1, b2, b3⟩ := HZ.out.small k
        have hbz := World.block_lt_of_cell? w _ z0
        rw [← hB.cell (by exact hbz)] at z0 z1 z2
        have X0 := blk_new wr 35 #[.int .i64 (Z k).kind, .int .i64 (Z k).i, .int .i64 (Z k).key]
        have B0 : Below wr.heap.size wr (wr.alloc (.cells #[.int .i64 (Z k).kind, .int .i64 (Z k).i, .int .i64 (Z k).key] 35)) := (Below.refl _ _).alloc (Nat.le_refl _) _
        have hlt0 := hI.idle_lt
        have hlt1 := hI.lt
        have hI1 := hI.below B0
        have hid : idleBlk (wr.alloc (.cells #[.int .i64 (Z k).kind, .int .i64 (Z k).i, .int .i64 (Z k).key] 35)) w.heap.size ≠ some wr.heap.size := by
          rw [idleBlk_same (B0.block _ hlt1)]
          intro e
          have := hlt0 _ e
          omega
        have hB1 := hB.trans (B0.mono hB.size)
        generalize hw1 : wr.alloc (.cells #[.int .i64 (Z k).kind, .int .i64 (Z k).i, .int .i64 (Z k).key] 35) = w1 at *
        have hs1 : wr.heap.size < w1.heap.size := X0.lt
        have HX : Hid (∀ w2, Turns w.heap.size w1 w2 → Blk w2 wr.heap.size 35 #[.int .i64 (Z k).kind, .int .i64 (Z k).i, .int .i64 (Z k).key]) := fun w2 h => X0.of_block (h.block _ hs1 (by omega) (by omega) hid)
        have hyl : (actR (Z k) y).L.length = n := (actR_len _ _).trans hyn
        have HA : Hid (actR (Z k) y = actR (Z k) y) := rfl
        have hFy := find_in w.heap.size (Z k).key (actR (Z k) y)
        have hst1 := fun v (h : In v w.heap.size y) => take_step w.heap.size y v h
        have hst2 := fun v (h : In v w.heap.size y) => hold_step w.heap.size (Z k).i y v h b2
        have hst3 := fun v (h : In v w.heap.size y) => seal_step w.heap.size (Z k).i (Z k).key y v h b2
        have hst4 := fun v (h : In v w.heap.size y) => drop_step w.heap.size (Z k).i y v h b2
        have hst5 := fun v (h : In v w.heap.size y) => forget_step w.heap.size (Z k).i y v h b2
        clear hI hlt0 hid hB HZ
        have hcase : ((Z k).kind = 1 ∧ Hid ((takeR y).x = actR (Z k) y)) ∨ ((Z k).kind = 2 ∧ Hid ((holdR y (Z k).i).x = actR (Z k) y)) ∨ ((Z k).kind = 3 ∧ Hid ((sealR y (Z k).i (Z k).key).x = actR (Z k) y)) ∨ ((Z k).kind = 4 ∧ Hid ((dropR y (Z k).i).x = actR (Z k) y)) ∨ ((Z k).kind = 5 ∧ Hid ((forgetR y (Z k).i).x = actR (Z k) y)) ∨ ((¬ (Z k).kind = 1 ∧ ¬ (Z k).kind = 2 ∧ ¬ (Z k).kind = 3 ∧ ¬ (Z k).kind = 4 ∧ ¬ (Z k).kind = 5) ∧ Hid (y = actR (Z k) y)) := by
          by_cases e1 : (Z k).kind = 1
          · exact Or.inl ⟨e1, by show _ = _; unfold actR; rw [if_pos e1]⟩
          by_cases e2 : (Z k).kind = 2
          · exact Or.inr (Or.inl ⟨e2, by show _ = _; unfold actR; rw [if_neg e1, if_pos e2]⟩)
          by_cases e3 : (Z k).kind = 3
          · exact Or.inr (Or.inr (Or.inl ⟨e3, by show _ = _; unfold actR; rw [if_neg e1, if_neg e2, if_pos e3]⟩))
          by_cases e4 : (Z k).kind = 4
          · exact Or.inr (Or.inr (Or.inr (Or.inl ⟨e4, by show _ = _; unfold actR; rw [if_neg e1, if_neg e2, if_neg e3, if_pos e4]⟩)))
          by_cases e5 : (Z k).kind = 5
          · exact Or.inr (Or.inr (Or.inr (Or.inr (Or.inl ⟨e5, by show _ = _; unfold actR; rw [if_neg e1, if_neg e2, if_neg e3, if_neg e4, if_pos e5]⟩))))
          · exact Or.inr (Or.inr (Or.inr (Or.inr (Or.inr ⟨⟨e1, e2, e3, e4, e5⟩, by show _ = _; unfold actR; rw [if_neg e1, if_neg e2, if_neg e3, if_neg e4, if_neg e5]⟩))))
        clear HA
        generalize actR (Z k) y = y' at *
        generalize (Z k).kind = kd at *
        generalize (Z k).i = ki at *
        generalize (Z k).key = kk at *
        have hJ : Hid (In w1 w.heap.size y) := hI1
        clear hI1
        have x0 := X0.cell 0 (v := .int .i64 kd) rfl
        have x1 := X0.cell 1 (v := .int .i64 ki) rfl
        have x2 := X0.cell 2 (v := .int .i64 kk) rfl
        go_upto_block 2 with fail
        go_cut [] from 47 to 141 (fun wc => In wc w.heap.size y' ∧ Blk wc wr.heap.size 35 #[.int .i64 kd, .int .i64 ki, .int .i64 kk] ∧ Below w.heap.size w wc)
        case first =>
          clear hFy
          rcases hcase with ⟨rfl, hy⟩ | ⟨rfl, hy⟩ | ⟨rfl, hy⟩ | ⟨rfl, hy⟩ | ⟨rfl, hy⟩ | ⟨⟨n1, n2, n3, n4, n5⟩, hy⟩
          · go_wp2_with (go_at_call 12; refine (hst1 _ hJ.out).mono ?_; rintro e w2 ⟨rfl, hI, T2⟩)
            go_meet
            case rel => exact ⟨by rw [← hy.out]; exact hI, HX.out _ T2, hB1.trans T2.below⟩
          · go_wp2_with (go_at_call 13; refine (hst2 _ hJ.out).mono ?_; rintro e w2 ⟨rfl, hI, T2⟩)
            go_meet
            case rel => exact ⟨by rw [← hy.out]; exact hI, HX.out _ T2, hB1.trans T2.below⟩
          · go_wp2_with (go_at_call 14; refine (hst3 _ hJ.out).mono ?_; rintro e w2 ⟨rfl, hI, T2⟩)
            go_meet
            case rel => exact ⟨by rw [← hy.out]; exact hI, HX.out _ T2, hB1.trans T2.below⟩
          · go_wp2_with (go_at_call 15; refine (hst4 _ hJ.out).mono ?_; rintro e w2 ⟨rfl, hI, T2⟩)
            go_meet
            case rel => exact ⟨by rw [← hy.out]; exact hI, HX.out _ T2, hB1.trans T2.below⟩
          · go_wp2_with (go_at_call 16; refine (hst5 _ hJ.out).mono ?_; rintro e w2 ⟨rfl, hI, T2⟩)
            go_meet
            case rel => exact ⟨by rw [← hy.out]; exact hI, HX.out _ T2, hB1.trans T2.below⟩
          · go_wp2_with fail
            go_meet
            case rel => exact ⟨by rw [← hy.out]; exact hJ.out, X0, hB1⟩
        case rest =>
          obtain ⟨hI, X, hB⟩ := hcut
          clear hcase hst1 hst2 hst3 hst4 hst5 X0 hB1 HX hJ x0 x1 x2 hw1
          rcases hFy with ⟨q, hq, HC, ho, _⟩ | ⟨HC, _⟩
          · have HO := fun v (h : In v w.heap.size y') => open_any w.heap.size q y'.L y'.I v h.at' (by omega)
            have ea : (atN y'.L q).open = false := by rw [atN_nat]; exact ho
            rw [ea] at HO
            have hq' : (q : Int) < (n : Int) := by omega
            have hq0 : ¬ (q : Int) < 0 := by omega
            clear ho ea hq
            go_wp2_with first
              | (go_at_call 19; refine (HO _ hI).mono ?_; rintro e w6 ⟨rfl, B6⟩; have hI := hI.below B6; have hB := hB.trans (B6.mono hB.size))
              | (go_at_call 18; refine (HC _ hI).mono ?_; rintro e w5 ⟨rfl, B5⟩; have hI := hI.below B5; have hB := hB.trans (B5.mono hB.size))
              | (go_at_call 17; obtain ⟨f, mm, j, _, _, _, hsum, CC⟩ := counts_in hI; rw [hyl] at hsum; have hs2 : (f : Int) + (mm : Int) + (j : Int) = (n : Int) := (by omega); have hs3 : (f : Int) ≤ 64 ∧ (mm : Int) ≤ 64 ∧ (j : Int) ≤ 64 := (by omega); refine CC.mono ?_; rintro e w4 ⟨rfl, B4⟩; have X := X.below B4 X.lt; have x2 := X.cell 2 rfl; have hI := hI.below B4; have hB := hB.trans (B4.mono hB.size); clear CC)
            go_roundg (min m 80 - (k + 1))
            case measure => omega
            case rel => exact ⟨k + 1, y', by omega, rfl, by go_num, hI, hyl, hB⟩
          · go_wp2_with first
              | (go_at_call 18; refine (HC _ hI).mono ?_; rintro e w5 ⟨rfl, B5⟩; have hI := hI.below B5; have hB := hB.trans (B5.mono hB.size))
              | (go_at_call 17; obtain ⟨f, mm, j, _, _, _, hsum, CC⟩ := counts_in hI; rw [hyl] at hsum; have hs2 : (f : Int) + (mm : Int) + (j : Int) = (n : Int) := (by omega); have hs3 : (f : Int) ≤ 64 ∧ (mm : Int) ≤ 64 ∧ (j : Int) ≤ 64 := (by omega); refine CC.mono ?_; rintro e w4 ⟨rfl, B4⟩; have X := X.below B4 X.lt; have x2 := X.cell 2 rfl; have hI := hI.below B4; have hB := hB.trans (B4.mono hB.size); clear CC)
            go_roundg (min m 80 - (k + 1))
            case measure => omega
            case rel => exact ⟨k + 1, y', by omega, rfl, by go_num, hI, hyl, hB⟩
      · by_cases hm3 : (k : Int) < (m : Int)
        · have hm4 : ¬ (k : Int) < 80 := by omega
          go_wp2_with fail
          go_meet
          case rel => exact ⟨y, hI, hyn, hB⟩
        · go_wp2_with fail
          go_meet
          case rel => exact ⟨y, hI, hyn, hB⟩
  case rest =>
    obtain ⟨y, hI, hyn, hB⟩ := hcut
    clear i1 B1 HZ
    obtain ⟨f, mm, j, hf, hmm, hj, hsum, CC⟩ := counts_in hI
    rw [hyn] at hsum
    have hs2 : (f : Int) + (mm : Int) + (j : Int) = (n : Int) := by omega
    have hs3 : (f : Int) ≤ 64 ∧ (mm : Int) ≤ 64 ∧ (j : Int) ≤ 64 := by omega
    have hff : Hid (f = cnt Pg.free y.L) := hf
    have hjj : Hid (j = y.I.length) := hj
    clear hf hmm hj
    go_wp2_with (go_at_call 17; refine CC.mono ?_; rintro e w4 ⟨rfl, B4⟩)
    have hI4 := hI.below B4
    have hB4 := hB.trans (B4.mono hB.size)
    clear CC hI hB B4
    go_loopg [17] (f + j) (fun gg s17 wr => ∃ (i : Nat) (z : St), i ≤ f + j ∧ gg = f + j - i ∧ s17 = .int .i64 (i : Int) ∧ In wr w.heap.size z ∧ z.L.length = n ∧ Hid (cnt Pg.free z.L = f - i) ∧ Hid (z.I.length = (f + j - i) - (f - i)) ∧ Below w.heap.size w wr)
    case atStart => exact ⟨0, y, by omega, by omega, rfl, hI4, hyn, by have := hff.out; show _ = _; omega, by have := hjj.out; show _ = _; omega, hB4⟩
    case round =>
      obtain ⟨i, z, hi, rfl, rfl, hI, hzn, E1, E2, hB⟩ := hrel
      clear hI4 hB4 hff hjj
      by_cases hlt : i < f + j
      · have hlt' : (i : Int) < (f : Int) + (j : Int) := by omega
        have C2 := take_step w.heap.size z wr hI
        have hzl := takeR_len z
        by_cases hif : i < f
        · obtain ⟨q1, q2, q3, q4⟩ := takeR_free z (by rw [E1.out]; omega)
          have E3 : Hid (cnt Pg.free (takeR z).x.L = f - (i + 1)) := by have := E1.out; show _ = _; omega
          have E4 : Hid ((takeR z).x.I.length = (f + j - (i + 1)) - (f - (i + 1))) := by have := E2.out; show _ = _; rw [q3]; omega
          rw [q1, q2] at C2
          have hif' : (i : Int) < (f : Int) := by omega
          clear q1 q2 q3 q4
          generalize (takeR z).k = kk at *
          generalize (takeR z).i = ki at *
          go_wp2_with (go_at_call 12; refine C2.mono ?_; rintro e w5 ⟨rfl, hI5, T5⟩)
          go_roundg (f + j - (i + 1))
          case measure => omega
          case rel => exact ⟨i + 1, _, by omega, rfl, by go_num, hI5, hzl.trans hzn, E3, E4, hB.trans T5.below⟩
        · obtain ⟨q1, q2, q3, q4⟩ := takeR_idle z hI.wf (by rw [E1.out]; omega) (by rw [E2.out]; omega)
          have E3 : Hid (cnt Pg.free (takeR z).x.L = f - (i + 1)) := by show _ = _; omega
          have E4 : Hid ((takeR z).x.I.length = (f + j - (i + 1)) - (f - (i + 1))) := by have := E2.out; show _ = _; omega
          rw [q1, q2] at C2
          have hif' : (f : Int) ≤ (i : Int) := by omega
          clear q1 q2 q3 q4
          generalize (takeR z).k = kk at *
          generalize (takeR z).i = ki at *
          go_wp2_with (go_at_call 12; refine C2.mono ?_; rintro e w5 ⟨rfl, hI5, T5⟩)
          go_roundg (f + j - (i + 1))
          case measure => omega
          case rel => exact ⟨i + 1, _, by omega, rfl, by go_num, hI5, hzl.trans hzn, E3, E4, hB.trans T5.below⟩
      · have hlt' : ¬ (i : Int) < (f : Int) + (j : Int) := by omega
        have z1 : cnt Pg.free z.L = 0 := by rw [E1.out]; omega
        have z2 : z.I = [] := List.length_eq_zero_iff.1 (by rw [E2.out]; omega)
        obtain ⟨q1, q2⟩ := takeR_full z z1 z2
        have C2 := take_step w.heap.size z wr hI
        rw [q1, q2] at C2
        have HC := fun v (h : In v w.heap.size z) => counts_in h
        have z3 : need z.L = n := by have := cnt_all z.L; have := hI.wf.len; rw [z2] at this; simp at this; omega
        have HC2 : ∀ v, In v w.heap.size z → Calls Try.prog 17 #[.pointer (some ⟨w.heap.size + 1, 0, none⟩)] v fun e w' => e = .returned (.tuple #[.int .i64 0, .int .i64 (n : Int), .int .i64 0]) ∧ Below v.heap.size v w' := fun v h => by
          obtain ⟨f', m', j', e1, e2, e3, _, CC⟩ := counts_in h
          rw [e1, e2, e3, z1, z2, z3] at CC
          exact CC
        clear HC q1 q2 E1 E2
        generalize (takeR z).k = kk at *
        generalize (takeR z).i = ki at *
        generalize (takeR z).did = kd at *
        have hs4 : (mm : Int) + (f : Int) + (j : Int) = (n : Int) := by omega
        clear hlt
        go_wp2_with first
          | (go_at_call 9; refine (pawake_any _).mono ?_; rintro e w7 ⟨rfl, B7⟩)
          | (go_at_call 17; refine (HC2 _ hI5).mono ?_; rintro e w6 ⟨rfl, B6⟩)
          | (go_at_call 12; refine C2.mono ?_; rintro e w5 ⟨rfl, hI5, T5⟩)
        go_ret
        have b5 := hB.trans T5.below
        have b6 := b5.trans (B6.mono b5.size)
        exact ⟨rfl, b6.trans (B7.mono b6.size)⟩
end Go.Proofs.Ytfkmmjfahdpfcaa
