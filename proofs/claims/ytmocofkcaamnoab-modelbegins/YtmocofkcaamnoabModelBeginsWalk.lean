/- The Go text of ModelBegins returns true at every input. -/
import Derived.Test.YtmocofkcaamnoabMdGen
namespace Go.Proofs.Ytmocofkcaamnoab
open Go.ChangeShapes Go.WideShapes Go.ChangeAt Go.RowKit
set_option maxRecDepth 100000 in
set_option maxHeartbeats 1600000 in
theorem modelBegins_walk (C0 C1 : Cfg) (sd : Int) (w : World) (h0 : C0.Ok) (h1 : C1.Ok) (bs : 0 ≤ sd ∧ sd ≤ 18446744073709551615) :
    Calls Try.prog 7 #[C0.val, C1.val, .int .u64 sd] w fun e w' => e = .returned (.bool true) ∧ Below w.heap.size w w' := by
  obtain ⟨seed, rfl⟩ : ∃ n : Nat, sd = n := ⟨sd.toNat, by omega⟩
  have hsd : seed < 18446744073709551616 := by omega
  clear bs
  have X0 := blk_new w 23 (cfgC C0.V C0.D C0.Hd C0.H C0.L)
  have B0 : Below w.heap.size w (w.alloc (.cells (cfgC C0.V C0.D C0.Hd C0.H C0.L) 23)) := (Below.refl _ _).alloc (Nat.le_refl _) _
  have s0 : (w.alloc (.cells (cfgC C0.V C0.D C0.Hd C0.H C0.L) 23)).heap.size = w.heap.size + 1 := by simp
  have M0 := make_gen C0 h0 seed hsd
  have M1 := make_gen C1 h1 seed hsd
  unfold Cfg.val at *
  have hu : ∀ C : Cfg, cfgC C.V C.D C.Hd C.H C.L = #[.int .i64 C.V, .int .i64 C.D, .int .i64 C.Hd, .int .i64 C.H, .int .i64 C.L] := fun _ => rfl
  rw [hu] at B0 s0 M0 M1 ⊢
  rw [hu]
  generalize hw0 : w.alloc (.cells #[.int .i64 C0.V, .int .i64 C0.D, .int .i64 C0.Hd, .int .i64 C0.H, .int .i64 C0.L] 23) = w0 at *
  replace X0 : Blk w0 w.heap.size 23 (cfgC C0.V C0.D C0.Hd C0.H C0.L) := by rw [← hw0]; exact X0
  have X1 := blk_new w0 23 (cfgC C1.V C1.D C1.Hd C1.H C1.L)
  have B1 : Below w0.heap.size w0 (w0.alloc (.cells (cfgC C1.V C1.D C1.Hd C1.H C1.L) 23)) := (Below.refl _ _).alloc (Nat.le_refl _) _
  rw [s0] at X1
  rw [hu] at B1
  generalize hw1 : w0.alloc (.cells #[.int .i64 C1.V, .int .i64 C1.D, .int .i64 C1.Hd, .int .i64 C1.H, .int .i64 C1.L] 23) = w1 at *
  replace X1 : Blk w1 (w.heap.size + 1) 23 (cfgC C1.V C1.D C1.Hd C1.H C1.L) := by rw [← hw1]; exact X1
  replace X0 := X0.below B1
  replace B1 := below_then B0 B1
  obtain ⟨a0, a1, a2, a3, a4⟩ := cfg_cells X0
  go_enter Try.func7, Try.ntmps7
  go_wp2_with fail
  refine (M0 w1).mono ?_
  rintro e w2 ⟨cs, q, rfl, MM, B2⟩
  replace X1 := X1.below B2
  have sM := B1.size
  replace B2 := below_then B1 B2
  clear hw0 hw1 a0 a1 a2 a3 a4 X0 B0 B1 s0 M0
  obtain ⟨Y2, B3⟩ := put_w w2 cs
  have Z2 := blk_new w2 29 #[.int .i64 0, .int .i64 0, .slice none 0 0, .slice none 0 0, .slice none 0 0, .int .i64 0, .int .i64 0, .slice none 0 0]
  generalize hw3 : w2.alloc (.cells #[.int .i64 0, .int .i64 0, .slice none 0 0, .slice none 0 0, .slice none 0 0, .int .i64 0, .int .i64 0, .slice none 0 0] 29) = w3 at *
  generalize hw4 : w3.setRow w2.heap.size cs = w4 at *
  replace X1 := X1.below B3
  replace MM := MM.below B3
  have g2 : w2.heap.size < w4.heap.size := Y2.lt
  replace B3 := below_then B2 B3
  obtain ⟨a0, a1, a2, a3, a4⟩ := cfg_cells X1
  have hcs := MM.size
  go_wp2_with (refine wpList_store_row rfl 29 _ _ rfl w2.heap.size cs rfl rfl 29 _ Z2 (by rw [hcs]; exact Try.infoW) hcs.symm MM.one ?_; rw [hw4])
  refine (M1 w4).mono ?_
  rintro e w5 ⟨ds, r, rfl, NN, B5⟩
  have MM5 := MM.below B5
  have Y5 := Y2.below B5
  have s5 := B5.size
  replace B5 := below_then B3 B5
  clear hw3 hw4 a0 a1 a2 a3 a4 X1 B2 B3 M1 MM Y2 Z2 hcs
  generalize w2.heap.size = gv at *
  obtain ⟨Y6, B6⟩ := put_w w5 ds
  have Z6 := blk_new w5 29 #[.int .i64 0, .int .i64 0, .slice none 0 0, .slice none 0 0, .slice none 0 0, .int .i64 0, .int .i64 0, .slice none 0 0]
  generalize hw6 : w5.alloc (.cells #[.int .i64 0, .int .i64 0, .slice none 0 0, .slice none 0 0, .slice none 0 0, .int .i64 0, .int .i64 0, .slice none 0 0] 29) = w6 at *
  generalize hw7 : w6.setRow w5.heap.size ds = w7 at *
  replace MM5 := MM5.below B6
  replace NN := NN.below B6
  replace Y5 := Y5.below B6
  replace B6 := below_then B5 B6
  have hds := NN.size
  by_cases hq : q = 0
  · by_cases hr : r = 0
    · subst hq hr
      obtain ⟨V, D, Hd, H, L, ge, gB, gl, go, _, _, _, _, _, rfl, MW⟩ := MM5.ok rfl
      obtain ⟨V', D', Hd', H', L', ge', gB', gl', go', _, _, _, _, _, rfl, NW⟩ := NN.ok rfl
      have k1 := shape_ok MM5.err.symm
      have k2 := shape_ok NN.err.symm
      have E1 := MW.e
      have E2 := NW.e
      have v2 : w7.cell? ⟨gv, 2, none⟩ = some (.slice (some ⟨ge, 0, none⟩) (V * D) (V * D)) := Y5.cell 2 rfl
      have u2 : w7.cell? ⟨w5.heap.size, 2, none⟩ = some (.slice (some ⟨ge', 0, none⟩) (V' * D') (V' * D')) := Y6.cell 2 rfl
      have n1 : 2 ≤ V * D ∧ V * D ≤ 2048 := ⟨Nat.mul_le_mul (show 2 ≤ V by omega) (show 1 ≤ D by omega), Nat.mul_le_mul (show V ≤ 64 by omega) (show D ≤ 32 by omega)⟩
      have n2 : 2 ≤ V' * D' ∧ V' * D' ≤ 2048 := ⟨Nat.mul_le_mul (show 2 ≤ V' by omega) (show 1 ≤ D' by omega), Nat.mul_le_mul (show V' ≤ 64 by omega) (show D' ≤ 32 by omega)⟩
      clear MM5 NN MW NW
      generalize V * D = n at *
      generalize V' * D' = m at *
      rcases Nat.lt_or_ge m n with hnm | hnm
      · go_wp2_with (refine wpList_store_row rfl 29 _ _ rfl w5.heap.size _ rfl rfl 29 _ Z6 Try.infoW rfl (wCells_one _ _ _ _ _ _ _ _ _ _ _ _) ?_; rw [hw7])
        clear hw6 hw7 Z6 hds
        go_loopg [12] m (fun r i wr => ∃ k : Nat, k ≤ m ∧ r = m - k ∧ i = .int .i64 k ∧ ∃ m0, wr = w7.drewN m0)
        case atStart => exact ⟨0, by omega, by omega, rfl, 0, rfl⟩
        case round =>
          obtain ⟨k, hk, rfl, rfl, m0, hw0⟩ := hrel
          have HW : Hid (wr = w7.drewN m0) := hw0
          have BD : Below w7.heap.size w7 wr := hw0 ▸ below_drewN (Below.refl _ _) m0
          have v2' : wr.cell? ⟨gv, 2, none⟩ = some (.slice (some ⟨ge, 0, none⟩) n n) := by rw [hw0]; exact v2
          have u2' : wr.cell? ⟨w5.heap.size, 2, none⟩ = some (.slice (some ⟨ge', 0, none⟩) m m) := by rw [hw0]; exact u2
          clear hw0
          by_cases hlt : k < m
          · have c1 := (E1.below BD).cell (t := k) (by omega)
            have c2 := (E2.below BD).cell (t := k) (by omega)
            unfold numR at c1 c2
            rw [el_tab (by omega), Nat.zero_add] at c1 c2
            have R : ∀ wv : World, Calls Try.prog 24 #[.int .u64 (seed : Int), .int .i64 (k : Int), .int .i64 131072] wv fun e w' => e = .returned (.int .i32 (numN seed k 131072)) ∧ w' = wv := fun wv => random_any seed k 131072 wv (by omega) (by omega) (by omega)
            generalize numN seed k 131072 = x at *
            clear E1 E2 v2 u2
            go_wp2_with fail
            go_quiet (first | (go_at_call 24; exact Calls.quiet_of_same (R _)))
            go_wp2
            go_roundg (m - (k + 1))
            case measure => omega
            case rel => exact ⟨k + 1, by omega, rfl, by go_num, m0 + nq, by rw [HW.out, World.drewN_drewN]⟩
          · obtain rfl : k = m := by omega
            go_wp2_with (go_at_call 10; refine (awake6_any _).mono ?_; rintro e w9 ⟨rfl, B9⟩)
            go_ret
            exact ⟨ret_true (by omega), below_then (below_then B6 BD) B9⟩
      · go_wp2_with (refine wpList_store_row rfl 29 _ _ rfl w5.heap.size _ rfl rfl 29 _ Z6 Try.infoW rfl (wCells_one _ _ _ _ _ _ _ _ _ _ _ _) ?_; rw [hw7])
        clear hw6 hw7 Z6 hds
        go_loopg [12] n (fun r i wr => ∃ k : Nat, k ≤ n ∧ r = n - k ∧ i = .int .i64 k ∧ ∃ m0, wr = w7.drewN m0)
        case atStart => exact ⟨0, by omega, by omega, rfl, 0, rfl⟩
        case round =>
          obtain ⟨k, hk, rfl, rfl, m0, hw0⟩ := hrel
          have HW : Hid (wr = w7.drewN m0) := hw0
          have BD : Below w7.heap.size w7 wr := hw0 ▸ below_drewN (Below.refl _ _) m0
          have v2' : wr.cell? ⟨gv, 2, none⟩ = some (.slice (some ⟨ge, 0, none⟩) n n) := by rw [hw0]; exact v2
          have u2' : wr.cell? ⟨w5.heap.size, 2, none⟩ = some (.slice (some ⟨ge', 0, none⟩) m m) := by rw [hw0]; exact u2
          clear hw0
          by_cases hlt : k < n
          · have c1 := (E1.below BD).cell (t := k) (by omega)
            have c2 := (E2.below BD).cell (t := k) (by omega)
            unfold numR at c1 c2
            rw [el_tab (by omega), Nat.zero_add] at c1 c2
            have R : ∀ wv : World, Calls Try.prog 24 #[.int .u64 (seed : Int), .int .i64 (k : Int), .int .i64 131072] wv fun e w' => e = .returned (.int .i32 (numN seed k 131072)) ∧ w' = wv := fun wv => random_any seed k 131072 wv (by omega) (by omega) (by omega)
            generalize numN seed k 131072 = x at *
            clear E1 E2 v2 u2
            go_wp2_with fail
            go_quiet (first | (go_at_call 24; exact Calls.quiet_of_same (R _)))
            go_wp2
            go_roundg (n - (k + 1))
            case measure => omega
            case rel => exact ⟨k + 1, by omega, rfl, by go_num, m0 + nq, by rw [HW.out, World.drewN_drewN]⟩
          · obtain rfl : k = n := by omega
            go_wp2_with (go_at_call 10; refine (awake6_any _).mono ?_; rintro e w9 ⟨rfl, B9⟩)
            go_ret
            exact ⟨ret_true (by omega), below_then (below_then B6 BD) B9⟩
    · have hr' : (r == 0) = false := by simpa using hr
      subst hq
      go_wp2_with (first | (refine wpList_store_row rfl 29 _ _ rfl w5.heap.size ds rfl rfl 29 _ Z6 (by rw [hds]; exact Try.infoW) hds.symm NN.one ?_; rw [hw7]) | (go_at_call 10; refine (awake6_any _).mono ?_; rintro e w9 ⟨rfl, B9⟩))
      go_ret
      exact ⟨rfl, below_then B6 B9⟩
  · have hq' : (q == 0) = false := by simpa using hq
    go_wp2_with (first | (refine wpList_store_row rfl 29 _ _ rfl w5.heap.size ds rfl rfl 29 _ Z6 (by rw [hds]; exact Try.infoW) hds.symm NN.one ?_; rw [hw7]) | (go_at_call 10; refine (awake6_any _).mono ?_; rintro e w9 ⟨rfl, B9⟩))
    go_ret
    exact ⟨rfl, below_then B6 B9⟩
end Go.Proofs.Ytmocofkcaamnoab
