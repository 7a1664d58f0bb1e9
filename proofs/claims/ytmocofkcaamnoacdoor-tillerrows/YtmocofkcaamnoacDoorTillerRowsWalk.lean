/- The Go text of TillerRows returns true at every input, where the table of steps lies as the program's text lays it. -/
import Derived.Test.YtmocofkcaamnoacDoorMdGen
import Derived.Test.YtmocofkcaamnoacDoorSoftW
namespace Go.Proofs.YtmocofkcaamnoacDoor
open Go.ChangeShapes Go.WideShapes Go.ChangeAt Go.RowKit
theorem gain_nn (seed k : Nat) : 0 ≤ 65536 + numN seed k 16384 := by
  have h := (numN_bd seed k 16384 (by omega) (by omega)).1
  generalize numN seed k 16384 = z at *
  omega
theorem mulN_nn {x y : Int} (h : 0 ≤ x * y) : 0 ≤ mulN x y := by unfold mulN rnd sat; generalize x * y = p at *; omega
theorem mulN_np {x y : Int} (h : x * y ≤ 0) : mulN x y ≤ 0 := by unfold mulN rnd sat; generalize x * y = p at *; omega
theorem norm_signs (A G : List Int) (n j : Nat) (hg : 0 ≤ el G j) : (0 ≤ el A j → 0 ≤ normN A G n j) ∧ (el A j ≤ 0 → normN A G n j ≤ 0) := by
  have hk := (normK_bd A n).1
  unfold normN
  refine ⟨fun h => mulN_nn (Int.mul_nonneg (mulN_nn (Int.mul_nonneg h hk)) hg), fun h => mulN_np (Int.mul_nonpos_of_nonpos_of_nonneg (mulN_np (Int.mul_nonpos_of_nonpos_of_nonneg h hk)) hg)⟩
set_option maxRecDepth 100000 in
set_option maxHeartbeats 3200000 in
theorem tillerRows_walk (C : Cfg) (sd tk : Int) (w : World) (h0 : C.Ok) (bs : 0 ≤ sd ∧ sd ≤ 18446744073709551615) (bt : -9223372036854775808 ≤ tk ∧ tk ≤ 9223372036854775807) (hT : Tab w) :
    Calls Tryd.prog 3 #[C.val, .int .u64 sd, .int .i64 tk] w fun e w' => e = .returned (.bool true) ∧ Below w.heap.size w w' := by
  obtain ⟨seed, rfl⟩ : ∃ n : Nat, sd = n := ⟨sd.toNat, by omega⟩
  have hsd : seed < 18446744073709551616 := by omega
  clear bs
  have X0 := blk_new w 23 (cfgC C.V C.D C.Hd C.H C.L)
  have B0 : Below w.heap.size w (w.alloc (.cells (cfgC C.V C.D C.Hd C.H C.L) 23)) := (Below.refl _ _).alloc (Nat.le_refl _) _
  have s0 : (w.alloc (.cells (cfgC C.V C.D C.Hd C.H C.L) 23)).heap.size = w.heap.size + 1 := by simp
  have M0 := make_gen C h0 seed hsd
  have S0 := fun wv => shape_any C.V C.D C.Hd C.H C.L wv h0.V h0.D h0.Hd h0.H h0.L
  unfold Cfg.val at *
  have hu : ∀ C : Cfg, cfgC C.V C.D C.Hd C.H C.L = #[.int .i64 C.V, .int .i64 C.D, .int .i64 C.Hd, .int .i64 C.H, .int .i64 C.L] := fun _ => rfl
  rw [hu] at B0 s0 M0 S0 ⊢
  generalize hw0 : w.alloc (.cells #[.int .i64 C.V, .int .i64 C.D, .int .i64 C.Hd, .int .i64 C.H, .int .i64 C.L] 23) = w0 at *
  replace X0 : Blk w0 w.heap.size 23 (cfgC C.V C.D C.Hd C.H C.L) := by rw [← hw0]; exact X0
  replace hT := hT.next B0
  go_enter Tryd.func3, Tryd.ntmps3
  go_wp2_with fail
  refine (shape_lit _).mono ?_
  rintro e w1 ⟨rfl, B1⟩
  replace hT := hT.next B1
  replace X0 := X0.below B1
  replace B1 := below_then B0 B1
  clear hw0 s0 B0
  obtain ⟨a0, a1, a2, a3, a4⟩ := cfg_cells X0
  go_wp2_with fail
  refine (M0 w1).mono ?_
  rintro e w2 ⟨cs, q, rfl, MM, B2⟩
  replace hT := hT.next B2
  replace X0 := X0.below B2
  replace B2 := below_then B1 B2
  clear a0 a1 a2 a3 a4 B1 M0
  obtain ⟨Y2, B3⟩ := put_w w2 cs
  have Z2 := blk_new w2 32 #[.int .i64 0, .int .i64 0, .slice none 0 0, .slice none 0 0, .slice none 0 0, .int .i64 0, .int .i64 0, .slice none 0 0]
  generalize hw3 : w2.alloc (.cells #[.int .i64 0, .int .i64 0, .slice none 0 0, .slice none 0 0, .slice none 0 0, .int .i64 0, .int .i64 0, .slice none 0 0] 32) = w3 at *
  generalize hw4 : w3.setRow w2.heap.size cs = w4 at *
  replace hT := hT.next B3
  replace X0 := X0.below B3
  replace MM := MM.below B3
  replace B3 := below_then B2 B3
  obtain ⟨a0, a1, a2, a3, a4⟩ := cfg_cells X0
  have hcs := MM.size
  by_cases hq : q = 0
  · subst hq
    obtain ⟨V, D, Hd, H, L, ge, gB, gl, go, e1, e2, e3, e4, e5, rfl, MW⟩ := MM.ok rfl
    have k1 := shape_ok MM.err.symm
    have E1 := MW.e
    have L1 := MW.l
    rw [e1, e2, e3, e4, e5] at k1
    rw [e1] at a0
    rw [e2] at a1
    have v0 : w4.cell? ⟨w2.heap.size, 0, none⟩ = some (.int .i64 V) := Y2.cell 0 rfl
    have v1 : w4.cell? ⟨w2.heap.size, 1, none⟩ = some (.int .i64 D) := Y2.cell 1 rfl
    have v2 : w4.cell? ⟨w2.heap.size, 2, none⟩ = some (.slice (some ⟨ge, 0, none⟩) (V * D) (V * D)) := Y2.cell 2 rfl
    clear MM MW e3 e4 e5 S0
    go_wp2_with (refine wpList_store_row rfl 32 _ _ rfl w2.heap.size _ rfl rfl 32 _ Z2 Tryd.infoW rfl (wCells_one _ _ _ _ _ _ _ _ _ _ _ _) ?_; rw [hw4])
    clear hw3 hw4 v0 v1 v2 a2 a3 a4 Z2 B2
    have MA : MatAt w4 V D ge 0 (V * D) (V * D) (numR seed 0 (V * D) 131072) := ⟨by omega, by omega, by omega, by omega, rfl, Nat.le_refl _, by have := Nat.mul_le_mul (show V ≤ 64 by omega) (show D ≤ 32 by omega); omega, E1.rowAt⟩
    by_cases hin : tk < 0 ∨ (V : Int) ≤ tk
    · refine (row_none V D ge 0 (V * D) (V * D) _ tk w4 MA hin).mono ?_
      rintro e w5 ⟨rfl, B5⟩
      replace X0 := X0.below B5
      replace B5 := below_then B3 B5
      have d0 : w5.cell? ⟨w.heap.size, 0, none⟩ = some (.int .i64 V) := by have := (cfg_cells X0).1; rw [e1] at this; exact this
      clear a0 a1 Y2 E1 L1 MA X0 B3
      have hor : tk < 0 ∨ (0 ≤ tk ∧ (V : Int) ≤ tk) := by omega
      rcases hor with hor | hor
      all_goals
        go_wp2
        go_ret
        exact ⟨rfl, B5⟩
    · obtain ⟨i, rfl⟩ : ∃ i : Nat, tk = i := ⟨tk.toNat, by omega⟩
      refine (row_any V D ge 0 (V * D) (V * D) _ i w4 MA (by omega)).mono ?_
      rintro e w5 ⟨gr, cr, rfl, F5, B5⟩
      replace X0 := X0.below B5
      replace Y2 := Y2.below B5
      replace L1 := L1.below B5
      replace hT := hT.next B5
      replace B5 := below_then B3 B5
      clear a0 a1 E1 MA B3
      generalize hA : rowN (numR seed 0 (V * D) 131072) D i = A at *
      have hG : ∀ j, j < D → 0 ≤ el (gainR seed (V * D + L * lenB D H) D) j := fun j hj => by
        unfold gainR
        rw [el_tab hj]
        exact gain_nn _ _
      generalize gainR seed (V * D + L * lenB D H) D = G at *
      have v4 : w5.cell? ⟨w2.heap.size, 4, none⟩ = some (.slice (some ⟨gl, 0, none⟩) D D) := Y2.cell 4 rfl
      have hs : sizeN D = 0 := by unfold sizeN; rw [if_neg (by omega), if_neg (by omega)]
      go_wp2_with fail
      clear v4
      refine (norm_any _ _ _ _ _ _ _ _ F5.rowAt L1.rowAt hs).mono ?_
      rintro e w6 ⟨g6, rfl, F6, B6⟩
      replace X0 := X0.below B6
      replace F5 := F5.below B6
      replace hT := hT.next B6
      replace B6 := below_then B5 B6
      clear B5 L1 Y2
      go_wp2_with fail
      refine (weights_any _ _ _ _ _ hT F6.rowAt hs).mono ?_
      rintro e w7 ⟨g7, rfl, F7, B7⟩
      replace X0 := X0.below B7
      replace F5 := F5.below B7
      replace F6 := F6.below B7
      replace B7 := below_then B6 B7
      clear B6 hT
      have a1 : w7.cell? ⟨w.heap.size, 1, none⟩ = some (.int .i64 D) := by have := (cfg_cells X0).2.1; rw [e2] at this; exact this
      have ws := wgt_sum (tab D (normN A G D)) (n := D) (by omega)
      have sg : ∀ j, j < D → (0 ≤ el A j → 0 ≤ normN A G D j) ∧ (el A j ≤ 0 → normN A G D j ≤ 0) := fun j hj => norm_signs A G D j (hG j hj)
      generalize hNl : tab D (normN A G D) = NL at *
      have hN : ∀ j, j < D → el NL j = normN A G D j := fun j hj => by rw [← hNl]; exact el_tab hj
      clear hG hs
      go_wp2_with fail
      go_loopg [15, 84] D (fun r s i wr => ∃ k : Nat, k ≤ D ∧ r = D - k ∧ i = .int .i64 k ∧ s = .int .i64 (sumTo (wgt NL D) k) ∧ wr = w7)
      case atStart => exact ⟨0, by omega, by omega, rfl, rfl, rfl⟩
      case round =>
        obtain ⟨k, hk, rfl, rfl, rfl, rfl⟩ := hrel
        by_cases hlt : k < D
        · have c1 := F5.cell hlt
          have c2 := F6.cell hlt
          have c3 := F7.cell hlt
          rw [hN k hlt] at c2
          rw [el_tab hlt] at c3
          have b1 := wgt_bd NL hlt
          obtain ⟨sg1, sg2⟩ := sg k hlt
          have HS : Hid (sumTo (wgt NL D) (k + 1) = sumTo (wgt NL D) k + wgt NL D k) := sumTo_succ _ _
          have b2 : 0 ≤ sumTo (wgt NL D) k ∧ sumTo (wgt NL D) k ≤ 65536 * k := by
            have e : sumTo (wgt NL D) k = sumTo (fun j => if j < D then wgt NL D j else 0) k := sumTo_congr fun j hj => by rw [if_pos (by omega)]
            rw [e]
            exact sumTo_bd (fun j => by split; exact wgt_bd NL (by assumption); omega) k
          generalize sumTo (wgt NL D) k = s at *
          generalize wgt NL D k = x at *
          generalize normN A G D k = y at *
          generalize el A k = z at *
          clear F5 F6 F7 sg hN X0 ws
          have hor : (z < 0 ∧ y ≤ 0) ∨ (z = 0 ∧ y = 0) ∨ (0 < z ∧ 0 ≤ y) := by omega
          clear sg1 sg2
          rcases hor with ⟨z1, y1⟩ | ⟨z1, y1⟩ | ⟨z1, y1⟩
          · go_wp2
            go_roundg (D - (k + 1))
            case measure => omega
            case rel => exact ⟨k + 1, by omega, rfl, by go_num, by rw [HS.out], rfl⟩
          · subst z1 y1
            go_wp2
            go_roundg (D - (k + 1))
            case measure => omega
            case rel => exact ⟨k + 1, by omega, rfl, by go_num, by rw [HS.out], rfl⟩
          · go_wp2
            go_roundg (D - (k + 1))
            case measure => omega
            case rel => exact ⟨k + 1, by omega, rfl, by go_num, by rw [HS.out], rfl⟩
        · obtain rfl : k = D := by omega
          generalize sumTo (wgt NL k) k = s at *
          obtain ⟨w1', w2'⟩ := ws
          go_wp2
          go_ret
          exact ⟨rfl, B7⟩
  · have hq' : (q == 0) = false := by simpa using hq
    have hE := MM.err
    rw [← hE] at S0
    clear hE
    go_wp2_with (first | (refine wpList_store_row rfl 32 _ _ rfl w2.heap.size cs rfl rfl 32 _ Z2 (by rw [hcs]; exact Tryd.infoW) hcs.symm MM.one ?_; rw [hw4]) | (go_at_call 4; refine (S0 _).mono ?_; rintro e w9 ⟨rfl, B9⟩))
    go_ret
    exact ⟨rfl, below_then B3 B9⟩
end Go.Proofs.YtmocofkcaamnoacDoor
