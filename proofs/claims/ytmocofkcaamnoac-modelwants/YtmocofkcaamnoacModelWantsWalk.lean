/- The Go text of ModelWants returns true at every input. -/
import Derived.Test.YtmocofkcaamnoacMdWants
import Derived.Deep.CutRange
namespace Go.Proofs.Ytmocofkcaamnoac
open Go.ChangeShapes Go.WideShapes Go.ChangeAt Go.RowKit
set_option maxRecDepth 100000 in
set_option maxHeartbeats 3200000 in
theorem modelWants_walk (C : Cfg) (sd wh : Int) (mo : Bool) (w : World) (h0 : C.Ok) (bs : 0 ≤ sd ∧ sd ≤ 18446744073709551615) (bw : -9223372036854775808 ≤ wh ∧ wh ≤ 9223372036854775807) :
    Calls Try.prog 3 #[C.val, .int .u64 sd, .int .i64 wh, .bool mo] w fun e w' => e = .returned (.bool true) ∧ Below w.heap.size w w' := by
  obtain ⟨seed, rfl⟩ : ∃ n : Nat, sd = n := ⟨sd.toNat, by omega⟩
  have hsd : seed < 18446744073709551616 := by omega
  clear bs
  have X0 := blk_new w 23 (cfgC C.V C.D C.Hd C.H C.L)
  have B0 : Below w.heap.size w (w.alloc (.cells (cfgC C.V C.D C.Hd C.H C.L) 23)) := (Below.refl _ _).alloc (Nat.le_refl _) _
  have M0 := make_gen C h0 seed hsd
  have K0 := fun (W : Wt) bs wv hW hb => mcheck_any C h0 W bs wv hW hb
  unfold Cfg.val at *
  have hu : ∀ C : Cfg, cfgC C.V C.D C.Hd C.H C.L = #[.int .i64 C.V, .int .i64 C.D, .int .i64 C.Hd, .int .i64 C.H, .int .i64 C.L] := fun _ => rfl
  rw [hu] at B0 M0 K0 ⊢
  generalize hw0 : w.alloc (.cells #[.int .i64 C.V, .int .i64 C.D, .int .i64 C.Hd, .int .i64 C.H, .int .i64 C.L] 23) = w0 at *
  replace X0 : Blk w0 w.heap.size 23 (cfgC C.V C.D C.Hd C.H C.L) := by rw [← hw0]; exact X0
  have X0' := X0
  obtain ⟨a0, a1, a2, a3, a4⟩ := cfg_cells X0
  go_enter Try.func3, Try.ntmps3
  go_wp2_with fail
  refine (M0 w0).mono ?_
  rintro e w2 ⟨cs, q, rfl, MM, B2⟩
  replace X0 := X0.below B2
  have s2 := B2.size
  have s0 : w.heap.size < w0.heap.size := X0'.lt
  replace B2 := below_then B0 B2
  clear hw0 a0 a1 a2 a3 a4 B0 M0 X0'
  obtain ⟨Y2, B3⟩ := put_w w2 cs
  have Z2 := blk_new w2 30 #[.int .i64 0, .int .i64 0, .slice none 0 0, .slice none 0 0, .slice none 0 0, .int .i64 0, .int .i64 0, .slice none 0 0]
  generalize hw3 : w2.alloc (.cells #[.int .i64 0, .int .i64 0, .slice none 0 0, .slice none 0 0, .slice none 0 0, .int .i64 0, .int .i64 0, .slice none 0 0] 30) = w3 at *
  generalize hw4 : w3.setRow w2.heap.size cs = w4 at *
  replace X0 := X0.below B3
  replace MM := MM.below B3
  replace B3 := below_then B2 B3
  have hcs := MM.size
  by_cases hq : q = 0
  · subst hq
    obtain ⟨V, D, Hd, H, L, ge, gB, gl, go, e1, e2, e3, e4, e5, hcw, MW⟩ := MM.ok rfl
    have hshape := MM.err.symm
    have k1 := shape_ok hshape
    obtain ⟨bl, ML⟩ := madeL_of (i0 := V * D) L (fun j hj => MW.bs j hj)
    have hfit := made_fits (ge := ge) (gl := gl) (go := go) ML e1 e2 e4 e5 hshape
    rw [← mkW_cells V D L ge gB gl go] at hcw
    subst hcw
    have g9 : w.heap.size + 1 ≤ w2.heap.size := by omega
    have gBl : gB < w4.heap.size := by obtain ⟨c, hc, _⟩ := MW.bl; exact (Array.getElem?_eq_some_iff.1 hc).1
    have WA := wanted_all (base := w.heap.size + 1) MW ML Y2 g9 (by omega) e1 e2 e4 e5 hshape
    have BL := ML.blocks (by omega) (by omega) (by omega)
    have a4 : w4.cell? ⟨w.heap.size, 4, none⟩ = some (.int .i64 L) := by have := (cfg_cells X0).2.2.2.2; rw [e5] at this; exact this
    have v3 : w4.cell? ⟨w2.heap.size, 3, none⟩ = some (.slice (some ⟨gB, 0, none⟩) L L) := Y2.cell 3 rfl
    go_wp2_with (refine wpList_store_row rfl 30 _ _ rfl w2.heap.size _ rfl rfl 30 _ Z2 Try.infoW rfl (wCells_one _ _ _ _ _ _ _ _ _ _ _ _) ?_; rw [hw4])
    go_region
    have XP := blk_new w4 38 #[.pointer (some ⟨w2.heap.size, 2, none⟩), .pointer (some ⟨w2.heap.size, 4, none⟩), .pointer (some ⟨w2.heap.size, 7, none⟩), .pointer (some ⟨gB, (L - 1) * 20, none⟩), .pointer (some ⟨gB, (L - 1) * 20 + 1 + 2, none⟩), .pointer (some ⟨gB, (L - 1) * 20 + 4 + 2, none⟩), .pointer (some ⟨gB, (L - 1) * 20 + 7 + 2, none⟩), .pointer (some ⟨gB, (L - 1) * 20 + 10 + 2, none⟩), .pointer (some ⟨gB, (L - 1) * 20 + 13, none⟩), .pointer (some ⟨gB, (L - 1) * 20 + 14 + 2, none⟩), .pointer (some ⟨gB, (L - 1) * 20 + 17 + 2, none⟩)]
    have BP : Below w4.heap.size w4 (w4.alloc (.cells #[.pointer (some ⟨w2.heap.size, 2, none⟩), .pointer (some ⟨w2.heap.size, 4, none⟩), .pointer (some ⟨w2.heap.size, 7, none⟩), .pointer (some ⟨gB, (L - 1) * 20, none⟩), .pointer (some ⟨gB, (L - 1) * 20 + 1 + 2, none⟩), .pointer (some ⟨gB, (L - 1) * 20 + 4 + 2, none⟩), .pointer (some ⟨gB, (L - 1) * 20 + 7 + 2, none⟩), .pointer (some ⟨gB, (L - 1) * 20 + 10 + 2, none⟩), .pointer (some ⟨gB, (L - 1) * 20 + 13, none⟩), .pointer (some ⟨gB, (L - 1) * 20 + 14 + 2, none⟩), .pointer (some ⟨gB, (L - 1) * 20 + 17 + 2, none⟩)] 38)) := (Below.refl _ _).alloc (Nat.le_refl _) _
    have BP2 : Below w4.heap.size w4 (w4.alloc (.cells #[.pointer (some ⟨w2.heap.size, 2, none⟩), .pointer (some ⟨w2.heap.size, 4, none⟩), .pointer (some ⟨w2.heap.size, 7, none⟩), .pointer (some ⟨gB, (L - 1) * 20, none⟩), .pointer (some ⟨gB, (L - 1) * 20 + 1 + 2, none⟩), .pointer (some ⟨gB, (L - 1) * 20 + 4 + 2, none⟩), .pointer (some ⟨gB, (L - 1) * 20 + 7 + 2, none⟩), .pointer (some ⟨gB, (L - 1) * 20 + 10 + 2, none⟩), .pointer (some ⟨gB, (L - 1) * 20 + 13, none⟩), .pointer (some ⟨gB, (L - 1) * 20 + 14 + 2, none⟩), .pointer (some ⟨gB, (L - 1) * 20 + 17 + 2, none⟩)] 38)).drew := BP.drew
    have XP2 : Blk (w4.alloc (.cells #[.pointer (some ⟨w2.heap.size, 2, none⟩), .pointer (some ⟨w2.heap.size, 4, none⟩), .pointer (some ⟨w2.heap.size, 7, none⟩), .pointer (some ⟨gB, (L - 1) * 20, none⟩), .pointer (some ⟨gB, (L - 1) * 20 + 1 + 2, none⟩), .pointer (some ⟨gB, (L - 1) * 20 + 4 + 2, none⟩), .pointer (some ⟨gB, (L - 1) * 20 + 7 + 2, none⟩), .pointer (some ⟨gB, (L - 1) * 20 + 10 + 2, none⟩), .pointer (some ⟨gB, (L - 1) * 20 + 13, none⟩), .pointer (some ⟨gB, (L - 1) * 20 + 14 + 2, none⟩), .pointer (some ⟨gB, (L - 1) * 20 + 17 + 2, none⟩)] 38)).drew w4.heap.size 38 #[.pointer (some ⟨w2.heap.size, 2, none⟩), .pointer (some ⟨w2.heap.size, 4, none⟩), .pointer (some ⟨w2.heap.size, 7, none⟩), .pointer (some ⟨gB, (L - 1) * 20, none⟩), .pointer (some ⟨gB, (L - 1) * 20 + 1 + 2, none⟩), .pointer (some ⟨gB, (L - 1) * 20 + 4 + 2, none⟩), .pointer (some ⟨gB, (L - 1) * 20 + 7 + 2, none⟩), .pointer (some ⟨gB, (L - 1) * 20 + 10 + 2, none⟩), .pointer (some ⟨gB, (L - 1) * 20 + 13, none⟩), .pointer (some ⟨gB, (L - 1) * 20 + 14 + 2, none⟩), .pointer (some ⟨gB, (L - 1) * 20 + 17 + 2, none⟩)] := XP
    clear hw3 hw4 Z2 v3 a4 XP BP MM hcs
    generalize (w4.alloc (.cells #[.pointer (some ⟨w2.heap.size, 2, none⟩), .pointer (some ⟨w2.heap.size, 4, none⟩), .pointer (some ⟨w2.heap.size, 7, none⟩), .pointer (some ⟨gB, (L - 1) * 20, none⟩), .pointer (some ⟨gB, (L - 1) * 20 + 1 + 2, none⟩), .pointer (some ⟨gB, (L - 1) * 20 + 4 + 2, none⟩), .pointer (some ⟨gB, (L - 1) * 20 + 7 + 2, none⟩), .pointer (some ⟨gB, (L - 1) * 20 + 10 + 2, none⟩), .pointer (some ⟨gB, (L - 1) * 20 + 13, none⟩), .pointer (some ⟨gB, (L - 1) * 20 + 14 + 2, none⟩), .pointer (some ⟨gB, (L - 1) * 20 + 17 + 2, none⟩)] 38)).drew = w5 at *
    replace X0 := X0.below BP2
    replace Y2 := Y2.below BP2
    replace BL := BL.below BP2
    replace B3 := below_then B3 BP2
    replace WA : ∀ i, i < 11 → ∃ gd n, Wanted w5 w2.heap.size C (w.heap.size + 1) (ptrN w2.heap.size gB L i).1 (ptrN w2.heap.size gB L i).2 gd n := wanted_all (base := w.heap.size + 1) (MW.below BP2) (ML.below gBl BP2) Y2 g9 (by omega) e1 e2 e4 e5 hshape
    have hWok : (mkW V D L ge gB gl go).Ok := mkW_ok (by omega) (by omega)
    have K1 := K0
    simp only [e1, e2, e3, e4, e5] at K1 hfit
    have CK := fun wv hb => K1 (mkW V D L ge gB gl go) bl wv hWok hb
    rw [hfit] at CK
    clear MW ML BP2 gBl B2
    by_cases hin : wh < 0 ∨ 11 ≤ wh
    · have hor : wh < 0 ∨ (0 ≤ wh ∧ 11 ≤ wh) := by omega
      clear hin
      rcases hor with hor | hor
      all_goals
        go_wp2_with fail
        refine (awake6_any _).mono ?_
        rintro e w6 ⟨rfl, B6⟩
        replace X0 := X0.below B6
        replace Y2 := Y2.below B6
        replace BL := BL.below B6
        replace B6 := below_then B3 B6
        have a0 : w6.cell? ⟨w.heap.size, 0, none⟩ = some (.int .i64 (V : Int)) := by have := (cfg_cells X0).1; rw [e1] at this; exact this
        have a1 : w6.cell? ⟨w.heap.size, 1, none⟩ = some (.int .i64 (D : Int)) := by have := (cfg_cells X0).2.1; rw [e2] at this; exact this
        have a2 : w6.cell? ⟨w.heap.size, 2, none⟩ = some (.int .i64 (Hd : Int)) := by have := (cfg_cells X0).2.2.1; rw [e3] at this; exact this
        have a3 : w6.cell? ⟨w.heap.size, 3, none⟩ = some (.int .i64 (H : Int)) := by have := (cfg_cells X0).2.2.2.1; rw [e4] at this; exact this
        have a4 : w6.cell? ⟨w.heap.size, 4, none⟩ = some (.int .i64 (L : Int)) := by have := (cfg_cells X0).2.2.2.2; rw [e5] at this; exact this
        have v0 : w6.cell? ⟨w2.heap.size, 0, none⟩ = some (.int .i64 (V : Int)) := Y2.cell 0 rfl
        have v1 : w6.cell? ⟨w2.heap.size, 1, none⟩ = some (.int .i64 (D : Int)) := Y2.cell 1 rfl
        have v2 : w6.cell? ⟨w2.heap.size, 2, none⟩ = some (.slice (some ⟨ge, 0, none⟩) (V * D) (V * D)) := Y2.cell 2 rfl
        have v3 : w6.cell? ⟨w2.heap.size, 3, none⟩ = some (.slice (some ⟨gB, 0, none⟩) L L) := Y2.cell 3 rfl
        have v4 : w6.cell? ⟨w2.heap.size, 4, none⟩ = some (.slice (some ⟨gl, 0, none⟩) D D) := Y2.cell 4 rfl
        have v5 : w6.cell? ⟨w2.heap.size, 5, none⟩ = some (.int .i64 (V : Int)) := Y2.cell 5 rfl
        have v6 : w6.cell? ⟨w2.heap.size, 6, none⟩ = some (.int .i64 (D : Int)) := Y2.cell 6 rfl
        have v7 : w6.cell? ⟨w2.heap.size, 7, none⟩ = some (.slice (some ⟨go, 0, none⟩) (V * D) (V * D)) := Y2.cell 7 rfl
        go_wp2_with (go_at_call 6; refine (CK w6 BL).mono ?_; rintro e w7 ⟨rfl, B7⟩)
        go_ret
        exact ⟨rfl, below_then B6 B7⟩
    · obtain ⟨i, rfl⟩ : ∃ i : Nat, wh = i := ⟨wh.toNat, by omega⟩
      have hi : i < 11 := by omega
      clear hin bw
      have a0 : w5.cell? ⟨w.heap.size, 0, none⟩ = some (.int .i64 (V : Int)) := by have := (cfg_cells X0).1; rw [e1] at this; exact this
      have a1 : w5.cell? ⟨w.heap.size, 1, none⟩ = some (.int .i64 (D : Int)) := by have := (cfg_cells X0).2.1; rw [e2] at this; exact this
      have a2 : w5.cell? ⟨w.heap.size, 2, none⟩ = some (.int .i64 (Hd : Int)) := by have := (cfg_cells X0).2.2.1; rw [e3] at this; exact this
      have a3 : w5.cell? ⟨w.heap.size, 3, none⟩ = some (.int .i64 (H : Int)) := by have := (cfg_cells X0).2.2.2.1; rw [e4] at this; exact this
      have a4 : w5.cell? ⟨w.heap.size, 4, none⟩ = some (.int .i64 (L : Int)) := by have := (cfg_cells X0).2.2.2.2; rw [e5] at this; exact this
      have v0 : w5.cell? ⟨w2.heap.size, 0, none⟩ = some (.int .i64 (V : Int)) := Y2.cell 0 rfl
      have v1 : w5.cell? ⟨w2.heap.size, 1, none⟩ = some (.int .i64 (D : Int)) := Y2.cell 1 rfl
      have v2 : w5.cell? ⟨w2.heap.size, 2, none⟩ = some (.slice (some ⟨ge, 0, none⟩) (V * D) (V * D)) := Y2.cell 2 rfl
      have v3 : w5.cell? ⟨w2.heap.size, 3, none⟩ = some (.slice (some ⟨gB, 0, none⟩) L L) := Y2.cell 3 rfl
      have v4 : w5.cell? ⟨w2.heap.size, 4, none⟩ = some (.slice (some ⟨gl, 0, none⟩) D D) := Y2.cell 4 rfl
      have v5 : w5.cell? ⟨w2.heap.size, 5, none⟩ = some (.int .i64 (V : Int)) := Y2.cell 5 rfl
      have v6 : w5.cell? ⟨w2.heap.size, 6, none⟩ = some (.int .i64 (D : Int)) := Y2.cell 6 rfl
      have v7 : w5.cell? ⟨w2.heap.size, 7, none⟩ = some (.slice (some ⟨go, 0, none⟩) (V * D) (V * D)) := Y2.cell 7 rfl
      go_wp2_with fail
      refine (CK w5 BL).mono ?_
      rintro e w6 ⟨rfl, B6⟩
      replace X0 := X0.below B6
      replace XP2 := XP2.below B6
      have WB : ∃ gd n, Wanted w6 w2.heap.size C (w.heap.size + 1) (ptrN w2.heap.size gB L i).1 (ptrN w2.heap.size gB L i).2 gd n := by
        obtain ⟨gd, n, W1⟩ := WA i hi
        exact ⟨gd, n, W1.below B6⟩
      replace B6 := below_then B3 B6
      clear a0 a1 a2 a3 a4 v0 v1 v2 v3 v4 v5 v6 v7 WA BL CK B3 hfit Y2
      generalize w4.heap.size = gP at *
      go_upto_region 10 with fail
      go_cut [13] from 14 (fun s wc => ∃ ga oa gd n, s = .pointer (some ⟨ga, oa, none⟩) ∧ Wanted w6 w2.heap.size C (w.heap.size + 1) ga oa gd n ∧ wc = w6)
      case first =>
        obtain ⟨gd, n, W1⟩ := WB
        have hor : i = 0 ∨ i = 1 ∨ i = 2 ∨ i = 3 ∨ i = 4 ∨ i = 5 ∨ i = 6 ∨ i = 7 ∨ i = 8 ∨ i = 9 ∨ i = 10 := by omega
        rcases hor with rfl | rfl | rfl | rfl | rfl | rfl | rfl | rfl | rfl | rfl | rfl
        · have c : w6.cell? ⟨gP, 0, none⟩ = some (.pointer (some ⟨w2.heap.size, 2, none⟩)) := XP2.cell 0 rfl
          go_wp2_with fail
          go_meet
          case rel => exact ⟨_, _, gd, n, rfl, W1, rfl⟩
        · have c : w6.cell? ⟨gP, 1, none⟩ = some (.pointer (some ⟨w2.heap.size, 4, none⟩)) := XP2.cell 1 rfl
          go_wp2_with fail
          go_meet
          case rel => exact ⟨_, _, gd, n, rfl, W1, rfl⟩
        · have c : w6.cell? ⟨gP, 2, none⟩ = some (.pointer (some ⟨w2.heap.size, 7, none⟩)) := XP2.cell 2 rfl
          go_wp2_with fail
          go_meet
          case rel => exact ⟨_, _, gd, n, rfl, W1, rfl⟩
        · have c : w6.cell? ⟨gP, 3, none⟩ = some (.pointer (some ⟨gB, (L - 1) * 20, none⟩)) := XP2.cell 3 rfl
          go_wp2_with fail
          go_meet
          case rel => exact ⟨_, _, gd, n, rfl, W1, rfl⟩
        · have c : w6.cell? ⟨gP, 4, none⟩ = some (.pointer (some ⟨gB, (L - 1) * 20 + 1 + 2, none⟩)) := XP2.cell 4 rfl
          go_wp2_with fail
          go_meet
          case rel => exact ⟨_, _, gd, n, rfl, W1, rfl⟩
        · have c : w6.cell? ⟨gP, 5, none⟩ = some (.pointer (some ⟨gB, (L - 1) * 20 + 4 + 2, none⟩)) := XP2.cell 5 rfl
          go_wp2_with fail
          go_meet
          case rel => exact ⟨_, _, gd, n, rfl, W1, rfl⟩
        · have c : w6.cell? ⟨gP, 6, none⟩ = some (.pointer (some ⟨gB, (L - 1) * 20 + 7 + 2, none⟩)) := XP2.cell 6 rfl
          go_wp2_with fail
          go_meet
          case rel => exact ⟨_, _, gd, n, rfl, W1, rfl⟩
        · have c : w6.cell? ⟨gP, 7, none⟩ = some (.pointer (some ⟨gB, (L - 1) * 20 + 10 + 2, none⟩)) := XP2.cell 7 rfl
          go_wp2_with fail
          go_meet
          case rel => exact ⟨_, _, gd, n, rfl, W1, rfl⟩
        · have c : w6.cell? ⟨gP, 8, none⟩ = some (.pointer (some ⟨gB, (L - 1) * 20 + 13, none⟩)) := XP2.cell 8 rfl
          go_wp2_with fail
          go_meet
          case rel => exact ⟨_, _, gd, n, rfl, W1, rfl⟩
        · have c : w6.cell? ⟨gP, 9, none⟩ = some (.pointer (some ⟨gB, (L - 1) * 20 + 14 + 2, none⟩)) := XP2.cell 9 rfl
          go_wp2_with fail
          go_meet
          case rel => exact ⟨_, _, gd, n, rfl, W1, rfl⟩
        · have c : w6.cell? ⟨gP, 10, none⟩ = some (.pointer (some ⟨gB, (L - 1) * 20 + 17 + 2, none⟩)) := XP2.cell 10 rfl
          go_wp2_with fail
          go_meet
          case rel => exact ⟨_, _, gd, n, rfl, W1, rfl⟩
      case rest =>
        obtain ⟨ga, oa, gd, n, rfl, W1, hwc⟩ := hcut
        subst hwc
        generalize wc = w6 at *
        clear WB XP2
        obtain ⟨Wc, Wf, ⟨Bf, A, WF⟩, ⟨n1, n2⟩, Wl, We⟩ := W1
        have hga : ga < w6.heap.size := by simpa using World.block_lt_of_cell? w6 _ Wc
        cases mo with
        | true =>
          have F0 := fresh_empty w6
          have B0 : Below w6.heap.size w6 (w6.alloc (.cells #[] 41)) := (Below.refl _ _).alloc (Nat.le_refl _) _
          have c0 := (B0.cell (p := ⟨ga, oa, none⟩) hga).trans Wc
          have G0 := WF.below B0
          have s6 := B0.size
          generalize hwa : w6.alloc (.cells #[] 41) = wa at *
          go_wp2_with (first
            | (at_builtin; refine wpList_append_row rfl (.tmp 99) (.tmp 102) rfl w6.heap.size w6.heap.size 0 0 [] rfl F0 (some ⟨gd, 0, none⟩) n n A rfl G0.rowAt (fun h => by cases h) (by omega) s6 ?_; intro g1 c1 wb F1 B1; rw [Nat.zero_add] at F1 ⊢; have R := rowAt_one wb 5 (by omega); have BA : Below wb.heap.size wb (wb.alloc (.cells #[.int .i32 5] 41)) := (Below.refl _ _).alloc (Nat.le_refl _) _; have F2 := F1.below BA; have sb := B1.size; have sc := BA.size; have B2 := (B0.trans B1).trans (BA.mono (by omega)); generalize hwc : wb.alloc (.cells #[.int .i32 5] 41) = wc at *)
            | (at_builtin; refine wpList_append_row rfl (.tmp 103) (.tmp 104) rfl w6.heap.size g1 n c1 _ rfl (by exact F2) (some ⟨wb.heap.size, 0, none⟩) 1 1 [5] rfl (by exact R) (fun h => by cases h) (by omega) (by omega) ?_; intro g2 c2 wd F3 B3; have B4 := B2.trans B3; have cD := (B4.cell (p := ⟨ga, oa, none⟩) hga).trans Wc; have fD := (World.frozen?_of_block (w := w6) (a := ⟨ga, oa, none⟩) (B4.block ga hga)).trans Wf; obtain ⟨W', bs', E1, E2, E3, E4⟩ := We wd B4 ⟨some ⟨g2, 0, none⟩, n + 1, c2⟩ (by show n + 1 ≠ n; omega) (by show n + 1 ≤ _; omega); replace X0 := (X0.below B4).other (a := ⟨ga, oa, none⟩) (by show w.heap.size ≠ ga; omega) (.slice (some ⟨g2, 0, none⟩) (n + 1) c2); have B7 : Below w.heap.size w (wd.setCell ⟨ga, oa, none⟩ (.slice (some ⟨g2, 0, none⟩) (n + 1) c2)) := (below_then B6 B4).setCell (p := ⟨ga, oa, none⟩) (by show w.heap.size ≤ ga; omega) _; replace E1 : Blk (wd.setCell ⟨ga, oa, none⟩ (.slice (some ⟨g2, 0, none⟩) (n + 1) c2)) w2.heap.size 30 W'.cells := E1; replace E3 : BlocksAt (wd.setCell ⟨ga, oa, none⟩ (.slice (some ⟨g2, 0, none⟩) (n + 1) c2)) W'.b bs' := E3; generalize hw7 : wd.setCell ⟨ga, oa, none⟩ (.slice (some ⟨g2, 0, none⟩) (n + 1) c2) = w7 at *)
            | fail)
          rw [e1, e2, e3, e4, e5] at E4
          refine (awake6_any _).mono ?_
          rintro e w8 ⟨rfl, B8⟩
          replace X0 := X0.below B8
          replace E1 := E1.below B8
          replace E3 := E3.below B8
          replace B8 := below_then B7 B8
          clear hw7 B7 hwa hwc
          have a0 : w8.cell? ⟨w.heap.size, 0, none⟩ = some (.int .i64 (V : Int)) := by have := (cfg_cells X0).1; rw [e1] at this; exact this
          have a1 : w8.cell? ⟨w.heap.size, 1, none⟩ = some (.int .i64 (D : Int)) := by have := (cfg_cells X0).2.1; rw [e2] at this; exact this
          have a2 : w8.cell? ⟨w.heap.size, 2, none⟩ = some (.int .i64 (Hd : Int)) := by have := (cfg_cells X0).2.2.1; rw [e3] at this; exact this
          have a3 : w8.cell? ⟨w.heap.size, 3, none⟩ = some (.int .i64 (H : Int)) := by have := (cfg_cells X0).2.2.2.1; rw [e4] at this; exact this
          have a4 : w8.cell? ⟨w.heap.size, 4, none⟩ = some (.int .i64 (L : Int)) := by have := (cfg_cells X0).2.2.2.2; rw [e5] at this; exact this
          have v0 : w8.cell? ⟨w2.heap.size, 0, none⟩ = some (.int .i64 W'.e.r) := E1.cell 0 rfl
          have v1 : w8.cell? ⟨w2.heap.size, 1, none⟩ = some (.int .i64 W'.e.c) := E1.cell 1 rfl
          have v2 : w8.cell? ⟨w2.heap.size, 2, none⟩ = some (.slice W'.e.d.ao W'.e.d.n W'.e.d.c) := E1.cell 2 rfl
          have v3 : w8.cell? ⟨w2.heap.size, 3, none⟩ = some (.slice W'.b.ao W'.b.n W'.b.c) := E1.cell 3 rfl
          have v4 : w8.cell? ⟨w2.heap.size, 4, none⟩ = some (.slice W'.l.ao W'.l.n W'.l.c) := E1.cell 4 rfl
          have v5 : w8.cell? ⟨w2.heap.size, 5, none⟩ = some (.int .i64 W'.o.r) := E1.cell 5 rfl
          have v6 : w8.cell? ⟨w2.heap.size, 6, none⟩ = some (.int .i64 W'.o.c) := E1.cell 6 rfl
          have v7 : w8.cell? ⟨w2.heap.size, 7, none⟩ = some (.slice W'.o.d.ao W'.o.d.n W'.o.d.c) := E1.cell 7 rfl
          have CK := K1 W' bs' w8 E2 E3
          rw [E4] at CK
          go_wp2_with (go_at_call 6; refine CK.mono ?_; rintro e w9 ⟨rfl, B9⟩)
          go_ret
          exact ⟨rfl, below_then B8 B9⟩
        | false =>
          by_cases hn1 : n = 1
          · subst hn1
            obtain ⟨W', bs', E1, E2, E3, E4⟩ := We w6 (Below.refl _ _) ⟨some ⟨gd, 0, none⟩, 0, 0⟩ (by show 0 ≠ 1; omega) (by show 0 ≤ _; omega)
            replace E1 : Blk (w6.setCell ⟨ga, oa, none⟩ (.slice (some ⟨gd, 0, none⟩) 0 0)) w2.heap.size 30 W'.cells := E1
            replace E3 : BlocksAt (w6.setCell ⟨ga, oa, none⟩ (.slice (some ⟨gd, 0, none⟩) 0 0)) W'.b bs' := E3
            replace X0 := X0.other (a := ⟨ga, oa, none⟩) (by show w.heap.size ≠ ga; omega) (.slice (some ⟨gd, 0, none⟩) 0 0)
            have B7 : Below w.heap.size w (w6.setCell ⟨ga, oa, none⟩ (.slice (some ⟨gd, 0, none⟩) 0 0)) := B6.setCell (p := ⟨ga, oa, none⟩) (by show w.heap.size ≤ ga; omega) _
            generalize hw7 : w6.setCell ⟨ga, oa, none⟩ (.slice (some ⟨gd, 0, none⟩) 0 0) = w7 at *
            rw [e1, e2, e3, e4, e5] at E4
            go_wp2_with fail
            refine (awake6_any _).mono ?_
            rintro e w8 ⟨rfl, B8⟩
            replace X0 := X0.below B8
            replace E1 := E1.below B8
            replace E3 := E3.below B8
            replace B8 := below_then B7 B8
            clear hw7 B7
            have a0 : w8.cell? ⟨w.heap.size, 0, none⟩ = some (.int .i64 (V : Int)) := by have := (cfg_cells X0).1; rw [e1] at this; exact this
            have a1 : w8.cell? ⟨w.heap.size, 1, none⟩ = some (.int .i64 (D : Int)) := by have := (cfg_cells X0).2.1; rw [e2] at this; exact this
            have a2 : w8.cell? ⟨w.heap.size, 2, none⟩ = some (.int .i64 (Hd : Int)) := by have := (cfg_cells X0).2.2.1; rw [e3] at this; exact this
            have a3 : w8.cell? ⟨w.heap.size, 3, none⟩ = some (.int .i64 (H : Int)) := by have := (cfg_cells X0).2.2.2.1; rw [e4] at this; exact this
            have a4 : w8.cell? ⟨w.heap.size, 4, none⟩ = some (.int .i64 (L : Int)) := by have := (cfg_cells X0).2.2.2.2; rw [e5] at this; exact this
            have v0 : w8.cell? ⟨w2.heap.size, 0, none⟩ = some (.int .i64 W'.e.r) := E1.cell 0 rfl
            have v1 : w8.cell? ⟨w2.heap.size, 1, none⟩ = some (.int .i64 W'.e.c) := E1.cell 1 rfl
            have v2 : w8.cell? ⟨w2.heap.size, 2, none⟩ = some (.slice W'.e.d.ao W'.e.d.n W'.e.d.c) := E1.cell 2 rfl
            have v3 : w8.cell? ⟨w2.heap.size, 3, none⟩ = some (.slice W'.b.ao W'.b.n W'.b.c) := E1.cell 3 rfl
            have v4 : w8.cell? ⟨w2.heap.size, 4, none⟩ = some (.slice W'.l.ao W'.l.n W'.l.c) := E1.cell 4 rfl
            have v5 : w8.cell? ⟨w2.heap.size, 5, none⟩ = some (.int .i64 W'.o.r) := E1.cell 5 rfl
            have v6 : w8.cell? ⟨w2.heap.size, 6, none⟩ = some (.int .i64 W'.o.c) := E1.cell 6 rfl
            have v7 : w8.cell? ⟨w2.heap.size, 7, none⟩ = some (.slice W'.o.d.ao W'.o.d.n W'.o.d.c) := E1.cell 7 rfl
            have CK := K1 W' bs' w8 E2 E3
            rw [E4] at CK
            go_wp2_with (go_at_call 6; refine CK.mono ?_; rintro e w9 ⟨rfl, B9⟩)
            go_ret
            exact ⟨rfl, below_then B8 B9⟩
          · have hn2 : 1 < n := by omega
            obtain ⟨W', bs', E1, E2, E3, E4⟩ := We w6 (Below.refl _ _) ⟨some ⟨gd, 1, none⟩, n - 1, n - 1⟩ (by show n - 1 ≠ n; omega) (by show n - 1 ≤ _; omega)
            replace E1 : Blk (w6.setCell ⟨ga, oa, none⟩ (.slice (some ⟨gd, 1, none⟩) (n - 1) (n - 1))) w2.heap.size 30 W'.cells := E1
            replace E3 : BlocksAt (w6.setCell ⟨ga, oa, none⟩ (.slice (some ⟨gd, 1, none⟩) (n - 1) (n - 1))) W'.b bs' := E3
            replace X0 := X0.other (a := ⟨ga, oa, none⟩) (by show w.heap.size ≠ ga; omega) (.slice (some ⟨gd, 1, none⟩) (n - 1) (n - 1))
            have B7 : Below w.heap.size w (w6.setCell ⟨ga, oa, none⟩ (.slice (some ⟨gd, 1, none⟩) (n - 1) (n - 1))) := B6.setCell (p := ⟨ga, oa, none⟩) (by show w.heap.size ≤ ga; omega) _
            generalize hw7 : w6.setCell ⟨ga, oa, none⟩ (.slice (some ⟨gd, 1, none⟩) (n - 1) (n - 1)) = w7 at *
            rw [e1, e2, e3, e4, e5] at E4
            go_wp2_with fail
            refine (awake6_any _).mono ?_
            rintro e w8 ⟨rfl, B8⟩
            replace X0 := X0.below B8
            replace E1 := E1.below B8
            replace E3 := E3.below B8
            replace B8 := below_then B7 B8
            clear hw7 B7
            have a0 : w8.cell? ⟨w.heap.size, 0, none⟩ = some (.int .i64 (V : Int)) := by have := (cfg_cells X0).1; rw [e1] at this; exact this
            have a1 : w8.cell? ⟨w.heap.size, 1, none⟩ = some (.int .i64 (D : Int)) := by have := (cfg_cells X0).2.1; rw [e2] at this; exact this
            have a2 : w8.cell? ⟨w.heap.size, 2, none⟩ = some (.int .i64 (Hd : Int)) := by have := (cfg_cells X0).2.2.1; rw [e3] at this; exact this
            have a3 : w8.cell? ⟨w.heap.size, 3, none⟩ = some (.int .i64 (H : Int)) := by have := (cfg_cells X0).2.2.2.1; rw [e4] at this; exact this
            have a4 : w8.cell? ⟨w.heap.size, 4, none⟩ = some (.int .i64 (L : Int)) := by have := (cfg_cells X0).2.2.2.2; rw [e5] at this; exact this
            have v0 : w8.cell? ⟨w2.heap.size, 0, none⟩ = some (.int .i64 W'.e.r) := E1.cell 0 rfl
            have v1 : w8.cell? ⟨w2.heap.size, 1, none⟩ = some (.int .i64 W'.e.c) := E1.cell 1 rfl
            have v2 : w8.cell? ⟨w2.heap.size, 2, none⟩ = some (.slice W'.e.d.ao W'.e.d.n W'.e.d.c) := E1.cell 2 rfl
            have v3 : w8.cell? ⟨w2.heap.size, 3, none⟩ = some (.slice W'.b.ao W'.b.n W'.b.c) := E1.cell 3 rfl
            have v4 : w8.cell? ⟨w2.heap.size, 4, none⟩ = some (.slice W'.l.ao W'.l.n W'.l.c) := E1.cell 4 rfl
            have v5 : w8.cell? ⟨w2.heap.size, 5, none⟩ = some (.int .i64 W'.o.r) := E1.cell 5 rfl
            have v6 : w8.cell? ⟨w2.heap.size, 6, none⟩ = some (.int .i64 W'.o.c) := E1.cell 6 rfl
            have v7 : w8.cell? ⟨w2.heap.size, 7, none⟩ = some (.slice W'.o.d.ao W'.o.d.n W'.o.d.c) := E1.cell 7 rfl
            have CK := K1 W' bs' w8 E2 E3
            rw [E4] at CK
            go_wp2_with (go_at_call 6; refine CK.mono ?_; rintro e w9 ⟨rfl, B9⟩)
            go_ret
            exact ⟨rfl, below_then B8 B9⟩
  · have hq' : (q == 0) = false := by simpa using hq
    go_wp2_with (first | (refine wpList_store_row rfl 30 _ _ rfl w2.heap.size cs rfl rfl 30 _ Z2 (by rw [hcs]; exact Try.infoW) hcs.symm MM.one ?_; rw [hw4]) | (go_at_call 5; refine (awake6_any _).mono ?_; rintro e w9 ⟨rfl, B9⟩))
    go_ret
    exact ⟨rfl, below_then B3 B9⟩
end Go.Proofs.Ytmocofkcaamnoac
