/- The Go text of SoftSize returns true at every input, where the table of steps lies as the program's text lays it. -/
import Derived.Test.YtmocofkcaamnoabDoorSoftA
import Derived.Test.YtmocofkcaamnoabDoorApp2
import Derived.Test.YtmocofkcaamnoabDoorSzNum
namespace Go.Proofs.YtmocofkcaamnoabDoor
open Go.ChangeShapes Go.WideShapes Go.ChangeAt Go.RowKit
theorem tab_snoc3 (n : Nat) (f : Nat → Int) : tab (n + 1) f = tab n f ++ [f n] := by unfold tab; rw [List.range_succ, List.map_append]; rfl
set_option maxRecDepth 100000 in
set_option maxHeartbeats 3200000 in
theorem softSize_walk (ao : Option Addr) (n ca : Nat) (Z : List Int) (w : World) (hA : Arg w ao n ca Z) (hT : Tab w) :
    Calls Tryd.prog 3 #[.slice ao n ca] w fun e w' => e = .returned (.bool true) ∧ Below w.heap.size w w' := by
  have hn := hA.row.max
  have hfit := hA.max
  have sZ := hA.row.small
  have HR : Hid (∀ wv, Below w.heap.size w wv → RowAt wv ao n Z) := fun wv hb => hA.row.below hb
  have F1 := fresh_empty w
  have B1 : Below w.heap.size w (w.alloc (.cells #[] 23)) := (Below.refl _ _).alloc (Nat.le_refl _) _
  have s1 : (w.alloc (.cells #[] 23)).heap.size = w.heap.size + 1 := by simp
  generalize hw1 : w.alloc (.cells #[] 23) = w1 at *
  have F2 := fresh_empty w1
  have B2 : Below w1.heap.size w1 (w1.alloc (.cells #[] 23)) := (Below.refl _ _).alloc (Nat.le_refl _) _
  have s2 : (w1.alloc (.cells #[] 23)).heap.size = w1.heap.size + 1 := by simp
  rw [s1] at F2
  replace F1 := F1.below B2
  replace B2 := below_then B1 B2
  generalize hw2 : w1.alloc (.cells #[] 23) = w2 at *
  have hT0 := hT
  clear hA hT
  go_enter Tryd.func3, Tryd.ntmps3
  go_wp2_with fail
  clear hw1 hw2
  go_loopg [3, 4, 5] 32 (fun r s q i wr => ∃ (k gs cs gg cg : Nat), k ≤ n ∧ k ≤ 32 ∧ r = 32 - k ∧ i = .int .i64 k ∧ s = .slice (some ⟨gs, 0, none⟩) k cs ∧ q = .slice (some ⟨gg, 0, none⟩) k cg ∧ Fresh wr w.heap.size gs k cs (tab k fun j => szN (el Z j)) ∧ Fresh wr w.heap.size gg k cg (tab k fun _ => 65536) ∧ gs ≠ gg ∧ Below w.heap.size w wr)
  case atStart => exact ⟨0, _, _, _, _, by omega, by omega, by omega, rfl, rfl, rfl, F1, F2.mono (by omega), by omega, B2⟩
  case round =>
    clear F1 F2 B1 B2 s1 s2
    obtain ⟨k, gs, cs, gg, cg, hk, hk2, rfl, rfl, rfl, rfl, FS, FG, ne, B7⟩ := hrel
    by_cases hlt : k < n ∧ k < 32
    · obtain ⟨l1, l2⟩ := hlt
      obtain ⟨b, o, rfl, hc⟩ := (HR.out _ B7).cells (by omega)
      have c1 := hc k l1
      have bx := sZ.el k
      have tb := tmod_bd (el Z k)
      have HX : Hid (tab (k + 1) (fun j => szN (el Z j)) = tab k (fun j => szN (el Z j)) ++ [szN (el Z k)]) := tab_snoc3 k _
      have HY : Hid (tab (k + 1) (fun _ => 65536) = tab k (fun _ => 65536) ++ [65536]) := tab_snoc3 k _
      have zb := szN_bd (el Z k)
      have s7 := B7.size
      have lS := FS.lt
      have lG := FG.lt
      have R := rowAt_one wr (szN (el Z k)) (by omega)
      have BA : Below wr.heap.size wr (wr.alloc (.cells #[.int .i32 (szN (el Z k))] 23)) := (Below.refl _ _).alloc (Nat.le_refl _) _
      have sa : (wr.alloc (.cells #[.int .i32 (szN (el Z k))] 23)).heap.size = wr.heap.size + 1 := by simp
      replace FS := FS.below BA
      replace FG := FG.below BA
      replace BA := below_then B7 BA
      generalize hw8 : wr.alloc (.cells #[.int .i32 (szN (el Z k))] 23) = w8 at *
      clear B7 hc
      by_cases hneg : (el Z k).tmod 196608 < 0
      · have hz : (el Z k).tmod 196608 - 16384 = szN (el Z k) := by unfold szN; rw [if_pos hneg]
        generalize szN (el Z k) = z at *
        generalize ht : (el Z k).tmod 196608 = t at *
        go_wp2_with (first | (at_builtin; refine wpList_append_one2 rfl (.tmp 30) _ rfl w.heap.size gs k cs _ rfl (by exact FS) wr.heap.size z rfl (by exact R) (by omega) (by omega) ?_; intro g' c' w9 FS9 B9 K9 W9; have FG9 := FG.of_block (K9 gg (by omega) (by omega)); have B10 := BA.trans B9; have s9 := B9.size; have m1 : g' ≠ gg := (by omega); have lS9 := FS9.lt; have lG9 := FG9.lt; clear FS FG BA K9 W9 B9 R hw8; have R := rowAt_one w9 65536 (by omega); have BA : Below w9.heap.size w9 (w9.alloc (.cells #[.int .i32 65536] 23)) := (Below.refl _ _).alloc (Nat.le_refl _) _; have sb : (w9.alloc (.cells #[.int .i32 65536] 23)).heap.size = w9.heap.size + 1 := (by simp); replace FS9 := FS9.below BA; replace FG9 := FG9.below BA; replace BA := below_then B10 BA; generalize hw11 : w9.alloc (.cells #[.int .i32 65536] 23) = w11 at *) | (at_builtin; refine wpList_append_one2 rfl (.tmp 40) _ rfl w.heap.size gg k cg _ rfl (by exact FG9) w9.heap.size 65536 rfl (by exact R) (by omega) (by omega) ?_; intro g'' c'' w12 FG12 B12 K12 W12))
        go_roundg (32 - (k + 1))
        case measure => omega
        case rel => exact ⟨k + 1, g', c', g'', c'', by omega, by omega, rfl, by go_num, rfl, rfl, by rw [HX.out]; exact FS9.of_block (K12 g' (by omega) (by omega)), by rw [HY.out]; exact FG12, by omega, BA.trans B12⟩
      · have hz : (el Z k).tmod 196608 + 16384 = szN (el Z k) := by unfold szN; rw [if_neg hneg]
        generalize szN (el Z k) = z at *
        generalize ht : (el Z k).tmod 196608 = t at *
        go_wp2_with (first | (at_builtin; refine wpList_append_one2 rfl (.tmp 35) _ rfl w.heap.size gs k cs _ rfl (by exact FS) wr.heap.size z rfl (by exact R) (by omega) (by omega) ?_; intro g' c' w9 FS9 B9 K9 W9; have FG9 := FG.of_block (K9 gg (by omega) (by omega)); have B10 := BA.trans B9; have s9 := B9.size; have m1 : g' ≠ gg := (by omega); have lS9 := FS9.lt; have lG9 := FG9.lt; clear FS FG BA K9 W9 B9 R hw8; have R := rowAt_one w9 65536 (by omega); have BA : Below w9.heap.size w9 (w9.alloc (.cells #[.int .i32 65536] 23)) := (Below.refl _ _).alloc (Nat.le_refl _) _; have sb : (w9.alloc (.cells #[.int .i32 65536] 23)).heap.size = w9.heap.size + 1 := (by simp); replace FS9 := FS9.below BA; replace FG9 := FG9.below BA; replace BA := below_then B10 BA; generalize hw11 : w9.alloc (.cells #[.int .i32 65536] 23) = w11 at *) | (at_builtin; refine wpList_append_one2 rfl (.tmp 40) _ rfl w.heap.size gg k cg _ rfl (by exact FG9) w9.heap.size 65536 rfl (by exact R) (by omega) (by omega) ?_; intro g'' c'' w12 FG12 B12 K12 W12))
        go_roundg (32 - (k + 1))
        case measure => omega
        case rel => exact ⟨k + 1, g', c', g'', c'', by omega, by omega, rfl, by go_num, rfl, rfl, by rw [HX.out]; exact FS9.of_block (K12 g' (by omega) (by omega)), by rw [HY.out]; exact FG12, by omega, BA.trans B12⟩
    · have T7 := hT0.next B7
      have hor : (n ≤ k) ∨ (k < n ∧ 32 ≤ k) := by omega
      clear hlt HR
      generalize wr = w7 at *
      have hm := size_of_norm (A := tab k fun j => szN (el Z j)) (G := tab k fun _ => 65536) (n := k)
      have hm2 : 1 ≤ k → _ := fun h1 => hm h1 hk2 (fun j hj => ⟨el Z j, el_tab hj⟩) (fun j hj => el_tab hj)
      clear hm
      generalize (tab k fun j => szN (el Z j)) = X at *
      generalize (tab k fun _ => (65536 : Int)) = Y at *
      by_cases h0 : k = 0
      · subst h0
        have hn0 : n = 0 := by omega
        subst hn0
        go_wp2_with (first | (go_at_call 4; refine (norm_bad _ _ _ _ _ _ _ (by omega) (by decide)).mono ?_; rintro e w' ⟨rfl, rfl⟩; rw [show sizeN 0 = 8 by rfl]) | (go_at_call 5; refine (sawake_any _ T7).mono ?_; rintro e w2 ⟨rfl, B8⟩))
        go_ret
        exact ⟨rfl, below_then B7 B8⟩
      obtain ⟨m1, m2⟩ := hm2 (by omega)
      clear hm2
      have hs : sizeN k = 0 := by unfold sizeN; rw [if_neg h0, if_neg (by omega)]
      rcases hor with hor | hor
      all_goals
        go_wp2_with fail
        refine (norm_any _ _ _ _ _ _ _ _ FS.rowAt FG.rowAt hs).mono ?_
        rintro e w9 ⟨g9, rfl, F9, B9⟩
        replace T7 := T7.next B9
        replace B9 := below_then B7 B9
        go_wp2_with fail
        refine (mean_any _ _ _ _ _ F9.rowAt hs).mono ?_
        rintro e w9 ⟨rfl, rfl⟩
        generalize meanN (tab k (normN X Y k)) k = M at *
        clear FS FG F9 hs
        go_wp2_with (go_at_call 5; refine (sawake_any _ T7).mono ?_; rintro e w2 ⟨rfl, B8⟩)
        go_ret
        exact ⟨rfl, below_then B9 B8⟩
end Go.Proofs.YtmocofkcaamnoabDoor
