/- The document's own answers of layer 7: a score, and the errors' numbers; and what Scores answers where a key is of another length. -/
import Derived.Test.YtjcacejkiaepnaaDoorHeads2
import Derived.Test.YtjcacejkiaepnaaDoorVecL
import Derived.Test.YtjcacejkiaepnaaDoorCRef
namespace Go.Proofs.YtjcacejkiaepnaaDoor
open Go.ChangeShapes Go.WideShapes Go.ChangeAt Go.RowKit
set_option maxHeartbeats 1600000 in
theorem scores_bad (qo ko : Option Addr) (n m cq ck p : Nat) (Q : List Int) (K : List (List Int)) (w : World) (hQ : RowAt w qo n Q) (hK : GridAt w ko m K) (hn : n ≤ 4096) (hm : m ≤ 4096) (hp : p < m) (hl : ∀ t, t < p → (rowOf K t).length = n) (hb : (rowOf K p).length ≠ n) (hb4 : (rowOf K p).length ≤ 4096) :
   Calls Tryd.prog 16 #[.slice qo n cq, .slice ko m ck] w fun e w' => e = .returned (.tuple #[.slice none 0 0, .int .i64 6]) ∧ Below w.heap.size w w' := by
  have hmk := run_make_row' (P := Tryd.prog) 22 35 (.int .i32 0) 4 Tryd.underlying22 Tryd.infoNum rfl .i64 .i64 m (by omega) (by omega)
  have F0 := fresh_made w m (by omega)
  have B0 : Below w.heap.size w (w.alloc (.cells (madeCells #[.int .i32 0] m) 35)) := (Below.refl _ _).alloc (Nat.le_refl _) _
  have HK : Hid (∀ wv, Below w.heap.size w wv → GridAt wv ko m K) := fun wv hb => hK.below hb
  have HQ : Hid (∀ wv, Below w.heap.size w wv → RowAt wv qo n Q) := fun wv hb => hQ.below hb
  have hk := scoreK_bd n
  have sb := sat_bd (clip n * 65536)
  have HE : Hid (invN (sat (clip n * 65536)) = scoreK n) := rfl
  go_enter Tryd.func16, Tryd.ntmps16
  go_wp2_with (first | (go_at_call 24; refine (of_any _ _ (by omega) (by omega)).mono ?_; rintro e w ⟨rfl, rfl⟩) | (go_at_call 23; refine (inv_any _ _ (by omega) (by omega)).mono ?_; rintro e w ⟨rfl, rfl⟩; rw [HE.out]))
  clear hmk hK hQ
  generalize w.alloc (.cells (madeCells #[.int .i32 0] m) 35) = w0 at *
  go_loopg [21] m (fun r i wr => ∃ j : Nat, j ≤ p ∧ r = m - j ∧ i = .int .i64 j ∧ Fresh wr w.heap.size w.heap.size m m (tab m fun i => if i < j then scoreN Q (rowOf K i) n else 0) ∧ Below w.heap.size w wr)
  case atStart => exact ⟨0, by omega, by omega, rfl, by rw [tab_start]; exact F0, B0⟩
  case round =>
    obtain ⟨j, hj, rfl, rfl, F1, B1⟩ := hrel
    clear F0 B0
    have hlm : j < m := by omega
    have R1 := HK.out _ B1
    have A1 := HQ.out _ B1
    obtain ⟨b, o, rfl, hc⟩ := R1.cells (by omega)
    obtain ⟨ro, m1, k1, q1, AR⟩ := hc j hlm
    have l1 := AR.row.len
    by_cases hlj : j < p
    · rw [hl j hlj] at l1
      subst l1
      have f1 := F1.frozen j
      have f2 := F1.cell hlm
      have d1 := dotN_bd Q (rowOf K j) n
      have d2 := scoreN_bd Q (rowOf K j) n
      clear hc R1
      go_wp2_with (first | (go_at_call 25; refine (dot_any _ _ _ _ _ _ _ _ A1 AR.row hn).mono ?_; rintro e w1 ⟨rfl, n1, rfl⟩) | (go_at_call 26; refine (mul_any _ _ _ (by omega) (by omega) (by omega) (by omega)).mono ?_; rintro e w' ⟨rfl, n2, rfl⟩))
      go_roundg (m - (j + 1))
      case measure => omega
      case rel => exact ⟨j + 1, by omega, rfl, by go_num, (F1.drewN (n1 + n2)).step (f := fun i => scoreN Q (rowOf K i) n) (scoreN Q (rowOf K j) n) hlm rfl (by omega), (below_drewN B1 (n1 + n2)).setCell (Nat.le_refl _) _⟩
    · obtain rfl : j = p := by omega
      have hx := AR.row.max
      have hne : fitN n m1 = 6 := by unfold fitN; rw [if_neg (by omega), if_pos (by omega)]
      clear hc R1 AR A1 F1
      go_wp2_with (go_at_call 25; refine (dot_bad _ _ _ _ _ _ _ (by omega) hx (by rw [hne]; omega)).mono ?_; rw [hne]; rintro e wr ⟨rfl, rfl⟩)
      go_ret2
      exact ⟨rfl, B1⟩
theorem refDot2 (ao bo : Option Addr) (n1 n2 n ca cb : Nat) (A B : List Int) (w : World) (h1 : n1 = n) (h2 : n2 = n) (hA : RowAt w ao n A) (hB : RowAt w bo n B) :
   Calls Tryd.prog 21 #[.slice ao n1 ca, .slice bo n2 cb] w fun e w' => e = .returned (.int .i32 (dotN A B n)) ∧ ∃ m, w' = w.drewN m := by
  subst h1
  subst h2
  exact refDot_any _ _ _ _ _ _ _ _ hA hB
theorem drew_drewN (w : World) (a b : Nat) : w.drew.drewN (a + b) = w.drewN (1 + a + b) := by
  have h : w.drew = w.drewN 1 := rfl
  rw [h, World.drewN_drewN, Nat.add_assoc]
set_option maxHeartbeats 1600000 in
theorem refScore_any (b o n cq b' o' n' ck f s : Nat) (Q Kr : List Int) (w : World) (hQ : Arg w (some ⟨b, o, none⟩) n cq Q) (hK : Arg w (some ⟨b', o', none⟩) n' ck Kr) (h1 : f + s ≤ n) (h2 : f + s ≤ n') (h4 : s ≤ 4096) (h0 : 1 ≤ s ∨ f = 0) :
   Calls Tryd.prog 17 #[.slice (some ⟨b, o, none⟩) n cq, .slice (some ⟨b', o', none⟩) n' ck, .int .i64 f, .int .i64 s] w fun e w' => e = .returned (.int .i32 (scoreN (partOf Q f s) (partOf Kr f s) s)) ∧ ∃ d, w' = w.drewN d := by
  have P1 : RowAt w (some ⟨b, o + f, none⟩) s (partOf Q f s) := hQ.row.part f s h1
  have P2 : RowAt w (some ⟨b', o' + f, none⟩) s (partOf Kr f s) := hK.row.part f s h2
  have x1 := hQ.fit
  have x2 := hQ.max
  have x3 := hK.fit
  have x4 := hK.max
  have y0 : IntKind.i64.wrap ((f : Int) + (s : Int)) = (f : Int) + (s : Int) := wrap_in (by omega)
  have y1 : 0 ≤ (f : Int) + (s : Int) := by omega
  have y2 : (f : Int) + (s : Int) ≤ (cq : Int) := by omega
  have y3 : (f : Int) + (s : Int) ≤ (ck : Int) := by omega
  have HC : Hid (sat ((s : Int) * 65536) = sat (clip s * 65536)) := by show _ = _; unfold sat clip; omega
  have HE : Hid (invN (sat (clip s * 65536)) = scoreK s) := rfl
  have sb := sat_bd (clip s * 65536)
  have kb := scoreK_bd s
  have db := dotN_bd (partOf Q f s) (partOf Kr f s) s
  have ys : IntKind.i64.wrap ((s : Int) * 65536) = (s : Int) * 65536 := wrap_in (by omega)
  clear hQ hK
  replace h0 : 1 ≤ s ∨ (s = 0 ∧ f = 0) := by omega
  rcases h0 with h0 | h0
  · have y4 : ¬ cq = f := by omega
    have y5 : ¬ ck = f := by omega
    go_enter Tryd.func17, Tryd.ntmps17
    go_wp2_with fail
    go_region_with (first
        | (go_at_call 21; refine (refDot2 _ _ _ _ s _ _ _ _ _ (by omega) (by omega) (P1.below (Below.refl _ _).drew) (P2.below (Below.refl _ _).drew)).mono ?_; rintro e w1 ⟨rfl, d1, hw1⟩; have HW1 : Hid (w1 = w.drew.drewN d1) := hw1; clear hw1)
        | (go_at_call 29; refine (refSat_any _ _ (by omega) (by omega)).mono ?_; rintro e w1 ⟨rfl, rfl⟩; rw [HC.out])
        | (go_at_call 28; refine (refInv_any _ _ (by omega) (by omega)).mono ?_; rintro e w1 ⟨rfl, rfl⟩; rw [HE.out])
        | (go_at_call 27; refine (refMul_any _ _ _ (by omega) (by omega) (by omega) (by omega)).mono ?_; rintro e w2 ⟨rfl, d2, hw2⟩; have HW2 : Hid (w2 = w1.drewN d2) := hw2; clear hw2))
    all_goals
      go_wp2
      go_ret
      exact ⟨rfl, 1 + d1 + d2, by rw [HW2.out, HW1.out, World.drewN_drewN]; exact drew_drewN _ _ _⟩
  · obtain ⟨rfl, rfl⟩ := h0
    rw [show partOf Q 0 0 = [] from by simp [partOf], show partOf Kr 0 0 = [] from by simp [partOf]] at *
    have y6 : IntKind.i64.wrap 0 = 0 := rfl
    have HC : Hid (sat 0 = sat (clip 0 * 65536)) := rfl
    have HE : Hid (invN (sat (clip 0 * 65536)) = scoreK 0) := rfl
    have sb := sat_bd (clip 0 * 65536)
    clear y0 y1 y2 y3 P1 P2 ys
    by_cases z1 : cq = 0
    all_goals by_cases z2 : ck = 0
    all_goals
      go_enter Tryd.func17, Tryd.ntmps17
      go_wp2_with fail
      go_region_with (first
          | (go_at_call 21; refine (refDot_any _ _ 0 _ _ [] [] _ (RowAt.nil _ _) (RowAt.nil _ _)).mono ?_; rintro e w1 ⟨rfl, d1, hw1⟩; have HW1 : Hid (w1 = w.drew.drewN d1) := hw1; clear hw1)
          | (go_at_call 29; refine (refSat_any 0 _ (by omega) (by omega)).mono ?_; rintro e w1 ⟨rfl, rfl⟩; rw [HC.out])
          | (go_at_call 28; refine (refInv_any _ _ (by omega) (by omega)).mono ?_; rintro e w1 ⟨rfl, rfl⟩; rw [HE.out])
          | (go_at_call 27; refine (refMul_any _ _ _ (by omega) (by omega) (by omega) (by omega)).mono ?_; rintro e w2 ⟨rfl, d2, hw2⟩; have HW2 : Hid (w2 = w1.drewN d2) := hw2; clear hw2))
      all_goals
        go_wp2
        go_ret
        exact ⟨rfl, 1 + d1 + d2, by rw [HW2.out, HW1.out, World.drewN_drewN]; exact drew_drewN _ _ _⟩
end Go.Proofs.YtjcacejkiaepnaaDoor
