/- The answers that the document fixes for layer 7. -/
import Derived.Test.YtjcacejkiaepnaaDoorHeads3
namespace Go.Proofs.YtjcacejkiaepnaaDoor
open Go.ChangeShapes Go.WideShapes Go.ChangeAt Go.RowKit
theorem att_lit : attEl [65536] [[0], [0]] [[2], [4]] 2 1 0 = 3 := by decide +kernel
theorem score_lit : scoreN [65536, 0, 0, 0] [65536, 5, 5, 5] 4 = 32768 := by decide +kernel
theorem chk_lit : chkN 1 2 2 [[0], [0]] [[2], [4]] 1 = 0 := by decide +kernel
theorem grid_two {w : World} {B C g h m n c d : Nat} {A E : List Int} (hA : Fresh w B g m c A) (hE : Fresh w C h n d E) : GridAt (w.alloc (.cells #[.slice (some ⟨g, 0, none⟩) m c, .slice (some ⟨h, 0, none⟩) n d] 22)) (some ⟨w.heap.size, 0, none⟩) 2 [A, E] := by
  refine ⟨rfl, by omega, fun _ => ⟨_, _, rfl, fun t ht => ?_⟩⟩
  have e := heap_alloc_new w (.cells #[.slice (some ⟨g, 0, none⟩) m c, .slice (some ⟨h, 0, none⟩) n d] 22)
  match t, ht with
  | 0, _ =>
    refine ⟨_, _, _, ?_, (hA.below ((Below.refl _ w).alloc (Nat.le_refl _) _)).arg⟩
    unfold World.cell?
    simp only [Nat.add_zero, e]
    rfl
  | 1, _ =>
    refine ⟨_, _, _, ?_, (hE.below ((Below.refl _ w).alloc (Nat.le_refl _) _)).arg⟩
    unfold World.cell?
    simp only [Nat.zero_add, e]
    rfl
theorem grid_lit1 {w : World} {B g m c : Nat} {A : List Int} (hA : Fresh w B g m c A) : GridAt (w.alloc (.cells #[.slice (some ⟨g, 0, none⟩) m c] 22)) (some ⟨w.heap.size, 0, none⟩) 1 [A] := by
  refine ⟨rfl, by omega, fun _ => ⟨_, _, rfl, fun t ht => ?_⟩⟩
  obtain rfl : t = 0 := by omega
  have e := heap_alloc_new w (.cells #[.slice (some ⟨g, 0, none⟩) m c] 22)
  refine ⟨_, _, _, ?_, (hA.below ((Below.refl _ w).alloc (Nat.le_refl _) _)).arg⟩
  unfold World.cell?
  simp only [Nat.add_zero, e]
  rfl
theorem lit_one (w : World) (x : Int) (hx : -2147483648 ≤ x ∧ x ≤ 2147483647) : Fresh (w.alloc (.cells #[.int .i32 x] 35)) w.heap.size w.heap.size 1 1 [x] := fresh_lit w [x] (by intro y hy; simp at hy; subst hy; exact hx) (by simp)
theorem lit_seven (w w1 w2 w3 w4 w5 w6 w7 : World) (e1 : w.alloc (.cells #[.int .i32 65536] 35) = w1) (e2 : w1.alloc (.cells #[.int .i32 0] 35) = w2) (e3 : w2.alloc (.cells #[.int .i32 0] 35) = w3)
    (e4 : w3.alloc (.cells #[.slice (some ⟨w.heap.size + 1, 0, none⟩) 1 1, .slice (some ⟨w.heap.size + 1 + 1, 0, none⟩) 1 1] 22) = w4) (e5 : w4.alloc (.cells #[.int .i32 2] 35) = w5) (e6 : w5.alloc (.cells #[.int .i32 4] 35) = w6)
    (e7 : w6.alloc (.cells #[.slice (some ⟨w.heap.size + 1 + 1 + 1 + 1, 0, none⟩) 1 1, .slice (some ⟨w.heap.size + 1 + 1 + 1 + 1 + 1, 0, none⟩) 1 1] 22) = w7) :
    Arg w7 (some ⟨w.heap.size, 0, none⟩) 1 1 [65536] ∧ GridAt w7 (some ⟨w.heap.size + 1 + 1 + 1, 0, none⟩) 2 [[0], [0]] ∧ GridAt w7 (some ⟨w.heap.size + 1 + 1 + 1 + 1 + 1 + 1, 0, none⟩) 2 [[2], [4]] ∧ Below w.heap.size w w7 := by
  have s1 : w1.heap.size = w.heap.size + 1 := by rw [← e1]; simp
  have s2 : w2.heap.size = w.heap.size + 1 + 1 := by rw [← e2]; simp [s1]
  have s3 : w3.heap.size = w.heap.size + 1 + 1 + 1 := by rw [← e3]; simp [s2]
  have s4 : w4.heap.size = w.heap.size + 1 + 1 + 1 + 1 := by rw [← e4]; simp [s3]
  have s5 : w5.heap.size = w.heap.size + 1 + 1 + 1 + 1 + 1 := by rw [← e5]; simp [s4]
  have s6 : w6.heap.size = w.heap.size + 1 + 1 + 1 + 1 + 1 + 1 := by rw [← e6]; simp [s5]
  have b1 : Below w.heap.size w w1 := by rw [← e1]; exact (Below.refl _ _).alloc (Nat.le_refl _) _
  have b2 : Below w1.heap.size w1 w2 := by rw [← e2]; exact (Below.refl _ _).alloc (Nat.le_refl _) _
  have b3 : Below w2.heap.size w2 w3 := by rw [← e3]; exact (Below.refl _ _).alloc (Nat.le_refl _) _
  have b4 : Below w3.heap.size w3 w4 := by rw [← e4]; exact (Below.refl _ _).alloc (Nat.le_refl _) _
  have b5 : Below w4.heap.size w4 w5 := by rw [← e5]; exact (Below.refl _ _).alloc (Nat.le_refl _) _
  have b6 : Below w5.heap.size w5 w6 := by rw [← e6]; exact (Below.refl _ _).alloc (Nat.le_refl _) _
  have b7 : Below w6.heap.size w6 w7 := by rw [← e7]; exact (Below.refl _ _).alloc (Nat.le_refl _) _
  have f1 := lit_one w 65536 (by omega)
  rw [e1] at f1
  have f2 := lit_one w1 0 (by omega)
  rw [e2, s1] at f2
  have f3 := lit_one w2 0 (by omega)
  rw [e3, s2] at f3
  have f5 := lit_one w4 2 (by omega)
  rw [e5, s4] at f5
  have f6 := lit_one w5 4 (by omega)
  rw [e6, s5] at f6
  have g4 := grid_two (f2.below b3) f3
  rw [e4, s3] at g4
  have g7 := grid_two (f5.below b6) f6
  rw [e7, s6] at g7
  have c37 := below_then (below_then b5 b6) b7
  exact ⟨(f1.below (below_then (below_then (below_then b2 b3) b4) c37)).arg, g4.below c37, g7, below_then (below_then (below_then (below_then b1 b2) b3) b4) c37⟩
theorem lit_three (w w1 w2 w3 : World) (e1 : w.alloc (.cells #[.int .i32 65536, .int .i32 0, .int .i32 0, .int .i32 0] 35) = w1) (e2 : w1.alloc (.cells #[.int .i32 65536, .int .i32 5, .int .i32 5, .int .i32 5] 35) = w2)
    (e3 : w2.alloc (.cells #[.slice (some ⟨w.heap.size + 1, 0, none⟩) 4 4] 22) = w3) :
    RowAt w3 (some ⟨w.heap.size, 0, none⟩) 4 [65536, 0, 0, 0] ∧ GridAt w3 (some ⟨w.heap.size + 1 + 1, 0, none⟩) 1 [[65536, 5, 5, 5]] ∧ Below w.heap.size w w3 := by
  have s1 : w1.heap.size = w.heap.size + 1 := by rw [← e1]; simp
  have s2 : w2.heap.size = w.heap.size + 1 + 1 := by rw [← e2]; simp [s1]
  have b1 : Below w.heap.size w w1 := by rw [← e1]; exact (Below.refl _ _).alloc (Nat.le_refl _) _
  have b2 : Below w1.heap.size w1 w2 := by rw [← e2]; exact (Below.refl _ _).alloc (Nat.le_refl _) _
  have b3 : Below w2.heap.size w2 w3 := by rw [← e3]; exact (Below.refl _ _).alloc (Nat.le_refl _) _
  have f1 : Fresh (w.alloc (.cells #[.int .i32 65536, .int .i32 0, .int .i32 0, .int .i32 0] 35)) w.heap.size w.heap.size 4 4 [65536, 0, 0, 0] := fresh_lit w [65536, 0, 0, 0] (by unfold Small; decide) (by decide)
  rw [e1] at f1
  have f2 : Fresh (w1.alloc (.cells #[.int .i32 65536, .int .i32 5, .int .i32 5, .int .i32 5] 35)) w1.heap.size w1.heap.size 4 4 [65536, 5, 5, 5] := fresh_lit w1 [65536, 5, 5, 5] (by unfold Small; decide) (by decide)
  rw [e2, s1] at f2
  have g3 := grid_lit1 f2
  rw [e3, s2] at g3
  exact ⟨(f1.below (below_then b2 b3)).rowAt, g3, below_then (below_then b1 b2) b3⟩
set_option maxHeartbeats 1600000 in
theorem hawake_any (w : World) (hT : Tab w) : Calls Tryd.prog 13 #[] w fun e w' => e = .returned (.bool true) ∧ Below w.heap.size w w' := by
  go_enter Tryd.func13, Tryd.ntmps13
  go_wp2_with fail
  obtain ⟨AQ, GK, GV, B7⟩ := lit_seven w _ _ _ _ _ _ _ rfl rfl rfl rfl rfl rfl rfl
  refine (attend_any _ _ _ 1 2 2 1 2 2 [65536] [[0], [0]] [[2], [4]] 1 _ (hT.next B7) AQ GK GV chk_lit).mono ?_
  rintro e w8 ⟨g8, c8, rfl, F8, B8⟩
  replace B8 := below_then B7 B8
  clear AQ GK GV B7
  have c1 := F8.cell (t := 0) (by omega)
  rw [el_tab (by omega), show (1 : Nat) / (1 : Int).toNat = 1 from rfl, att_lit] at c1
  have l8 := F8.lt
  have HF : Hid (w8.cell? ⟨g8, 0, none⟩ = some (.int .i32 3)) := c1
  clear c1 F8
  go_wp2_with fail
  obtain ⟨RQ, GK, B9⟩ := lit_three w8 _ _ _ rfl rfl rfl
  refine (scores_any _ _ 4 1 4 1 [65536, 0, 0, 0] [[65536, 5, 5, 5]] _ RQ GK (by omega) (by omega) (fun t ht => by obtain rfl : t = 0 := by omega
                                                                                                                   rfl)).mono ?_
  rintro e w10 ⟨g10, rfl, F10, B10⟩
  replace B10 := below_then B9 B10
  have c1 : w10.cell? ⟨g8, 0, none⟩ = some (.int .i32 3) := (B10.cell (p := ⟨g8, 0, none⟩) (by exact l8)).trans HF.out
  have c2 := F10.cell (t := 0) (by omega)
  rw [el_tab (by omega), show rowOf [[65536, 5, 5, 5]] 0 = [65536, 5, 5, 5] from rfl, score_lit] at c2
  replace B10 := below_then B8 B10
  clear RQ GK B9 F10 HF B8
  go_wp2
  go_ret
  exact ⟨rfl, B10⟩
end Go.Proofs.YtjcacejkiaepnaaDoor
