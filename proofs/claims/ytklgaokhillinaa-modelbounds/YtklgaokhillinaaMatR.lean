/- What the document's own functions for matrices answer; a copy of a matrix; the awake check of layer 4. -/
import Derived.Test.YtklgaokhillinaaMat2
namespace Go.Proofs.Ytklgaokhillinaa
open Go.ChangeShapes Go.WideShapes Go.ChangeAt Go.RowKit
theorem tab_snoc (k : Nat) (f : Nat → Int) : tab (k + 1) f = tab k f ++ [f k] := by unfold tab; rw [List.range_succ]; simp
set_option maxHeartbeats 800000 in
theorem refCheck_any (r c : Int) (ao : Option Addr) (n ca : Nat) (w : World) :
   Calls Try.prog 39 #[matV r c ao n ca] w fun e w' => e = .returned (.int .i64 (chkN r c n)) ∧ Below w.heap.size w w' := by
  unfold matV
  by_cases a1 : r < 1
  · have HF : Hid (chkN r c n = 1) := by
      have : sideN r c = 1 := by unfold sideN; rw [if_pos (Or.inl a1)]
      show _ = _; unfold chkN; rw [if_pos (by omega), this]
    go_enter Try.func39, Try.ntmps39
    go_wp2
    go_ret
    exact ⟨ret_int HF.out.symm, (Below.refl _ _).alloc (Nat.le_refl _) _⟩
  by_cases a2 : c < 1
  · have HF : Hid (chkN r c n = 1) := by
      have : sideN r c = 1 := by unfold sideN; rw [if_pos (Or.inr a2)]
      show _ = _; unfold chkN; rw [if_pos (by omega), this]
    go_enter Try.func39, Try.ntmps39
    go_wp2
    go_ret
    exact ⟨ret_int HF.out.symm, (Below.refl _ _).alloc (Nat.le_refl _) _⟩
  by_cases a3 : 128 < r
  · have HF : Hid (chkN r c n = 2) := by
      have : sideN r c = 2 := by unfold sideN; rw [if_neg (by omega), if_pos (Or.inl a3)]
      show _ = _; unfold chkN; rw [if_pos (by omega), this]
    go_enter Try.func39, Try.ntmps39
    go_wp2
    go_ret
    exact ⟨ret_int HF.out.symm, (Below.refl _ _).alloc (Nat.le_refl _) _⟩
  by_cases a4 : 128 < c
  · have HF : Hid (chkN r c n = 2) := by
      have : sideN r c = 2 := by unfold sideN; rw [if_neg (by omega), if_pos (Or.inr a4)]
      show _ = _; unfold chkN; rw [if_pos (by omega), this]
    go_enter Try.func39, Try.ntmps39
    go_wp2
    go_ret
    exact ⟨ret_int HF.out.symm, (Below.refl _ _).alloc (Nat.le_refl _) _⟩
  have hm := mul_side (r := r) (c := c) (by omega)
  have hsd : sideN r c = 0 := by unfold sideN; rw [if_neg (by omega), if_neg (by omega)]
  by_cases he : (n : Int) = r * c
  · have HF : Hid (chkN r c n = 0) := by show _ = _; unfold chkN; rw [if_neg (by omega), if_neg (by omega)]
    have he' : ((n : Int) == r * c) = true := by simpa using he
    clear he hsd
    generalize hp : r * c = p at *
    go_enter Try.func39, Try.ntmps39
    go_wp2
    go_ret
    exact ⟨ret_int HF.out.symm, (Below.refl _ _).alloc (Nat.le_refl _) _⟩
  · have HF : Hid (chkN r c n = 6) := by show _ = _; unfold chkN; rw [if_neg (by omega), if_pos he]
    have he' : ((n : Int) == r * c) = false := by simpa using he
    clear he hsd
    generalize hp : r * c = p at *
    go_enter Try.func39, Try.ntmps39
    go_wp2
    go_ret
    exact ⟨ret_int HF.out.symm, (Below.refl _ _).alloc (Nat.le_refl _) _⟩
set_option maxHeartbeats 1600000 in
theorem msame_any (r c : Int) (ao bo : Option Addr) (n ca cb : Nat) (D : List Int) (w : World) (hA : RowAt w ao n D) (hB : RowAt w bo n D) :
   Calls Try.prog 30 #[matV r c ao n ca, matV r c bo n cb] w fun e w' => e = .returned (.bool true) ∧ Below w.heap.size w w' := by
  have X0 := box_new w r c ao n ca
  have B0 : Below w.heap.size w (w.alloc (.cells #[.int .i64 r, .int .i64 c, .slice ao n ca] 26)) := (Below.refl _ _).alloc (Nat.le_refl _) _
  generalize hw0 : w.alloc (.cells #[.int .i64 r, .int .i64 c, .slice ao n ca] 26) = w0 at X0 B0
  have hs0 : w0.heap.size = w.heap.size + 1 := by rw [← hw0]; simp
  have X1 := box_new w0 r c bo n cb
  have B1 : Below w0.heap.size w0 (w0.alloc (.cells #[.int .i64 r, .int .i64 c, .slice bo n cb] 26)) := (Below.refl _ _).alloc (Nat.le_refl _) _
  generalize hw1 : w0.alloc (.cells #[.int .i64 r, .int .i64 c, .slice bo n cb] 26) = w1 at X1 B1
  replace X0 := X0.below B1
  replace B1 := below_then B0 B1
  rw [hs0] at X1
  have q0 := X0.c0
  have q1 := X0.c1
  have q2 := X0.c2
  have p0 := X1.c0
  have p1 := X1.c1
  have p2 := X1.c2
  go_enter Try.func30, Try.ntmps30
  unfold matV at *
  go_wp2_with fail
  refine (same_any _ _ n _ _ D w1 (hA.below B1) (hB.below B1)).mono ?_
  rintro e w2 ⟨rfl, m2, rfl⟩
  go_wp2
  go_ret
  exact ⟨rfl, below_drewN B1 m2⟩
set_option maxHeartbeats 1600000 in
theorem mfew_any (r c : Int) (ao : Option Addr) (n ca : Nat) (D : List Int) (w : World) (hD : Arg w ao n ca D) :
   Calls Try.prog 23 #[matV r c ao n ca] w fun e w' => ∃ g n' cap D', e = .returned (matV r c (some ⟨g, 0, none⟩) n' cap) ∧ n' ≤ 2000 ∧ Fresh w' w.heap.size g n' cap D' ∧ Below w.heap.size w w' := by
  have X0 := box_new w r c ao n ca
  have B0 : Below w.heap.size w (w.alloc (.cells #[.int .i64 r, .int .i64 c, .slice ao n ca] 26)) := (Below.refl _ _).alloc (Nat.le_refl _) _
  generalize hw0 : w.alloc (.cells #[.int .i64 r, .int .i64 c, .slice ao n ca] 26) = w0 at X0 B0
  have hs0 : w0.heap.size = w.heap.size + 1 := by rw [← hw0]; simp
  have X1 := box_new w0 0 0 none 0 0
  have B1 : Below w0.heap.size w0 (w0.alloc (.cells #[.int .i64 0, .int .i64 0, .slice none 0 0] 26)) := (Below.refl _ _).alloc (Nat.le_refl _) _
  generalize hw1 : w0.alloc (.cells #[.int .i64 0, .int .i64 0, .slice none 0 0] 26) = w1 at X1 B1
  replace X0 := X0.below B1
  replace B1 := below_then B0 B1
  rw [hs0] at X1
  have q2 := X0.c2
  go_enter Try.func23, Try.ntmps23
  unfold matV at *
  go_wp2_with fail
  refine (few_any ao n ca D 2000 2000 _ rfl (by exact hD.below B1) (by omega)).mono ?_
  rintro e w2 ⟨g2, n2, c2, rfl, l2, F2, B2⟩
  have i2 := F2.base
  have i0 := X0.lt
  have i1 := X1.lt
  replace X0 := X0.below B2
  replace X1 := X1.below B2
  replace B2 := below_then B1 B2
  clear hw0 hw1 q2
  have q0 := X0.c0
  have q1 := X0.c1
  have q2 := X0.c2
  have f2 := X0.frozen 2
  have u0 := X1.c0
  have u1 := X1.c1
  have u2 := X1.c2
  have v0 := X1.frozen 0
  have v1 := X1.frozen 1
  have v2 := X1.frozen 2
  go_wp2
  have X2 := X1.block (w' := w2.setCell ⟨w.heap.size, 2, none⟩ (.slice (some ⟨g2, 0, none⟩) n2 c2)) (Below.heap_setCell _ _ _ _ (by show w.heap.size + 1 ≠ w.heap.size; omega))
  have F3 := F2.setOther (a := ⟨w.heap.size, 2, none⟩) (by show g2 ≠ w.heap.size; omega) (.slice (some ⟨g2, 0, none⟩) n2 c2)
  have B3 := B2.setCell (p := ⟨w.heap.size, 2, none⟩) (Nat.le_refl _) (.slice (some ⟨g2, 0, none⟩) n2 c2)
  generalize w2.setCell ⟨w.heap.size, 2, none⟩ (.slice (some ⟨g2, 0, none⟩) n2 c2) = w3 at *
  refine bodyPost_ret (results_cell_row rfl _ _ (w.heap.size + 1) _ _ _ _ rfl (X2.put _ _ _ _ _) Try.underlying26 rfl (by kernel_rfl)) rfl ?_
  exact ⟨g2, n2, c2, _, rfl, l2, (F3.mono (by omega)).put (by omega) _ _ _, Below.put B3 (by omega) _ _ _⟩
theorem lit_row0 : el (tab 2 fun i => dotN (rowN [65536, 131072, 0, 65536] 2 i) [65536, 65536] 2) 0 = 196608 := by decide
theorem lit_row1 : el (tab 2 fun i => dotN (rowN [65536, 131072, 0, 65536] 2 i) [65536, 65536] 2) 1 = 65536 := by decide
end Go.Proofs.Ytklgaokhillinaa
