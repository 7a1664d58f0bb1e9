/- What the document's own functions for matrices answer; a copy of a matrix; the awake check of layer 4. -/
import Derived.Test.YthbkibcdcnpaoabMat2
namespace Go.Proofs.Ythbkibcdcnpaoab
open Go.ChangeShapes Go.WideShapes Go.ChangeAt Go.RowKit
theorem tab_snoc (k : Nat) (f : Nat → Int) : tab (k + 1) f = tab k f ++ [f k] := by unfold tab; rw [List.range_succ]; simp
set_option maxHeartbeats 800000 in
theorem refCheck_any (r c : Int) (ao : Option Addr) (n ca : Nat) (w : World) :
   Calls Try.prog 10 #[matV r c ao n ca] w fun e w' => e = .returned (.int .i64 (chkN r c n)) ∧ Below w.heap.size w w' := by
  unfold matV
  by_cases a1 : r < 1
  · have HF : Hid (chkN r c n = 1) := by
      have : sideN r c = 1 := by unfold sideN; rw [if_pos (Or.inl a1)]
      show _ = _; unfold chkN; rw [if_pos (by omega), this]
    go_enter Try.func10, Try.ntmps10
    go_wp2
    go_ret
    exact ⟨ret_int HF.out.symm, (Below.refl _ _).alloc (Nat.le_refl _) _⟩
  by_cases a2 : c < 1
  · have HF : Hid (chkN r c n = 1) := by
      have : sideN r c = 1 := by unfold sideN; rw [if_pos (Or.inr a2)]
      show _ = _; unfold chkN; rw [if_pos (by omega), this]
    go_enter Try.func10, Try.ntmps10
    go_wp2
    go_ret
    exact ⟨ret_int HF.out.symm, (Below.refl _ _).alloc (Nat.le_refl _) _⟩
  by_cases a3 : 128 < r
  · have HF : Hid (chkN r c n = 2) := by
      have : sideN r c = 2 := by unfold sideN; rw [if_neg (by omega), if_pos (Or.inl a3)]
      show _ = _; unfold chkN; rw [if_pos (by omega), this]
    go_enter Try.func10, Try.ntmps10
    go_wp2
    go_ret
    exact ⟨ret_int HF.out.symm, (Below.refl _ _).alloc (Nat.le_refl _) _⟩
  by_cases a4 : 128 < c
  · have HF : Hid (chkN r c n = 2) := by
      have : sideN r c = 2 := by unfold sideN; rw [if_neg (by omega), if_pos (Or.inr a4)]
      show _ = _; unfold chkN; rw [if_pos (by omega), this]
    go_enter Try.func10, Try.ntmps10
    go_wp2
    go_ret
    exact ⟨ret_int HF.out.symm, (Below.refl _ _).alloc (Nat.le_refl _) _⟩
  have hm := mul_side (r := r) (c := c) (by omega)
  have hsd : sideN r c = 0 := by unfold sideN; rw [if_neg (by omega), if_neg (by omega)]
  by_cases he : (n : Int) = r * c
  · have HF : Hid (chkN r c n = 0) := by show _ = _; unfold chkN; rw [if_neg (by omega), if_neg (by omega)]
    have he' : ((n : Int) == r * c) = true := by simpa using he
    clear he hsd
    generalize hp : r * c = p at *
    go_enter Try.func10, Try.ntmps10
    go_wp2
    go_ret
    exact ⟨ret_int HF.out.symm, (Below.refl _ _).alloc (Nat.le_refl _) _⟩
  · have HF : Hid (chkN r c n = 6) := by show _ = _; unfold chkN; rw [if_neg (by omega), if_pos he]
    have he' : ((n : Int) == r * c) = false := by simpa using he
    clear he hsd
    generalize hp : r * c = p at *
    go_enter Try.func10, Try.ntmps10
    go_wp2
    go_ret
    exact ⟨ret_int HF.out.symm, (Below.refl _ _).alloc (Nat.le_refl _) _⟩
set_option maxHeartbeats 1600000 in
theorem refRow_any (r c b o n ca : Nat) (D : List Int) (i : Nat) (w : World) (h : MatAt w r c b o n ca D) (hi : i < r) :
   Calls Try.prog 27 #[matV r c (some ⟨b, o, none⟩) n ca, .int .i64 i] w fun e w' => ∃ g cap, e = .returned (.slice (some ⟨g, 0, none⟩) c cap) ∧ Fresh w' w.heap.size g c cap (rowN D c i) ∧ Below w.heap.size w w' := by
  have r2 := h.r2
  have c2 := h.c2
  have hrow : i * c + c ≤ n := by have := row_in (c := c) hi; have := h.size; omega
  have h6 : n ≤ 16384 := by have := size_le h.r2 h.c2; have := h.size; omega
  have X0 := box_new w r c (some ⟨b, o, none⟩) n ca
  have B0 : Below w.heap.size w (w.alloc (.cells #[.int .i64 r, .int .i64 c, .slice (some ⟨b, o, none⟩) n ca] 24)) := (Below.refl _ _).alloc (Nat.le_refl _) _
  generalize hw0 : w.alloc (.cells #[.int .i64 r, .int .i64 c, .slice (some ⟨b, o, none⟩) n ca] 24) = w0 at X0 B0
  have hs0 : w0.heap.size = w.heap.size + 1 := by rw [← hw0]; simp
  have F1 := fresh_empty w0
  have B1 : Below w0.heap.size w0 (w0.alloc (.cells #[] 33)) := (Below.refl _ _).alloc (Nat.le_refl _) _
  generalize hw1 : w0.alloc (.cells #[] 33) = w1 at F1 B1
  replace X0 := X0.below B1
  replace B1 := below_then B0 B1
  rw [hs0] at F1
  have e1 : (i : Int) * (c : Int) = ((i * c : Nat) : Int) := by rw [Int.natCast_mul]
  unfold rowN
  generalize i * c = ic at *
  go_enter Try.func27, Try.ntmps27
  unfold matV at *
  go_wp2_with fail
  clear hw0 hw1
  go_loopg [5, 6] c (fun k0 s ii wr => ∃ (k g cap : Nat), k ≤ c ∧ k0 = c - k ∧ ii = .int .i64 k ∧ s = .slice (some ⟨g, 0, none⟩) k cap ∧ Fresh wr (w.heap.size + 1) g k cap (tab k fun j => el D (ic + j)) ∧ Box wr w.heap.size r c (some ⟨b, o, none⟩) n ca ∧ Below w.heap.size w wr)
  case atStart => exact ⟨0, _, _, by omega, by omega, rfl, rfl, F1, X0, B1⟩
  case round =>
    clear F1 X0 B1
    obtain ⟨k, g, cap, hk, rfl, rfl, rfl, F2, X2, B2⟩ := hrel
    have q1 := X2.c1
    have q2 := X2.c2
    by_cases hlt : k < c
    · obtain ⟨b', o', e, hc⟩ := (h.below B2).row.cells (by omega)
      simp only [Option.some.injEq, Addr.mk.injEq, and_true] at e
      obtain ⟨rfl, rfl⟩ := e
      have a1 := hc (ic + k) (by omega)
      have hin : ic + k < n := by omega
      have bx := h.row.small.el (ic + k)
      have R := rowAt_one wr (el D (ic + k)) bx
      have s2 := B2.size
      have i2 := X2.lt
      have BA : Below wr.heap.size wr (wr.alloc (.cells #[.int .i32 (el D (ic + k))] 33)) := (Below.refl _ _).alloc (Nat.le_refl _) _
      generalize hw3 : wr.alloc (.cells #[.int .i32 (el D (ic + k))] 33) = w3 at R BA
      replace F2 := F2.below BA
      replace X2 := X2.below BA
      have s3 := BA.size
      replace BA := below_then B2 BA
      clear hc B2
      generalize hx : el D (ic + k) = x at *
      go_wp2_with (at_builtin; refine wpList_append_row rfl _ _ rfl (w.heap.size + 1) g k cap _ rfl (by exact F2) (some ⟨wr.heap.size, 0, none⟩) 1 1 _ rfl (by exact R) (fun h => by cases h) (by omega) (by omega) ?_; intro g' cap' w' F3 B3)
      go_roundg (c - (k + 1))
      case measure => omega
      case rel => exact ⟨k + 1, _, _, by omega, rfl, by go_num, rfl, by rw [tab_snoc, hx]; exact F3, X2.block (B3.block _ (by omega)), BA.trans (B3.mono (by omega))⟩
    · obtain rfl : k = c := by omega
      go_wp2
      go_ret
      exact ⟨_, _, rfl, F2.mono (by omega), B2⟩
set_option maxHeartbeats 1600000 in
theorem refColumn_any (r c b o n ca : Nat) (D : List Int) (i : Nat) (w : World) (h : MatAt w r c b o n ca D) (hi : i < c) :
   Calls Try.prog 28 #[matV r c (some ⟨b, o, none⟩) n ca, .int .i64 i] w fun e w' => ∃ g cap, e = .returned (.slice (some ⟨g, 0, none⟩) r cap) ∧ Fresh w' w.heap.size g r cap (colN D r c i) ∧ Below w.heap.size w w' := by
  have r2 := h.r2
  have c2 := h.c2
  have hrow : ∀ k, k < r → k * c + c ≤ n := fun k hk => by have := row_in (c := c) hk; have := h.size; omega
  have h6 : n ≤ 16384 := by have := size_le h.r2 h.c2; have := h.size; omega
  have X0 := box_new w r c (some ⟨b, o, none⟩) n ca
  have B0 : Below w.heap.size w (w.alloc (.cells #[.int .i64 r, .int .i64 c, .slice (some ⟨b, o, none⟩) n ca] 24)) := (Below.refl _ _).alloc (Nat.le_refl _) _
  generalize hw0 : w.alloc (.cells #[.int .i64 r, .int .i64 c, .slice (some ⟨b, o, none⟩) n ca] 24) = w0 at X0 B0
  have hs0 : w0.heap.size = w.heap.size + 1 := by rw [← hw0]; simp
  have F1 := fresh_empty w0
  have B1 : Below w0.heap.size w0 (w0.alloc (.cells #[] 33)) := (Below.refl _ _).alloc (Nat.le_refl _) _
  generalize hw1 : w0.alloc (.cells #[] 33) = w1 at F1 B1
  replace X0 := X0.below B1
  replace B1 := below_then B0 B1
  rw [hs0] at F1
  unfold colN
  go_enter Try.func28, Try.ntmps28
  unfold matV at *
  go_wp2_with fail
  clear hw0 hw1
  go_loopg [5, 6] r (fun k0 s ii wr => ∃ (k g cap : Nat), k ≤ r ∧ k0 = r - k ∧ ii = .int .i64 k ∧ s = .slice (some ⟨g, 0, none⟩) k cap ∧ Fresh wr (w.heap.size + 1) g k cap (tab k fun j => el D (j * c + i)) ∧ Box wr w.heap.size r c (some ⟨b, o, none⟩) n ca ∧ Below w.heap.size w wr)
  case atStart => exact ⟨0, _, _, by omega, by omega, rfl, rfl, F1, X0, B1⟩
  case round =>
    clear F1 X0 B1
    obtain ⟨k, g, cap, hk, rfl, rfl, rfl, F2, X2, B2⟩ := hrel
    have q0 := X2.c0
    have q1 := X2.c1
    have q2 := X2.c2
    by_cases hlt : k < r
    · have hkc := hrow k hlt
      have e1 : (k : Int) * (c : Int) = ((k * c : Nat) : Int) := by rw [Int.natCast_mul]
      have HX : Hid (tab (k + 1) (fun j => el D (j * c + i)) = tab k (fun j => el D (j * c + i)) ++ [el D (k * c + i)]) := tab_snoc k _
      generalize k * c = kc at *
      obtain ⟨b', o', e, hc⟩ := (h.below B2).row.cells (by omega)
      simp only [Option.some.injEq, Addr.mk.injEq, and_true] at e
      obtain ⟨rfl, rfl⟩ := e
      have a1 := hc (kc + i) (by omega)
      have hin : kc + i < n := by omega
      have bx := h.row.small.el (kc + i)
      have R := rowAt_one wr (el D (kc + i)) bx
      have s2 := B2.size
      have i2 := X2.lt
      have BA : Below wr.heap.size wr (wr.alloc (.cells #[.int .i32 (el D (kc + i))] 33)) := (Below.refl _ _).alloc (Nat.le_refl _) _
      generalize hw3 : wr.alloc (.cells #[.int .i32 (el D (kc + i))] 33) = w3 at R BA
      replace F2 := F2.below BA
      replace X2 := X2.below BA
      have s3 := BA.size
      replace BA := below_then B2 BA
      clear hc B2
      generalize hx : el D (kc + i) = x at *
      go_wp2_with (at_builtin; refine wpList_append_row rfl _ _ rfl (w.heap.size + 1) g k cap _ rfl (by exact F2) (some ⟨wr.heap.size, 0, none⟩) 1 1 _ rfl (by exact R) (fun h => by cases h) (by omega) (by omega) ?_; intro g' cap' w' F3 B3)
      go_roundg (r - (k + 1))
      case measure => omega
      case rel => exact ⟨k + 1, _, _, by omega, rfl, by go_num, rfl, by rw [HX.out]; exact F3, X2.block (B3.block _ (by omega)), BA.trans (B3.mono (by omega))⟩
    · obtain rfl : k = r := by omega
      go_wp2
      go_ret
      exact ⟨_, _, rfl, F2.mono (by omega), B2⟩
set_option maxHeartbeats 1600000 in
theorem msame_any (r c : Int) (ao bo : Option Addr) (n ca cb : Nat) (D : List Int) (w : World) (hA : RowAt w ao n D) (hB : RowAt w bo n D) :
   Calls Try.prog 13 #[matV r c ao n ca, matV r c bo n cb] w fun e w' => e = .returned (.bool true) ∧ Below w.heap.size w w' := by
  have X0 := box_new w r c ao n ca
  have B0 : Below w.heap.size w (w.alloc (.cells #[.int .i64 r, .int .i64 c, .slice ao n ca] 24)) := (Below.refl _ _).alloc (Nat.le_refl _) _
  generalize hw0 : w.alloc (.cells #[.int .i64 r, .int .i64 c, .slice ao n ca] 24) = w0 at X0 B0
  have hs0 : w0.heap.size = w.heap.size + 1 := by rw [← hw0]; simp
  have X1 := box_new w0 r c bo n cb
  have B1 : Below w0.heap.size w0 (w0.alloc (.cells #[.int .i64 r, .int .i64 c, .slice bo n cb] 24)) := (Below.refl _ _).alloc (Nat.le_refl _) _
  generalize hw1 : w0.alloc (.cells #[.int .i64 r, .int .i64 c, .slice bo n cb] 24) = w1 at X1 B1
  replace X0 := X0.below B1
  replace B1 := below_then B0 B1
  rw [hs0] at X1
  have q0 := X0.c0
  have q1 := X0.c1
  have q2 := X0.c2
  have p0 := X1.c0
  have p1 := X1.c1
  have p2 := X1.c2
  go_enter Try.func13, Try.ntmps13
  unfold matV at *
  go_wp2_with fail
  refine (same_any _ _ n _ _ D w1 (hA.below B1) (hB.below B1)).mono ?_
  rintro e w2 ⟨rfl, m2, rfl⟩
  go_wp2
  go_ret
  exact ⟨rfl, below_drewN B1 m2⟩
set_option maxHeartbeats 1600000 in
theorem mfew_any (r c : Int) (ao : Option Addr) (n ca : Nat) (D : List Int) (w : World) (hD : Arg w ao n ca D) :
   Calls Try.prog 8 #[matV r c ao n ca] w fun e w' => ∃ g n' cap D', e = .returned (matV r c (some ⟨g, 0, none⟩) n' cap) ∧ n' ≤ 2000 ∧ Fresh w' w.heap.size g n' cap D' ∧ Below w.heap.size w w' := by
  have X0 := box_new w r c ao n ca
  have B0 : Below w.heap.size w (w.alloc (.cells #[.int .i64 r, .int .i64 c, .slice ao n ca] 24)) := (Below.refl _ _).alloc (Nat.le_refl _) _
  generalize hw0 : w.alloc (.cells #[.int .i64 r, .int .i64 c, .slice ao n ca] 24) = w0 at X0 B0
  have hs0 : w0.heap.size = w.heap.size + 1 := by rw [← hw0]; simp
  have X1 := box_new w0 0 0 none 0 0
  have B1 : Below w0.heap.size w0 (w0.alloc (.cells #[.int .i64 0, .int .i64 0, .slice none 0 0] 24)) := (Below.refl _ _).alloc (Nat.le_refl _) _
  generalize hw1 : w0.alloc (.cells #[.int .i64 0, .int .i64 0, .slice none 0 0] 24) = w1 at X1 B1
  replace X0 := X0.below B1
  replace B1 := below_then B0 B1
  rw [hs0] at X1
  have q2 := X0.c2
  go_enter Try.func8, Try.ntmps8
  unfold matV at *
  go_wp2_with fail
  refine (few_any ao n ca D 2000 2000 _ rfl (by exact hD.below B1) (by omega)).mono ?_
  rintro e w2 ⟨g2, n2, c2, rfl, l2, F2, B2⟩
  have i2 := F2.base
  have i0 := X0.lt
  have i1 := X1.lt
  replace X0 := X0.below B2
  replace X1 := X1.below B2
  replace B2 := below_then B1 B2
  clear hw0 hw1 q2
  have q0 := X0.c0
  have q1 := X0.c1
  have q2 := X0.c2
  have f2 := X0.frozen 2
  have u0 := X1.c0
  have u1 := X1.c1
  have u2 := X1.c2
  have v0 := X1.frozen 0
  have v1 := X1.frozen 1
  have v2 := X1.frozen 2
  go_wp2
  have X2 := X1.block (w' := w2.setCell ⟨w.heap.size, 2, none⟩ (.slice (some ⟨g2, 0, none⟩) n2 c2)) (Below.heap_setCell _ _ _ _ (by show w.heap.size + 1 ≠ w.heap.size; omega))
  have F3 := F2.setOther (a := ⟨w.heap.size, 2, none⟩) (by show g2 ≠ w.heap.size; omega) (.slice (some ⟨g2, 0, none⟩) n2 c2)
  have B3 := B2.setCell (p := ⟨w.heap.size, 2, none⟩) (Nat.le_refl _) (.slice (some ⟨g2, 0, none⟩) n2 c2)
  generalize w2.setCell ⟨w.heap.size, 2, none⟩ (.slice (some ⟨g2, 0, none⟩) n2 c2) = w3 at *
  refine bodyPost_ret (results_cell_row rfl _ _ (w.heap.size + 1) _ _ _ _ rfl (X2.put _ _ _ _ _) Try.underlying24 rfl (by kernel_rfl)) rfl ?_
  exact ⟨g2, n2, c2, _, rfl, l2, (F3.mono (by omega)).put (by omega) _ _ _, Below.put B3 (by omega) _ _ _⟩
theorem lit_row0 : el (tab 2 fun i => dotN (rowN [65536, 131072, 0, 65536] 2 i) [65536, 65536] 2) 0 = 196608 := by decide
theorem lit_row1 : el (tab 2 fun i => dotN (rowN [65536, 131072, 0, 65536] 2 i) [65536, 65536] 2) 1 = 65536 := by decide
set_option maxHeartbeats 1600000 in
theorem mawake_any (w : World) : Calls Try.prog 12 #[] w fun e w' => e = .returned (.bool true) ∧ Below w.heap.size w w' := by
  have F0 : Fresh (w.alloc (.cells #[.int .i32 65536, .int .i32 131072, .int .i32 0, .int .i32 65536] 33)) w.heap.size w.heap.size 4 4 [65536, 131072, 0, 65536] := fresh_lit w [65536, 131072, 0, 65536] (by unfold Small; decide) (by decide)
  have B0 : Below w.heap.size w (w.alloc (.cells #[.int .i32 65536, .int .i32 131072, .int .i32 0, .int .i32 65536] 33)) := (Below.refl _ _).alloc (Nat.le_refl _) _
  generalize hw0 : w.alloc (.cells #[.int .i32 65536, .int .i32 131072, .int .i32 0, .int .i32 65536] 33) = w0 at F0 B0
  have hs0 : w0.heap.size = w.heap.size + 1 := by rw [← hw0]; simp
  have X1 := box_new w0 2 2 (some ⟨w.heap.size, 0, none⟩) 4 4
  have B1 : Below w0.heap.size w0 (w0.alloc (.cells #[.int .i64 2, .int .i64 2, .slice (some ⟨w.heap.size, 0, none⟩) 4 4] 24)) := (Below.refl _ _).alloc (Nat.le_refl _) _
  generalize hw1 : w0.alloc (.cells #[.int .i64 2, .int .i64 2, .slice (some ⟨w.heap.size, 0, none⟩) 4 4] 24) = w1 at X1 B1
  have hs1 : w1.heap.size = w.heap.size + 2 := by rw [← hw1]; simp [hs0]
  replace F0 := F0.below B1
  replace B1 := below_then B0 B1
  rw [hs0] at X1
  have F2 : Fresh (w1.alloc (.cells #[.int .i32 65536, .int .i32 65536] 33)) w1.heap.size w1.heap.size 2 2 [65536, 65536] := fresh_lit w1 [65536, 65536] (by unfold Small; decide) (by decide)
  have B2 : Below w1.heap.size w1 (w1.alloc (.cells #[.int .i32 65536, .int .i32 65536] 33)) := (Below.refl _ _).alloc (Nat.le_refl _) _
  generalize hw2 : w1.alloc (.cells #[.int .i32 65536, .int .i32 65536] 33) = w2 at F2 B2
  have q0 := X1.c0
  have q1 := X1.c1
  have q2 := X1.c2
  replace F0 := F0.below B2
  replace B2 := below_then B1 B2
  rw [hs1] at F2
  go_enter Try.func12, Try.ntmps12
  go_wp2_with fail
  clear hw0 hw1 hw2
  have M : MatAt w2 2 2 w.heap.size 0 4 4 [65536, 131072, 0, 65536] := ⟨by omega, by omega, by omega, by omega, rfl, by omega, by omega, F0.rowAt⟩
  have AP := apply_any 2 2 w.heap.size 0 4 4 _ _ 2 _ w2 M F2.rowAt
  unfold matV at AP
  refine AP.mono ?_
  rintro e w3 ⟨g3, rfl, F3, B3⟩
  replace B3 := below_then B2 B3
  have v0 := F3.cell (t := 0) (by omega)
  have v1 := F3.cell (t := 1) (by omega)
  rw [lit_row0] at v0
  rw [lit_row1] at v1
  clear F3 M F0 F2
  go_wp2
  go_ret
  exact ⟨rfl, B3⟩
end Go.Proofs.Ythbkibcdcnpaoab
