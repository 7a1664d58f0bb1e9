/- Contracts of the program's functions, part 12 of 16: what each call returns and leaves of memory. -/
import Derived.Test.YtoofbjpekdlfiaaDoorPk2
import Derived.Test.YtoofbjpekdlfiaaDoorPk3
/- What the document's own functions for matrices answer; a copy of a matrix; the awake check of layer 4. -/
namespace Go.Proofs.YtoofbjpekdlfiaaDoor
open Go.ChangeShapes Go.WideShapes Go.ChangeAt Go.RowKit
theorem tab_snoc (k : Nat) (f : Nat → Int) : tab (k + 1) f = tab k f ++ [f k] := by unfold tab; rw [List.range_succ]; simp
set_option maxHeartbeats 800000 in
theorem refCheck_any (r c : Int) (ao : Option Addr) (n ca : Nat) (w : World) :
   Calls Tryd.prog 39 #[matV r c ao n ca] w fun e w' => e = .returned (.int .i64 (chkN r c n)) ∧ Below w.heap.size w w' := by
  unfold matV
  by_cases a1 : r < 1
  · have HF : Hid (chkN r c n = 1) := by
      have : sideN r c = 1 := by unfold sideN; rw [if_pos (Or.inl a1)]
      show _ = _; unfold chkN; rw [if_pos (by omega), this]
    go_enter Tryd.func39, Tryd.ntmps39
    go_wp2
    go_ret
    exact ⟨ret_int HF.out.symm, (Below.refl _ _).alloc (Nat.le_refl _) _⟩
  by_cases a2 : c < 1
  · have HF : Hid (chkN r c n = 1) := by
      have : sideN r c = 1 := by unfold sideN; rw [if_pos (Or.inr a2)]
      show _ = _; unfold chkN; rw [if_pos (by omega), this]
    go_enter Tryd.func39, Tryd.ntmps39
    go_wp2
    go_ret
    exact ⟨ret_int HF.out.symm, (Below.refl _ _).alloc (Nat.le_refl _) _⟩
  by_cases a3 : 128 < r
  · have HF : Hid (chkN r c n = 2) := by
      have : sideN r c = 2 := by unfold sideN; rw [if_neg (by omega), if_pos (Or.inl a3)]
      show _ = _; unfold chkN; rw [if_pos (by omega), this]
    go_enter Tryd.func39, Tryd.ntmps39
    go_wp2
    go_ret
    exact ⟨ret_int HF.out.symm, (Below.refl _ _).alloc (Nat.le_refl _) _⟩
  by_cases a4 : 128 < c
  · have HF : Hid (chkN r c n = 2) := by
      have : sideN r c = 2 := by unfold sideN; rw [if_neg (by omega), if_pos (Or.inr a4)]
      show _ = _; unfold chkN; rw [if_pos (by omega), this]
    go_enter Tryd.func39, Tryd.ntmps39
    go_wp2
    go_ret
    exact ⟨ret_int HF.out.symm, (Below.refl _ _).alloc (Nat.le_refl _) _⟩
  have hm := mul_side (r := r) (c := c) (by omega)
  have hsd : sideN r c = 0 := by unfold sideN; rw [if_neg (by omega), if_neg (by omega)]
  by_cases he : (n : Int) = r * c
  · have HF : Hid (chkN r c n = 0) := by show _ = _; unfold chkN; rw [if_neg (by omega), if_neg (by omega)]
    have he' : ((n : Int) == r * c) = true := by simpa using he
    clear he hsd
    generalize hp : r * c = p at *
    go_enter Tryd.func39, Tryd.ntmps39
    go_wp2
    go_ret
    exact ⟨ret_int HF.out.symm, (Below.refl _ _).alloc (Nat.le_refl _) _⟩
  · have HF : Hid (chkN r c n = 6) := by show _ = _; unfold chkN; rw [if_neg (by omega), if_pos he]
    have he' : ((n : Int) == r * c) = false := by simpa using he
    clear he hsd
    generalize hp : r * c = p at *
    go_enter Tryd.func39, Tryd.ntmps39
    go_wp2
    go_ret
    exact ⟨ret_int HF.out.symm, (Below.refl _ _).alloc (Nat.le_refl _) _⟩
set_option maxHeartbeats 1600000 in
theorem refRow_any (r c b o n ca : Nat) (D : List Int) (i : Nat) (w : World) (h : MatAt w r c b o n ca D) (hi : i < r) :
   Calls Tryd.prog 49 #[matV r c (some ⟨b, o, none⟩) n ca, .int .i64 i] w fun e w' => ∃ g cap, e = .returned (.slice (some ⟨g, 0, none⟩) c cap) ∧ Fresh w' w.heap.size g c cap (rowN D c i) ∧ Below w.heap.size w w' := by
  have r2 := h.r2
  have c2 := h.c2
  have hrow : i * c + c ≤ n := by have := row_in (c := c) hi; have := h.size; omega
  have h6 : n ≤ 16384 := by have := size_le h.r2 h.c2; have := h.size; omega
  have X0 := box_new w r c (some ⟨b, o, none⟩) n ca
  have B0 : Below w.heap.size w (w.alloc (.cells #[.int .i64 r, .int .i64 c, .slice (some ⟨b, o, none⟩) n ca] 26)) := (Below.refl _ _).alloc (Nat.le_refl _) _
  generalize hw0 : w.alloc (.cells #[.int .i64 r, .int .i64 c, .slice (some ⟨b, o, none⟩) n ca] 26) = w0 at X0 B0
  have hs0 : w0.heap.size = w.heap.size + 1 := by rw [← hw0]; simp
  have F1 := fresh_empty w0
  have B1 : Below w0.heap.size w0 (w0.alloc (.cells #[] 54)) := (Below.refl _ _).alloc (Nat.le_refl _) _
  generalize hw1 : w0.alloc (.cells #[] 54) = w1 at F1 B1
  replace X0 := X0.below B1
  replace B1 := below_then B0 B1
  rw [hs0] at F1
  have e1 : (i : Int) * (c : Int) = ((i * c : Nat) : Int) := by rw [Int.natCast_mul]
  unfold rowN
  generalize i * c = ic at *
  go_enter Tryd.func49, Tryd.ntmps49
  unfold matV at *
  go_wp2_with fail
  clear hw0 hw1
  go_loopg [5, 6] c (fun k0 s ii wr => ∃ (k g cap : Nat), k ≤ c ∧ k0 = c - k ∧ ii = .int .i64 k ∧ s = .slice (some ⟨g, 0, none⟩) k cap ∧ Fresh wr (w.heap.size + 1) g k cap (tab k fun j => el D (ic + j)) ∧ Box wr w.heap.size r c (some ⟨b, o, none⟩) n ca ∧ Below w.heap.size w wr)
  case atStart => exact ⟨0, _, _, by omega, by omega, rfl, rfl, F1, X0, B1⟩
  case round =>
    clear F1 X0 B1
    obtain ⟨k, g, cap, hk, rfl, rfl, rfl, F2, X2, B2⟩ := hrel
    have q1 := X2.c1
    have q2 := X2.c2
    by_cases hlt : k < c
    · obtain ⟨b', o', e, hc⟩ := (h.below B2).row.cells (by omega)
      simp only [Option.some.injEq, Addr.mk.injEq, and_true] at e
      obtain ⟨rfl, rfl⟩ := e
      have a1 := hc (ic + k) (by omega)
      have hin : ic + k < n := by omega
      have bx := h.row.small.el (ic + k)
      have R := rowAt_one wr (el D (ic + k)) bx
      have s2 := B2.size
      have i2 := X2.lt
      have BA : Below wr.heap.size wr (wr.alloc (.cells #[.int .i32 (el D (ic + k))] 54)) := (Below.refl _ _).alloc (Nat.le_refl _) _
      generalize hw3 : wr.alloc (.cells #[.int .i32 (el D (ic + k))] 54) = w3 at R BA
      replace F2 := F2.below BA
      replace X2 := X2.below BA
      have s3 := BA.size
      replace BA := below_then B2 BA
      clear hc B2
      generalize hx : el D (ic + k) = x at *
      go_wp2_with (at_builtin; refine wpList_append_row rfl _ _ rfl (w.heap.size + 1) g k cap _ rfl (by exact F2) (some ⟨wr.heap.size, 0, none⟩) 1 1 _ rfl (by exact R) (fun h => by cases h) (by omega) (by omega) ?_; intro g' cap' w' F3 B3)
      go_roundg (c - (k + 1))
      case measure => omega
      case rel => exact ⟨k + 1, _, _, by omega, rfl, by go_num, rfl, by rw [tab_snoc, hx]; exact F3, X2.block (B3.block _ (by omega)), BA.trans (B3.mono (by omega))⟩
    · obtain rfl : k = c := by omega
      go_wp2
      go_ret
      exact ⟨_, _, rfl, F2.mono (by omega), B2⟩
set_option maxHeartbeats 1600000 in
theorem refApply_any (r c b o n ca : Nat) (D : List Int) (vo : Option Addr) (cv : Nat) (V : List Int) (w : World) (h : MatAt w r c b o n ca D) (hV : RowAt w vo c V) :
   Calls Tryd.prog 29 #[matV r c (some ⟨b, o, none⟩) n ca, .slice vo c cv] w fun e w' => ∃ g cap, e = .returned (.slice (some ⟨g, 0, none⟩) r cap) ∧ Fresh w' w.heap.size g r cap (tab r fun i => dotN (rowN D c i) V c) ∧ Below w.heap.size w w' := by
  have r2 := h.r2
  have c2 := h.c2
  have X0 := box_new w r c (some ⟨b, o, none⟩) n ca
  have B0 : Below w.heap.size w (w.alloc (.cells #[.int .i64 r, .int .i64 c, .slice (some ⟨b, o, none⟩) n ca] 26)) := (Below.refl _ _).alloc (Nat.le_refl _) _
  generalize hw0 : w.alloc (.cells #[.int .i64 r, .int .i64 c, .slice (some ⟨b, o, none⟩) n ca] 26) = w0 at X0 B0
  have hs0 : w0.heap.size = w.heap.size + 1 := by rw [← hw0]; simp
  have F1 := fresh_empty w0
  have B1 : Below w0.heap.size w0 (w0.alloc (.cells #[] 54)) := (Below.refl _ _).alloc (Nat.le_refl _) _
  generalize hw1 : w0.alloc (.cells #[] 54) = w1 at F1 B1
  replace X0 := X0.below B1
  replace B1 := below_then B0 B1
  rw [hs0] at F1
  go_enter Tryd.func29, Tryd.ntmps29
  unfold matV at *
  go_wp2_with fail
  clear hw0 hw1
  go_loopg [5, 6] r (fun k0 s ii wr => ∃ (k g cap : Nat), k ≤ r ∧ k0 = r - k ∧ ii = .int .i64 k ∧ s = .slice (some ⟨g, 0, none⟩) k cap ∧ Fresh wr (w.heap.size + 1) g k cap (tab k fun i => dotN (rowN D c i) V c) ∧ Box wr w.heap.size r c (some ⟨b, o, none⟩) n ca ∧ Below w.heap.size w wr)
  case atStart => exact ⟨0, _, _, by omega, by omega, rfl, rfl, F1, X0, B1⟩
  case round =>
    clear F1 X0 B1
    obtain ⟨k, g, cap, hk, rfl, rfl, rfl, F2, X2, B2⟩ := hrel
    have q0 := X2.c0
    have q1 := X2.c1
    have q2 := X2.c2
    by_cases hlt : k < r
    · go_wp2_with fail
      refine (refRow_any r c b o n ca D k wr (h.below B2) hlt).mono ?_
      rintro e w3 ⟨g3, c3, rfl, F3, B3⟩
      clear q0 q1 q2
      replace F2 := F2.below B3
      replace X2 := X2.below B3
      replace B3 := below_then B2 B3
      go_wp2_with fail
      refine (refDot_any _ _ c _ _ _ V w3 F3.rowAt (hV.below B3)).mono ?_
      rintro e w4 ⟨rfl, m4, hw4⟩
      have B4 : Below w3.heap.size w3 w4 := hw4 ▸ below_drewN (Below.refl _ _) m4
      clear hw4
      replace F2 := F2.below B4
      replace X2 := X2.below B4
      replace B4 := below_then B3 B4
      have bx := dotN_bd (rowN D c k) V c
      have HX : Hid (tab (k + 1) (fun i => dotN (rowN D c i) V c) = tab k (fun i => dotN (rowN D c i) V c) ++ [dotN (rowN D c k) V c]) := tab_snoc k _
      clear F3 B2 B3
      generalize dotN (rowN D c k) V c = x at *
      have R := rowAt_one w4 x (by omega)
      have s2 := B4.size
      have i2 := X2.lt
      have BA : Below w4.heap.size w4 (w4.alloc (.cells #[.int .i32 x] 54)) := (Below.refl _ _).alloc (Nat.le_refl _) _
      generalize hw5 : w4.alloc (.cells #[.int .i32 x] 54) = w5 at R BA
      replace F2 := F2.below BA
      replace X2 := X2.below BA
      have s3 := BA.size
      replace BA := below_then B4 BA
      go_wp2_with (at_builtin; refine wpList_append_row rfl _ _ rfl (w.heap.size + 1) g k cap _ rfl (by exact F2) (some ⟨w4.heap.size, 0, none⟩) 1 1 _ rfl (by exact R) (fun h => by cases h) (by omega) (by omega) ?_; intro g' cap' w' F6 B6)
      go_roundg (r - (k + 1))
      case measure => omega
      case rel => exact ⟨k + 1, _, _, by omega, rfl, by go_num, rfl, by rw [HX.out]; exact F6, X2.block (B6.block _ (by omega)), BA.trans (B6.mono (by omega))⟩
    · obtain rfl : k = r := by omega
      go_wp2
      go_ret
      exact ⟨_, _, rfl, F2.mono (by omega), B2⟩
set_option maxHeartbeats 1600000 in
theorem mfew_any (r c : Int) (ao : Option Addr) (n ca : Nat) (D : List Int) (w : World) (hD : Arg w ao n ca D) :
   Calls Tryd.prog 17 #[matV r c ao n ca] w fun e w' => ∃ g n' cap D', e = .returned (matV r c (some ⟨g, 0, none⟩) n' cap) ∧ n' ≤ 2000 ∧ Fresh w' w.heap.size g n' cap D' ∧ Below w.heap.size w w' := by
  have X0 := box_new w r c ao n ca
  have B0 : Below w.heap.size w (w.alloc (.cells #[.int .i64 r, .int .i64 c, .slice ao n ca] 26)) := (Below.refl _ _).alloc (Nat.le_refl _) _
  generalize hw0 : w.alloc (.cells #[.int .i64 r, .int .i64 c, .slice ao n ca] 26) = w0 at X0 B0
  have hs0 : w0.heap.size = w.heap.size + 1 := by rw [← hw0]; simp
  have X1 := box_new w0 0 0 none 0 0
  have B1 : Below w0.heap.size w0 (w0.alloc (.cells #[.int .i64 0, .int .i64 0, .slice none 0 0] 26)) := (Below.refl _ _).alloc (Nat.le_refl _) _
  generalize hw1 : w0.alloc (.cells #[.int .i64 0, .int .i64 0, .slice none 0 0] 26) = w1 at X1 B1
  replace X0 := X0.below B1
  replace B1 := below_then B0 B1
  rw [hs0] at X1
  have q2 := X0.c2
  go_enter Tryd.func17, Tryd.ntmps17
  unfold matV at *
  go_wp2_with fail
  refine (few_any ao n ca D 2000 2000 _ rfl (by exact hD.below B1) (by omega)).mono ?_
  rintro e w2 ⟨g2, n2, c2, rfl, l2, F2, B2⟩
  have i2 := F2.base
  have i0 := X0.lt
  have i1 := X1.lt
  replace X0 := X0.below B2
  replace X1 := X1.below B2
  replace B2 := below_then B1 B2
  clear hw0 hw1 q2
  have q0 := X0.c0
  have q1 := X0.c1
  have q2 := X0.c2
  have f2 := X0.frozen 2
  have u0 := X1.c0
  have u1 := X1.c1
  have u2 := X1.c2
  have v0 := X1.frozen 0
  have v1 := X1.frozen 1
  have v2 := X1.frozen 2
  go_wp2
  have X2 := X1.block (w' := w2.setCell ⟨w.heap.size, 2, none⟩ (.slice (some ⟨g2, 0, none⟩) n2 c2)) (Below.heap_setCell _ _ _ _ (by show w.heap.size + 1 ≠ w.heap.size; omega))
  have F3 := F2.setOther (a := ⟨w.heap.size, 2, none⟩) (by show g2 ≠ w.heap.size; omega) (.slice (some ⟨g2, 0, none⟩) n2 c2)
  have B3 := B2.setCell (p := ⟨w.heap.size, 2, none⟩) (Nat.le_refl _) (.slice (some ⟨g2, 0, none⟩) n2 c2)
  generalize w2.setCell ⟨w.heap.size, 2, none⟩ (.slice (some ⟨g2, 0, none⟩) n2 c2) = w3 at *
  refine bodyPost_ret (results_cell_row rfl _ _ (w.heap.size + 1) _ _ _ _ rfl (X2.put _ _ _ _ _) Tryd.underlying26 rfl (by kernel_rfl)) rfl ?_
  exact ⟨g2, n2, c2, _, rfl, l2, (F3.mono (by omega)).put (by omega) _ _ _, Below.put B3 (by omega) _ _ _⟩
theorem lit_row0 : el (tab 2 fun i => dotN (rowN [65536, 131072, 0, 65536] 2 i) [65536, 65536] 2) 0 = 196608 := by decide
theorem lit_row1 : el (tab 2 fun i => dotN (rowN [65536, 131072, 0, 65536] 2 i) [65536, 65536] 2) 1 = 65536 := by decide
end Go.Proofs.YtoofbjpekdlfiaaDoor

/- The document's Shape. -/
namespace Go.Proofs.YtoofbjpekdlfiaaDoor
open Go.ChangeShapes Go.WideShapes Go.ChangeAt Go.RowKit
def cfA (V D Hd H L : Int) (k : Nat) : Int := match k with | 0 => V | 1 => D | 2 => Hd | 3 => H | _ => L
def leA (k : Nat) : Int := match k with | 0 => 2 | _ => 1
def moA (k : Nat) : Int := match k with | 0 => 64 | 1 => 32 | 2 => 4 | 3 => 64 | _ => 4
theorem lt5 {k : Nat} (h : k < 5) : k = 0 ∨ k = 1 ∨ k = 2 ∨ k = 3 ∨ k = 4 := by omega
theorem cfA_bd {V D Hd H L : Int} (b1 : I64 V) (b2 : I64 D) (b3 : I64 Hd) (b4 : I64 H) (b5 : I64 L) (k : Nat) : I64 (cfA V D Hd H L k) := by
  unfold cfA; split <;> assumption
theorem shape_low {V D Hd H L : Int} (k : Nat) (hk : k < 5) (h : cfA V D Hd H L k < leA k) : shapeN V D Hd H L = 1 := by
  unfold shapeN
  rw [if_pos]
  rcases lt5 hk with rfl | rfl | rfl | rfl | rfl <;> simp only [cfA, leA] at h <;> omega
theorem shape_high {V D Hd H L : Int} (hl : ∀ j, j < 5 → leA j ≤ cfA V D Hd H L j) (k : Nat) (hk : k < 5) (h : moA k < cfA V D Hd H L k) : shapeN V D Hd H L = 2 := by
  have h0 := hl 0 (by omega); have h1 := hl 1 (by omega); have h2 := hl 2 (by omega); have h3 := hl 3 (by omega); have h4 := hl 4 (by omega)
  simp only [cfA, leA] at h0 h1 h2 h3 h4
  unfold shapeN
  rw [if_neg (by omega), if_pos]
  rcases lt5 hk with rfl | rfl | rfl | rfl | rfl <;> simp only [cfA, moA] at h <;> omega
theorem shape_rest {V D Hd H L : Int} (hl : ∀ j, j < 5 → leA j ≤ cfA V D Hd H L j) (hm : ∀ j, j < 5 → cfA V D Hd H L j ≤ moA j) : (1 ≤ D ∧ D ≤ 32 ∧ 1 ≤ Hd ∧ Hd ≤ 4) ∧ shapeN V D Hd H L = if 0 < D.tmod Hd then 4 else 0 := by
  have h0 := hl 0 (by omega); have h1 := hl 1 (by omega); have h2 := hl 2 (by omega); have h3 := hl 3 (by omega); have h4 := hl 4 (by omega)
  have g0 := hm 0 (by omega); have g1 := hm 1 (by omega); have g2 := hm 2 (by omega); have g3 := hm 3 (by omega); have g4 := hm 4 (by omega)
  simp only [cfA, leA, moA] at h0 h1 h2 h3 h4 g0 g1 g2 g3 g4
  refine ⟨by omega, ?_⟩
  unfold shapeN
  rw [if_neg (by omega), if_neg (by omega)]
  have := Int.tmod_nonneg Hd (show 0 ≤ D by omega)
  by_cases h : D.tmod Hd ≠ 0
  · rw [if_pos h, if_pos (by omega)]
  · rw [if_neg h, if_neg (by omega)]
set_option maxHeartbeats 1600000 in
theorem rshape_any (V D Hd H L : Int) (w : World) (b1 : I64 V) (b2 : I64 D) (b3 : I64 Hd) (b4 : I64 H) (b5 : I64 L) :
   Calls Tryd.prog 24 #[.agg (cfgC V D Hd H L)] w fun e w' => e = .returned (.int .i64 (shapeN V D Hd H L)) ∧ Below w.heap.size w w' := by
  have X0 := blk_new w 23 (cfgC V D Hd H L)
  have B0 : Below w.heap.size w (w.alloc (.cells (cfgC V D Hd H L) 23)) := (Below.refl _ _).alloc (Nat.le_refl _) _
  have s0 : (w.alloc (.cells (cfgC V D Hd H L) 23)).heap.size = w.heap.size + 1 := by simp
  unfold cfgC at *
  generalize hw0 : w.alloc (.cells #[.int .i64 V, .int .i64 D, .int .i64 Hd, .int .i64 H, .int .i64 L] 23) = w0 at *
  have c0 : w0.cell? ⟨w.heap.size, 0, none⟩ = some (.int .i64 V) := X0.cell 0 rfl
  have c1 : w0.cell? ⟨w.heap.size, 1, none⟩ = some (.int .i64 D) := X0.cell 1 rfl
  have c2 : w0.cell? ⟨w.heap.size, 2, none⟩ = some (.int .i64 Hd) := X0.cell 2 rfl
  have c3 : w0.cell? ⟨w.heap.size, 3, none⟩ = some (.int .i64 H) := X0.cell 3 rfl
  have c4 : w0.cell? ⟨w.heap.size, 4, none⟩ = some (.int .i64 L) := X0.cell 4 rfl
  go_enter Tryd.func24, Tryd.ntmps24
  have X1 := blk_new w0 3 #[.int .i64 V, .int .i64 D, .int .i64 Hd, .int .i64 H, .int .i64 L]
  have B1 : Below w0.heap.size w0 (w0.alloc (.cells #[.int .i64 V, .int .i64 D, .int .i64 Hd, .int .i64 H, .int .i64 L] 3)) := (Below.refl _ _).alloc (Nat.le_refl _) _
  have s1 : (w0.alloc (.cells #[.int .i64 V, .int .i64 D, .int .i64 Hd, .int .i64 H, .int .i64 L] 3)).heap.size = w0.heap.size + 1 := by simp
  rw [s0] at X1 s1
  generalize hw1 : w0.alloc (.cells #[.int .i64 V, .int .i64 D, .int .i64 Hd, .int .i64 H, .int .i64 L] 3) = w1 at *
  have X2 := blk_new w1 3 #[.int .i64 2, .int .i64 1, .int .i64 1, .int .i64 1, .int .i64 1]
  have B2 : Below w1.heap.size w1 (w1.alloc (.cells #[.int .i64 2, .int .i64 1, .int .i64 1, .int .i64 1, .int .i64 1] 3)) := (Below.refl _ _).alloc (Nat.le_refl _) _
  have s2 : (w1.alloc (.cells #[.int .i64 2, .int .i64 1, .int .i64 1, .int .i64 1, .int .i64 1] 3)).heap.size = w1.heap.size + 1 := by simp
  rw [s1] at X2 s2
  generalize hw2 : w1.alloc (.cells #[.int .i64 2, .int .i64 1, .int .i64 1, .int .i64 1, .int .i64 1] 3) = w2 at *
  have X3 := blk_new w2 3 #[.int .i64 64, .int .i64 32, .int .i64 4, .int .i64 64, .int .i64 4]
  have B3 : Below w2.heap.size w2 (w2.alloc (.cells #[.int .i64 64, .int .i64 32, .int .i64 4, .int .i64 64, .int .i64 4] 3)) := (Below.refl _ _).alloc (Nat.le_refl _) _
  rw [s2] at X3
  generalize hw3 : w2.alloc (.cells #[.int .i64 64, .int .i64 32, .int .i64 4, .int .i64 64, .int .i64 4] 3) = w3 at *
  replace X0 := ((X0.below B1).below B2).below B3
  replace X1 := (X1.below B2).below B3
  replace X2 := X2.below B3
  replace B3 := below_then (below_then (below_then B0 B1) B2) B3
  go_wp2_with fail
  clear hw0 hw1 hw2 hw3 c0 c1 c2 c3 c4 B0 B1 B2 s0 s1 s2
  have HA : Hid (∀ v : World, Below w3.heap.size w3 v → ∀ k, k < 5 → v.cell? ⟨w.heap.size + 1, k, none⟩ = some (.int .i64 (cfA V D Hd H L k))) := fun v hv k hk => by rcases lt5 hk with rfl | rfl | rfl | rfl | rfl <;> exact (X1.below hv).cell _ rfl
  have HL : Hid (∀ v : World, Below w3.heap.size w3 v → ∀ k, k < 5 → v.cell? ⟨w.heap.size + 1 + 1, k, none⟩ = some (.int .i64 (leA k))) := fun v hv k hk => by rcases lt5 hk with rfl | rfl | rfl | rfl | rfl <;> exact (X2.below hv).cell _ rfl
  have HM : Hid (∀ v : World, Below w3.heap.size w3 v → ∀ k, k < 5 → v.cell? ⟨w.heap.size + 1 + 1 + 1, k, none⟩ = some (.int .i64 (moA k))) := fun v hv k hk => by rcases lt5 hk with rfl | rfl | rfl | rfl | rfl <;> exact (X3.below hv).cell _ rfl
  have HB : Hid (∀ k, I64 (cfA V D Hd H L k)) := fun k => cfA_bd b1 b2 b3 b4 b5 k
  clear X1 X2 X3
  go_loopg [23] 5 (fun r q wr => ∃ k : Nat, k ≤ 5 ∧ r = 5 - k ∧ q = .int .i64 k ∧ Below w3.heap.size w3 wr ∧ Hid (∀ j, j < k → leA j ≤ cfA V D Hd H L j))
  case atStart => exact ⟨0, by omega, rfl, rfl, Below.refl _ _, fun j hj => by omega⟩
  case round =>
    obtain ⟨k, hk, rfl, rfl, BR, HN⟩ := hrel
    by_cases hlt : k < 5
    · have a1 := HA.out wr BR k hlt
      have a2 := HL.out wr BR k hlt
      have hb := HB.out k
      have HS : Hid (cfA V D Hd H L k < leA k → shapeN V D Hd H L = 1) := fun h => shape_low k hlt h
      have HN2 : Hid (leA k ≤ cfA V D Hd H L k → ∀ j, j < k + 1 → leA j ≤ cfA V D Hd H L j) := fun h j hj => by
        rcases Nat.lt_or_ge j k with h1 | h1
        · exact HN.out j h1
        · obtain rfl : j = k := by omega
          exact h
      clear HN
      generalize cfA V D Hd H L k = a at *
      generalize leA k = b at *
      by_cases hab : a < b
      · have e1 : Hid (shapeN V D Hd H L = 1) := HS.out hab
        go_wp2_with fail
        go_quiet (fail)
        go_wp2_with fail
        go_ret
        exact ⟨by rw [e1.out]; rfl, below_then B3 (below_drewN BR _)⟩
      · go_wp2_with fail
        go_quiet (fail)
        go_wp2_with fail
        go_roundg (5 - (k + 1))
        case measure => omega
        case rel => exact ⟨k + 1, by omega, rfl, by go_num, below_drewN BR _, HN2.out (by omega)⟩
    · obtain rfl : k = 5 := by omega
      go_wp2_with fail
      clear hlt hk
      go_loopg [38] 5 (fun r q wr => ∃ k : Nat, k ≤ 5 ∧ r = 5 - k ∧ q = .int .i64 k ∧ Below w3.heap.size w3 wr ∧ Hid (∀ j, j < k → cfA V D Hd H L j ≤ moA j))
      case atStart => exact ⟨0, by omega, rfl, rfl, BR, fun j hj => by omega⟩
      case round =>
        clear BR
        obtain ⟨k, hk, rfl, rfl, BR, HN3⟩ := hrel
        by_cases hlt : k < 5
        · have a1 := HA.out wr BR k hlt
          have a2 := HM.out wr BR k hlt
          have hb := HB.out k
          have HS : Hid (moA k < cfA V D Hd H L k → shapeN V D Hd H L = 2) := fun h => shape_high HN.out k hlt h
          have HN2 : Hid (cfA V D Hd H L k ≤ moA k → ∀ j, j < k + 1 → cfA V D Hd H L j ≤ moA j) := fun h j hj => by
            rcases Nat.lt_or_ge j k with h1 | h1
            · exact HN3.out j h1
            · obtain rfl : j = k := by omega
              exact h
          clear HN3
          generalize cfA V D Hd H L k = a at *
          generalize moA k = b at *
          by_cases hab : b < a
          · have e1 : Hid (shapeN V D Hd H L = 2) := HS.out hab
            go_wp2_with fail
            go_quiet (fail)
            go_wp2_with fail
            go_ret
            exact ⟨by rw [e1.out]; rfl, below_then B3 (below_drewN BR _)⟩
          · go_wp2_with fail
            go_quiet (fail)
            go_wp2_with fail
            go_roundg (5 - (k + 1))
            case measure => omega
            case rel => exact ⟨k + 1, by omega, rfl, by go_num, below_drewN BR _, HN2.out (by omega)⟩
        · obtain rfl : k = 5 := by omega
          obtain ⟨hr, e0⟩ := shape_rest HN.out HN3.out
          obtain ⟨q, hq⟩ : ∃ q, Hid (shapeN V D Hd H L = q) := ⟨_, rfl⟩
          rw [hq.out] at e0
          have c1 : wr.cell? ⟨w.heap.size, 1, none⟩ = some (.int .i64 D) := (X0.below BR).cell 1 rfl
          have c2 : wr.cell? ⟨w.heap.size, 2, none⟩ = some (.int .i64 Hd) := (X0.below BR).cell 2 rfl
          clear HN HN3 HA HL HM HB
          have hz : (Hd == 0) = false := by simp; omega
          have t1 := Int.tmod_nonneg Hd (show 0 ≤ D by omega)
          have t2 := Int.tmod_lt_of_pos D (show 0 < Hd by omega)
          by_cases hm : 0 < D.tmod Hd
          · rw [if_pos hm] at e0
            have e3 : 0 < D % Hd := by rw [← Int.tmod_eq_emod_of_nonneg (by omega)]; exact hm
            replace e0 : Hid (q = 4) := e0
            go_wp2_with fail
            go_ret
            exact ⟨by rw [hq.out, e0.out]; rfl, below_then B3 BR⟩
          · rw [if_neg hm] at e0
            have e3 : ¬ 0 < D % Hd := by rw [← Int.tmod_eq_emod_of_nonneg (by omega)]; exact hm
            replace e0 : Hid (q = 0) := e0
            go_wp2_with fail
            go_ret
            exact ⟨by rw [hq.out, e0.out]; rfl, below_then B3 BR⟩
end Go.Proofs.YtoofbjpekdlfiaaDoor
