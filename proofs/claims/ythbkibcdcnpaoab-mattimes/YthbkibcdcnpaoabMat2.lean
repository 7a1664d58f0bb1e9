/- What mat.Apply, mat.blank and mat.Turn answer. -/
import Derived.Test.YthbkibcdcnpaoabMat
import Derived.Laws.ResultCell
namespace Go.Proofs.Ythbkibcdcnpaoab
open Go.ChangeShapes Go.WideShapes Go.ChangeAt Go.RowKit
set_option maxHeartbeats 800000 in
theorem apply_bad (r c : Int) (ao : Option Addr) (n ca : Nat) (v : Value) (w : World) (h1 : -9223372036854775808 ≤ r ∧ r ≤ 9223372036854775807) (h2 : -9223372036854775808 ≤ c ∧ c ≤ 9223372036854775807) (hf : chkN r c n ≠ 0) :
   Calls Try.prog 18 #[matV r c ao n ca, v] w fun e w' => e = .returned (.tuple #[.slice none 0 0, .int .i64 (chkN r c n)]) ∧ Below w.heap.size w w' := by
  have hf' : (chkN r c n == 0) = false := by simpa using hf
  have X0 := box_new w r c ao n ca
  have B0 : Below w.heap.size w (w.alloc (.cells #[.int .i64 r, .int .i64 c, .slice ao n ca] 24)) := (Below.refl _ _).alloc (Nat.le_refl _) _
  generalize hw0 : w.alloc (.cells #[.int .i64 r, .int .i64 c, .slice ao n ca] 24) = w0 at X0 B0
  have q0 := X0.c0
  have q1 := X0.c1
  have q2 := X0.c2
  have C := check_any r c ao n ca w0 h1 h2
  generalize chkN r c n = q at *
  go_enter Try.func18, Try.ntmps18
  unfold matV at *
  go_wp2_with fail
  refine C.mono ?_
  rintro e w1 ⟨rfl, B1⟩
  replace B1 := below_then B0 B1
  clear hw0 q0 q1 q2 X0 C
  go_wp2
  go_ret2
  exact ⟨rfl, B1⟩
set_option maxHeartbeats 800000 in
theorem apply_len (r c b o n ca : Nat) (D : List Int) (vo : Option Addr) (m cv : Nat) (w : World) (h : MatAt w r c b o n ca D) (hne : m ≠ c) :
   Calls Try.prog 18 #[matV r c (some ⟨b, o, none⟩) n ca, .slice vo m cv] w fun e w' => e = .returned (.tuple #[.slice none 0 0, .int .i64 6]) ∧ Below w.heap.size w w' := by
  have r2 := h.r2
  have c2 := h.c2
  have hk := chk_ok h.r1 h.r2 h.c1 h.c2 h.size
  have X0 := box_new w r c (some ⟨b, o, none⟩) n ca
  have B0 : Below w.heap.size w (w.alloc (.cells #[.int .i64 r, .int .i64 c, .slice (some ⟨b, o, none⟩) n ca] 24)) := (Below.refl _ _).alloc (Nat.le_refl _) _
  generalize hw0 : w.alloc (.cells #[.int .i64 r, .int .i64 c, .slice (some ⟨b, o, none⟩) n ca] 24) = w0 at X0 B0
  have q0 := X0.c0
  have q1 := X0.c1
  have q2 := X0.c2
  have C := check_any r c (some ⟨b, o, none⟩) n ca w0 (by omega) (by omega)
  rw [hk] at C
  go_enter Try.func18, Try.ntmps18
  unfold matV at *
  go_wp2_with fail
  refine C.mono ?_
  rintro e w1 ⟨rfl, B1⟩
  replace X0 := X0.below B1
  replace q0 := X0.c0
  replace q1 := X0.c1
  replace q2 := X0.c2
  replace B1 := below_then B0 B1
  clear hw0 X0 C
  go_wp2
  go_ret2
  exact ⟨rfl, B1⟩
set_option maxHeartbeats 1600000 in
theorem apply_any (r c b o n ca : Nat) (D : List Int) (vo : Option Addr) (cv : Nat) (V : List Int) (w : World) (h : MatAt w r c b o n ca D) (hV : RowAt w vo c V) :
   Calls Try.prog 18 #[matV r c (some ⟨b, o, none⟩) n ca, .slice vo c cv] w fun e w' => ∃ g, e = .returned (.tuple #[.slice (some ⟨g, 0, none⟩) r r, .int .i64 0]) ∧ Fresh w' w.heap.size g r r (tab r fun i => dotN (rowN D c i) V c) ∧ Below w.heap.size w w' := by
  have r2 := h.r2
  have c2 := h.c2
  have hk := chk_ok h.r1 h.r2 h.c1 h.c2 h.size
  have X0 := box_new w r c (some ⟨b, o, none⟩) n ca
  have B0 : Below w.heap.size w (w.alloc (.cells #[.int .i64 r, .int .i64 c, .slice (some ⟨b, o, none⟩) n ca] 24)) := (Below.refl _ _).alloc (Nat.le_refl _) _
  generalize hw0 : w.alloc (.cells #[.int .i64 r, .int .i64 c, .slice (some ⟨b, o, none⟩) n ca] 24) = w0 at X0 B0
  have q0 := X0.c0
  have q1 := X0.c1
  have q2 := X0.c2
  have C := check_any r c (some ⟨b, o, none⟩) n ca w0 (by omega) (by omega)
  rw [hk] at C
  have hmk := run_make_row' (P := Try.prog) 22 33 (.int .i32 0) 4 Try.underlying22 Try.infoNum rfl .i64 .i64 r (by omega) (by omega)
  go_enter Try.func18, Try.ntmps18
  unfold matV at *
  go_wp2_with fail
  refine C.mono ?_
  rintro e w1 ⟨rfl, B1⟩
  replace X0 := X0.below B1
  replace q0 := X0.c0
  replace q1 := X0.c1
  replace q2 := X0.c2
  replace B1 := below_then B0 B1
  clear hw0 C B0
  have s1 := B1.size
  have F2 := fresh_made w1 r (by omega)
  have B2 : Below w1.heap.size w1 (w1.alloc (.cells (madeCells #[.int .i32 0] r) 33)) := (Below.refl _ _).alloc (Nat.le_refl _) _
  generalize hw2 : w1.alloc (.cells (madeCells #[.int .i32 0] r) 33) = w2 at F2 B2
  go_wp2_with fail
  clear hw2 hmk q0 q1 q2
  have i0 := X0.lt
  replace X0 := X0.below B2
  replace B2 := below_then B1 B2
  clear B1
  go_loopg [24] r (fun k0 i wr => ∃ k : Nat, k ≤ r ∧ k0 = r - k ∧ i = .int .i64 k ∧ Fresh wr w1.heap.size w1.heap.size r r (tab r fun j => if j < k then dotN (rowN D c j) V c else 0) ∧ Box wr w.heap.size r c (some ⟨b, o, none⟩) n ca ∧ Below w.heap.size w wr)
  case atStart => exact ⟨0, by omega, by omega, rfl, by rw [tab_start]; exact F2, X0, B2⟩
  case round =>
    clear X0 F2 B2
    obtain ⟨k, hk, rfl, rfl, F3, X3, B3⟩ := hrel
    by_cases hlt : k < r
    · replace h := h.below B3
      replace hV := hV.below B3
      have q0 := X3.c0
      have q1 := X3.c1
      have q2 := X3.c2
      go_wp2_with fail
      refine (mrow_any r c b o n ca D k wr h hlt).mono ?_
      rintro e w4 ⟨cap, rfl, B4⟩
      clear q0 q1 q2
      replace h := h.below B4
      replace hV := hV.below B4
      replace F3 := F3.below B4
      replace X3 := X3.below B4
      replace B4 := below_then B3 B4
      go_wp2_with fail
      refine (mdot_any _ _ c _ _ _ V w4 (h.rowAt hlt) hV (by omega)).mono ?_
      rintro e w5 ⟨rfl, m5, hw5⟩
      have B5 : Below w4.heap.size w4 w5 := hw5 ▸ below_drewN (Below.refl _ _) m5
      clear hw5
      replace F3 := F3.below B5
      replace X3 := X3.below B5
      replace B5 := below_then B4 B5
      have f1 := F3.frozen k
      have f2 := F3.cell hlt
      have b1 := dotN_bd (rowN D c k) V c
      clear h hV B3 B4
      go_wp2
      go_roundg (r - (k + 1))
      case measure => omega
      case rel => exact ⟨k + 1, by omega, rfl, by go_num, F3.step _ hlt rfl (by omega), X3.block (Below.heap_setCell _ _ _ _ (by show w.heap.size ≠ w1.heap.size; omega)), B5.setCell (p := ⟨w1.heap.size, k, none⟩) s1 _⟩
    · obtain rfl : k = r := by omega
      rw [tab_done] at F3
      go_wp2
      go_ret2
      exact ⟨_, rfl, F3.mono s1, B3⟩
set_option maxHeartbeats 800000 in
theorem blank_any (r c : Nat) (w : World) (h1 : r ≤ 128) (h2 : c ≤ 128) :
   Calls Try.prog 22 #[.int .i64 r, .int .i64 c] w fun e w' => ∃ g, e = .returned (matV r c (some ⟨g, 0, none⟩) (r * c) (r * c)) ∧ Fresh w' w.heap.size g (r * c) (r * c) (tab (r * c) fun _ => 0) ∧ Below w.heap.size w w' := by
  have h6 := size_le h1 h2
  have e1 : (r : Int) * (c : Int) = ((r * c : Nat) : Int) := by rw [Int.natCast_mul]
  generalize hrc : r * c = rc at *
  have hmk := run_make_row' (P := Try.prog) 22 33 (.int .i32 0) 4 Try.underlying22 Try.infoNum rfl .i64 .i64 rc (by omega) (by omega)
  go_enter Try.func22, Try.ntmps22
  go_wp2
  have X0 := box_new w r c (some ⟨w.heap.size + 1, 0, none⟩) rc rc
  have hs : (w.alloc (.cells #[.int .i64 r, .int .i64 c, .slice (some ⟨w.heap.size + 1, 0, none⟩) rc rc] 24)).heap.size = w.heap.size + 1 := by simp
  have B0 : Below w.heap.size w (w.alloc (.cells #[.int .i64 r, .int .i64 c, .slice (some ⟨w.heap.size + 1, 0, none⟩) rc rc] 24)) := (Below.refl _ _).alloc (Nat.le_refl _) _
  generalize w.alloc (.cells #[.int .i64 r, .int .i64 c, .slice (some ⟨w.heap.size + 1, 0, none⟩) rc rc] 24) = w0 at *
  have F1 := fresh_made w0 rc (by omega)
  have B1 : Below w0.heap.size w0 (w0.alloc (.cells (madeCells #[.int .i32 0] rc) 33)) := (Below.refl _ _).alloc (Nat.le_refl _) _
  generalize w0.alloc (.cells (madeCells #[.int .i32 0] rc) 33) = w1 at *
  rw [hs] at F1
  refine bodyPost_ret (results_cell_row rfl _ _ w.heap.size _ _ _ _ rfl (X0.below B1) Try.underlying24 rfl (by kernel_rfl)) rfl ?_
  exact ⟨_, rfl, F1.mono (by omega), below_then B0 B1⟩
theorem heap_setCell_at {w : World} {g k : Nat} {t : TypeId} {fr : Nat × Nat} {cs : Array Value} {v : Value} (h : w.heap[g]? = some (.cells cs t fr)) : (w.setCell ⟨g, k, none⟩ v).heap[g]? = some (.cells (cs.setIfInBounds k v) t fr) := by
  simp [World.setCell, Array.getElem?_modify, h]
theorem Box.put {w : World} {g : Nat} {r c : Int} {ao : Option Addr} {n ca : Nat} (h : Box w g r c ao n ca) (r' c' : Int) (ao' : Option Addr) (n' ca' : Nat) :
    Box (((w.setCell ⟨g, 0, none⟩ (.int .i64 r')).setCell ⟨g, 1, none⟩ (.int .i64 c')).setCell ⟨g, 2, none⟩ (.slice ao' n' ca')) g r' c' ao' n' ca' := by
  unfold Box at *
  rw [heap_setCell_at (heap_setCell_at (heap_setCell_at h))]
  rfl
theorem Below.put {B : Nat} {a w : World} (h : Below B a w) {g : Nat} (hg : B ≤ g) (u v x : Value) : Below B a (((w.setCell ⟨g, 0, none⟩ u).setCell ⟨g, 1, none⟩ v).setCell ⟨g, 2, none⟩ x) :=
  ((h.setCell (p := ⟨g, 0, none⟩) hg u).setCell (p := ⟨g, 1, none⟩) hg v).setCell (p := ⟨g, 2, none⟩) hg x
theorem Fresh.put {w : World} {B g n cap : Nat} {A : List Int} (h : Fresh w B g n cap A) {k : Nat} (hg : g ≠ k) (u v x : Value) : Fresh (((w.setCell ⟨k, 0, none⟩ u).setCell ⟨k, 1, none⟩ v).setCell ⟨k, 2, none⟩ x) B g n cap A :=
  ((h.setOther (a := ⟨k, 0, none⟩) hg u).setOther (a := ⟨k, 1, none⟩) hg v).setOther (a := ⟨k, 2, none⟩) hg x
theorem results_mat {fn : Func} {p u : Tmp} (h : fn.results = #[.cell p 24, .tmp u]) (tmps : Array Value) (w : World) (g : Nat) (r c : Int) (ao : Option Addr) (n ca : Nat)
    (hp : tmps.getD p undef = .pointer (some ⟨g, 0, none⟩)) (hb : Box w g r c ao n ca) : (results fn tmps).run Try.prog w = .ok (.tuple #[matV r c ao n ca, tmps.getD u undef]) w := by
  rw [results_cell_tmp h, hp]
  simp only [asAddr, Result.andThen]
  have hl := run_loadVar_row (P := Try.prog) w g 24 24 _ _ _ hb Try.underlying24 rfl (by kernel_rfl)
  simp [hl, matV]
set_option maxHeartbeats 800000 in
theorem turn_bad (r c : Int) (ao : Option Addr) (n ca : Nat) (w : World) (h1 : -9223372036854775808 ≤ r ∧ r ≤ 9223372036854775807) (h2 : -9223372036854775808 ≤ c ∧ c ≤ 9223372036854775807) (hf : chkN r c n ≠ 0) :
   Calls Try.prog 16 #[matV r c ao n ca] w fun e w' => e = .returned (.tuple #[matV 0 0 none 0 0, .int .i64 (chkN r c n)]) ∧ Below w.heap.size w w' := by
  have hf' : (chkN r c n == 0) = false := by simpa using hf
  have X0 := box_new w r c ao n ca
  have B0 : Below w.heap.size w (w.alloc (.cells #[.int .i64 r, .int .i64 c, .slice ao n ca] 24)) := (Below.refl _ _).alloc (Nat.le_refl _) _
  generalize hw0 : w.alloc (.cells #[.int .i64 r, .int .i64 c, .slice ao n ca] 24) = w0 at X0 B0
  have hs0 : w0.heap.size = w.heap.size + 1 := by rw [← hw0]; simp
  have X1 := box_new w0 0 0 none 0 0
  have B1 : Below w0.heap.size w0 (w0.alloc (.cells #[.int .i64 0, .int .i64 0, .slice none 0 0] 24)) := (Below.refl _ _).alloc (Nat.le_refl _) _
  generalize hw1 : w0.alloc (.cells #[.int .i64 0, .int .i64 0, .slice none 0 0] 24) = w1 at X1 B1
  replace X0 := X0.below B1
  replace B1 := below_then B0 B1
  have q0 := X0.c0
  have q1 := X0.c1
  have q2 := X0.c2
  rw [hs0] at X1
  have C := check_any r c ao n ca w1 h1 h2
  generalize chkN r c n = q at *
  go_enter Try.func16, Try.ntmps16
  unfold matV at *
  go_wp2_with fail
  refine C.mono ?_
  rintro e w2 ⟨rfl, B2⟩
  replace X1 := X1.below B2
  replace B2 := below_then B1 B2
  clear hw0 hw1 q0 q1 q2 X0 C
  have p0 := X1.c0
  have p1 := X1.c1
  have p2 := X1.c2
  have f0 := X1.frozen 0
  have f1 := X1.frozen 1
  have f2 := X1.frozen 2
  go_wp2
  refine bodyPost_ret (results_mat rfl _ _ (w.heap.size + 1) 0 0 none 0 0 rfl (X1.put _ _ _ _ _)) rfl ?_
  exact ⟨rfl, Below.put B2 (by omega) _ _ _⟩
/-- The turned matrix' numbers. -/
def turnN (D : List Int) (r c : Nat) : List Int := tab (c * r) fun q => el D ((q % r) * c + q / r)
theorem place_eq {r j k q : Nat} (hk : k < r) : q = j * r + k ↔ (q % r = k ∧ q / r = j) := by
  constructor
  · rintro rfl
    constructor
    · rw [Nat.add_comm, Nat.add_mul_mod_self_right, Nat.mod_eq_of_lt hk]
    · rw [Nat.add_comm, Nat.add_mul_div_right _ _ (by omega), Nat.div_eq_of_lt hk, Nat.zero_add]
  · rintro ⟨h1, h2⟩
    have := Nat.div_add_mod q r
    rw [h1, h2, Nat.mul_comm] at this
    omega
/-- What is there when k rows and j places of the next are done. -/
def turnK (D : List Int) (r c k j : Nat) : List Int := tab (c * r) fun q => if q % r < k ∨ (q % r = k ∧ q / r < j) then el D ((q % r) * c + q / r) else 0
theorem turnK_start (D : List Int) (r c : Nat) : turnK D r c 0 0 = tab (c * r) fun _ => 0 := tab_congr fun q _ => by
  generalize q % r = x
  generalize q / r = y
  rw [if_neg (by omega)]
theorem turnK_next (D : List Int) (r c k : Nat) (hk : k < r) : turnK D r c k c = turnK D r c (k + 1) 0 := tab_congr fun q hq => by
  have h1 : q / r < c := (Nat.div_lt_iff_lt_mul (by omega)).2 hq
  generalize q % r = x at *
  generalize q / r = y at *
  by_cases h : x < k ∨ x = k
  · rw [if_pos (by omega), if_pos (by omega)]
  · rw [if_neg (by omega), if_neg (by omega)]
theorem turnK_end (D : List Int) (r c : Nat) (hr : 1 ≤ r) : turnK D r c r 0 = turnN D r c := tab_congr fun q _ => by
  have := Nat.mod_lt q (show 0 < r by omega)
  rw [if_pos (by omega)]
theorem turnK_step (D : List Int) (r c k j : Nat) (hk : k < r) (hj : j < c) : (turnK D r c k j).set (j * r + k) (el D (k * c + j)) = turnK D r c k (j + 1) := by
  unfold turnK
  have hq : j * r + k < c * r := by have := row_in (c := r) hj; omega
  rw [tab_set hq]
  refine tab_congr fun q _ => ?_
  by_cases h : q = j * r + k
  · rw [if_pos h]
    obtain ⟨h1, h2⟩ := (place_eq hk).1 h
    rw [if_pos (by omega), h1, h2]
  · rw [if_neg h]
    have h' : ¬ (q % r = k ∧ q / r = j) := fun x => h ((place_eq hk).2 x)
    by_cases h3 : q % r < k ∨ (q % r = k ∧ q / r < j)
    · rw [if_pos h3, if_pos (by omega)]
    · rw [if_neg h3, if_neg (by omega)]
set_option maxHeartbeats 3200000 in
theorem turn_any (r c b o n ca : Nat) (D : List Int) (w : World) (h : MatAt w r c b o n ca D) :
   Calls Try.prog 16 #[matV r c (some ⟨b, o, none⟩) n ca] w fun e w' => ∃ g, e = .returned (.tuple #[matV c r (some ⟨g, 0, none⟩) (c * r) (c * r), .int .i64 0]) ∧ Fresh w' w.heap.size g (c * r) (c * r) (turnN D r c) ∧ Below w.heap.size w w' := by
  have r1 := h.r1
  have r2 := h.r2
  have c1 := h.c1
  have c2 := h.c2
  have hcr := size_le c2 r2
  have hk := chk_ok h.r1 h.r2 h.c1 h.c2 h.size
  have X0 := box_new w r c (some ⟨b, o, none⟩) n ca
  have B0 : Below w.heap.size w (w.alloc (.cells #[.int .i64 r, .int .i64 c, .slice (some ⟨b, o, none⟩) n ca] 24)) := (Below.refl _ _).alloc (Nat.le_refl _) _
  generalize hw0 : w.alloc (.cells #[.int .i64 r, .int .i64 c, .slice (some ⟨b, o, none⟩) n ca] 24) = w0 at X0 B0
  have hs0 : w0.heap.size = w.heap.size + 1 := by rw [← hw0]; simp
  have X1 := box_new w0 0 0 none 0 0
  have B1 : Below w0.heap.size w0 (w0.alloc (.cells #[.int .i64 0, .int .i64 0, .slice none 0 0] 24)) := (Below.refl _ _).alloc (Nat.le_refl _) _
  generalize hw1 : w0.alloc (.cells #[.int .i64 0, .int .i64 0, .slice none 0 0] 24) = w1 at X1 B1
  replace X0 := X0.below B1
  replace B1 := below_then B0 B1
  have q0 := X0.c0
  have q1 := X0.c1
  have q2 := X0.c2
  rw [hs0] at X1
  have C := check_any r c (some ⟨b, o, none⟩) n ca w1 (by omega) (by omega)
  rw [hk] at C
  clear hk
  go_enter Try.func16, Try.ntmps16
  unfold matV at *
  go_wp2_with fail
  refine C.mono ?_
  rintro e w2 ⟨rfl, B2⟩
  replace X0 := X0.below B2
  replace X1 := X1.below B2
  replace B2 := below_then B1 B2
  clear hw0 hw1 q0 q1 q2 C B0 B1
  have q0 := X0.c0
  have q1 := X0.c1
  have q2 := X0.c2
  have i0 := X0.lt
  have i1 := X1.lt
  go_wp2_with fail
  refine (blank_any c r w2 c2 r2).mono ?_
  rintro e w3 ⟨g, rfl, F3, B3⟩
  have j3 := F3.base
  have i3 := F3.lt
  have s3 := B3.size
  replace X0 := X0.below B3
  replace X1 := X1.below B3
  replace B3 := below_then B2 B3
  unfold matV
  have X4 := box_new w3 c r (some ⟨g, 0, none⟩) (c * r) (c * r)
  have B4 : Below w3.heap.size w3 (w3.alloc (.cells #[.int .i64 c, .int .i64 r, .slice (some ⟨g, 0, none⟩) (c * r) (c * r)] 24)) := (Below.refl _ _).alloc (Nat.le_refl _) _
  generalize hw4 : w3.alloc (.cells #[.int .i64 c, .int .i64 r, .slice (some ⟨g, 0, none⟩) (c * r) (c * r)] 24) = w4 at X4 B4
  clear q0 q1 q2
  have q0 := (X0.below B4).c0
  go_wp2_with fail
  clear hw4 q0
  replace F3 := F3.below B4
  replace X0 := X0.below B4
  replace X1 := X1.below B4
  replace B4 := below_then B3 B4
  replace F3 := F3.mono (show w.heap.size + 2 ≤ w2.heap.size by omega)
  clear B2 B3
  go_loopg [22] r (fun k0 i wr => ∃ k : Nat, k ≤ r ∧ k0 = r - k ∧ i = .int .i64 k ∧ Fresh wr (w.heap.size + 2) g (c * r) (c * r) (turnK D r c k 0) ∧ Box wr w.heap.size r c (some ⟨b, o, none⟩) n ca ∧ Box wr (w.heap.size + 1) 0 0 none 0 0 ∧ Box wr w3.heap.size c r (some ⟨g, 0, none⟩) (c * r) (c * r) ∧ Below w.heap.size w wr)
  case atStart => exact ⟨0, by omega, by omega, rfl, by rw [turnK_start]; exact F3, X0, X1, X4, B4⟩
  case round =>
    clear F3 X0 X1 X4 B4
    obtain ⟨k, hk, rfl, rfl, F5, X0, X1, X4, B5⟩ := hrel
    have q0 := X0.c0
    have q1 := X0.c1
    have q2 := X0.c2
    by_cases hlt : k < r
    · go_wp2_with fail
      refine (mrow_any r c b o n ca D k wr (h.below B5) hlt).mono ?_
      rintro e w6 ⟨cap, rfl, B6⟩
      clear q0 q1 q2
      replace F5 := F5.below B6
      replace X0 := X0.below B6
      replace X1 := X1.below B6
      replace X4 := X4.below B6
      replace B6 := below_then B5 B6
      clear B5
      go_wp2_with fail
      go_loopg [29] c (fun k0 i wr => ∃ j : Nat, j ≤ c ∧ k0 = c - j ∧ i = .int .i64 j ∧ Fresh wr (w.heap.size + 2) g (c * r) (c * r) (turnK D r c k j) ∧ Box wr w.heap.size r c (some ⟨b, o, none⟩) n ca ∧ Box wr (w.heap.size + 1) 0 0 none 0 0 ∧ Box wr w3.heap.size c r (some ⟨g, 0, none⟩) (c * r) (c * r) ∧ Below w.heap.size w wr)
      case atStart => exact ⟨0, by omega, by omega, rfl, F5, X0, X1, X4, B6⟩
      case round =>
        clear F5 X0 X1 X4 B6
        obtain ⟨j, hj, rfl, rfl, F7, X0, X1, X4, B7⟩ := hrel
        by_cases hjc : j < c
        · have R := (h.below B7).rowAt hlt
          obtain ⟨b', o', e, hc⟩ := R.cells (by omega)
          simp only [Option.some.injEq, Addr.mk.injEq, and_true] at e
          obtain ⟨rfl, rfl⟩ := e
          have a1 := hc j hjc
          have e0 : el (rowN D c k) j = el D (k * c + j) := el_tab hjc
          rw [e0] at a1
          have bx := h.row.small.el (k * c + j)
          have q0 := X0.c0
          have p2 := X4.c2
          have hq : j * r + k < c * r := by have := row_in (c := r) hjc; omega
          have f1 := F7.frozen (j * r + k)
          have f2 := F7.cell hq
          have e1 : (j : Int) * (r : Int) = ((j * r : Nat) : Int) := by rw [Int.natCast_mul]
          have F8 := F7.set (j * r + k) (el D (k * c + j)) hq bx
          rw [turnK_step D r c k j hlt hjc] at F8
          clear R hc e0 F7
          generalize j * r = jr at *
          generalize el D (k * c + j) = x at *
          go_wp2
          go_roundg (c - (j + 1))
          case measure => omega
          case rel => exact ⟨j + 1, by omega, rfl, by go_num, F8, X0.block (Below.heap_setCell _ _ _ _ (by show w.heap.size ≠ g; omega)), X1.block (Below.heap_setCell _ _ _ _ (by show w.heap.size + 1 ≠ g; omega)), X4.block (Below.heap_setCell _ _ _ _ (by show w3.heap.size ≠ g; omega)), B7.setCell (p := ⟨g, jr + k, none⟩) (by show w.heap.size ≤ g; omega) _⟩
        · obtain rfl : j = c := by omega
          rw [turnK_next D r j k hlt] at F7
          go_wp2
          go_roundg (r - (k + 1))
          case measure => omega
          case rel => exact ⟨k + 1, by omega, rfl, by go_num, F7, X0, X1, X4, B7⟩
    · obtain rfl : k = r := by omega
      rw [turnK_end D k c r1] at F5
      have p0 := X4.c0
      have p1 := X4.c1
      have p2 := X4.c2
      have u0 := X1.c0
      have u1 := X1.c1
      have u2 := X1.c2
      have f0 := X1.frozen 0
      have f1 := X1.frozen 1
      have f2 := X1.frozen 2
      go_wp2
      refine bodyPost_ret (results_mat rfl _ _ (w.heap.size + 1) c k (some ⟨g, 0, none⟩) (c * k) (c * k) rfl (X1.put _ _ _ _ _)) rfl ?_
      exact ⟨g, rfl, (F5.mono (by omega)).put (by omega) _ _ _, Below.put B5 (by omega) _ _ _⟩
end Go.Proofs.Ythbkibcdcnpaoab
