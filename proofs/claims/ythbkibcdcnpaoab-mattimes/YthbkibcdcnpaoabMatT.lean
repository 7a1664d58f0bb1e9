/- What mat.Times and mat.Unit answer. -/
import Derived.Test.YthbkibcdcnpaoabMatR
import Derived.Test.YthbkibcdcnpaoabLast
namespace Go.Proofs.Ythbkibcdcnpaoab
open Go.ChangeShapes Go.WideShapes Go.ChangeAt Go.RowKit
theorem turn_row (D : List Int) (r c j : Nat) (hj : j < c) : rowN (turnN D r c) r j = colN D r c j := by
  unfold rowN colN
  refine tab_congr fun i hi => ?_
  have hq : j * r + i < c * r := by have := row_in (c := r) hj; omega
  have e : el (turnN D r c) (j * r + i) = el D (((j * r + i) % r) * c + (j * r + i) / r) := el_tab hq
  obtain ⟨h1, h2⟩ := (place_eq (r := r) (j := j) (k := i) hi).1 rfl
  rw [e, h1, h2]
/-- The product's number at a place. -/
def prodF (A B : List Int) (m c : Nat) (q : Nat) : Int := dotN (rowN A m (q / c)) (colN B m c (q % c)) m
def prodN (A B : List Int) (r m c : Nat) : List Int := tab (r * c) (prodF A B m c)
theorem prodF_at (A B : List Int) (m c i j : Nat) (hj : j < c) : prodF A B m c (i * c + j) = dotN (rowN A m i) (colN B m c j) m := by
  obtain ⟨h1, h2⟩ := (place_eq (r := c) (j := i) (k := j) hj).1 rfl
  unfold prodF
  rw [h1, h2]
theorem prodF_bd (A B : List Int) (m c q : Nat) : -2147483647 ≤ prodF A B m c q ∧ prodF A B m c q ≤ 2147483647 := dotN_bd _ _ _
theorem MatAt.setOther {w : World} {r c b o n ca : Nat} {D : List Int} (h : MatAt w r c b o n ca D) {a : Addr} (ha : b ≠ a.block) (v : Value) : MatAt (w.setCell a v) r c b o n ca D := by
  refine ⟨h.r1, h.r2, h.c1, h.c2, h.size, h.fit, h.max, h.row.len, h.row.max, h.row.small, fun hn => ?_⟩
  obtain ⟨b', o', e, hc⟩ := h.row.cells hn
  refine ⟨b', o', e, fun t ht => ?_⟩
  simp only [Option.some.injEq, Addr.mk.injEq, and_true] at e
  obtain ⟨rfl, rfl⟩ := e
  rw [World.cell?_of_block (w := w) (Below.heap_setCell w a v b ha)]
  exact hc t ht
set_option maxHeartbeats 800000 in
theorem mrow_at (r c b o n ca : Nat) (D : List Int) (i : Nat) (w : World) (h : MatAt w r c b o n ca D) (hi : i < r) :
   Calls Try.prog 24 #[matV r c (some ⟨b, o, none⟩) n ca, .int .i64 i] w fun e w' => e = .returned (.slice (some ⟨b, o + i * c, none⟩) c (ca - i * c)) ∧ Below w.heap.size w w' := by
  have h1 := row_in (c := c) hi
  have h2 := h.size
  have h3 := h.fit
  have h4 := h.max
  have h5 := h.c1
  have h6 := size_le h.r2 h.c2
  have e1 : (i : Int) * (c : Int) = ((i * c : Nat) : Int) := by rw [Int.natCast_mul]
  have e2 : ((i : Int) + 1) * (c : Int) = ((i * c + c : Nat) : Int) := by rw [Int.add_mul, e1]; omega
  have e3 : i < 128 := by have := h.r2; omega
  generalize hic : i * c = ic at *
  generalize hrc : r * c = rc at *
  clear h
  unfold matV
  go_enter Try.func24, Try.ntmps24
  go_wp2
  go_ret
  refine ⟨?_, (Below.refl _ _).alloc (Nat.le_refl _) _⟩
  show Ending.returned (.slice (some ⟨b, o + ic, none⟩) (ic + c - ic) (ca - ic)) = _
  rw [Nat.add_sub_cancel_left]
set_option maxHeartbeats 1600000 in
theorem times_any (r m c b1 o1 n1 ca1 b2 o2 n2 ca2 : Nat) (A B : List Int) (w : World) (hA : MatAt w r m b1 o1 n1 ca1 A) (hB : MatAt w m c b2 o2 n2 ca2 B) :
   Calls Try.prog 9 #[matV r m (some ⟨b1, o1, none⟩) n1 ca1, matV m c (some ⟨b2, o2, none⟩) n2 ca2] w fun e w' => ∃ g, e = .returned (.tuple #[matV r c (some ⟨g, 0, none⟩) (r * c) (r * c), .int .i64 0]) ∧ Fresh w' w.heap.size g (r * c) (r * c) (prodN A B r m c) ∧ Below w.heap.size w w' := by
  have hr2 := hA.r2
  have hm2 := hA.c2
  have hc2 := hB.c2
  have hkA := chk_ok hA.r1 hA.r2 hA.c1 hA.c2 hA.size
  have X0 := box_new w r m (some ⟨b1, o1, none⟩) n1 ca1
  have B0 : Below w.heap.size w (w.alloc (.cells #[.int .i64 r, .int .i64 m, .slice (some ⟨b1, o1, none⟩) n1 ca1] 24)) := (Below.refl _ _).alloc (Nat.le_refl _) _
  generalize hw0 : w.alloc (.cells #[.int .i64 r, .int .i64 m, .slice (some ⟨b1, o1, none⟩) n1 ca1] 24) = w0 at X0 B0
  have hs0 : w0.heap.size = w.heap.size + 1 := by rw [← hw0]; simp
  have X1 := box_new w0 m c (some ⟨b2, o2, none⟩) n2 ca2
  have B1 : Below w0.heap.size w0 (w0.alloc (.cells #[.int .i64 m, .int .i64 c, .slice (some ⟨b2, o2, none⟩) n2 ca2] 24)) := (Below.refl _ _).alloc (Nat.le_refl _) _
  generalize hw1 : w0.alloc (.cells #[.int .i64 m, .int .i64 c, .slice (some ⟨b2, o2, none⟩) n2 ca2] 24) = w1 at X1 B1
  have hs1 : w1.heap.size = w.heap.size + 2 := by rw [← hw1]; simp [hs0]
  have X2 := box_new w1 0 0 none 0 0
  have B2 : Below w1.heap.size w1 (w1.alloc (.cells #[.int .i64 0, .int .i64 0, .slice none 0 0] 24)) := (Below.refl _ _).alloc (Nat.le_refl _) _
  generalize hw2 : w1.alloc (.cells #[.int .i64 0, .int .i64 0, .slice none 0 0] 24) = w2 at X2 B2
  rw [hs0] at X1
  rw [hs1] at X2
  replace X0 := (X0.below B1).below B2
  replace X1 := X1.below B2
  replace B2 := below_then (below_then B0 B1) B2
  clear B0 B1
  have q0 := X0.c0
  have q1 := X0.c1
  have q2 := X0.c2
  have C := check_any r m (some ⟨b1, o1, none⟩) n1 ca1 w2 (by omega) (by omega)
  rw [hkA] at C
  clear hkA
  go_enter Try.func9, Try.ntmps9
  unfold matV at *
  go_wp2_with fail
  refine C.mono ?_
  rintro e w3 ⟨rfl, B3⟩
  replace X0 := X0.below B3
  replace X1 := X1.below B3
  replace X2 := X2.below B3
  replace B3 := below_then B2 B3
  clear hw0 hw1 hw2 q0 q1 q2 C B2
  have q0 := X1.c0
  have q1 := X1.c1
  have q2 := X1.c2
  go_wp2_with fail
  refine (turn_any m c b2 o2 n2 ca2 B w3 (hB.below B3)).mono ?_
  rintro e w4 ⟨g4, rfl, F4, B4⟩
  unfold matV
  have i4 := F4.lt
  replace X0 := X0.below B4
  replace X1 := X1.below B4
  replace X2 := X2.below B4
  replace B4 := below_then B3 B4
  have X5 := box_new w4 c m (some ⟨g4, 0, none⟩) (c * m) (c * m)
  have B5 : Below w4.heap.size w4 (w4.alloc (.cells #[.int .i64 c, .int .i64 m, .slice (some ⟨g4, 0, none⟩) (c * m) (c * m)] 24)) := (Below.refl _ _).alloc (Nat.le_refl _) _
  generalize hw5 : w4.alloc (.cells #[.int .i64 c, .int .i64 m, .slice (some ⟨g4, 0, none⟩) (c * m) (c * m)] 24) = w5 at X5 B5
  replace X0 := X0.below B5
  replace X1 := X1.below B5
  replace X2 := X2.below B5
  replace F4 := F4.below B5
  replace B5 := below_then B4 B5
  clear q0 q1 q2 B3 B4
  have q0 := X0.c0
  have q1 := X0.c1
  have p0 := X1.c0
  have p1 := X1.c1
  go_wp2_with fail
  clear hw5
  refine (blank_any r c w5 hr2 hc2).mono ?_
  rintro e w6 ⟨g6, rfl, F6, B6⟩
  unfold matV
  have j6 := F6.base
  have i6 := F6.lt
  have i5 := X5.lt
  have i2 := X2.lt
  replace X0 := X0.below B6
  replace X1 := X1.below B6
  replace X2 := X2.below B6
  replace X5 := X5.below B6
  replace F4 := F4.below B6
  replace B6 := below_then B5 B6
  have X7 := box_new w6 r c (some ⟨g6, 0, none⟩) (r * c) (r * c)
  have B7 : Below w6.heap.size w6 (w6.alloc (.cells #[.int .i64 r, .int .i64 c, .slice (some ⟨g6, 0, none⟩) (r * c) (r * c)] 24)) := (Below.refl _ _).alloc (Nat.le_refl _) _
  generalize hw7 : w6.alloc (.cells #[.int .i64 r, .int .i64 c, .slice (some ⟨g6, 0, none⟩) (r * c) (r * c)] 24) = w7 at X7 B7
  replace X0 := X0.below B7
  replace X1 := X1.below B7
  replace X2 := X2.below B7
  replace X5 := X5.below B7
  replace F4 := F4.below B7
  replace F6 := F6.below B7
  replace B7 := below_then B6 B7
  replace q0 := X0.c0
  clear q1 p0 p1 B5 B6
  go_wp2_with fail
  clear hw7 q0
  have MT : MatAt w7 c m g4 0 (c * m) (c * m) (turnN B m c) := ⟨hB.c1, hB.c2, hB.r1, hB.r2, rfl, F4.fit, F4.max, F4.rowAt⟩
  have hA1 := hA.c1
  have hsz := size_le hr2 hc2
  clear F4
  rw [show tab (r * c) (fun _ => 0) = tab (r * c) (fun q => if q < 0 * c then prodF A B m c q else 0) from by rw [Nat.zero_mul]; exact tab_start.symm] at F6
  replace F6 := F6.mono (show w.heap.size + 3 ≤ w5.heap.size by omega)
  go_loopg [40] r (fun k0 ii wr => ∃ i : Nat, i ≤ r ∧ k0 = r - i ∧ ii = .int .i64 i ∧ Fresh wr (w.heap.size + 3) g6 (r * c) (r * c) (tab (r * c) fun q => if q < i * c then prodF A B m c q else 0) ∧ Box wr w.heap.size r m (some ⟨b1, o1, none⟩) n1 ca1 ∧ Box wr (w.heap.size + 1) m c (some ⟨b2, o2, none⟩) n2 ca2 ∧ Box wr (w.heap.size + 2) 0 0 none 0 0 ∧ Box wr w4.heap.size c m (some ⟨g4, 0, none⟩) (c * m) (c * m) ∧ Box wr w6.heap.size r c (some ⟨g6, 0, none⟩) (r * c) (r * c) ∧ MatAt wr c m g4 0 (c * m) (c * m) (turnN B m c) ∧ Below w.heap.size w wr)
  case atStart => exact ⟨0, by omega, by omega, rfl, F6, X0, X1, X2, X5, X7, MT, B7⟩
  case round =>
    clear F6 X0 X1 X2 X5 X7 MT B7
    obtain ⟨i, hi, rfl, rfl, F6, X0, X1, X2, X5, X7, MT, B8⟩ := hrel
    by_cases hlt : i < r
    · have q1 := X1.c1
      go_wp2_with fail
      clear q1
      go_loopg [45] c (fun k0 ii wr => ∃ j : Nat, j ≤ c ∧ k0 = c - j ∧ ii = .int .i64 j ∧ Fresh wr (w.heap.size + 3) g6 (r * c) (r * c) (tab (r * c) fun q => if q < i * c + j then prodF A B m c q else 0) ∧ Box wr w.heap.size r m (some ⟨b1, o1, none⟩) n1 ca1 ∧ Box wr (w.heap.size + 1) m c (some ⟨b2, o2, none⟩) n2 ca2 ∧ Box wr (w.heap.size + 2) 0 0 none 0 0 ∧ Box wr w4.heap.size c m (some ⟨g4, 0, none⟩) (c * m) (c * m) ∧ Box wr w6.heap.size r c (some ⟨g6, 0, none⟩) (r * c) (r * c) ∧ MatAt wr c m g4 0 (c * m) (c * m) (turnN B m c) ∧ Below w.heap.size w wr)
      case atStart => exact ⟨0, by omega, by omega, rfl, F6, X0, X1, X2, X5, X7, MT, B8⟩
      case round =>
        clear F6 X0 X1 X2 X5 X7 MT B8
        obtain ⟨j, hj, rfl, rfl, F6, X0, X1, X2, X5, X7, MT, B8⟩ := hrel
        by_cases hjc : j < c
        · have hq : i * c + j < r * c := by have := row_in (c := c) hlt; omega
          have HF : Hid (dotN (rowN A m i) (rowN (turnN B m c) m j) m = prodF A B m c (i * c + j)) := by
            show _ = _
            rw [turn_row B m c j hjc, prodF_at A B m c i j hjc]
          have bx := prodF_bd A B m c (i * c + j)
          have e1 : IntKind.i64.wrap ((i : Int) * (c : Int)) = ((i * c : Nat) : Int) := by rw [← Int.natCast_mul]; exact wrap_in (by omega)
          have e2 : IntKind.i64.wrap (((i * c : Nat) : Int) + (j : Int)) = ((i * c + j : Nat) : Int) := by rw [← Int.natCast_add]; exact wrap_in (by omega)
          have HS : Hid (∀ w', Fresh w' (w.heap.size + 3) g6 (r * c) (r * c) (tab (r * c) fun q => if q < i * c + j then prodF A B m c q else 0) → Fresh (w'.setCell ⟨g6, i * c + j, none⟩ (.int .i32 (prodF A B m c (i * c + j)))) (w.heap.size + 3) g6 (r * c) (r * c) (tab (r * c) fun q => if q < i * c + (j + 1) then prodF A B m c q else 0)) := fun w' F => F.step _ hq rfl (by omega)
          generalize i * c + j = q at *
          generalize i * c = ic at *
          generalize prodF A B m c q = x at *
          have y0 : ∀ p : Nxt wr, p.to.cell? ⟨w.heap.size, 0, none⟩ = some (.int .i64 r) := fun p => (X0.below p.ok).c0
          have y1 : ∀ p : Nxt wr, p.to.cell? ⟨w.heap.size, 1, none⟩ = some (.int .i64 m) := fun p => (X0.below p.ok).c1
          have y2 : ∀ p : Nxt wr, p.to.cell? ⟨w.heap.size, 2, none⟩ = some (.slice (some ⟨b1, o1, none⟩) n1 ca1) := fun p => (X0.below p.ok).c2
          have y3 : ∀ p : Nxt wr, p.to.cell? ⟨w.heap.size + 1, 1, none⟩ = some (.int .i64 c) := fun p => (X1.below p.ok).c1
          have y4 : ∀ p : Nxt wr, p.to.cell? ⟨w4.heap.size, 0, none⟩ = some (.int .i64 c) := fun p => (X5.below p.ok).c0
          have y5 : ∀ p : Nxt wr, p.to.cell? ⟨w4.heap.size, 1, none⟩ = some (.int .i64 m) := fun p => (X5.below p.ok).c1
          have y6 : ∀ p : Nxt wr, p.to.cell? ⟨w4.heap.size, 2, none⟩ = some (.slice (some ⟨g4, 0, none⟩) (c * m) (c * m)) := fun p => (X5.below p.ok).c2
          have y7 : ∀ p : Nxt wr, p.to.cell? ⟨w6.heap.size, 2, none⟩ = some (.slice (some ⟨g6, 0, none⟩) (r * c) (r * c)) := fun p => (X7.below p.ok).c2
          have cA : ∀ p : Nxt wr, Calls Try.prog 24 #[.agg #[.int .i64 r, .int .i64 m, .slice (some ⟨b1, o1, none⟩) n1 ca1], .int .i64 i] p.to fun e w'' => e = .returned (.slice (some ⟨b1, o1 + i * m, none⟩) m (ca1 - i * m)) ∧ ∃ q : Nxt wr, w'' = q.to := fun p => calls_nxt (mrow_at r m b1 o1 n1 ca1 A i p.to (hA.below (below_then B8 p.ok)) hlt)
          have cB : ∀ p : Nxt wr, Calls Try.prog 24 #[.agg #[.int .i64 c, .int .i64 m, .slice (some ⟨g4, 0, none⟩) (c * m) (c * m)], .int .i64 j] p.to fun e w'' => e = .returned (.slice (some ⟨g4, j * m, none⟩) m (c * m - j * m)) ∧ ∃ q : Nxt wr, w'' = q.to := fun p => calls_nxt (by have h0 := mrow_at c m g4 0 (c * m) (c * m) (turnN B m c) j p.to (MT.below p.ok) hjc; rw [Nat.zero_add] at h0; exact h0)
          have cC : ∀ p : Nxt wr, Calls Try.prog 23 #[.slice (some ⟨b1, o1 + i * m, none⟩) m (ca1 - i * m), .slice (some ⟨g4, j * m, none⟩) m (c * m - j * m)] p.to fun e w'' => e = .returned (.int .i32 x) ∧ ∃ q : Nxt wr, w'' = q.to := fun p => by
            have h0 := (MT.below p.ok).rowAt hjc
            rw [Nat.zero_add] at h0
            have h1 := mdot_any _ _ m (ca1 - i * m) (c * m - j * m) _ _ p.to ((hA.below (below_then B8 p.ok)).rowAt hlt) h0 (by omega)
            rw [HF.out] at h1
            exact calls_nxt_drew h1
          go_wp2_with fail
          haveI := nxt_ne wr
          refine wp_region_last_lit (by kernel_rfl) (List.cons_ne_nil _ _) (by kernel_rfl) (by kernel_rfl) (by kernel_rfl) (by kernel_rfl) (by kernel_rfl) ?_
          intro l' z' hl' hz'
          simp only [List.dropLast_cons_cons, List.dropLast_singleton] at hl'
          simp only [List.getLast_cons_cons, List.getLast_singleton] at hz'
          subst hl' hz'
          repeat (first | go_big_quiet_skip | (go_big_quiet_want; go_big_quiet_op; first | go_big_quiet_on | (apply Exists.intro; refine ⟨fun pq => ?_, ?_⟩; (first | (go_at_call_of 24 b1; exact cA _) | (go_at_call_of 24 g4; exact cB _) | (go_at_call 23; exact cC _)); go_big_quiet_on)))
          refine wpQuiet_nil ?_
          intro _ hw'
          obtain ⟨⟨w12, B12⟩, hw''⟩ := hw'
          subst hw''
          replace F6 := F6.below B12
          replace X0 := X0.below B12
          replace X1 := X1.below B12
          replace X2 := X2.below B12
          replace X5 := X5.below B12
          replace X7 := X7.below B12
          replace MT := MT.below B12
          replace B12 := below_then B8 B12
          clear y0 y1 y2 y3 y4 y5 y6 y7 cA cB cC
          have ff := F6.frozen q
          have fc := F6.cell hq
          have F8 := HS.out _ F6
          go_wp2
          go_roundg (c - (j + 1))
          case measure => omega
          case rel => exact ⟨j + 1, by omega, rfl, by go_num, F8, X0.block (Below.heap_setCell _ _ _ _ (by show w.heap.size ≠ g6; omega)), X1.block (Below.heap_setCell _ _ _ _ (by show w.heap.size + 1 ≠ g6; omega)), X2.block (Below.heap_setCell _ _ _ _ (by show w.heap.size + 2 ≠ g6; omega)), X5.block (Below.heap_setCell _ _ _ _ (by show w4.heap.size ≠ g6; omega)), X7.block (Below.heap_setCell _ _ _ _ (by show w6.heap.size ≠ g6; omega)), MT.setOther (a := ⟨g6, q, none⟩) (by show g4 ≠ g6; omega) _, B12.setCell (p := ⟨g6, q, none⟩) (by show w.heap.size ≤ g6; omega) _⟩
        · obtain rfl : j = c := by omega
          rw [show i * j + j = (i + 1) * j by rw [Nat.add_mul, Nat.one_mul]] at F6
          go_wp2
          go_roundg (r - (i + 1))
          case measure => omega
          case rel => exact ⟨i + 1, by omega, rfl, by go_num, F6, X0, X1, X2, X5, X7, MT, B8⟩
    · obtain rfl : i = r := by omega
      rw [tab_done] at F6
      have p0 := X7.c0
      have p1 := X7.c1
      have p2 := X7.c2
      have u0 := X2.c0
      have u1 := X2.c1
      have u2 := X2.c2
      have f0 := X2.frozen 0
      have f1 := X2.frozen 1
      have f2 := X2.frozen 2
      have q0 := X0.c0
      go_wp2
      refine bodyPost_ret (results_mat rfl _ _ (w.heap.size + 2) i c (some ⟨g6, 0, none⟩) (i * c) (i * c) rfl (X2.put _ _ _ _ _)) rfl ?_
      exact ⟨g6, rfl, (F6.mono (by omega)).put (by omega) _ _ _, Below.put B8 (by omega) _ _ _⟩
end Go.Proofs.Ythbkibcdcnpaoab
