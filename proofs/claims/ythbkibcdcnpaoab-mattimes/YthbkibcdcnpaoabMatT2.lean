/- What mat.Times answers to matrices that don't go together, and mat.Unit. -/
import Derived.Test.YthbkibcdcnpaoabMatT
namespace Go.Proofs.Ythbkibcdcnpaoab
open Go.ChangeShapes Go.WideShapes Go.ChangeAt Go.RowKit
theorem Box.putOther {w : World} {g : Nat} {r c : Int} {ao : Option Addr} {n ca : Nat} (h : Box w g r c ao n ca) {k : Nat} (hg : g ≠ k) (u v x : Value) : Box (((w.setCell ⟨k, 0, none⟩ u).setCell ⟨k, 1, none⟩ v).setCell ⟨k, 2, none⟩ x) g r c ao n ca :=
  ((h.block (Below.heap_setCell w ⟨k, 0, none⟩ u g hg)).block (Below.heap_setCell _ ⟨k, 1, none⟩ v g hg)).block (Below.heap_setCell _ ⟨k, 2, none⟩ x g hg)
/-- The three blocks that mat.Times lays first. -/
theorem times_start (w : World) (r1 c1 r2 c2 : Int) (a1 a2 : Option Addr) (n1 k1 n2 k2 : Nat) :
    ∃ w0 w1 w2, w.alloc (.cells #[.int .i64 r1, .int .i64 c1, .slice a1 n1 k1] 24) = w0 ∧ w0.alloc (.cells #[.int .i64 r2, .int .i64 c2, .slice a2 n2 k2] 24) = w1 ∧ w1.alloc (.cells #[.int .i64 0, .int .i64 0, .slice none 0 0] 24) = w2 ∧
      w0.heap.size = w.heap.size + 1 ∧ w1.heap.size = w.heap.size + 2 ∧ Box w2 w.heap.size r1 c1 a1 n1 k1 ∧ Box w2 (w.heap.size + 1) r2 c2 a2 n2 k2 ∧ Box w2 (w.heap.size + 2) 0 0 none 0 0 ∧ Below w.heap.size w w2 := by
  refine ⟨_, _, _, rfl, rfl, rfl, by simp, by simp, ?_, ?_, ?_, ?_⟩
  · exact ((box_new w r1 c1 a1 n1 k1).below ((Below.refl _ _).alloc (Nat.le_refl _) _)).below ((Below.refl _ _).alloc (Nat.le_refl _) _)
  · have h := (box_new (w.alloc (.cells #[.int .i64 r1, .int .i64 c1, .slice a1 n1 k1] 24)) r2 c2 a2 n2 k2).below ((Below.refl _ _).alloc (Nat.le_refl _) (.cells #[.int .i64 0, .int .i64 0, .slice none 0 0] 24))
    rwa [show (w.alloc (.cells #[.int .i64 r1, .int .i64 c1, .slice a1 n1 k1] 24)).heap.size = w.heap.size + 1 by simp] at h
  · have h := box_new ((w.alloc (.cells #[.int .i64 r1, .int .i64 c1, .slice a1 n1 k1] 24)).alloc (.cells #[.int .i64 r2, .int .i64 c2, .slice a2 n2 k2] 24)) 0 0 none 0 0
    rwa [show ((w.alloc (.cells #[.int .i64 r1, .int .i64 c1, .slice a1 n1 k1] 24)).alloc (.cells #[.int .i64 r2, .int .i64 c2, .slice a2 n2 k2] 24)).heap.size = w.heap.size + 2 by simp] at h
  · exact (((Below.refl _ _).alloc (Nat.le_refl _) _).alloc (by simp) _).alloc (by simp; omega) _
set_option maxHeartbeats 1600000 in
theorem times_badA (r1 c1 r2 c2 : Int) (a1 a2 : Option Addr) (n1 k1 n2 k2 : Nat) (w : World) (h1 : -9223372036854775808 ≤ r1 ∧ r1 ≤ 9223372036854775807) (h2 : -9223372036854775808 ≤ c1 ∧ c1 ≤ 9223372036854775807) (hf : chkN r1 c1 n1 ≠ 0) :
   Calls Try.prog 9 #[matV r1 c1 a1 n1 k1, matV r2 c2 a2 n2 k2] w fun e w' => e = .returned (.tuple #[matV 0 0 none 0 0, .int .i64 (chkN r1 c1 n1)]) ∧ Below w.heap.size w w' := by
  have hf' : (chkN r1 c1 n1 == 0) = false := by simpa using hf
  obtain ⟨w0, w1, w2, hw0, hw1, hw2, hs0, hs1, X0, X1, X2, B2⟩ := times_start w r1 c1 r2 c2 a1 a2 n1 k1 n2 k2
  have q0 := X0.c0
  have q1 := X0.c1
  have q2 := X0.c2
  have C := check_any r1 c1 a1 n1 k1 w2 h1 h2
  generalize chkN r1 c1 n1 = q at *
  go_enter Try.func9, Try.ntmps9
  unfold matV at *
  go_wp2_with fail
  refine C.mono ?_
  rintro e w3 ⟨rfl, B3⟩
  replace X2 := X2.below B3
  replace B3 := below_then B2 B3
  clear hw0 hw1 hw2 q0 q1 q2 X0 X1 C B2 hs0 hs1
  have p0 := X2.c0
  have p1 := X2.c1
  have p2 := X2.c2
  have f0 := X2.frozen 0
  have f1 := X2.frozen 1
  have f2 := X2.frozen 2
  go_wp2
  refine bodyPost_ret (results_mat rfl _ _ (w.heap.size + 2) 0 0 none 0 0 rfl (X2.put _ _ _ _ _)) rfl ?_
  exact ⟨rfl, Below.put B3 (by omega) _ _ _⟩
set_option maxHeartbeats 1600000 in
theorem times_badB (r1 c1 : Nat) (r2 c2 : Int) (a1 a2 : Option Addr) (n1 k1 n2 k2 : Nat) (w : World) (hok : chkN r1 c1 n1 = 0) (h1 : -9223372036854775808 ≤ r2 ∧ r2 ≤ 9223372036854775807) (h2 : -9223372036854775808 ≤ c2 ∧ c2 ≤ 9223372036854775807) (hb1 : r1 ≤ 128) (hb2 : c1 ≤ 128) (hf : chkN r2 c2 n2 ≠ 0) :
   Calls Try.prog 9 #[matV r1 c1 a1 n1 k1, matV r2 c2 a2 n2 k2] w fun e w' => e = .returned (.tuple #[matV 0 0 none 0 0, .int .i64 (chkN r2 c2 n2)]) ∧ Below w.heap.size w w' := by
  have hf' : (chkN r2 c2 n2 == 0) = false := by simpa using hf
  obtain ⟨w0, w1, w2, hw0, hw1, hw2, hs0, hs1, X0, X1, X2, B2⟩ := times_start w r1 c1 r2 c2 a1 a2 n1 k1 n2 k2
  have q0 := X0.c0
  have q1 := X0.c1
  have q2 := X0.c2
  have C := check_any r1 c1 a1 n1 k1 w2 (by omega) (by omega)
  rw [hok] at C
  clear hok
  have CT : ∀ w, Calls Try.prog 16 #[matV r2 c2 a2 n2 k2] w fun e w' => e = .returned (.tuple #[matV 0 0 none 0 0, .int .i64 (chkN r2 c2 n2)]) ∧ Below w.heap.size w w' := fun w => turn_bad r2 c2 a2 n2 k2 w h1 h2 hf
  generalize chkN r2 c2 n2 = q at *
  go_enter Try.func9, Try.ntmps9
  unfold matV at *
  go_wp2_with fail
  refine C.mono ?_
  rintro e w3 ⟨rfl, B3⟩
  replace X1 := X1.below B3
  replace X2 := X2.below B3
  replace B3 := below_then B2 B3
  clear hw0 hw1 hw2 q0 q1 q2 X0 C B2
  have q0 := X1.c0
  have q1 := X1.c1
  have q2 := X1.c2
  go_wp2_with fail
  refine (CT w3).mono ?_
  rintro e w4 ⟨rfl, B4⟩
  replace X2 := X2.below B4
  replace B4 := below_then B3 B4
  clear q0 q1 q2 X1 CT B3
  have i2 := X2.lt
  have s4 := B4.size
  have X5 := box_new w4 0 0 none 0 0
  have B5 : Below w4.heap.size w4 (w4.alloc (.cells #[.int .i64 0, .int .i64 0, .slice none 0 0] 24)) := (Below.refl _ _).alloc (Nat.le_refl _) _
  generalize hw5 : w4.alloc (.cells #[.int .i64 0, .int .i64 0, .slice none 0 0] 24) = w5 at X5 B5
  replace X2 := X2.below B5
  replace B5 := below_then B4 B5
  have z0 := X5.c0
  have z1 := X5.c1
  have z2 := X5.c2
  have g0 := X5.frozen 0
  have g1 := X5.frozen 1
  have g2 := X5.frozen 2
  replace X2 := X2.putOther (k := w4.heap.size) (by omega) (.int .i64 0) (.int .i64 0) (.slice none 0 0)
  replace B5 := Below.put B5 (g := w4.heap.size) s4 (.int .i64 0) (.int .i64 0) (.slice none 0 0)
  generalize hw6 : ((w5.setCell ⟨w4.heap.size, 0, none⟩ (.int .i64 0)).setCell ⟨w4.heap.size, 1, none⟩ (.int .i64 0)).setCell ⟨w4.heap.size, 2, none⟩ (.slice none 0 0) = w6 at X2 B5
  have p0 := X2.c0
  have p1 := X2.c1
  have p2 := X2.c2
  have f0 := X2.frozen 0
  have f1 := X2.frozen 1
  have f2 := X2.frozen 2
  go_wp2
  refine bodyPost_ret (results_mat rfl _ _ (w.heap.size + 2) 0 0 none 0 0 rfl (X2.put _ _ _ _ _)) rfl ?_
  exact ⟨rfl, Below.put B5 (by omega) _ _ _⟩
set_option maxHeartbeats 1600000 in
theorem times_len (r m m' c b1 o1 n1 ca1 b2 o2 n2 ca2 : Nat) (A B : List Int) (w : World) (hA : MatAt w r m b1 o1 n1 ca1 A) (hB : MatAt w m' c b2 o2 n2 ca2 B) (hne : m ≠ m') :
   Calls Try.prog 9 #[matV r m (some ⟨b1, o1, none⟩) n1 ca1, matV m' c (some ⟨b2, o2, none⟩) n2 ca2] w fun e w' => e = .returned (.tuple #[matV 0 0 none 0 0, .int .i64 6]) ∧ Below w.heap.size w w' := by
  have hr2 := hA.r2
  have hm2 := hA.c2
  have hc2 := hB.c2
  have hkA := chk_ok hA.r1 hA.r2 hA.c1 hA.c2 hA.size
  obtain ⟨w0, w1, w2, hw0, hw1, hw2, hs0, hs1, X0, X1, X2, B2⟩ := times_start w r m m' c (some ⟨b1, o1, none⟩) (some ⟨b2, o2, none⟩) n1 ca1 n2 ca2
  have q0 := X0.c0
  have q1 := X0.c1
  have q2 := X0.c2
  have C := check_any r m (some ⟨b1, o1, none⟩) n1 ca1 w2 (by omega) (by omega)
  rw [hkA] at C
  clear hkA
  go_enter Try.func9, Try.ntmps9
  unfold matV at *
  go_wp2_with fail
  refine C.mono ?_
  rintro e w3 ⟨rfl, B3⟩
  replace X0 := X0.below B3
  replace X1 := X1.below B3
  replace X2 := X2.below B3
  replace B3 := below_then B2 B3
  clear hw0 hw1 hw2 q0 q1 q2 C B2
  have q0 := X1.c0
  have q1 := X1.c1
  have q2 := X1.c2
  go_wp2_with fail
  refine (turn_any m' c b2 o2 n2 ca2 B w3 (hB.below B3)).mono ?_
  rintro e w4 ⟨g4, rfl, F4, B4⟩
  unfold matV
  replace X0 := X0.below B4
  replace X1 := X1.below B4
  replace X2 := X2.below B4
  replace B4 := below_then B3 B4
  have B5 : Below w4.heap.size w4 (w4.alloc (.cells #[.int .i64 c, .int .i64 m', .slice (some ⟨g4, 0, none⟩) (c * m') (c * m')] 24)) := (Below.refl _ _).alloc (Nat.le_refl _) _
  generalize hw5 : w4.alloc (.cells #[.int .i64 c, .int .i64 m', .slice (some ⟨g4, 0, none⟩) (c * m') (c * m')] 24) = w5 at B5
  replace X0 := X0.below B5
  replace X1 := X1.below B5
  replace X2 := X2.below B5
  replace B5 := below_then B4 B5
  clear q0 q1 q2 B3 B4 F4
  have q0 := X0.c0
  have q1 := X0.c1
  have y0 := X1.c0
  have y1 := X1.c1
  have p0 := X2.c0
  have p1 := X2.c1
  have p2 := X2.c2
  have f0 := X2.frozen 0
  have f1 := X2.frozen 1
  have f2 := X2.frozen 2
  go_wp2
  refine bodyPost_ret (results_mat rfl _ _ (w.heap.size + 2) 0 0 none 0 0 rfl (X2.put _ _ _ _ _)) rfl ?_
  exact ⟨rfl, Below.put B5 (by omega) _ _ _⟩
end Go.Proofs.Ythbkibcdcnpaoab
