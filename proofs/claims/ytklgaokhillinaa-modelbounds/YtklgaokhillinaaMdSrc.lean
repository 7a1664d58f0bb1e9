/- A model's source of numbers: rows and matrices of them. -/
import Derived.Test.YtklgaokhillinaaMdNext
import Derived.Test.YtklgaokhillinaaMat2
namespace Go.Proofs.Ytklgaokhillinaa
open Go.ChangeShapes Go.WideShapes Go.ChangeAt Go.RowKit
/-- Of what was there, only block g may have turned. -/
structure But (g : Nat) (w w' : World) : Prop where
  os : w'.os = w.os
  tape : w'.tape = w.tape
  output : w'.output = w.output
  size : w.heap.size ≤ w'.heap.size
  block : ∀ k, k < w.heap.size → k ≠ g → w'.heap[k]? = w.heap[k]?
theorem But.refl (g : Nat) (w : World) : But g w w := ⟨rfl, rfl, rfl, Nat.le_refl _, fun _ _ _ => rfl⟩
theorem But.of_below {g : Nat} {w w' : World} (h : Below w.heap.size w w') : But g w w' := ⟨h.os, h.tape, h.output, h.size, fun k hk _ => h.block k hk⟩
theorem But.trans {g : Nat} {w w1 w2 : World} (h : But g w w1) (k : But g w1 w2) : But g w w2 :=
  ⟨k.os.trans h.os, k.tape.trans h.tape, k.output.trans h.output, Nat.le_trans h.size k.size, fun j hj hn => (k.block j (Nat.lt_of_lt_of_le hj h.size) hn).trans (h.block j hj hn)⟩
theorem But.set {g : Nat} {w w' : World} (h : But g w w') {a : Addr} (ha : a.block = g ∨ w.heap.size ≤ a.block) (v : Value) : But g w (w'.setCell a v) :=
  ⟨h.os, h.tape, h.output, by simpa [World.setCell] using h.size, fun k hk hn => by
    have hne : k ≠ a.block := by omega
    rw [Below.heap_setCell _ _ _ _ hne]; exact h.block k hk hn⟩
theorem But.alloc {g : Nat} {w w' : World} (h : But g w w') (o : Obj) : But g w (w'.alloc o) := h.trans (But.of_below ((Below.refl _ _).alloc (Nat.le_refl _) _))
theorem But.below {g : Nat} {w w' : World} (h : But g w w') {B : Nat} (hB : B ≤ w.heap.size) (hg : B ≤ g) : Below B w w' :=
  ⟨h.os, h.tape, h.output, h.size, fun k hk => h.block k (by omega) (by omega)⟩
theorem Fresh.but {w w' : World} {B g gd n cap : Nat} {A : List Int} (h : Fresh w B gd n cap A) (k : But g w w') (hg : g < B) : Fresh w' B gd n cap A := h.of_block (k.block gd h.lt (by have := h.base; omega))
theorem Blk.but {w w' : World} {g gb : Nat} {T : TypeId} {cs : Array Value} (h : Blk w gb T cs) (k : But g w w') (hg : gb ≠ g) : Blk w' gb T cs := h.of_block (k.block gb h.lt hg)
/-- Number k (from 0 on) of a seed, for a bound. -/
def numN (seed k m : Nat) : Int := genN (stN seed (k + 1)) m
theorem numN_bd (seed k m : Nat) (hm : m ≤ 131072) (h0 : 1 ≤ m) : -(m : Int) ≤ numN seed k m ∧ numN seed k m < m := genN_bd _ m hm h0
theorem SrcAt.next {w : World} {g st s : Nat} (h : SrcAt w g st) : SrcAt (w.setCell ⟨g, 0, none⟩ (.int .u64 (s : Int))) g s := Blk.set h 0 _
set_option maxHeartbeats 800000 in
theorem gains_any (g seed i n : Nat) (w : World) (hS : SrcAt w g (stN seed i)) (hn : n ≤ 128) :
   Calls Try.prog 29 #[.pointer (some ⟨g, 0, none⟩), .int .i64 n] w fun e w' => ∃ gd, e = .returned (.slice (some ⟨gd, 0, none⟩) n n) ∧ Fresh w' w.heap.size gd n n (tab n fun j => 65536 + numN seed (i + j) 16384) ∧ SrcAt w' g (stN seed (i + n)) ∧ But g w w' := by
  have hmk := run_make_row' (P := Try.prog) 24 55 (.int .i32 0) 4 Try.underlying24 Try.infoNum rfl .i64 .i64 n (by omega) (by omega)
  have F0 := fresh_made w n (by omega)
  have B0 : Below w.heap.size w (w.alloc (.cells (madeCells #[.int .i32 0] n) 55)) := (Below.refl _ _).alloc (Nat.le_refl _) _
  have hg := Blk.lt hS
  have S0 : SrcAt _ g (stN seed (i + 0)) := Blk.below hS B0
  have K0 : But g w _ := But.of_below B0
  go_enter Try.func29, Try.ntmps29
  go_wp2
  clear hmk hS
  generalize w.alloc (.cells (madeCells #[.int .i32 0] n) 55) = w0 at *
  go_loopg [11] n (fun r q wr => ∃ k : Nat, k ≤ n ∧ r = n - k ∧ q = .int .i64 k ∧ Fresh wr w.heap.size w.heap.size n n (tab n fun j => if j < k then 65536 + numN seed (i + j) 16384 else 0) ∧ SrcAt wr g (stN seed (i + k)) ∧ But g w wr)
  case atStart => exact ⟨0, by omega, by omega, rfl, by rw [tab_start]; exact F0, S0, K0⟩
  case round =>
    obtain ⟨k, hk, rfl, rfl, F1, S1, K1⟩ := hrel
    clear F0 B0 S0 K0
    by_cases hlt : k < n
    · have nb := numN_bd seed (i + k) 16384 (by omega) (by omega)
      have HN : Hid (genN ((stN seed (i + k) + 11400714819323198485) % 18446744073709551616) 16384 = numN seed (i + k) 16384) := by show _ = _; unfold numN; rw [stN_succ]
      have HT : Hid (∀ w' : World, w' = wr.setCell ⟨g, 0, none⟩ (.int .u64 (((stN seed (i + k) + 11400714819323198485) % 18446744073709551616 : Nat) : Int)) → SrcAt w' g (stN seed (i + (k + 1))) ∧ Fresh w' w.heap.size w.heap.size n n (tab n fun j => if j < k then 65536 + numN seed (i + j) 16384 else 0) ∧ But g w w') := by
        rintro w' rfl
        refine ⟨?_, F1.setOther (by show w.heap.size ≠ g; omega) _, K1.set (Or.inl rfl) _⟩
        rw [← Nat.add_assoc, stN_succ]
        exact SrcAt.next S1
      have C := next_any g (stN seed (i + k)) 16384 wr S1 (by omega) (by omega)
      rw [HN.out] at C
      generalize hz : numN seed (i + k) 16384 = z at *
      clear HN K1 S1 F1
      go_wp2_with (go_at_call 40; refine C.mono ?_; rintro e w2 ⟨rfl, hw2⟩; obtain ⟨S2, F2, K2⟩ := HT.out _ hw2; clear hw2; have f1 := F2.frozen k; have f2 := F2.cell hlt)
      go_roundg (n - (k + 1))
      case measure => omega
      case rel => exact ⟨k + 1, by omega, rfl, by go_num, F2.step (f := fun j => 65536 + numN seed (i + j) 16384) _ hlt (by rw [hz]) (by omega), Blk.other S2 (by show g ≠ w.heap.size; omega) _, K2.set (Or.inr (Nat.le_refl _)) _⟩
    · obtain rfl : k = n := by omega
      go_wp2
      go_ret
      exact ⟨_, rfl, by rw [← tab_done]; exact F1, S1, K1⟩
set_option maxHeartbeats 800000 in
theorem matrix_any (g seed i r c m : Nat) (w : World) (hS : SrcAt w g (stN seed i)) (h1 : r ≤ 128) (h2 : c ≤ 128) (hm : m ≤ 131072) (h0 : 1 ≤ m) :
   Calls Try.prog 27 #[.pointer (some ⟨g, 0, none⟩), .int .i64 r, .int .i64 c, .int .u64 m] w fun e w' => ∃ gd, e = .returned (matV r c (some ⟨gd, 0, none⟩) (r * c) (r * c)) ∧ Fresh w' w.heap.size gd (r * c) (r * c) (tab (r * c) fun j => numN seed (i + j) m) ∧ SrcAt w' g (stN seed (i + r * c)) ∧ But g w w' := by
  have h6 := size_le h1 h2
  have e1 : (r : Int) * (c : Int) = ((r * c : Nat) : Int) := by rw [Int.natCast_mul]
  generalize hrc : r * c = n at *
  have hmk := run_make_row' (P := Try.prog) 24 55 (.int .i32 0) 4 Try.underlying24 Try.infoNum rfl .i64 .i64 n (by omega) (by omega)
  have X0 := box_new w 0 0 none 0 0
  have B0 : Below w.heap.size w (w.alloc (.cells #[.int .i64 0, .int .i64 0, .slice none 0 0] 26)) := (Below.refl _ _).alloc (Nat.le_refl _) _
  have s0 : (w.alloc (.cells #[.int .i64 0, .int .i64 0, .slice none 0 0] 26)).heap.size = w.heap.size + 1 := by simp
  have hg := Blk.lt hS
  have S0 : SrcAt _ g (stN seed (i + 0)) := Blk.below hS B0
  generalize hw0 : w.alloc (.cells #[.int .i64 0, .int .i64 0, .slice none 0 0] 26) = w0 at *
  have F1 := fresh_made w0 n (by omega)
  have B1 : Below w0.heap.size w0 (w0.alloc (.cells (madeCells #[.int .i32 0] n) 55)) := (Below.refl _ _).alloc (Nat.le_refl _) _
  rw [s0] at F1
  replace S0 := Blk.below S0 B1
  replace X0 := X0.below B1
  have K1 : But g w _ := But.of_below (below_then B0 B1)
  go_enter Try.func27, Try.ntmps27
  go_wp2_with fail
  clear hmk hS hw0
  generalize w0.alloc (.cells (madeCells #[.int .i32 0] n) 55) = w1 at *
  go_loopg [17] n (fun q0 q wr => ∃ k : Nat, k ≤ n ∧ q0 = n - k ∧ q = .int .i64 k ∧ Fresh wr w.heap.size (w.heap.size + 1) n n (tab n fun j => if j < k then numN seed (i + j) m else 0) ∧ Box wr w.heap.size 0 0 none 0 0 ∧ SrcAt wr g (stN seed (i + k)) ∧ But g w wr)
  case atStart => exact ⟨0, by omega, by omega, rfl, by rw [tab_start]; exact F1.mono (by omega), X0, S0, K1⟩
  case round =>
    obtain ⟨k, hk, rfl, rfl, F2, X2, S2, K2⟩ := hrel
    clear F1 X0 S0 K1 B0 B1
    by_cases hlt : k < n
    · have nb := numN_bd seed (i + k) m hm h0
      have HN : Hid (genN ((stN seed (i + k) + 11400714819323198485) % 18446744073709551616) m = numN seed (i + k) m) := by show _ = _; unfold numN; rw [stN_succ]
      have HT : Hid (∀ w' : World, w' = wr.setCell ⟨g, 0, none⟩ (.int .u64 (((stN seed (i + k) + 11400714819323198485) % 18446744073709551616 : Nat) : Int)) → SrcAt w' g (stN seed (i + (k + 1))) ∧ Fresh w' w.heap.size (w.heap.size + 1) n n (tab n fun j => if j < k then numN seed (i + j) m else 0) ∧ Box w' w.heap.size 0 0 none 0 0 ∧ But g w w') := by
        rintro w' rfl
        refine ⟨?_, F2.setOther (by show w.heap.size + 1 ≠ g; omega) _, X2.block (Below.heap_setCell _ _ _ _ (by show w.heap.size ≠ g; omega)), K2.set (Or.inl rfl) _⟩
        rw [← Nat.add_assoc, stN_succ]
        exact SrcAt.next S2
      have C := next_any g (stN seed (i + k)) m wr S2 hm h0
      rw [HN.out] at C
      generalize hz : numN seed (i + k) m = z at *
      clear HN K2 S2 F2 X2
      go_wp2_with (go_at_call 40; refine C.mono ?_; rintro e w2 ⟨rfl, hw2⟩; obtain ⟨S3, F3, X3, K3⟩ := HT.out _ hw2; clear hw2; have f1 := F3.frozen k; have f2 := F3.cell hlt)
      go_roundg (n - (k + 1))
      case measure => omega
      case rel => exact ⟨k + 1, by omega, rfl, by go_num, F3.step (f := fun j => numN seed (i + j) m) _ hlt (by rw [hz]) (by omega), X3.block (Below.heap_setCell _ _ _ _ (by show w.heap.size ≠ w.heap.size + 1; omega)), Blk.other S3 (by show g ≠ w.heap.size + 1; omega) _, K3.set (Or.inr (by show w.heap.size ≤ w.heap.size + 1; omega)) _⟩
    · obtain rfl : k = n := by omega
      have u0 := X2.c0
      have u1 := X2.c1
      have u2 := X2.c2
      have f0 := X2.frozen 0
      have f1 := X2.frozen 1
      have f2 := X2.frozen 2
      go_wp2_with fail
      refine bodyPost_ret (results_cell_row rfl _ _ w.heap.size _ _ _ _ rfl (X2.put _ _ _ _ _) Try.underlying26 rfl (by kernel_rfl)) rfl ?_
      exact ⟨_, rfl, by rw [← tab_done]; exact F2.put (by omega) _ _ _, Blk.other (Blk.other (Blk.other S2 (by show g ≠ w.heap.size; omega) _) (by show g ≠ w.heap.size; omega) _) (by show g ≠ w.heap.size; omega) _, ((K2.set (a := ⟨w.heap.size, 0, none⟩) (Or.inr (Nat.le_refl _)) _).set (a := ⟨w.heap.size, 1, none⟩) (Or.inr (Nat.le_refl _)) _).set (a := ⟨w.heap.size, 2, none⟩) (Or.inr (Nat.le_refl _)) _⟩
end Go.Proofs.Ytklgaokhillinaa
