/- The document's rows and matrices of made numbers. -/
import Derived.Test.YtklgaokhillinaaMdAwake
namespace Go.Proofs.Ytklgaokhillinaa
open Go.ChangeShapes Go.WideShapes Go.ChangeAt Go.RowKit
theorem tab_snoc4 (n : Nat) (f : Nat → Int) : tab (n + 1) f = tab n f ++ [f n] := by unfold tab; rw [List.range_succ, List.map_append]; rfl
set_option maxHeartbeats 800000 in
theorem rrow_any (seed i n m mo : Nat) (w : World) (hi : i ≤ 500000) (hn : n ≤ 16384) (hm : m ≤ 131072) (h0 : 1 ≤ m) (hmo : mo ≤ 65536) :
   Calls Try.prog 33 #[.int .u64 (seed : Int), .int .i64 (i : Int), .int .i64 (n : Int), .int .i64 (m : Int), .int .i64 (mo : Int)] w fun e w' => ∃ g cap, e = .returned (.tuple #[.slice (some ⟨g, 0, none⟩) n cap, .int .i64 ((i + n : Nat) : Int)]) ∧ Fresh w' w.heap.size g n cap (tab n fun j => numN seed (i + j) m + mo) ∧ Below w.heap.size w w' := by
  have F0 := fresh_empty w
  have B0 : Below w.heap.size w (w.alloc (.cells #[] 55)) := (Below.refl _ _).alloc (Nat.le_refl _) _
  go_enter Try.func33, Try.ntmps33
  go_wp2_with fail
  generalize w.alloc (.cells #[] 55) = w0 at *
  go_loopg [12, 13] n (fun r s q wr => ∃ k g cap : Nat, k ≤ n ∧ r = n - k ∧ q = .int .i64 k ∧ s = .slice (some ⟨g, 0, none⟩) k cap ∧ Fresh wr w.heap.size g k cap (tab k fun j => numN seed (i + j) m + mo) ∧ Below w.heap.size w wr)
  case atStart => exact ⟨0, _, _, by omega, by omega, rfl, rfl, F0, B0⟩
  case round =>
    obtain ⟨k, g, cap, hk, rfl, rfl, rfl, F1, B1⟩ := hrel
    clear F0 B0
    by_cases hlt : k < n
    · have HX : Hid (tab (k + 1) (fun j => numN seed (i + j) m + mo) = tab k (fun j => numN seed (i + j) m + mo) ++ [numN seed (i + k) m + mo]) := tab_snoc4 k _
      have RA : ∀ wv : World, Calls Try.prog 42 #[.int .u64 (seed : Int), .int .i64 ((i : Int) + (k : Int)), .int .i64 (m : Int)] wv fun e w' => e = .returned (.int .i32 (numN seed (i + k) m)) ∧ w' = wv := fun wv => by
        have := random_any seed (i + k) m wv (by omega) hm h0
        rwa [Int.natCast_add] at this
      have nb := numN_bd seed (i + k) m hm h0
      generalize numN seed (i + k) m = z at *
      have R := rowAt_one wr (z + mo) (by omega)
      have BA : Below wr.heap.size wr (wr.alloc (.cells #[.int .i32 (z + mo)] 55)) := (Below.refl _ _).alloc (Nat.le_refl _) _
      have F2 := F1.below BA
      have s1 := B1.size
      have s2 := BA.size
      have B2 := below_then B1 BA
      generalize hw2 : wr.alloc (.cells #[.int .i32 (z + mo)] 55) = w2 at *
      go_wp2_with (first | (go_at_call 42; refine (RA _).mono ?_; rintro e wr ⟨rfl, rfl⟩) | (at_builtin; refine wpList_append_row rfl _ _ rfl w.heap.size g k cap _ rfl (by exact F2) (some ⟨wr.heap.size, 0, none⟩) 1 1 _ rfl (by exact R) (fun h => by cases h) (by omega) (by omega) ?_; intro g' cap' w' F3 B3))
      go_roundg (n - (k + 1))
      case measure => omega
      case rel => exact ⟨k + 1, _, _, by omega, rfl, by go_num, rfl, by rw [HX.out]; exact F3, B2.trans B3⟩
    · obtain rfl : k = n := by omega
      go_wp2
      go_ret2
      exact ⟨_, _, rfl, F1, B1⟩
set_option maxHeartbeats 800000 in
theorem rsquare_any (seed i r c m : Nat) (w : World) (hi : i ≤ 500000) (h1 : r ≤ 128) (h2 : c ≤ 128) (hm : m ≤ 131072) (h0 : 1 ≤ m) :
   Calls Try.prog 32 #[.int .u64 (seed : Int), .int .i64 (i : Int), .int .i64 (r : Int), .int .i64 (c : Int), .int .i64 (m : Int)] w fun e w' => ∃ g cap, e = .returned (.tuple #[matV r c (some ⟨g, 0, none⟩) (r * c) cap, .int .i64 ((i + r * c : Nat) : Int)]) ∧ Fresh w' w.heap.size g (r * c) cap (numR seed i (r * c) m) ∧ Below w.heap.size w w' := by
  have h6 := size_le h1 h2
  have e1 : (r : Int) * (c : Int) = ((r * c : Nat) : Int) := by rw [Int.natCast_mul]
  have C := fun wv => rrow_any seed i (r * c) m 0 wv hi h6 hm h0 (by omega)
  generalize hrc : r * c = n at *
  have X0 := box_new w 0 0 none 0 0
  have B0 : Below w.heap.size w (w.alloc (.cells #[.int .i64 0, .int .i64 0, .slice none 0 0] 26)) := (Below.refl _ _).alloc (Nat.le_refl _) _
  have s0 : (w.alloc (.cells #[.int .i64 0, .int .i64 0, .slice none 0 0] 26)).heap.size = w.heap.size + 1 := by simp
  generalize hw0 : w.alloc (.cells #[.int .i64 0, .int .i64 0, .slice none 0 0] 26) = w0 at *
  go_enter Try.func32, Try.ntmps32
  go_wp2_with fail
  refine (C w0).mono ?_
  rintro e w1 ⟨g, cap, rfl, F1, B1⟩
  replace X0 := X0.below B1
  replace B1 := below_then B0 B1
  have hg : g ≠ w.heap.size := by have := F1.base; omega
  have u0 := X0.c0
  have u1 := X0.c1
  have u2 := X0.c2
  have f0 := X0.frozen 0
  have f1 := X0.frozen 1
  have f2 := X0.frozen 2
  clear hw0 C B0
  go_wp2_with fail
  refine bodyPost_ret (results_mat rfl _ _ w.heap.size _ _ _ _ _ rfl (X0.put _ _ _ _ _)) rfl ?_
  refine ⟨g, cap, rfl, ?_, Below.put B1 (Nat.le_refl _) _ _ _⟩
  have e : (tab n fun j => numN seed (i + j) m + ((0 : Nat) : Int)) = numR seed i n m := tab_congr fun j _ => by simp
  rw [e] at F1
  exact (F1.put hg _ _ _).mono (by omega)
end Go.Proofs.Ytklgaokhillinaa
