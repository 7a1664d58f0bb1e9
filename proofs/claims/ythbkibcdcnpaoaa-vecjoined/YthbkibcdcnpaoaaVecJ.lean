/- Small numbers out of a row; the least of three lengths. -/
import Derived.Test.YthbkibcdcnpaoaaVecX
import Derived.Test.YthbkibcdcnpaoaaJNum
namespace Go.Proofs.Ythbkibcdcnpaoaa
open Go.ChangeShapes Go.WideShapes Go.ChangeAt Go.RowKit
theorem wpList_min3 {w : World} {ops : Array Oper} {rest : List Oper} {o : Oper} {a : Act} {Q : Exit → Act → World → Prop} (hgd : o.guard = none) (s t u : Operand)
    (ho : o.op = .call { callee := .builtin .min, args := #[s, t, u], argTypes := #[3, 3, 3] })
    (x y z : Nat) (zi : Int) (hzi : zi = z) (hs : a.eval s = .int .i64 x) (ht : a.eval t = .int .i64 y) (hu : a.eval u = .int .i64 zi)
    (h : ∀ N : Nat, N ≤ x → N ≤ y → N ≤ z → wpList Try.prog ops Q rest (a.put o.dst (.int .i64 N)) w) : wpList Try.prog ops Q (o :: rest) a w := by
  subst hzi
  refine wpList_plain hgd fun K hK => ?_
  unfold Oper.wp
  obtain ⟨N, hN, h1, h2, h3⟩ : ∃ N : Nat, (if (z : Int) < (if (y : Int) < x then (y : Int) else x) then (z : Int) else (if (y : Int) < x then (y : Int) else x)) = N ∧ N ≤ x ∧ N ≤ y ∧ N ≤ z :=
    ⟨min (min x y) z, by split <;> split <;> omega, by omega, by omega, by omega⟩
  simp [execOp, ho, resolve, invoke, builtin, hs, ht, hu, Result.andThen]
  rw [run_min_int3, hN]
  exact hK _ _ (h N h1 h2 h3)
theorem Fresh.belowAt {w w' : World} {B g n cap : Nat} {A : List Int} {B' : Nat} (h : Fresh w B g n cap A) (hb : Below B' w w') (hg : g < B') : Fresh w' B g n cap A := h.of_block (hb.block g hg)
theorem tab_snoc (k : Nat) (f : Nat → Int) : tab (k + 1) f = tab k f ++ [f k] := by unfold tab; rw [List.range_succ]; simp
theorem tmod_bd (x : Int) : -65535 ≤ x.tmod 65536 ∧ x.tmod 65536 ≤ 65535 := by
  have h1 := Int.tmod_lt_of_pos x (show (0 : Int) < 65536 by omega)
  have h2 := Int.tmod_lt_of_pos (-x) (show (0 : Int) < 65536 by omega)
  rw [Int.neg_tmod] at h2
  omega
set_option maxHeartbeats 1600000 in
theorem small_any (ao : Option Addr) (n ca : Nat) (A : List Int) (N : Nat) (w : World) (hA : RowAt w ao n A) (hN : N ≤ n) (hl : N ≤ 100) :
   Calls Try.prog 24 #[.slice ao n ca, .int .i64 N] w fun e w' => ∃ g cap X, e = .returned (.slice (some ⟨g, 0, none⟩) N cap) ∧ Fresh w' w.heap.size g N cap X ∧ Tiny X ∧ Below w.heap.size w w' := by
  have F0 := fresh_empty w
  have B0 : Below w.heap.size w (w.alloc (.cells #[] 24)) := (Below.refl _ _).alloc (Nat.le_refl _) _
  generalize hw0 : w.alloc (.cells #[] 24) = w0 at F0 B0
  have hm := hA.max
  go_enter Try.func24, Try.ntmps24
  go_wp2_with fail
  clear hw0
  go_loopg [5, 6] N (fun r s i wr => ∃ (k g cap : Nat), k ≤ N ∧ r = N - k ∧ i = .int .i64 k ∧ s = .slice (some ⟨g, 0, none⟩) k cap ∧ Fresh wr w.heap.size g k cap (tab k fun j => (el A j).tmod 65536) ∧ Below w.heap.size w wr)
  case atStart => exact ⟨0, _, _, by omega, by omega, rfl, rfl, F0, B0⟩
  case round =>
    obtain ⟨k, g, cap, hk, rfl, rfl, rfl, F1, B1⟩ := hrel
    clear F0 B0
    by_cases hlt : k < N
    · obtain ⟨b, o, rfl, hc⟩ := (hA.below B1).cells (by omega)
      have c1 := hc k (by omega)
      have b1 := hA.small.el k
      have b2 := tmod_bd (el A k)
      have s1 := B1.size
      have R := rowAt_one wr ((el A k).tmod 65536) (by omega)
      have F2 := F1.below ((Below.refl _ wr).alloc (Nat.le_refl _) (.cells #[.int .i32 ((el A k).tmod 65536)] 24))
      have B2 : Below w.heap.size w (wr.alloc (.cells #[.int .i32 ((el A k).tmod 65536)] 24)) := B1.alloc s1 _
      generalize hw2 : wr.alloc (.cells #[.int .i32 ((el A k).tmod 65536)] 24) = w2 at R F2 B2
      clear hA hc F1 B1
      go_wp2_with (at_builtin; refine wpList_append_row rfl _ _ rfl w.heap.size g k cap _ rfl (by exact F2) (some ⟨wr.heap.size, 0, none⟩) 1 1 _ rfl (by exact R) (fun h => by cases h) (by omega) B2.size ?_; intro g' cap' w' F3 B3)
      go_roundg (N - (k + 1))
      case measure => omega
      case rel => exact ⟨k + 1, _, _, by omega, rfl, by go_num, rfl, by rw [tab_snoc]; exact F3, B2.trans B3⟩
    · obtain rfl : k = N := by omega
      go_wp2
      go_ret
      refine ⟨_, _, _, rfl, F1, fun j => ?_, B1⟩
      by_cases hj : j < k
      · rw [el_tab hj]; exact tmod_bd _
      · rw [el_over (by rw [tab_len]; omega)]; omega
end Go.Proofs.Ythbkibcdcnpaoaa
