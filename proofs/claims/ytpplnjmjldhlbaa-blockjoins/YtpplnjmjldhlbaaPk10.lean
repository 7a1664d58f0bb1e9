/- Contracts of the program's functions, part 10 of 10: what each call returns and leaves of memory. -/
import Derived.Test.YtpplnjmjldhlbaaPk9
import Derived.Test.YtpplnjmjldhlbaaPk3
import Derived.Test.YtpplnjmjldhlbaaPk7
import Derived.Deep.Matrix
import Derived.Deep.Slices
import Derived.Test.YtpplnjmjldhlbaaPk8
import Derived.Lib.SmallJoins
/- Package block: law 11's ref0 and awake. -/
namespace Go.Proofs.Ytpplnjmjldhlbaa
open Go.ChangeShapes Go.WideShapes Go.ChangeAt Go.RowKit
theorem num_arg {w : World} {g : Nat} {x : Int} (h : Blk w g 71 #[.int .i32 x]) (hx : -2147483648 ≤ x ∧ x ≤ 2147483647) : Arg w (some ⟨g, 0, none⟩) 1 1 [x] :=
  (show Fresh w g g 1 1 [x] from ⟨Nat.le_refl _, rfl, Nat.le_refl _, by omega, fun y hy => by
    rw [List.mem_singleton] at hy
    subst hy
    exact hx, ⟨_, h, rfl, fun t ht => by
    obtain rfl : t = 0 := (by omega)
    rfl⟩⟩).arg
theorem grid_of {w : World} {g : Nat} {cs : Array Value} {R : List (List Int)} (h : Blk w g 72 cs) (hn : R.length ≤ 4096) (hr : ∀ t, t < R.length → ∃ gr n, cs[t]? = some (.slice (some ⟨gr, 0, none⟩) n n) ∧ Arg w (some ⟨gr, 0, none⟩) n n (rowOf R t)) : GridAt w (some ⟨g, 0, none⟩) R.length R :=
  ⟨rfl, by omega, fun _ => ⟨g, 0, rfl, fun t ht => by
    obtain ⟨gr, n, e, A⟩ := hr t ht
    exact ⟨_, n, n, by rw [Nat.zero_add]; exact h.cell t e, A⟩⟩⟩
theorem cube_one {w : World} {g gr : Nat} {R : List (List Int)} (h : Blk w g 73 #[.slice (some ⟨gr, 0, none⟩) R.length R.length]) (hn : R.length ≤ 4096) (G : GridAt w (some ⟨gr, 0, none⟩) R.length R) : CubeAt w (some ⟨g, 0, none⟩) 1 [R] :=
  ⟨rfl, by omega, fun _ => ⟨g, 0, rfl, fun t X hX => by
    have ht : t = 0 := by have := (List.getElem?_eq_some_iff.1 hX).1; simpa using this
    subst ht
    simp at hX
    subst hX
    exact ⟨_, R.length, R.length, h.cell 0 rfl, (fun h => by cases h), Nat.le_refl _, by omega, G⟩⟩⟩
theorem ints_of {w : World} {g : Nat} {A : List Int} (h : Blk w g 3 (A.map (Value.int .i64)).toArray) (hn : A.length ≤ 4096) (hs : ∀ k, -9223372036854775808 ≤ el A k ∧ el A k ≤ 9223372036854775807) : IArg w (some ⟨g, 0, none⟩) A.length A.length A :=
  ⟨⟨rfl, by omega, hs, fun _ => ⟨g, 0, rfl, fun t ht => by
    rw [Nat.zero_add]
    refine h.cell t ?_
    unfold el
    rw [List.getD_eq_getElem?_getD, List.getElem?_eq_getElem ht]
    simp [ht]⟩⟩, Nat.le_refl _, by omega, fun h => by cases h⟩
set_option maxRecDepth 100000 in
set_option maxHeartbeats 3200000 in
theorem ref11_any (w : World) : Calls Try.prog 30 #[] w fun e w' => ∃ p : PgV, e = .returned (.agg p.cells) ∧ PgAt w' p ⟨[5], 0, [[[1]]], [[[-1]]]⟩ ∧ Below w.heap.size w w' := by
  have X0 := blk_new w 47 #[.slice none 0 0, .int .i64 0, .slice none 0 0, .slice none 0 0]
  have BB : Below w.heap.size w (w.alloc (.cells #[.slice none 0 0, .int .i64 0, .slice none 0 0, .slice none 0 0] 47)) := (Below.refl _ _).alloc (Nat.le_refl _) _
  have z0 : (w.alloc (.cells #[.slice none 0 0, .int .i64 0, .slice none 0 0, .slice none 0 0] 47)).heap.size = w.heap.size + 1 := by simp
  generalize hw0 : w.alloc (.cells #[.slice none 0 0, .int .i64 0, .slice none 0 0, .slice none 0 0] 47) = w0 at *
  have X1 := blk_new w0 3 #[.int .i64 5]
  have Bz : Below w0.heap.size w0 (w0.alloc (.cells #[.int .i64 5] 3)) := (Below.refl _ _).alloc (Nat.le_refl _) _
  have z1 : (w0.alloc (.cells #[.int .i64 5] 3)).heap.size = w.heap.size + 2 := by simp; omega
  rw [z0] at X1
  replace BB := below_then BB Bz
  replace X0 := X0.below Bz
  clear Bz
  generalize hv1 : w0.alloc (.cells #[.int .i64 5] 3) = v1 at *
  have X2 := blk_new v1 71 #[.int .i32 1]
  have Bz : Below v1.heap.size v1 (v1.alloc (.cells #[.int .i32 1] 71)) := (Below.refl _ _).alloc (Nat.le_refl _) _
  have z2 : (v1.alloc (.cells #[.int .i32 1] 71)).heap.size = w.heap.size + 3 := by simp; omega
  rw [z1] at X2
  replace X1 := X1.below Bz
  replace BB := below_then BB Bz
  replace X0 := X0.below Bz
  clear Bz
  generalize hv2 : v1.alloc (.cells #[.int .i32 1] 71) = v2 at *
  have X3 := blk_new v2 72 #[.slice (some ⟨w.heap.size + 2, 0, none⟩) 1 1]
  have Bz : Below v2.heap.size v2 (v2.alloc (.cells #[.slice (some ⟨w.heap.size + 2, 0, none⟩) 1 1] 72)) := (Below.refl _ _).alloc (Nat.le_refl _) _
  have z3 : (v2.alloc (.cells #[.slice (some ⟨w.heap.size + 2, 0, none⟩) 1 1] 72)).heap.size = w.heap.size + 4 := by simp; omega
  rw [z2] at X3
  replace X1 := X1.below Bz
  replace X2 := X2.below Bz
  replace BB := below_then BB Bz
  replace X0 := X0.below Bz
  clear Bz
  generalize hv3 : v2.alloc (.cells #[.slice (some ⟨w.heap.size + 2, 0, none⟩) 1 1] 72) = v3 at *
  have X4 := blk_new v3 73 #[.slice (some ⟨w.heap.size + 3, 0, none⟩) 1 1]
  have Bz : Below v3.heap.size v3 (v3.alloc (.cells #[.slice (some ⟨w.heap.size + 3, 0, none⟩) 1 1] 73)) := (Below.refl _ _).alloc (Nat.le_refl _) _
  have z4 : (v3.alloc (.cells #[.slice (some ⟨w.heap.size + 3, 0, none⟩) 1 1] 73)).heap.size = w.heap.size + 5 := by simp; omega
  rw [z3] at X4
  replace X1 := X1.below Bz
  replace X2 := X2.below Bz
  replace X3 := X3.below Bz
  replace BB := below_then BB Bz
  replace X0 := X0.below Bz
  clear Bz
  generalize hv4 : v3.alloc (.cells #[.slice (some ⟨w.heap.size + 3, 0, none⟩) 1 1] 73) = v4 at *
  have X5 := blk_new v4 71 #[.int .i32 (-1)]
  have Bz : Below v4.heap.size v4 (v4.alloc (.cells #[.int .i32 (-1)] 71)) := (Below.refl _ _).alloc (Nat.le_refl _) _
  have z5 : (v4.alloc (.cells #[.int .i32 (-1)] 71)).heap.size = w.heap.size + 6 := by simp; omega
  rw [z4] at X5
  replace X1 := X1.below Bz
  replace X2 := X2.below Bz
  replace X3 := X3.below Bz
  replace X4 := X4.below Bz
  replace BB := below_then BB Bz
  replace X0 := X0.below Bz
  clear Bz
  generalize hv5 : v4.alloc (.cells #[.int .i32 (-1)] 71) = v5 at *
  have X6 := blk_new v5 72 #[.slice (some ⟨w.heap.size + 5, 0, none⟩) 1 1]
  have Bz : Below v5.heap.size v5 (v5.alloc (.cells #[.slice (some ⟨w.heap.size + 5, 0, none⟩) 1 1] 72)) := (Below.refl _ _).alloc (Nat.le_refl _) _
  have z6 : (v5.alloc (.cells #[.slice (some ⟨w.heap.size + 5, 0, none⟩) 1 1] 72)).heap.size = w.heap.size + 7 := by simp; omega
  rw [z5] at X6
  replace X1 := X1.below Bz
  replace X2 := X2.below Bz
  replace X3 := X3.below Bz
  replace X4 := X4.below Bz
  replace X5 := X5.below Bz
  replace BB := below_then BB Bz
  replace X0 := X0.below Bz
  clear Bz
  generalize hv6 : v5.alloc (.cells #[.slice (some ⟨w.heap.size + 5, 0, none⟩) 1 1] 72) = v6 at *
  have X7 := blk_new v6 73 #[.slice (some ⟨w.heap.size + 6, 0, none⟩) 1 1]
  have Bz : Below v6.heap.size v6 (v6.alloc (.cells #[.slice (some ⟨w.heap.size + 6, 0, none⟩) 1 1] 73)) := (Below.refl _ _).alloc (Nat.le_refl _) _
  have z7 : (v6.alloc (.cells #[.slice (some ⟨w.heap.size + 6, 0, none⟩) 1 1] 73)).heap.size = w.heap.size + 8 := by simp; omega
  rw [z6] at X7
  replace X1 := X1.below Bz
  replace X2 := X2.below Bz
  replace X3 := X3.below Bz
  replace X4 := X4.below Bz
  replace X5 := X5.below Bz
  replace X6 := X6.below Bz
  replace BB := below_then BB Bz
  replace X0 := X0.below Bz
  clear Bz
  generalize hv7 : v6.alloc (.cells #[.slice (some ⟨w.heap.size + 6, 0, none⟩) 1 1] 73) = v7 at *
  have hlr : (loadVar 47 ⟨w.heap.size, 0, none⟩).run Try.prog (v7.setRow w.heap.size #[.slice (some ⟨w.heap.size + 1, 0, none⟩) 1 1, .int .i64 0, .slice (some ⟨w.heap.size + 4, 0, none⟩) 1 1, .slice (some ⟨w.heap.size + 7, 0, none⟩) 1 1]) = .ok (.agg #[.slice (some ⟨w.heap.size + 1, 0, none⟩) 1 1, .int .i64 0, .slice (some ⟨w.heap.size + 4, 0, none⟩) 1 1, .slice (some ⟨w.heap.size + 7, 0, none⟩) 1 1]) (v7.setRow w.heap.size #[.slice (some ⟨w.heap.size + 1, 0, none⟩) 1 1, .int .i64 0, .slice (some ⟨w.heap.size + 4, 0, none⟩) 1 1, .slice (some ⟨w.heap.size + 7, 0, none⟩) 1 1]) := load_pg (X0.row _) rfl
  have BF := below_setRow BB (Nat.le_refl _) #[.slice (some ⟨w.heap.size + 1, 0, none⟩) 1 1, .int .i64 0, .slice (some ⟨w.heap.size + 4, 0, none⟩) 1 1, .slice (some ⟨w.heap.size + 7, 0, none⟩) 1 1]
  have oth : ∀ b, b ≠ w.heap.size → (v7.setRow w.heap.size #[.slice (some ⟨w.heap.size + 1, 0, none⟩) 1 1, .int .i64 0, .slice (some ⟨w.heap.size + 4, 0, none⟩) 1 1, .slice (some ⟨w.heap.size + 7, 0, none⟩) 1 1]).heap[b]? = v7.heap[b]? := fun b hb => setRow_other _ _ _ _ hb
  replace X1 := X1.of_block (oth _ (by omega))
  replace X2 := X2.of_block (oth _ (by omega))
  replace X3 := X3.of_block (oth _ (by omega))
  replace X4 := X4.of_block (oth _ (by omega))
  replace X5 := X5.of_block (oth _ (by omega))
  replace X6 := X6.of_block (oth _ (by omega))
  replace X7 := X7.of_block (oth _ (by omega))
  go_enter Try.func30, Try.ntmps30
  go_wp2_with (refine wpList_store_row rfl 47 _ _ rfl w.heap.size #[.slice (some ⟨w.heap.size + 1, 0, none⟩) 1 1, .int .i64 0, .slice (some ⟨w.heap.size + 4, 0, none⟩) 1 1, .slice (some ⟨w.heap.size + 7, 0, none⟩) 1 1] rfl rfl 47 _ X0 (by exact Try.infoPg) rfl (by simp [Value.oneCell']) ?_)
  refine bodyPost_ret (results_cB (by rfl) _ _ _ _ rfl hlr) rfl ?_
  refine ⟨⟨⟨(some ⟨w.heap.size + 1, 0, none⟩), 1, 1⟩, 0, ⟨(some ⟨w.heap.size + 4, 0, none⟩), 1, 1⟩, ⟨(some ⟨w.heap.size + 7, 0, none⟩), 1, 1⟩⟩, rfl, ⟨?_, rfl, ?_, ?_⟩, BF⟩
  · exact ints_of (A := [5]) X1 (by simp) (fun k => by
      rcases k with _ | k
      · simp [el]
      · rw [el_over (by simp)]; omega)
  · exact cube_one (R := [[1]]) X4 (by simp) (grid_of (R := [[1]]) X3 (by simp) (fun t ht => by
      obtain rfl : t = 0 := by simpa using ht
      exact ⟨_, 1, rfl, num_arg X2 (by omega)⟩))
  · exact cube_one (R := [[-1]]) X7 (by simp) (grid_of (R := [[-1]]) X6 (by simp) (fun t ht => by
      obtain rfl : t = 0 := by simpa using ht
      exact ⟨_, 1, rfl, num_arg X5 (by omega)⟩))
theorem fit11 : VwFit 9 1 1 ⟨[5, 6, 7], [[[1], [2], [3]]], [[[4], [5], [6]]]⟩ := ⟨by decide, by decide, rfl, rfl, fun R hR => by
    simp only [List.mem_singleton] at hR
    subst hR
    exact ⟨rfl, fun t ht => by
      have ht3 : t < 3 := ht
      match t, ht3 with
      | 0, _ => rfl
      | 1, _ => rfl
      | 2, _ => rfl⟩, fun R hR => by
    simp only [List.mem_singleton] at hR
    subst hR
    exact ⟨rfl, fun t ht => by
      have ht3 : t < 3 := ht
      match t, ht3 with
      | 0, _ => rfl
      | 1, _ => rfl
      | 2, _ => rfl⟩⟩
set_option maxRecDepth 100000 in
set_option maxHeartbeats 6400000 in
theorem awake11_any (w : World) : Calls Try.prog 9 #[] w fun e w' => e = .returned (.bool true) ∧ Below w.heap.size w w' := by
  have BB : Below w.heap.size w w := Below.refl _ _
  have X1 := blk_new w 3 #[.int .i64 5, .int .i64 6, .int .i64 7]
  have Bz : Below w.heap.size w (w.alloc (.cells #[.int .i64 5, .int .i64 6, .int .i64 7] 3)) := (Below.refl _ _).alloc (Nat.le_refl _) _
  have z1 : (w.alloc (.cells #[.int .i64 5, .int .i64 6, .int .i64 7] 3)).heap.size = w.heap.size + 1 := by simp
  replace BB := below_then BB Bz
  clear Bz
  generalize hv1 : w.alloc (.cells #[.int .i64 5, .int .i64 6, .int .i64 7] 3) = v1 at *
  have X2 := blk_new v1 71 #[.int .i32 1]
  have Bz : Below v1.heap.size v1 (v1.alloc (.cells #[.int .i32 1] 71)) := (Below.refl _ _).alloc (Nat.le_refl _) _
  have z2 : (v1.alloc (.cells #[.int .i32 1] 71)).heap.size = w.heap.size + 2 := by simp; omega
  rw [z1] at X2
  replace X1 := X1.below Bz
  replace BB := below_then BB Bz
  clear Bz
  generalize hv2 : v1.alloc (.cells #[.int .i32 1] 71) = v2 at *
  have X3 := blk_new v2 71 #[.int .i32 2]
  have Bz : Below v2.heap.size v2 (v2.alloc (.cells #[.int .i32 2] 71)) := (Below.refl _ _).alloc (Nat.le_refl _) _
  have z3 : (v2.alloc (.cells #[.int .i32 2] 71)).heap.size = w.heap.size + 3 := by simp; omega
  rw [z2] at X3
  replace X1 := X1.below Bz
  replace X2 := X2.below Bz
  replace BB := below_then BB Bz
  clear Bz
  generalize hv3 : v2.alloc (.cells #[.int .i32 2] 71) = v3 at *
  have X4 := blk_new v3 71 #[.int .i32 3]
  have Bz : Below v3.heap.size v3 (v3.alloc (.cells #[.int .i32 3] 71)) := (Below.refl _ _).alloc (Nat.le_refl _) _
  have z4 : (v3.alloc (.cells #[.int .i32 3] 71)).heap.size = w.heap.size + 4 := by simp; omega
  rw [z3] at X4
  replace X1 := X1.below Bz
  replace X2 := X2.below Bz
  replace X3 := X3.below Bz
  replace BB := below_then BB Bz
  clear Bz
  generalize hv4 : v3.alloc (.cells #[.int .i32 3] 71) = v4 at *
  have X5 := blk_new v4 72 #[.slice (some ⟨w.heap.size + 1, 0, none⟩) 1 1, .slice (some ⟨w.heap.size + 2, 0, none⟩) 1 1, .slice (some ⟨w.heap.size + 3, 0, none⟩) 1 1]
  have Bz : Below v4.heap.size v4 (v4.alloc (.cells #[.slice (some ⟨w.heap.size + 1, 0, none⟩) 1 1, .slice (some ⟨w.heap.size + 2, 0, none⟩) 1 1, .slice (some ⟨w.heap.size + 3, 0, none⟩) 1 1] 72)) := (Below.refl _ _).alloc (Nat.le_refl _) _
  have z5 : (v4.alloc (.cells #[.slice (some ⟨w.heap.size + 1, 0, none⟩) 1 1, .slice (some ⟨w.heap.size + 2, 0, none⟩) 1 1, .slice (some ⟨w.heap.size + 3, 0, none⟩) 1 1] 72)).heap.size = w.heap.size + 5 := by simp; omega
  rw [z4] at X5
  replace X1 := X1.below Bz
  replace X2 := X2.below Bz
  replace X3 := X3.below Bz
  replace X4 := X4.below Bz
  replace BB := below_then BB Bz
  clear Bz
  generalize hv5 : v4.alloc (.cells #[.slice (some ⟨w.heap.size + 1, 0, none⟩) 1 1, .slice (some ⟨w.heap.size + 2, 0, none⟩) 1 1, .slice (some ⟨w.heap.size + 3, 0, none⟩) 1 1] 72) = v5 at *
  have X6 := blk_new v5 73 #[.slice (some ⟨w.heap.size + 4, 0, none⟩) 3 3]
  have Bz : Below v5.heap.size v5 (v5.alloc (.cells #[.slice (some ⟨w.heap.size + 4, 0, none⟩) 3 3] 73)) := (Below.refl _ _).alloc (Nat.le_refl _) _
  have z6 : (v5.alloc (.cells #[.slice (some ⟨w.heap.size + 4, 0, none⟩) 3 3] 73)).heap.size = w.heap.size + 6 := by simp; omega
  rw [z5] at X6
  replace X1 := X1.below Bz
  replace X2 := X2.below Bz
  replace X3 := X3.below Bz
  replace X4 := X4.below Bz
  replace X5 := X5.below Bz
  replace BB := below_then BB Bz
  clear Bz
  generalize hv6 : v5.alloc (.cells #[.slice (some ⟨w.heap.size + 4, 0, none⟩) 3 3] 73) = v6 at *
  have X7 := blk_new v6 71 #[.int .i32 4]
  have Bz : Below v6.heap.size v6 (v6.alloc (.cells #[.int .i32 4] 71)) := (Below.refl _ _).alloc (Nat.le_refl _) _
  have z7 : (v6.alloc (.cells #[.int .i32 4] 71)).heap.size = w.heap.size + 7 := by simp; omega
  rw [z6] at X7
  replace X1 := X1.below Bz
  replace X2 := X2.below Bz
  replace X3 := X3.below Bz
  replace X4 := X4.below Bz
  replace X5 := X5.below Bz
  replace X6 := X6.below Bz
  replace BB := below_then BB Bz
  clear Bz
  generalize hv7 : v6.alloc (.cells #[.int .i32 4] 71) = v7 at *
  have X8 := blk_new v7 71 #[.int .i32 5]
  have Bz : Below v7.heap.size v7 (v7.alloc (.cells #[.int .i32 5] 71)) := (Below.refl _ _).alloc (Nat.le_refl _) _
  have z8 : (v7.alloc (.cells #[.int .i32 5] 71)).heap.size = w.heap.size + 8 := by simp; omega
  rw [z7] at X8
  replace X1 := X1.below Bz
  replace X2 := X2.below Bz
  replace X3 := X3.below Bz
  replace X4 := X4.below Bz
  replace X5 := X5.below Bz
  replace X6 := X6.below Bz
  replace X7 := X7.below Bz
  replace BB := below_then BB Bz
  clear Bz
  generalize hv8 : v7.alloc (.cells #[.int .i32 5] 71) = v8 at *
  have X9 := blk_new v8 71 #[.int .i32 6]
  have Bz : Below v8.heap.size v8 (v8.alloc (.cells #[.int .i32 6] 71)) := (Below.refl _ _).alloc (Nat.le_refl _) _
  have z9 : (v8.alloc (.cells #[.int .i32 6] 71)).heap.size = w.heap.size + 9 := by simp; omega
  rw [z8] at X9
  replace X1 := X1.below Bz
  replace X2 := X2.below Bz
  replace X3 := X3.below Bz
  replace X4 := X4.below Bz
  replace X5 := X5.below Bz
  replace X6 := X6.below Bz
  replace X7 := X7.below Bz
  replace X8 := X8.below Bz
  replace BB := below_then BB Bz
  clear Bz
  generalize hv9 : v8.alloc (.cells #[.int .i32 6] 71) = v9 at *
  have X10 := blk_new v9 72 #[.slice (some ⟨w.heap.size + 6, 0, none⟩) 1 1, .slice (some ⟨w.heap.size + 7, 0, none⟩) 1 1, .slice (some ⟨w.heap.size + 8, 0, none⟩) 1 1]
  have Bz : Below v9.heap.size v9 (v9.alloc (.cells #[.slice (some ⟨w.heap.size + 6, 0, none⟩) 1 1, .slice (some ⟨w.heap.size + 7, 0, none⟩) 1 1, .slice (some ⟨w.heap.size + 8, 0, none⟩) 1 1] 72)) := (Below.refl _ _).alloc (Nat.le_refl _) _
  have z10 : (v9.alloc (.cells #[.slice (some ⟨w.heap.size + 6, 0, none⟩) 1 1, .slice (some ⟨w.heap.size + 7, 0, none⟩) 1 1, .slice (some ⟨w.heap.size + 8, 0, none⟩) 1 1] 72)).heap.size = w.heap.size + 10 := by simp; omega
  rw [z9] at X10
  replace X1 := X1.below Bz
  replace X2 := X2.below Bz
  replace X3 := X3.below Bz
  replace X4 := X4.below Bz
  replace X5 := X5.below Bz
  replace X6 := X6.below Bz
  replace X7 := X7.below Bz
  replace X8 := X8.below Bz
  replace X9 := X9.below Bz
  replace BB := below_then BB Bz
  clear Bz
  generalize hv10 : v9.alloc (.cells #[.slice (some ⟨w.heap.size + 6, 0, none⟩) 1 1, .slice (some ⟨w.heap.size + 7, 0, none⟩) 1 1, .slice (some ⟨w.heap.size + 8, 0, none⟩) 1 1] 72) = v10 at *
  have X11 := blk_new v10 73 #[.slice (some ⟨w.heap.size + 9, 0, none⟩) 3 3]
  have Bz : Below v10.heap.size v10 (v10.alloc (.cells #[.slice (some ⟨w.heap.size + 9, 0, none⟩) 3 3] 73)) := (Below.refl _ _).alloc (Nat.le_refl _) _
  have z11 : (v10.alloc (.cells #[.slice (some ⟨w.heap.size + 9, 0, none⟩) 3 3] 73)).heap.size = w.heap.size + 11 := by simp; omega
  rw [z10] at X11
  replace X1 := X1.below Bz
  replace X2 := X2.below Bz
  replace X3 := X3.below Bz
  replace X4 := X4.below Bz
  replace X5 := X5.below Bz
  replace X6 := X6.below Bz
  replace X7 := X7.below Bz
  replace X8 := X8.below Bz
  replace X9 := X9.below Bz
  replace X10 := X10.below Bz
  replace BB := below_then BB Bz
  clear Bz
  generalize hv11 : v10.alloc (.cells #[.slice (some ⟨w.heap.size + 9, 0, none⟩) 3 3] 73) = v11 at *
  have HV : Hid (∀ wx, Below v11.heap.size v11 wx → VwAt wx ⟨⟨(some ⟨w.heap.size, 0, none⟩), 3, 3⟩, ⟨(some ⟨w.heap.size + 5, 0, none⟩), 1, 1⟩, ⟨(some ⟨w.heap.size + 10, 0, none⟩), 1, 1⟩⟩ ⟨[5, 6, 7], [[[1], [2], [3]]], [[[4], [5], [6]]]⟩) := fun wx hb => VwAt.below ⟨ints_of (A := [5, 6, 7]) X1 (by simp) (fun k => by
      rcases k with _ | _ | _ | k
      · simp [el]
      · simp [el]
      · simp [el]
      · rw [el_over (by simp)]; omega), cube_one (R := [[1], [2], [3]]) X6 (by simp) (grid_of (R := [[1], [2], [3]]) X5 (by simp) (fun t ht => by
      have ht3 : t < 3 := ht
      match t, ht3 with
      | 0, _ => exact ⟨_, 1, rfl, num_arg X2 (by omega)⟩
      | 1, _ => exact ⟨_, 1, rfl, num_arg X3 (by omega)⟩
      | 2, _ => exact ⟨_, 1, rfl, num_arg X4 (by omega)⟩)), cube_one (R := [[4], [5], [6]]) X11 (by simp) (grid_of (R := [[4], [5], [6]]) X10 (by simp) (fun t ht => by
      have ht3 : t < 3 := ht
      match t, ht3 with
      | 0, _ => exact ⟨_, 1, rfl, num_arg X7 (by omega)⟩
      | 1, _ => exact ⟨_, 1, rfl, num_arg X8 (by omega)⟩
      | 2, _ => exact ⟨_, 1, rfl, num_arg X9 (by omega)⟩))⟩ hb
  clear X1 X2 X3 X4 X5 X6 X7 X8 X9 X10 X11
  have XZ := blk_new v11 29 #[.slice none 0 0, .slice none 0 0, .slice none 0 0]
  have BZ : Below v11.heap.size v11 (v11.alloc (.cells #[.slice none 0 0, .slice none 0 0, .slice none 0 0] 29)) := (Below.refl _ _).alloc (Nat.le_refl _) _
  rw [z11] at XZ
  generalize hwz : v11.alloc (.cells #[.slice none 0 0, .slice none 0 0, .slice none 0 0] 29) = wz at *
  have XV := XZ.row #[.slice (some ⟨w.heap.size, 0, none⟩) 3 3, .slice (some ⟨w.heap.size + 5, 0, none⟩) 1 1, .slice (some ⟨w.heap.size + 10, 0, none⟩) 1 1]
  have BR := below_setRow BZ (by omega : v11.heap.size ≤ w.heap.size + 11) #[.slice (some ⟨w.heap.size, 0, none⟩) 3 3, .slice (some ⟨w.heap.size + 5, 0, none⟩) 1 1, .slice (some ⟨w.heap.size + 10, 0, none⟩) 1 1]
  generalize hwy : wz.setRow (w.heap.size + 11) #[.slice (some ⟨w.heap.size, 0, none⟩) 3 3, .slice (some ⟨w.heap.size + 5, 0, none⟩) 1 1, .slice (some ⟨w.heap.size + 10, 0, none⟩) 1 1] = w3 at *
  have HSP : Hid (∀ wx, Below v11.heap.size v11 wx → Calls Try.prog 7 #[.agg #[.int .i64 9, .int .i64 1, .int .i64 1, .int .i64 1, .int .i64 1], .agg #[.slice (some ⟨w.heap.size, 0, none⟩) 3 3, .slice (some ⟨w.heap.size + 5, 0, none⟩) 1 1, .slice (some ⟨w.heap.size + 10, 0, none⟩) 1 1], .int .i64 2] wx fun e w' => ∃ a c, e = .returned (.tuple #[.slice a 2 c, .int .i64 0]) ∧ New wx.heap.size w' (fun w => PgsAt w ⟨a, 2, c⟩ [⟨[5, 6], 0, [[[1], [2]]], [[[4], [5]]]⟩, ⟨[5, 6, 7], 2, [[[3]]], [[[6]]]⟩]) ∧ Below wx.heap.size wx w') := fun wx hb =>
    split_any 9 1 1 1 1 ⟨⟨(some ⟨w.heap.size, 0, none⟩), 3, 3⟩, ⟨(some ⟨w.heap.size + 5, 0, none⟩), 1, 1⟩, ⟨(some ⟨w.heap.size + 10, 0, none⟩), 1, 1⟩⟩ ⟨[5, 6, 7], [[[1], [2], [3]]], [[[4], [5], [6]]]⟩ 2 wx (HV.out wx hb) fit11 (by omega) (by omega) (by omega) (by omega)
  have D3 := BR
  clear BZ
  have HBB : Hid (Below w.heap.size w v11) := BB
  go_enter Try.func9, Try.ntmps9
  go_upto_region 2 with (refine wpList_store_row rfl 29 _ _ rfl (w.heap.size + 11) #[.slice (some ⟨w.heap.size, 0, none⟩) 3 3, .slice (some ⟨w.heap.size + 5, 0, none⟩) 1 1, .slice (some ⟨w.heap.size + 10, 0, none⟩) 1 1] rfl rfl 29 _ XZ (by exact Try.infoV) rfl (by simp [Value.oneCell']) ?_; rw [hwy])
  clear hwz hwy XZ BR hv1 hv2 hv3 hv4 hv5 hv6 hv7 hv8 hv9 hv10 hv11 z1 z2 z3 z4 z5 z6 z7 z8 z9 z10 z11 BB
  have BD : Below w3.heap.size w3 w3.drew := (Below.refl _ w3).drew
  have XDv := XV.below BD
  have DD := below_then D3 BD
  refine wp_region_held_drew (S := fun w' => Blk w' (w.heap.size + 11) 29 #[.slice (some ⟨w.heap.size, 0, none⟩) 3 3, .slice (some ⟨w.heap.size + 5, 0, none⟩) 1 1, .slice (some ⟨w.heap.size + 10, 0, none⟩) 1 1]) (by kernel_rfl) (XDv) (fun hHeld => ?_)
  generalize hA : w3.drew = wA at *
  clear hA XV D3 BD
  refine wpAnyH_take (i := 1) (v := (.agg #[.slice (some ⟨w.heap.size, 0, none⟩) 3 3, .slice (some ⟨w.heap.size + 5, 0, none⟩) 1 1, .slice (some ⟨w.heap.size + 10, 0, none⟩) 1 1])) rfl (by kernel_rfl) (by kernel_rfl) (by kernel_rfl) (fun _ _ _ h => h) (Or.inl ⟨by rfl, ?_⟩) (by assumption) ?_
  · intro w' hSw
    have e0 : w'.cell? ⟨w.heap.size + 11, 0, none⟩ = _ := hSw.cell 0 rfl
    have e1 : w'.cell? ⟨w.heap.size + 11, 1, none⟩ = _ := hSw.cell 1 rfl
    have e2 : w'.cell? ⟨w.heap.size + 11, 2, none⟩ = _ := hSw.cell 2 rfl
    go_simp
  simp only [List.getElem_toArray, List.getElem_cons_succ, List.getElem_cons_zero, Act.put, List.setIfInBounds_toArray, List.set_cons_zero, List.set_cons_succ]
  refine wpAnyH_ready (rs := [0]) (by kernel_rfl) (by simp) ?_
  refine AllReadyH.cons rfl (fun Kc hKc => ?_) AllReadyH.nil
  simp only [List.getElem_toArray, List.getElem_cons_zero]
  rw [if_pos (by rfl)]
  go_wp2_with fail
  refine (small11_any wA).mono ?_
  rintro e w4 ⟨rfl, B4⟩
  rw [show smC = #[.int .i64 9, .int .i64 1, .int .i64 1, .int .i64 1, .int .i64 1] from rfl]
  have X4' := XDv.below B4
  have D4 := below_then DD B4
  go_wp2_with fail
  refine hKc.out _ _ (X4') (fun hHeld => ?_)
  clear hKc Kc
  have SP := HSP.out w4 D4
  refine wpAnyH_ready (rs := [2]) (by kernel_rfl) (by simp) ?_
  refine AllReadyH.cons rfl (fun Kc hKc => ?_) AllReadyH.nil
  simp only [List.getElem_toArray, List.getElem_cons_succ, List.getElem_cons_zero]
  rw [if_pos (by rfl)]
  go_wp2_with fail
  refine SP.mono ?_
  clear SP
  rintro e w5 ⟨a, c, rfl, N5, B5⟩
  have X5' := X4'.below B5
  have D5 := below_then D4 B5
  have P5 := N5.now
  go_wp2_with fail
  refine hKc.out _ _ (X5') (fun hHeld => ?_)
  clear hKc Kc
  refine wpAnyH_take (i := 3) (v := (.tuple #[.slice a 2 c, .int .i64 0])) rfl (by kernel_rfl) (by kernel_rfl) (by kernel_rfl) (fun _ _ _ h => h) (Or.inl ⟨by rfl, ?_⟩) (by assumption) ?_
  · intro w' hSw
    go_simp
  simp only [List.getElem_toArray, List.getElem_cons_succ, List.getElem_cons_zero, Act.put, List.setIfInBounds_toArray, List.set_cons_zero, List.set_cons_succ]
  refine wpAnyH_take (i := 4) (v := (.slice a 2 c)) rfl (by kernel_rfl) (by kernel_rfl) (by kernel_rfl) (fun _ _ _ h => h) (Or.inl ⟨by rfl, ?_⟩) (by assumption) ?_
  · intro w' hSw
    go_simp
  simp only [List.getElem_toArray, List.getElem_cons_succ, List.getElem_cons_zero, Act.put, List.setIfInBounds_toArray, List.set_cons_zero, List.set_cons_succ]
  refine wpAnyH_take (i := 5) (v := (.int .i64 0)) rfl (by kernel_rfl) (by kernel_rfl) (by kernel_rfl) (fun _ _ _ h => h) (Or.inl ⟨by rfl, ?_⟩) (by assumption) ?_
  · intro w' hSw
    go_simp
  simp only [List.getElem_toArray, List.getElem_cons_succ, List.getElem_cons_zero, Act.put, List.setIfInBounds_toArray, List.set_cons_zero, List.set_cons_succ]
  refine wpAnyH_ready (rs := [6]) (by kernel_rfl) (by simp) ?_
  refine AllReadyH.cons rfl (fun Kc hKc => ?_) AllReadyH.nil
  simp only [List.getElem_toArray, List.getElem_cons_succ, List.getElem_cons_zero]
  rw [if_pos (by rfl)]
  go_wp2_with fail
  refine hKc.out _ _ X5' (fun hHeld => ?_)
  clear hKc Kc
  refine wpAnyH_ready (rs := [7]) (by kernel_rfl) (by simp) ?_
  refine AllReadyH.cons rfl (fun Kc hKc => ?_) AllReadyH.nil
  simp only [List.getElem_toArray, List.getElem_cons_succ, List.getElem_cons_zero]
  rw [if_pos (by rfl)]
  go_wp2_with fail
  refine hKc.out _ _ X5' (fun hHeld => ?_)
  clear hKc Kc
  refine wpAnyH_done (by kernel_rfl) ?_ _
  go_wp2_with fail
  refine (small11_any _).mono ?_
  rintro e w6 ⟨rfl, B6⟩
  have RD := read_short 9 1 1 1 1 [] w6 (by simp)
  rw [show smC = #[.int .i64 9, .int .i64 1, .int .i64 1, .int .i64 1, .int .i64 1] from rfl]
  go_wp2_with fail
  refine RD.mono ?_
  rintro e w7 ⟨rfl, B7⟩
  have XN := blk_new w7 47 #[.slice none 0 0, .int .i64 0, .slice none 0 0, .slice none 0 0]
  have BN : Below w7.heap.size w7 (w7.alloc (.cells #[.slice none 0 0, .int .i64 0, .slice none 0 0, .slice none 0 0] 47)) := (Below.refl _ _).alloc (Nat.le_refl _) _
  generalize hwn : w7.alloc (.cells #[.slice none 0 0, .int .i64 0, .slice none 0 0, .slice none 0 0] 47) = w8 at *
  have BM := below_setRow BN (Nat.le_refl _) noP
  generalize hwm : w8.setRow w7.heap.size noP = w9 at *
  have D9 := below_then (below_then (below_then D5 B6) B7) BM
  have P9 := ((P5.below B6).below B7).below BM
  go_wp2_with (refine wpList_store_row rfl 47 _ _ rfl w7.heap.size noP rfl rfl 47 _ XN (by exact Try.infoPg) rfl (by simp [noP, Value.oneCell']) ?_; rw [hwm])
  refine (small11_any _).mono ?_
  clear hwn hwm XN BN BM
  rintro e wa ⟨rfl, Ba⟩
  rw [show smC = #[.int .i64 9, .int .i64 1, .int .i64 1, .int .i64 1, .int .i64 1] from rfl]
  go_wp2_with fail
  refine (ref11_any _).mono ?_
  rintro e wb ⟨p, rfl, PR, Bb⟩
  have BY := bytes_ok 9 1 1 1 1 p _ wb PR (by decide) (by decide) (by decide)
  rw [show txt (pageB ⟨[5], 0, [[[1]]], [[[-1]]]⟩) = ⟨#[1, 0, 5, 0, 0, 0, 1, 255, 255, 255, 255]⟩ by rfl] at BY
  obtain ⟨⟨p1, p2, p3⟩, pf, ⟨p4, p5, p6⟩, ⟨p7, p8, p9⟩⟩ := p
  rw [show PgV.cells ⟨⟨p1, p2, p3⟩, pf, ⟨p4, p5, p6⟩, ⟨p7, p8, p9⟩⟩ = #[.slice p1 p2 p3, .int .i64 pf, .slice p4 p5 p6, .slice p7 p8 p9] from rfl] at BY ⊢
  go_wp2_with fail
  refine BY.mono ?_
  rintro e wc ⟨rfl, Bc⟩
  have Dc := below_then (below_then (below_then D9 Ba) Bb) Bc
  have Pc := ((P9.below Ba).below Bb).below Bc
  clear PR BY P9 P5 N5
  obtain ⟨g, o, e5, hc⟩ := Pc.cells (Nat.succ_pos 1)
  have e5' : a = some ⟨g, o, none⟩ := e5
  subst e5'
  obtain ⟨⟨⟨t1, t2, t3⟩, tf, tk, tv⟩, rr, PA⟩ := hc 1 _ rfl
  have h2 : (3 : Nat) = t2 := PA.t.row.len
  have h3 : tf = 2 := PA.f
  subst h2 h3
  have k0 : wc.cell? ⟨g, o + 4, none⟩ = some (.slice t1 3 t3) := rr 0 _ rfl
  have k1 : wc.cell? ⟨g, o + 4 + 1, none⟩ = some (.int .i64 2) := rr 1 _ rfl
  have k1' : wc.cell? ⟨g, o + 5, none⟩ = some (.int .i64 2) := k1
  go_wp2_with fail
  go_ret
  exact ⟨rfl, below_then HBB.out Dc⟩
end Go.Proofs.Ytpplnjmjldhlbaa

/- An argument that is a row of whole numbers, opened once: nil, empty or not. -/
namespace Go.Proofs.Ytpplnjmjldhlbaa
open Go.ChangeShapes Go.WideShapes Go.ChangeAt Go.RowKit
theorem Try.cellsInt : Try.prog.cellsOf 3 = 1 := by kernel_rfl
theorem viewI_cells {H : Type} {enc : TypeId × Value → H} {W : World} {fuel : Nat} {cs : List Value} {x : DataW H × List MemPlace}
    (hf : DataW.trod enc Try.prog W 0 (fun _ => true) true fuel 24 cs = some x) :
    ∃ (a0 : Option Addr) (len cap : Nat) (Z : List Int), cs = [.slice a0 len cap] ∧ IArg W a0 len cap Z := by
  rcases open_ints Try.underlying24 Try.underlying3 Try.cellsInt hf with ⟨hcs, hx⟩ | ⟨a, len', cap', zs, hcs, _, hl, hm, hz, hx, hcell, hwz⟩
  · exact ⟨none, 0, 0, [], hcs, iarg_nil _⟩
  · simp only [if_true] at hz
    unfold maxLen at hm
    refine ⟨some a, len', cap', zs.take len', hcs, ⟨by simp; omega, by omega, fun k => ?_, fun hn => ?_⟩, hl, by omega, fun h => by cases h⟩
    · rcases Nat.lt_or_ge k (zs.take len').length with hk | hk
      · exact bounds_i64 (hwz _ (List.mem_of_mem_take (el_mem hk)))
      · rw [el_over hk]; omega
    · obtain ⟨b, o, s⟩ := a
      have h0 := hcell 0 (by omega)
      have hs : s = none := by simpa [Addr.add] using World.cell?_spot h0
      subst hs
      refine ⟨b, o, rfl, fun t ht => ?_⟩
      have e : (Addr.mk b o none).add t = ⟨b, o + t, none⟩ := by simp [Addr.add]
      rw [← e, hcell t (by omega), el_take ht]
      rfl
set_option maxRecDepth 100000 in
theorem viewI {H : Type} {enc : TypeId × Value → H} {W : World} {b0 : Nat} {v : Value} {d : DataW H} {p : List MemPlace} (hv : Value.okWide Try.prog W .any b0 24 v)
    (h : DataW.Trod enc Try.prog W 0 (fun _ => true) true 24 v d p) : ∃ (a0 : Option Addr) (len cap : Nat) (Z : List Int), v = .slice a0 len cap ∧ IArg W a0 len cap Z := by
  obtain ⟨a0, la, ca, rfl⟩ := okWide_slice Try.underlying24 hv
  obtain ⟨f, hf⟩ := h
  obtain ⟨a1, l1, c1, Z, e, hA⟩ := viewI_cells hf
  simp [Value.cells] at e
  obtain ⟨rfl, rfl, rfl⟩ := e
  exact ⟨_, _, _, Z, rfl, hA⟩
end Go.Proofs.Ytpplnjmjldhlbaa

/- Arguments that are rows of rows of fixed numbers, lists of them, and views, opened once. -/
namespace Go.Proofs.Ytpplnjmjldhlbaa
open Go.ChangeShapes Go.WideShapes Go.ChangeAt Go.RowKit
theorem Try.cellsRowR : Try.prog.cellsOf 72 = 1 := by kernel_rfl
theorem Try.cellsGridR : Try.prog.cellsOf 73 = 1 := by kernel_rfl
theorem viewRow_cells {H : Type} {enc : TypeId × Value → H} {W : World} {fuel : Nat} {cs : List Value} {x : DataW H × List MemPlace}
    (hf : DataW.trod enc Try.prog W 0 (fun _ => true) true fuel 72 cs = some x) :
    ∃ (a0 : Option Addr) (len cap : Nat) (Z : List Int), cs = [.slice a0 len cap] ∧ ArgR W a0 len cap Z := by
  rcases open_ints Try.underlying72 Try.underlying71 Try.cellsNum hf with ⟨hcs, hx⟩ | ⟨a, len', cap', zs, hcs, _, hl, hm, hz, hx, hcell, hwz⟩
  · exact ⟨none, 0, 0, [], hcs, RowAt.nil _ _, Nat.le_refl _, by omega, fun _ => rfl⟩
  · simp only [if_true] at hz
    unfold maxLen at hm
    refine ⟨some a, len', cap', zs.take len', hcs, ⟨by simp; omega, by omega, fun y hy => bounds_i32 (hwz y (List.mem_of_mem_take hy)), fun hn => ?_⟩, hl, by omega, fun h => by cases h⟩
    obtain ⟨b, o, s⟩ := a
    have h0 := hcell 0 (by omega)
    have hs : s = none := by simpa [Addr.add] using World.cell?_spot h0
    subst hs
    refine ⟨b, o, rfl, fun t ht => ?_⟩
    have e : (Addr.mk b o none).add t = ⟨b, o + t, none⟩ := by simp [Addr.add]
    rw [← e, hcell t (by omega), el_take ht]
    rfl
theorem viewGrid_cells {H : Type} {enc : TypeId × Value → H} {W : World} {fuel : Nat} {cs : List Value} {x : DataW H × List MemPlace}
    (hf : DataW.trod enc Try.prog W 0 (fun _ => true) true fuel 73 cs = some x) :
    ∃ (a0 : Option Addr) (len cap : Nat) (Z : List (List Int)), cs = [.slice a0 len cap] ∧ (a0 = none → cap = 0) ∧ len ≤ cap ∧ cap ≤ 9223372036854775807 ∧ GridR W a0 len Z := by
  rcases Deep.open_slice1 Try.underlying73 Try.cellsRowR hf with ⟨hcs, hx⟩ | ⟨a, len, cap, m, n, V, D, Pl, rfl, hb, hl, hm, hmm, rfl, hx⟩
  · exact ⟨none, 0, 0, [], hcs, fun _ => rfl, Nat.le_refl _, by omega, GridR.nil _ _⟩
  · simp only [if_true] at hmm
    subst hmm
    unfold maxLen at hm
    have each : ∀ i, i < m → ∃ z : (Option Addr × Nat × Nat × List Int), W.cell? (a.add i) = some (.slice z.1 z.2.1 z.2.2.1) ∧ ArgR W z.1 z.2.1 z.2.2.1 z.2.2.2 := fun i hi => by
      obtain ⟨h1, h2⟩ := hx i hi
      obtain ⟨a0, l, c, Z, e, hA⟩ := viewRow_cells h2
      simp only [List.cons.injEq, and_true] at e
      exact ⟨(a0, l, c, Z), by rw [h1, e], hA⟩
    obtain ⟨q, hq⟩ := Deep.choose_lt each
    refine ⟨some a, len, m, (List.range len).map fun t => (q t).2.2.2, rfl, (fun h => by cases h), hl, by omega, by simp, by omega, fun hn => ?_⟩
    obtain ⟨b, o, s⟩ := a
    have h0 := (hq 0 (by omega)).1
    have hs : s = none := by simpa [Addr.add] using World.cell?_spot h0
    subst hs
    refine ⟨b, o, rfl, fun t ht => ?_⟩
    obtain ⟨h1, h2⟩ := hq t (by omega)
    have e : (Addr.mk b o none).add t = ⟨b, o + t, none⟩ := by simp [Addr.add]
    have er : rowOf ((List.range len).map fun t => (q t).2.2.2) t = (q t).2.2.2 := by unfold rowOf; simp [List.getD_eq_getElem?_getD, ht]
    rw [er, ← e]
    exact ⟨_, _, _, h1, h2⟩
theorem viewCube_cells {H : Type} {enc : TypeId × Value → H} {W : World} {fuel : Nat} {cs : List Value} {x : DataW H × List MemPlace}
    (hf : DataW.trod enc Try.prog W 0 (fun _ => true) true fuel 25 cs = some x) :
    ∃ (a0 : Option Addr) (len cap : Nat) (Z : List (List (List Int))), cs = [.slice a0 len cap] ∧ (a0 = none → cap = 0) ∧ len ≤ cap ∧ cap ≤ 9223372036854775807 ∧ CubeR W a0 len Z := by
  rcases Deep.open_slice1 Try.underlying25 Try.cellsGridR hf with ⟨hcs, hx⟩ | ⟨a, len, cap, m, n, V, D, Pl, rfl, hb, hl, hm, hmm, rfl, hx⟩
  · exact ⟨none, 0, 0, [], hcs, fun _ => rfl, Nat.le_refl _, by omega, CubeR.nil _ _⟩
  · simp only [if_true] at hmm
    subst hmm
    unfold maxLen at hm
    have each : ∀ i, i < m → ∃ z : (Option Addr × Nat × Nat × List (List Int)), W.cell? (a.add i) = some (.slice z.1 z.2.1 z.2.2.1) ∧ (z.1 = none → z.2.2.1 = 0) ∧ z.2.1 ≤ z.2.2.1 ∧ z.2.2.1 ≤ 9223372036854775807 ∧ GridR W z.1 z.2.1 z.2.2.2 := fun i hi => by
      obtain ⟨h1, h2⟩ := hx i hi
      obtain ⟨a0, l, c, Z, e, e1, e2, e3, hA⟩ := viewGrid_cells h2
      simp only [List.cons.injEq, and_true] at e
      exact ⟨(a0, l, c, Z), by rw [h1, e], e1, e2, e3, hA⟩
    obtain ⟨q, hq⟩ := Deep.choose_lt each
    refine ⟨some a, len, m, (List.range len).map fun t => (q t).2.2.2, rfl, (fun h => by cases h), hl, by omega, by simp, by omega, fun hn => ?_⟩
    obtain ⟨b, o, s⟩ := a
    have h0 := (hq 0 (by omega)).1
    have hs : s = none := by simpa [Addr.add] using World.cell?_spot h0
    subst hs
    refine ⟨b, o, rfl, fun t R hR => ?_⟩
    have ht : t < len := by have := (List.getElem?_eq_some_iff.1 hR).1; simpa using this
    obtain ⟨h1, h2, h3, h4, h5⟩ := hq t (by omega)
    have e : (Addr.mk b o none).add t = ⟨b, o + t, none⟩ := by simp [Addr.add]
    have er : R = (q t).2.2.2 := by simpa [ht] using hR.symm
    rw [er, ← e]
    exact ⟨_, _, _, h1, h2, h3, h4, h5⟩
theorem Try.cellsSl3 : Try.prog.cellsOf 24 = 1 := by kernel_rfl
theorem Try.cellsCubeR : Try.prog.cellsOf 25 = 1 := by kernel_rfl
theorem Try.cellsCacheR : Try.prog.cellsOf 27 = 2 := by kernel_rfl
theorem Try.cellsViewR : Try.prog.cellsOf 29 = 3 := by kernel_rfl
set_option maxRecDepth 100000 in
theorem viewCache_cells {H : Type} {enc : TypeId × Value → H} {W : World} {fuel : Nat} {cs : List Value} {x : DataW H × List MemPlace}
    (hf : DataW.trod enc Try.prog W 0 (fun _ => true) true fuel 27 cs = some x) :
    ∃ (k v : Sl) (K V : List (List (List Int))), cs = [k.v, v.v] ∧ CubeR W k.ao k.n K ∧ CubeR W v.ao v.n V := by
  obtain ⟨y0, y1, n, rfl, hl, h0, h1⟩ := trod_struct2 Try.underlying27 hf
  rw [Try.cellsCacheR] at hl
  match cs, hl with
  | [c0, c1], _ =>
    simp [Try.cellsCubeR] at h0 h1
    obtain ⟨a0, l0, q0, Z0, e0, -, -, -, k0⟩ := viewCube_cells h0
    obtain ⟨a1, l1, q1, Z1, e1, -, -, -, k1⟩ := viewCube_cells h1
    simp only [List.cons.injEq, and_true] at e0 e1
    subst e0 e1
    exact ⟨⟨a0, l0, q0⟩, ⟨a1, l1, q1⟩, Z0, Z1, rfl, k0, k1⟩
set_option maxRecDepth 100000 in
theorem viewVw_cells {H : Type} {enc : TypeId × Value → H} {W : World} {fuel : Nat} {cs : List Value} {x : DataW H × List MemPlace}
    (hf : DataW.trod enc Try.prog W 0 (fun _ => true) true fuel 29 cs = some x) :
    ∃ (v : VwV) (X : Vw), cs = v.cells.toList ∧ VwR W v X := by
  obtain ⟨y0, y1, n, rfl, hl, h0, h1⟩ := trod_struct2 Try.underlying29 hf
  rw [Try.cellsViewR] at hl
  match cs, hl with
  | [c0, c1, c2], _ =>
    simp [Try.cellsSl3, Try.cellsCacheR] at h0 h1
    obtain ⟨a0, l0, q0, Z0, e0, k0⟩ := viewI_cells h0
    obtain ⟨k, v, K, V, e1, k1, k2⟩ := viewCache_cells h1
    simp only [List.cons.injEq, and_true] at e0 e1
    obtain ⟨rfl, rfl⟩ := e1
    subst e0
    exact ⟨⟨⟨a0, l0, q0⟩, k, v⟩, ⟨Z0, K, V⟩, rfl, k0, k1, k2⟩
set_option maxRecDepth 100000 in
theorem viewVw {H : Type} {enc : TypeId × Value → H} {W : World} {b0 : Nat} {v : Value} {d : DataW H} {p : List MemPlace} (hv : Value.okWide Try.prog W .any b0 29 v)
    (h : DataW.Trod enc Try.prog W 0 (fun _ => true) true 29 v d p) : ∃ (vv : VwV) (X : Vw), v = .agg vv.cells ∧ VwR W vv X := by
  obtain ⟨cs, rfl, hsz⟩ := okWide_struct Try.underlying29 hv
  obtain ⟨f, hf⟩ := h
  obtain ⟨vv, X, e, hA⟩ := viewVw_cells hf
  refine ⟨vv, X, ?_, hA⟩
  simp only [Value.cells] at e
  congr 1
  exact Array.toList_inj.1 e
end Go.Proofs.Ytpplnjmjldhlbaa

/- Arguments that are blocks and rows of blocks, opened once. -/
namespace Go.Proofs.Ytpplnjmjldhlbaa
open Go.ChangeShapes Go.WideShapes Go.ChangeAt Go.RowKit
theorem Try.cellsIntP : Try.prog.cellsOf 3 = 1 := by kernel_rfl
theorem Try.cellsPg : Try.prog.cellsOf 47 = 4 := by kernel_rfl
def FB (x : Int) : Prop := -9223372036854775808 ≤ x ∧ x ≤ 9223372036854775807
set_option maxRecDepth 100000 in
theorem viewPg_cells {H : Type} {enc : TypeId × Value → H} {W : World} {fuel : Nat} {cs : List Value} {x : DataW H × List MemPlace}
    (hf : DataW.trod enc Try.prog W 0 (fun _ => true) true fuel 47 cs = some x) :
    ∃ (p : PgV) (X : Pg), cs = p.cells.toList ∧ PgR W p X ∧ FB X.F := by
  obtain ⟨y0, y1, y2, n, rfl, hl, h0, h1, h2⟩ := Deep.trod_struct3 Try.underlying47 hf
  rw [Try.cellsPg] at hl
  match cs, hl with
  | [c0, c1, c2, c3], _ =>
    simp [Try.cellsSl3, Try.cellsIntP, Try.cellsCacheR] at h0 h1 h2
    obtain ⟨a0, l0, q0, Z0, e0, k0⟩ := viewI_cells h0
    obtain ⟨f, e1, _, w1⟩ := DataW.trod_int Try.underlying3 h1
    obtain ⟨k, v, K, V, e2, k1, k2⟩ := viewCache_cells h2
    simp only [List.cons.injEq, and_true] at e0 e1 e2
    obtain ⟨rfl, rfl⟩ := e2
    subst e0 e1
    exact ⟨⟨⟨a0, l0, q0⟩, f, k, v⟩, ⟨Z0, f, K, V⟩, rfl, ⟨k0, rfl, k1, k2⟩, bounds_i64 w1⟩
set_option maxRecDepth 100000 in
theorem viewPg {H : Type} {enc : TypeId × Value → H} {W : World} {b0 : Nat} {v : Value} {d : DataW H} {p : List MemPlace} (hv : Value.okWide Try.prog W .any b0 47 v)
    (h : DataW.Trod enc Try.prog W 0 (fun _ => true) true 47 v d p) : ∃ (vv : PgV) (X : Pg), v = .agg vv.cells ∧ (PgR W vv X ∧ FB X.F) := by
  obtain ⟨cs, rfl, hsz⟩ := okWide_struct Try.underlying47 hv
  obtain ⟨f, hf⟩ := h
  obtain ⟨vv, X, e, hA⟩ := viewPg_cells hf
  refine ⟨vv, X, ?_, hA⟩
  simp only [Value.cells] at e
  congr 1
  exact Array.toList_inj.1 e
set_option maxRecDepth 100000 in
theorem viewPgs_cells {H : Type} {enc : TypeId × Value → H} {W : World} {fuel : Nat} {cs : List Value} {x : DataW H × List MemPlace}
    (hf : DataW.trod enc Try.prog W 0 (fun _ => true) true fuel 33 cs = some x) : ∃ (s : Sl) (l : List Pg), cs = [s.v] ∧ (PgsR W s l ∧ ∀ X ∈ l, FB X.F) := by
  rcases Deep.open_slice Try.underlying33 hf with ⟨hcs, hx⟩ | ⟨a, len, cap, m, n, D, Pl, hcs, hb, hl, hm, hmm, rfl, hx⟩
  · exact ⟨⟨none, 0, 0⟩, [], hcs, ⟨rfl, by show 0 ≤ _; omega, fun h => absurd h (by show ¬ 0 < 0; omega)⟩, fun X hX => by cases hX⟩
  · simp only [if_true] at hmm
    subst hmm
    unfold maxLen at hm
    have each : ∀ i, i < m → ∃ z : PgV × Pg, (∀ j v, z.1.cells.toList[j]? = some v → W.cell? (a.add (i * 4 + j)) = some v) ∧ PgR W z.1 z.2 ∧ FB z.2.F := by
      intro i hi
      obtain ⟨cs', h1, h2⟩ := hx i hi
      rw [Try.cellsPg] at h1
      obtain ⟨_, hlen, hcell⟩ := World.cells?_some h1
      obtain ⟨b, y, rfl, hA, hB⟩ := viewPg_cells h2
      refine ⟨(b, y), fun j v hj => ?_, hA, hB⟩
      have hj2 : j < 4 := (List.getElem?_eq_some_iff.1 hj).1
      have cj := hcell j (by omega)
      rw [Deep.add_add] at cj
      rw [cj]
      exact hj
    haveI : Inhabited (PgV × Pg) := ⟨(⟨⟨none, 0, 0⟩, 0, ⟨none, 0, 0⟩, ⟨none, 0, 0⟩⟩, ⟨[], 0, [], []⟩)⟩
    obtain ⟨q, hq⟩ := Deep.choose_lt each
    have hat : ∀ {t : Nat} {x : Pg}, ((List.range len).map fun t => (q t).2)[t]? = some x → t < len ∧ x = (q t).2 := fun {t x} h => by
      have ht : t < len := by have := (List.getElem?_eq_some_iff.1 h).1; simpa using this
      exact ⟨ht, by simpa [ht] using h.symm⟩
    refine ⟨⟨some a, len, m⟩, (List.range len).map fun t => (q t).2, hcs, ⟨by simp, by show len ≤ _; omega, fun hn => ?_⟩, fun X hX => ?_⟩
    · have hn' : 0 < len := hn
      obtain ⟨b, o, s⟩ := a
      have h0 := (hq 0 (by omega)).1 0 _ rfl
      have hs : s = none := by simpa [Addr.add] using World.cell?_spot h0
      subst hs
      refine ⟨b, o, rfl, fun t x hx => ?_⟩
      obtain ⟨ht, rfl⟩ := hat hx
      refine ⟨(q t).1, fun j v hj => ?_, (hq t (by omega)).2.1⟩
      have := (hq t (by omega)).1 j v hj
      have e : (Addr.mk b o none).add (t * 4 + j) = ⟨b, o + t * 4 + j, none⟩ := by simp [Addr.add, Nat.add_assoc]
      rw [← e]
      exact this
    · obtain ⟨t, ht, rfl⟩ := List.mem_map.1 hX
      exact (hq t (by have := List.mem_range.1 ht; omega)).2.2
theorem viewPgs {H : Type} {enc : TypeId × Value → H} {W : World} {b0 : Nat} {v : Value} {d : DataW H} {p : List MemPlace} (hv : Value.okWide Try.prog W .any b0 33 v)
    (h : DataW.Trod enc Try.prog W 0 (fun _ => true) true 33 v d p) : ∃ (s : Sl) (l : List Pg), v = s.v ∧ (PgsR W s l ∧ ∀ X ∈ l, FB X.F) := by
  obtain ⟨a0, la, ca, rfl⟩ := okWide_slice Try.underlying33 hv
  obtain ⟨f, hf⟩ := h
  obtain ⟨s, l, e, hA⟩ := viewPgs_cells hf
  simp only [Value.cells, List.cons.injEq, and_true] at e
  exact ⟨s, l, e, hA⟩
end Go.Proofs.Ytpplnjmjldhlbaa
