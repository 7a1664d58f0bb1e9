/- The clocks' Copy; the statements' awake. -/
import Derived.Test.YtjffbfcgghgkiaaCkPlay
namespace Go.Proofs.Ytjffbfcgghgkiaa
open Go.ChangeShapes Go.WideShapes Go.ChangeAt Go.RowKit
theorem Nds.vals {w : World} {g cap n : Nat} {N A B : Nat → Int} (h : Nds w g cap n N A B) : ∃ xs : List Value, xs.length = n * 3 ∧ (∀ j u, xs[j]? = some u → w.cell? ((⟨g, 0, none⟩ : Addr).add j) = some u) ∧ (∀ u ∈ xs, u.oneCell' = true) ∧ ∀ i, i < n → xs[i * 3]? = some (.int .i64 (N i)) ∧ xs[i * 3 + 1]? = some (.int .i64 (A i)) ∧ xs[i * 3 + 2]? = some (.int .i64 (B i)) := by
  obtain ⟨cs, h1, h2, h3, h4⟩ := h.ex
  have hle : n * 3 ≤ cs.size := by omega
  have hg : ∀ j, j < n * 3 → (cs.toList.take (n * 3))[j]? = cs[j]? := fun j hj => by rw [List.getElem?_take, if_pos hj]; simp
  have hall : ∀ j, j < n * 3 → ∃ x : Int, cs[j]? = some (.int .i64 x) := fun j hj => by
    obtain ⟨a, b, c⟩ := h4 (j / 3) (by omega)
    have : j = j / 3 * 3 ∨ j = j / 3 * 3 + 1 ∨ j = j / 3 * 3 + 2 := by omega
    rcases this with e | e | e
    · rw [e]; exact ⟨_, a⟩
    · rw [e]; exact ⟨_, b⟩
    · rw [e]; exact ⟨_, c⟩
  refine ⟨cs.toList.take (n * 3), by simp; omega, fun j u hj => ?_, fun u hu => ?_, fun i hi => ?_⟩
  · have hlt : j < n * 3 := by
      have := (List.getElem?_eq_some_iff.1 hj).1
      simp at this; omega
    rw [hg j hlt] at hj
    have e2 : (Addr.mk g 0 none).add j = ⟨g, j, none⟩ := by simp [Addr.add]; intro h; exact h.symm
    rw [e2]
    exact h1.cell j hj
  · obtain ⟨j, hj, rfl⟩ := List.getElem_of_mem hu
    have hlt : j < n * 3 := by simp at hj; omega
    obtain ⟨x, hx⟩ := hall j hlt
    have := hg j hlt
    rw [List.getElem?_eq_getElem hj, hx] at this
    injection this with this
    rw [this]
    rfl
  · rw [hg _ (by omega), hg _ (by omega), hg _ (by omega)]
    exact h4 i hi
theorem run_eql_nil (w : World) (t e : TypeId) (a : Option Addr) (l c : Nat) (h : Try.prog.underlying t = some (.slice e)) : (binOp .eql t (.slice a l c) (.slice none 0 0)).run Try.prog w = .ok (.bool a.isNone) w := by
  simp [binOp, run_equal_slice_nil w t e a l c h]
theorem cclone_any (g cap n : Nat) (N A B : Nat → Int) (w : World) (h : Nds w g cap n N A B) (hn : 1 ≤ n) (hm : n ≤ 8) :
   Calls Try.prog 19 #[.slice (some ⟨g, 0, none⟩) n cap] w fun e w' => ∃ g' c', e = .returned (.slice (some ⟨g', 0, none⟩) n c') ∧ Nds w' g' c' n N A B ∧ w.heap.size ≤ g' ∧ c' ≤ 9223372036854775807 ∧ Below w.heap.size w w' := by
  obtain ⟨i0, hi, hzz⟩ := Option.map_eq_some_iff.1 Try.infoNode
  simp only [Prod.mk.injEq] at hzz
  obtain ⟨hz0, hz1, hz2⟩ := hzz
  have B0 : Below w.heap.size w (w.alloc (.cells #[] 43)) := (Below.refl _ _).alloc (Nat.le_refl _) _
  have O0 : (w.alloc (.cells #[] 43)).ownsRow w.heap.size 43 3 (.slice (some ⟨w.heap.size, 0, none⟩) 0 0) 0 [] := World.ownsRow_made w #[] 0 (Nat.le_refl _) (by decide) rfl
  have h0 : Nds (w.alloc (.cells #[] 43)) g cap n N A B := h.of_block (B0.block g h.lt)
  obtain ⟨xs, x1, x2, x3, x4⟩ := h0.vals
  have hq : ∀ w : World, (binOp .eql 38 (.slice (some ⟨g, 0, none⟩) n cap) (.slice none 0 0)).run Try.prog w = .ok (.bool false) w := fun w => run_eql_nil w _ 43 _ _ _ Try.underlying38
  go_enter Try.func19, Try.ntmps19
  go_wp2_with (at_builtin; refine wpList_append_own _ rfl _ _ 38 rfl w.heap.size 43 i0 (.agg #[.int .i64 0, .int .i64 0, .int .i64 0]) 3 24 Try.underlying38 hi hz0 hz1 hz2 rfl (by decide) _ 0 [] rfl O0 ⟨g, 0, none⟩ n cap xs rfl x1 x2 x3 (by unfold maxLen; omega) (by omega) (by simp) ?_; intro v' w' O1 G1 N1)
  go_ret
  rw [Nat.zero_add, List.nil_append] at O1
  have hb : Below w.heap.size (w.alloc (.cells #[] 43)) w' := (Below.refl _ _).grown G1 (by simp) (fun k hk => (O0.lt k hk).1)
  rcases O1.2 with ⟨h3, h4⟩ | ⟨g', c', cur, rfl, h4, h5, h6, h7, h8, h9⟩
  · omega
  · refine ⟨g', c', rfl, ⟨cur, h5, h8, h6, fun i hi => ?_⟩, h4, h7, B0.trans hb⟩
    have hx : ∀ k, k < n * 3 → cur[k]? = xs[k]? := fun k hk => by rw [← h9, List.getElem?_take, if_pos hk]; simp
    rw [hx _ (by omega), hx _ (by omega), hx _ (by omega)]
    exact x4 i hi
theorem ccopy_any (b g cap n : Nat) (H : List Nat) (w : World) (h : Clk w b g cap n H) (hn : 1 ≤ n) (hm : n ≤ 8) :
   Calls Try.prog 16 #[.pointer (some ⟨b, 0, none⟩)] w fun e w' => ∃ b' g' c', e = .returned (.pointer (some ⟨b', 0, none⟩)) ∧ Clk w' b' g' c' n H ∧ w.heap.size ≤ g' ∧ w.heap.size ≤ b' ∧ Below w.heap.size w w' := by
  have h' : ClkR w b g cap n (cnt H) (low H) (hig H) := h
  have c0 := h'.c
  have C := cclone_any g cap n _ _ _ w h'.nds hn hm
  go_enter Try.func16, Try.ntmps16
  go_wp2_with (go_at_call 19; refine C.mono ?_; rintro e w2 ⟨g', c', rfl, N2, h2, h3, B2⟩)
  go_ret
  have K : ClkR (w2.alloc (.cells #[.slice (some ⟨g', 0, none⟩) n c'] 40)) w2.heap.size g' c' n (cnt H) (low H) (hig H) := ⟨blk_new _ _ _, N2.of_block (Below.heap_alloc _ _ _ N2.lt), h3⟩
  have BB := below_then B2 (below_alloc w2 (.cells #[.slice (some ⟨g', 0, none⟩) n c'] 40))
  exact ⟨w2.heap.size, g', c', rfl, K, h2, B2.size, BB⟩
set_option maxHeartbeats 1000000 in
theorem cawake_any (w : World) : Calls Try.prog 9 #[] w fun e w' => e = .returned (.bool true) ∧ Below w.heap.size w w' := by
  have B0 : Below w.heap.size w (w.alloc (.cells #[.int .i64 1, .int .i64 1, .int .i64 0, .int .i64 0, .int .i64 0] 3)) := below_alloc _ _
  have X0 := blk_new w 3 #[.int .i64 1, .int .i64 1, .int .i64 0, .int .i64 0, .int .i64 0]
  have A0 : IArg (w.alloc (.cells #[.int .i64 1, .int .i64 1, .int .i64 0, .int .i64 0, .int .i64 0] 3)) (some ⟨w.heap.size, 0, none⟩) 5 5 [1, 1, 0, 0, 0] := by
    refine ⟨⟨rfl, by omega, fun k => ?_, fun _ => ⟨w.heap.size, 0, rfl, fun t ht => ?_⟩⟩, by omega, by omega, fun h => by cases h⟩
    · unfold el
      rcases Nat.lt_or_ge k 5 with hk | hk
      · have : k = 0 ∨ k = 1 ∨ k = 2 ∨ k = 3 ∨ k = 4 := by omega
        rcases this with rfl | rfl | rfl | rfl | rfl <;> decide
      · rw [List.getD_eq_getElem?_getD, List.getElem?_eq_none (by simpa using hk)]; decide
    · rw [Nat.zero_add]
      have : t = 0 ∨ t = 1 ∨ t = 2 ∨ t = 3 ∨ t = 4 := by omega
      rcases this with rfl | rfl | rfl | rfl | rfl <;> exact X0.cell _ rfl
  have C := cplay_ok 2 _ 5 5 _ _ A0 (by omega) (by omega) (by omega)
  have e0 : hst 2 [1, 1, 0, 0, 0] = [0, 0, 0, 1, 1] := by decide
  have e1 : cnt [0, 0, 0, 1, 1] 1 = 2 := by decide
  have e2 : hig [0, 0, 0, 1, 1] 1 - low [0, 0, 0, 1, 1] 1 = 3 := by decide
  have e3 : wst [0, 0, 0, 1, 1] 2 = 3 := by decide
  rw [e0] at C
  clear e0 X0 A0
  generalize hw0 : w.alloc (.cells #[.int .i64 1, .int .i64 1, .int .i64 0, .int .i64 0, .int .i64 0] 3) = w0 at *
  go_enter Try.func9, Try.ntmps9
  go_wp2_with (first
    | (go_at_call 7; refine C.mono ?_; rintro e w1 ⟨rfl, K1, B1, s1⟩; have C1 := K1.now (i := 1) (by omega); have C2 := K1.drift (i := 1) (by omega) (by simp); have C3 := fun k => (K1.drewN k).worst (by omega) (by simp); rw [e1] at C1; rw [e2] at C2; rw [e3] at C3)
    | (go_at_call 12; refine C1.mono ?_; rintro e w1 ⟨rfl, rfl⟩)
    | (go_at_call 14; refine C2.mono ?_; rintro e w3 ⟨rfl, k3, rfl⟩)
    | (go_at_call 15; refine (C3 _).mono ?_; rintro e w4 ⟨rfl, k4, rfl⟩))
  go_ret
  exact ⟨rfl, below_drewN (below_then B0 B1) _⟩
end Go.Proofs.Ytjffbfcgghgkiaa
