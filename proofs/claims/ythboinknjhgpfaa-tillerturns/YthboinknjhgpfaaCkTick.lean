/- The clocks' calls: New, Tick, Worst, Play, Copy; the statements' awake. -/
import Derived.Test.YthboinknjhgpfaaCkFun
import Derived.Test.YthboinknjhgpfaaRowI
namespace Go.Proofs.Ythboinknjhgpfaa
open Go.ChangeShapes Go.WideShapes Go.ChangeAt Go.RowKit
theorem ctick_none (b g cap n : Nat) (H : List Nat) (i : Int) (w : World) (h : Clk w b g cap n H) (hi : ¬ (0 ≤ i ∧ i < (n : Int))) :
   Calls Try.prog 13 #[.pointer (some ⟨b, 0, none⟩), .int .i64 i] w fun e w' => e = .returned (.int .i64 8) ∧ w' = w := by
  have C := chas_any b g cap n _ _ _ i w h
  rw [decide_eq_false hi] at C
  go_enter Try.func13, Try.ntmps13
  go_wp2_with (go_at_call 20; refine C.mono ?_; rintro e w2 ⟨rfl, rfl⟩)
  go_ret
  exact ⟨rfl, rfl⟩
theorem cnt_up (H : List Nat) (i : Nat) : upI (cnt H) i (cnt H i + 1) = cnt (i :: H) := by
  funext j
  unfold upI
  rw [cnt_cons]
  by_cases e : j = i
  · subst e; simp
  · rw [if_neg e, if_neg e]
theorem ctick_ok (b g cap n i : Nat) (H : List Nat) (w : World) (h : Clk w b g cap n H) (hi : i < n) (hn : n ≤ 8) (hl : H.length < 900) :
   Calls Try.prog 13 #[.pointer (some ⟨b, 0, none⟩), .int .i64 (i : Int)] w fun e w' => e = .returned (.int .i64 0) ∧ Clk w' b g cap n (i :: H) ∧ But g w w' := by
  have h' : ClkR w b g cap n (cnt H) (low H) (hig H) := h
  have C := chas_any b g cap n _ _ _ i w h
  rw [decide_eq_true (by omega)] at C
  have c0 := h'.c
  have hne := h'.ne
  have c1 := h'.nds.c0 hi
  have f1 := h'.nds.frozen (i * 3)
  have h1 : (i : Int) < (n : Int) := by omega
  have hb := cnt_bd H i
  have q : wrap64 (cnt H i + 1) = cnt H i + 1 := by unfold wrap64; omega
  have R2 : ClkR (w.setCell ⟨g, i * 3, none⟩ (.int .i64 (cnt H i + 1))) b g cap n (cnt (i :: H)) (low H) (hig H) := by
    refine ⟨h'.box.other (a := ⟨g, i * 3, none⟩) hne _, ?_, h'.max⟩
    rw [← cnt_up]
    exact h'.nds.set0 hi _
  have D := cnote_any b g cap n _ _ _ _ R2 (by omega) (fun k => by have := cnt_bd (i :: H) k; simp only [List.length_cons] at this; omega)
  have BW : But g w (w.setCell ⟨g, i * 3, none⟩ (.int .i64 (cnt H i + 1))) := (But.refl _ _).set _ _
  clear h h' R2
  generalize cnt H i = x at *
  go_enter Try.func13, Try.ntmps13
  go_wp2_with (first
    | (go_at_call 20; refine C.mono ?_; rintro e w ⟨rfl, rfl⟩)
    | (go_at_call 25; refine D.mono ?_; rintro e w3 ⟨rfl, R3, B3⟩))
  go_ret
  exact ⟨rfl, R3, BW.trans B3⟩
theorem cnew_bad (n : Int) (w : World) (h : n < 1 ∨ 8 < n) :
   Calls Try.prog 6 #[.int .i64 n] w fun e w' => e = .returned (.tuple #[.pointer none, .int .i64 (if n < 1 then 1 else 2)]) ∧ w' = w := by
  by_cases h1 : n < 1
  · go_enter Try.func6, Try.ntmps6
    go_wp2
    go_ret2
    exact ⟨by simp, rfl⟩
  · have h2 : 8 < n := by omega
    have h3 : decide (n < 1) = false := decide_eq_false h1
    go_enter Try.func6, Try.ntmps6
    go_wp2
    go_ret2
    exact ⟨by simp, rfl⟩
theorem Try.infoNode : (Try.prog.info? 64).map (fun i => (i.zero, i.size, i.bytes)) = some (some (.agg #[.int .i64 0, .int .i64 0, .int .i64 0]), 3, 24) := by kernel_rfl
theorem run_make_nodes (n : Nat) (hn : n ≤ 64) (w : World) : (Instr.makeSlice 56 (.int .i64 (n : Int)) (.int .i64 (n : Int))).run Try.prog w = .ok (.slice (some ⟨w.heap.size, 0, none⟩) n n) (w.alloc (.cells (madeCells #[.int .i64 0, .int .i64 0, .int .i64 0] (n * 3)) 64)) := by
  obtain ⟨i, hi, hzz⟩ := Option.map_eq_some_iff.1 Try.infoNode
  simp only [Prod.mk.injEq] at hzz
  obtain ⟨hz, hs, hb⟩ := hzz
  have hr := run_make (P := Try.prog) w 56 64 i _ Try.underlying56 hi hz .i64 .i64 n n (by omega) (Int.le_refl _) (by rw [hb]; omega) (by omega)
  simp only [Int.toNat_natCast, hs] at hr
  exact hr
theorem nds_made (w : World) (n : Nat) : Nds (w.alloc (.cells (madeCells #[.int .i64 0, .int .i64 0, .int .i64 0] (n * 3)) 64)) w.heap.size n n (cnt []) (low []) (hig []) := by
  refine ⟨_, blk_new _ _ _, by rw [size_madeCells], Nat.le_refl _, fun i hi => ?_⟩
  have hk : ∀ k, k < n * 3 → (madeCells #[.int .i64 0, .int .i64 0, .int .i64 0] (n * 3))[k]? = some ((#[Value.int .i64 0, .int .i64 0, .int .i64 0] : Array Value)[k % 3]!) := fun k hk => by
    unfold madeCells
    simp [hk]
  refine ⟨?_, ?_, ?_⟩
  · rw [hk _ (by omega), show i * 3 % 3 = 0 by omega]; rfl
  · rw [hk _ (by omega), show (i * 3 + 1) % 3 = 1 by omega]; rfl
  · rw [hk _ (by omega), show (i * 3 + 2) % 3 = 2 by omega]; rfl
theorem cnew_ok (n : Nat) (w : World) (h1 : 1 ≤ n) (h2 : n ≤ 8) :
   Calls Try.prog 6 #[.int .i64 (n : Int)] w fun e w' => e = .returned (.tuple #[.pointer (some ⟨w.heap.size + 1, 0, none⟩), .int .i64 0]) ∧ Clk w' (w.heap.size + 1) w.heap.size n n [] ∧ Below w.heap.size w w' ∧ w'.heap.size = w.heap.size + 2 := by
  have d1 : ¬ ((n : Int) < 1) := by omega
  have d2 : ¬ (8 < (n : Int)) := by omega
  have hmk := run_make_nodes n (by omega)
  have P0 := nds_made w n
  have B0 : Below w.heap.size w (w.alloc (.cells (madeCells #[.int .i64 0, .int .i64 0, .int .i64 0] (n * 3)) 64)) := (Below.refl _ _).alloc (Nat.le_refl _) _
  have s0 : (w.alloc (.cells (madeCells #[.int .i64 0, .int .i64 0, .int .i64 0] (n * 3)) 64)).heap.size = w.heap.size + 1 := by simp
  go_enter Try.func6, Try.ntmps6
  go_wp2
  clear hmk
  generalize w.alloc (.cells (madeCells #[.int .i64 0, .int .i64 0, .int .i64 0] (n * 3)) 64) = w0 at *
  go_ret2
  refine ⟨rfl, ⟨?_, P0.of_block (Below.heap_alloc _ _ _ P0.lt), by omega⟩, below_then B0 (below_alloc _ _), by simp [s0]⟩
  rw [← s0]
  exact blk_new _ _ _
/-- The greatest drift of the first n clocks. -/
def wst (H : List Nat) : Nat → Int
  | 0 => 0
  | n + 1 => max (wst H n) (hig H n - low H n)
theorem wst_bd (H : List Nat) : ∀ n, 0 ≤ wst H n ∧ wst H n ≤ 2 * (H.length : Int)
  | 0 => by simp [wst]; omega
  | n + 1 => by
    have h1 := wst_bd H n
    have h2 := low_bd H n
    have h3 := hig_bd H n
    simp only [wst]
    omega
theorem wst_le (H : List Nat) {n i : Nat} (h : i < n) : hig H i - low H i ≤ wst H n := by
  induction n with
  | zero => omega
  | succ n ih =>
    simp only [wst]
    rcases Nat.lt_or_ge i n with k | k
    · have := ih k; omega
    · obtain rfl : i = n := by omega
      omega
theorem Clk.drift {w : World} {b g cap n i : Nat} {H : List Nat} (h : Clk w b g cap n H) (hi : i < n) (hl : H.length ≤ 900) :
   Calls Try.prog 17 #[.pointer (some ⟨b, 0, none⟩), .int .i64 (i : Int)] w fun e w' => e = .returned (.int .i64 (hig H i - low H i)) ∧ ∃ k, w' = w.drewN k :=
  cdrift_any b g cap n i _ _ _ w h hi (by have h2 := low_bd H i; have h3 := hig_bd H i; omega)
theorem Clk.now {w : World} {b g cap n i : Nat} {H : List Nat} (h : Clk w b g cap n H) (hi : i < n) :
   Calls Try.prog 9 #[.pointer (some ⟨b, 0, none⟩), .int .i64 (i : Int)] w fun e w' => e = .returned (.int .i64 (cnt H i)) ∧ w' = w :=
  cnow_any b g cap n i _ _ _ w h hi
theorem Clk.drewN {w : World} {b g cap n : Nat} {H : List Nat} (h : Clk w b g cap n H) (k : Nat) : Clk (w.drewN k) b g cap n H := ClkR.of_blocks h rfl rfl
theorem Clk.worst {w : World} {b g cap n : Nat} {H : List Nat} (h : Clk w b g cap n H) (hn : n ≤ 8) (hl : H.length ≤ 900) :
   Calls Try.prog 7 #[.pointer (some ⟨b, 0, none⟩)] w fun e w' => e = .returned (.int .i64 (wst H n)) ∧ ∃ k, w' = w.drewN k := by
  have h' : ClkR w b g cap n (cnt H) (low H) (hig H) := h
  have c0 := h'.c
  have HC : Hid (Clk w b g cap n H) := h
  clear h h'
  go_enter Try.func7, Try.ntmps7
  go_wp2_with fail
  go_loopg [3, 10] n (fun gg s3 s10 wr => ∃ j : Nat, j ≤ n ∧ gg = n - j ∧ s3 = .int .i64 (wst H j) ∧ s10 = .int .i64 (j : Int) ∧ ∃ k, wr = w.drewN k)
  case atStart => exact ⟨0, by omega, by omega, rfl, rfl, 0, rfl⟩
  case round =>
    obtain ⟨j, hj, rfl, rfl, rfl, k, rfl⟩ := hrel
    rcases Nat.lt_or_ge j n with hlt | hge
    · have d1 : (j : Int) < (n : Int) := by omega
      have D := (HC.out.drewN k).drift hlt hl
      have E3 : Hid (max (wst H j) (hig H j - low H j) = wst H (j + 1)) := rfl
      generalize wst H j = x at *
      generalize hig H j - low H j = y at *
      by_cases hxy : x < y
      · have E4 : Hid (y = wst H (j + 1)) := by show y = _; rw [← E3.out]; omega
        go_wp2_with (go_at_call 17; refine D.mono ?_; rintro e w2 ⟨rfl, k2, rfl⟩)
        go_roundg (n - (j + 1))
        case measure => omega
        case rel => exact ⟨j + 1, by omega, rfl, by rw [← E4.out], by go_num, k + k2, rfl⟩
      · have E4 : Hid (x = wst H (j + 1)) := by show x = _; rw [← E3.out]; omega
        go_wp2_with (go_at_call 17; refine D.mono ?_; rintro e w2 ⟨rfl, k2, rfl⟩)
        go_roundg (n - (j + 1))
        case measure => omega
        case rel => exact ⟨j + 1, by omega, rfl, by rw [← E4.out], by go_num, k + k2, rfl⟩
    · obtain rfl : j = n := by omega
      go_wp2_with fail
      go_ret
      exact ⟨rfl, k, rfl⟩
end Go.Proofs.Ythboinknjhgpfaa
