/- The clocks' Play and Copy; the statements' awake. -/
import Derived.Test.YtjffbfcgghgkiaaCkTick
namespace Go.Proofs.Ytjffbfcgghgkiaa
open Go.ChangeShapes Go.WideShapes Go.ChangeAt Go.RowKit
/-- Is it one of n clocks? -/
def okT (n : Nat) (t : Int) : Bool := decide (0 ≤ t ∧ t < (n : Int))
/-- The ticks of n clocks among these, the newest first. -/
def hst (n : Nat) (A : List Int) : List Nat := ((A.filter (okT n)).map Int.toNat).reverse
theorem take_snocI (A : List Int) (i : Nat) (h : i < A.length) : A.take (i + 1) = A.take i ++ [el A i] := by
  unfold el
  rw [List.take_succ_eq_append_getElem h, List.getD_eq_getElem?_getD, List.getElem?_eq_getElem h]
  rfl
theorem hst_ok (n : Nat) (A : List Int) (t : Nat) (h : t < n) : hst n (A ++ [(t : Int)]) = t :: hst n A := by
  unfold hst
  have : okT n (t : Int) = true := by unfold okT; exact decide_eq_true (by omega)
  simp [List.filter_append, this]
theorem hst_no (n : Nat) (A : List Int) (t : Int) (h : ¬ (0 ≤ t ∧ t < (n : Int))) : hst n (A ++ [t]) = hst n A := by
  unfold hst
  have : okT n t = false := by unfold okT; exact decide_eq_false h
  simp [List.filter_append, this]
theorem hst_len (n : Nat) (A : List Int) : (hst n A).length ≤ A.length := by
  unfold hst
  simp only [List.length_reverse, List.length_map]
  exact List.length_filter_le _ _
theorem hst_lt (n : Nat) (A : List Int) : ∀ t ∈ hst n A, t < n := by
  intro t ht
  unfold hst at ht
  simp only [List.mem_reverse, List.mem_map, List.mem_filter] at ht
  obtain ⟨x, ⟨_, h2⟩, rfl⟩ := ht
  unfold okT at h2
  have := of_decide_eq_true h2
  omega
theorem cplay_bad (n : Int) (v : Value) (w : World) (h : n < 1 ∨ 8 < n) :
   Calls Try.prog 7 #[.int .i64 n, v] w fun e w' => e = .returned (.tuple #[.pointer none, .int .i64 (if n < 1 then 1 else 2)]) ∧ w' = w := by
  have C := cnew_bad n w h
  have h0 : ¬ ((if n < 1 then 1 else 2 : Int) = 0) := by split <;> omega
  generalize (if n < 1 then 1 else 2 : Int) = c at *
  clear h
  go_enter Try.func7, Try.ntmps7
  go_wp2_with (go_at_call 8; refine C.mono ?_; rintro e w ⟨rfl, rfl⟩)
  go_ret2
  exact ⟨rfl, rfl⟩
set_option maxHeartbeats 1000000 in
theorem cplay_ok (n : Nat) (ao : Option Addr) (m ca : Nat) (A : List Int) (w : World) (hA : IArg w ao m ca A) (h1 : 1 ≤ n) (h2 : n ≤ 8) (hm : m ≤ 200) :
   Calls Try.prog 7 #[.int .i64 (n : Int), .slice ao m ca] w fun e w' => e = .returned (.tuple #[.pointer (some ⟨w.heap.size + 1, 0, none⟩), .int .i64 0]) ∧ Clk w' (w.heap.size + 1) w.heap.size n n (hst n A) ∧ Below w.heap.size w w' ∧ w.heap.size + 2 ≤ w'.heap.size := by
  have C := cnew_ok n w h1 h2
  have hl := hA.row.len
  have hf := hA.fit
  have HA : Hid (IArg w ao m ca A) := hA
  have HL : Hid (A.length = m) := hl
  clear hA hl
  go_enter Try.func7, Try.ntmps7
  go_wp2_with (go_at_call 8; refine C.mono ?_; rintro e w1 ⟨rfl, K1, B1, s1⟩)
  have s1' : w.heap.size + 2 ≤ w1.heap.size := by omega
  clear s1 C
  go_loopg [20] m (fun gg s20 wr => ∃ j : Nat, j ≤ m ∧ gg = m - j ∧ s20 = .int .i64 (j : Int) ∧ Clk wr (w.heap.size + 1) w.heap.size n n (hst n (A.take j)) ∧ Below w.heap.size w wr ∧ w.heap.size + 2 ≤ wr.heap.size)
  case atStart => exact ⟨0, by omega, by omega, rfl, K1, B1, s1'⟩
  case round =>
    obtain ⟨j, hj, rfl, rfl, K2, B2, s2⟩ := hrel
    rcases Nat.lt_or_ge j m with hlt | hge
    · have d1 : (j : Int) < (m : Int) := by omega
      obtain ⟨ba, oa, rfl, hc⟩ := (HA.out.row.below B2).cells (by omega)
      have c1 := hc j hlt
      have hsm := HA.out.row.small j
      have E := take_snocI A j (by rw [HL.out]; exact hlt)
      have hln := hst_len n (A.take j)
      rw [List.length_take] at hln
      generalize el A j = t at *
      by_cases ht : 0 ≤ t ∧ t < (n : Int)
      · obtain ⟨x, rfl⟩ : ∃ x : Nat, t = (x : Int) := ⟨t.toNat, by omega⟩
        have T := ctick_ok _ _ _ _ x _ wr K2 (by omega) h2 (by omega)
        rw [← hst_ok n _ x (by omega), ← E] at T
        clear ht E hln hc
        go_wp2_with (go_at_call 10; refine T.mono ?_; rintro e w3 ⟨rfl, K3, B3⟩)
        go_roundg (m - (j + 1))
        case measure => omega
        case rel => exact ⟨j + 1, by omega, rfl, by go_num, K3, B2.trans (B3.below (by omega) (Nat.le_refl _)), by have := B3.size; omega⟩
      · have T := ctick_none _ _ _ _ _ t wr K2 ht
        have K3 := K2
        rw [← hst_no n _ t ht, ← E] at K3
        clear ht E hln hc
        go_wp2_with (go_at_call 10; refine T.mono ?_; rintro e wr ⟨rfl, rfl⟩)
        go_roundg (m - (j + 1))
        case measure => omega
        case rel => exact ⟨j + 1, by omega, rfl, by go_num, K3, B2, s2⟩
    · obtain rfl : j = m := by omega
      have E : A.take j = A := List.take_of_length_le (by rw [HL.out]; exact Nat.le_refl _)
      rw [E] at K2
      go_wp2_with fail
      go_ret2
      exact ⟨rfl, K2, B2, s2⟩
end Go.Proofs.Ytjffbfcgghgkiaa
