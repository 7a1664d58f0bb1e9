/- NetFull: whatever count and size, it answers true. -/
import Derived.Test.YtgbljkbiigcofaaNAwake
import Derived.Test.YtgbljkbiigcofaaNText
namespace Go.Proofs.Ytgbljkbiigcofaa
open Go.ChangeShapes Go.WideShapes Go.ChangeAt Go.RowKit
theorem quick_full (c s : Int) (w : World) (h : c < 0 ∨ 300 < c ∨ s < 0 ∨ 66000 < s ∨ 70000 < c * s) (hc : -9223372036854775808 ≤ c ∧ c ≤ 9223372036854775807) (hs : -9223372036854775808 ≤ s ∧ s ≤ 9223372036854775807) :
   Calls Try.prog 4 #[.int .i64 c, .int .i64 s] w fun e w' => e = .returned (.bool true) ∧ Below w.heap.size w w' := by
  have A := nawake_any w
  by_cases h1 : c < 0
  · go_enter Try.func4, Try.ntmps4
    go_wp2_with (go_at_call 8; refine A.mono ?_; rintro e w2 ⟨rfl, B2⟩)
    go_ret
    exact ⟨rfl, B2⟩
  have d1 : decide (c < 0) = false := decide_eq_false h1
  by_cases h2 : 300 < c
  · go_enter Try.func4, Try.ntmps4
    go_wp2_with (go_at_call 8; refine A.mono ?_; rintro e w2 ⟨rfl, B2⟩)
    go_ret
    exact ⟨rfl, B2⟩
  have d2 : decide (300 < c) = false := decide_eq_false h2
  by_cases h3 : s < 0
  · go_enter Try.func4, Try.ntmps4
    go_wp2_with (go_at_call 8; refine A.mono ?_; rintro e w2 ⟨rfl, B2⟩)
    go_ret
    exact ⟨rfl, B2⟩
  have d3 : decide (s < 0) = false := decide_eq_false h3
  by_cases h4 : 66000 < s
  · go_enter Try.func4, Try.ntmps4
    go_wp2_with (go_at_call 8; refine A.mono ?_; rintro e w2 ⟨rfl, B2⟩)
    go_ret
    exact ⟨rfl, B2⟩
  have d4 : decide (66000 < s) = false := decide_eq_false h4
  have h5 : 70000 < c * s := by omega
  have q1 : c * s ≤ 300 * 66000 := Int.mul_le_mul (by omega) (by omega) (by omega) (by omega)
  have q2 : wrap64 (c * s) = c * s := by unfold wrap64; omega
  have c1 : 0 ≤ c := by omega
  have c2 : 0 ≤ s := by omega
  have c3 : c ≤ 300 := by omega
  have c4 : s ≤ 66000 := by omega
  clear h h1 h2 h3 h4
  go_enter Try.func4, Try.ntmps4
  go_wp2_with (go_at_call 8; refine A.mono ?_; rintro e w2 ⟨rfl, B2⟩)
  go_ret
  exact ⟨rfl, B2⟩
set_option maxHeartbeats 2000000 in
set_option maxRecDepth 100000 in
theorem full_big (c s : Nat) (w : World) (h1 : c ≤ 300) (h2 : s ≤ 66000) (h3 : c * s ≤ 70000) (h4 : 65536 < s) :
   Calls Try.prog 4 #[.int .i64 (c : Int), .int .i64 (s : Int)] w fun e w' => e = .returned (.bool true) ∧ Below w.heap.size w w' := by
  have A := nawake_any
  have MK := makeB s (by omega)
  have CV := conv_made s
  obtain ⟨Z, hZ⟩ : ∃ Z, Z = txt (zeroL s) := ⟨_, rfl⟩
  rw [← hZ] at CV
  have zZ : 65536 < Z.size := by rw [hZ, txt_size]; simpa [zeroL] using h4
  clear hZ
  have N0 := net_new w
  have B0 : Below w.heap.size w (w.alloc (.cells #[.slice none 0 0, .int .i64 0] 25)) := (Below.refl _ _).alloc (Nat.le_refl _) _
  have s0 : (w.alloc (.cells #[.slice none 0 0, .int .i64 0] 25)).heap.size = w.heap.size + 1 := by simp
  generalize hw0 : w.alloc (.cells #[.slice none 0 0, .int .i64 0] 25) = w0 at *
  have q2 : wrap64 ((c : Int) * (s : Int)) = (c : Int) * (s : Int) := by
    have : (c : Int) * (s : Int) = ((c * s : Nat) : Int) := by simp
    unfold wrap64; omega
  have q3 : (c : Int) * (s : Int) ≤ 70000 := by
    have : (c : Int) * (s : Int) = ((c * s : Nat) : Int) := by simp
    omega
  have d1 : decide ((c : Int) < 0) = false := decide_eq_false (by omega)
  have d2 : decide (300 < (c : Int)) = false := decide_eq_false (by omega)
  have d3 : decide ((s : Int) < 0) = false := decide_eq_false (by omega)
  have d4 : decide (66000 < (s : Int)) = false := decide_eq_false (by omega)
  have d5 : decide (70000 < (c : Int) * (s : Int)) = false := decide_eq_false (by omega)
  clear h3
  go_enter Try.func4, Try.ntmps4
  go_wp2_with fail
  clear q2 q3 d1 d2 d3 d4 d5
  go_loopg [6, 7] c (fun gg s6 _ wr => ∃ i : Nat, i ≤ c ∧ gg = c - i ∧ s6 = .int .i64 (i : Int) ∧ Below (w.heap.size + 1) w0 wr)
  case atStart => exact ⟨0, by omega, by omega, rfl, Below.refl _ _⟩
  case round =>
    obtain ⟨i, hi, rfl, rfl, BW⟩ := hrel
    by_cases hlt : i < c
    · have C := fun W => send_big w.heap.size ((i : Int) % 8) Z W (by omega) (by omega) zZ
      go_wp2_with (go_at_call 13; refine (C _).mono ?_; rintro e w2 ⟨rfl, rfl⟩)
      go_roundg (c - (i + 1))
      case measure => omega
      case rel => exact ⟨i + 1, by omega, rfl, by go_num, BW.alloc (by have := BW.size; omega) _⟩
    · obtain rfl : i = c := by omega
      have N1 := N0.below (w' := wr) (by rw [s0]; exact BW)
      have BZ := B0.trans (BW.mono (by omega))
      go_wp2_with (first
        | (go_at_call 8; refine (A _).mono ?_; rintro e w2 ⟨rfl, B2⟩; have N2 := N1.below B2)
        | (go_at_call 10; refine (len_any _ _ _ _ N2).mono ?_; rintro e w3 ⟨rfl, rfl⟩)
        | (go_at_call 11; refine (lost_any _ _ _ _ N2).mono ?_; rintro e w4 ⟨rfl, rfl⟩))
      go_ret
      exact ⟨rfl, BZ.trans (B2.mono (by have := BZ.size; omega))⟩
set_option maxHeartbeats 2000000 in
set_option maxRecDepth 100000 in
theorem full_small (c s : Nat) (w : World) (h1 : c ≤ 300) (h3 : c * s ≤ 70000) (h4 : s ≤ 65536) :
   Calls Try.prog 4 #[.int .i64 (c : Int), .int .i64 (s : Int)] w fun e w' => e = .returned (.bool true) ∧ Below w.heap.size w w' := by
  have A := nawake_any
  have MK := makeB s (by omega)
  have CV := conv_made s
  obtain ⟨Z, hZ⟩ : ∃ Z, Z = txt (zeroL s) := ⟨_, rfl⟩
  rw [← hZ] at CV
  have zZ : Z.size ≤ 65536 := by rw [hZ, txt_size]; simpa [zeroL] using h4
  clear hZ
  have N0 := net_new w
  have B0 : Below w.heap.size w (w.alloc (.cells #[.slice none 0 0, .int .i64 0] 25)) := (Below.refl _ _).alloc (Nat.le_refl _) _
  have s0 : (w.alloc (.cells #[.slice none 0 0, .int .i64 0] 25)).heap.size = w.heap.size + 1 := by simp
  generalize hw0 : w.alloc (.cells #[.slice none 0 0, .int .i64 0] 25) = w0 at *
  have q2 : wrap64 ((c : Int) * (s : Int)) = (c : Int) * (s : Int) := by
    have : (c : Int) * (s : Int) = ((c * s : Nat) : Int) := by simp
    unfold wrap64; omega
  have q3 : (c : Int) * (s : Int) ≤ 70000 := by
    have : (c : Int) * (s : Int) = ((c * s : Nat) : Int) := by simp
    omega
  have d1 : decide ((c : Int) < 0) = false := decide_eq_false (by omega)
  have d2 : decide (300 < (c : Int)) = false := decide_eq_false (by omega)
  have d3 : decide ((s : Int) < 0) = false := decide_eq_false (by omega)
  have d4 : decide (66000 < (s : Int)) = false := decide_eq_false (by omega)
  have d5 : decide (70000 < (c : Int) * (s : Int)) = false := decide_eq_false (by omega)
  clear h3
  go_enter Try.func4, Try.ntmps4
  go_wp2_with fail
  clear q2 q3 d1 d2 d3 d4 d5
  go_loopg [6, 7] c (fun gg s6 _ wr => ∃ (i : Nat) (L : List Pc) (lost : Nat), i ≤ c ∧ gg = c - i ∧ s6 = .int .i64 (i : Int) ∧ Below w.heap.size w0 wr ∧ NetAt wr w.heap.size L (lost : Int) ∧ Hid (L.length = min i 256 ∧ lost = i - 256))
  case atStart => exact ⟨0, [], 0, by omega, by omega, rfl, Below.refl _ _, N0, rfl, rfl⟩
  case round =>
    obtain ⟨i, L, lost, hi, rfl, rfl, BW, N1, HL⟩ := hrel
    obtain ⟨l1, l2⟩ := HL.out
    by_cases hlt : i < c
    · have BA : Below wr.heap.size wr (wr.alloc (.cells (madeCells #[.int .u8 0] s) 5)) := (Below.refl _ _).alloc (Nat.le_refl _) _
      have N1' := N1.below BA
      by_cases hf : i < 256
      · have C := send_ok w.heap.size ((i : Int) % 8) Z L lost _ N1' (by omega) (by omega) zZ (by omega)
        have E2 : Hid ((L ++ [(⟨(i : Int) % 8, Z, false⟩ : Pc)]).length = min (i + 1) 256 ∧ lost = i + 1 - 256) := ⟨by rw [List.length_append, l1]; simp; omega, by omega⟩
        clear l1 l2
        go_wp2_with (go_at_call 13; refine C.mono ?_; rintro e w2 ⟨rfl, N2, T2⟩)
        go_roundg (c - (i + 1))
        case measure => omega
        case rel => exact ⟨i + 1, _, _, by omega, rfl, by go_num, (BW.alloc (by have := N1.lt; omega) _).trans T2.below, N2, E2⟩
      · have C := send_full w.heap.size ((i : Int) % 8) Z L lost _ N1' (by omega) (by omega) zZ (by omega) (by omega)
        have E2 : Hid (L.length = min (i + 1) 256 ∧ lost + 1 = i + 1 - 256) := ⟨by omega, by omega⟩
        clear l1 l2
        go_wp2_with (go_at_call 13; refine C.mono ?_; rintro e w2 ⟨rfl, N2, T2⟩)
        go_roundg (c - (i + 1))
        case measure => omega
        case rel => exact ⟨i + 1, _, lost + 1, by omega, rfl, by go_num, (BW.alloc (by have := N1.lt; omega) _).trans T2.below, N2, E2⟩
    · obtain rfl : i = c := by omega
      have BZ := B0.trans BW
      have C8 := fun W => send_arg w.heap.size 8 ⟨#[]⟩ W (by omega)
      have m1 : (L.length : Int) = min (i : Int) 256 := by omega
      have m2 : (lost : Int) = max ((i : Int) - 256) 0 := by omega
      have hb := N1.lt
      clear l1 l2
      go_wp2_with (first
        | (go_at_call 8; refine (A _).mono ?_; rintro e w2 ⟨rfl, B2⟩; have N2 := N1.below B2)
        | (go_at_call 10; refine (len_any _ _ _ _ N2).mono ?_; rintro e w3 ⟨rfl, rfl⟩)
        | (go_at_call 11; refine (lost_any _ _ _ _ N2).mono ?_; rintro e w4 ⟨rfl, rfl⟩)
        | (go_at_call 13; refine (C8 _).mono ?_; rintro e w5 ⟨rfl, rfl⟩))
      go_ret
      exact ⟨rfl, BZ.trans (B2.mono (by omega))⟩
theorem netFull_walk (c s : Int) (w : World) (hc : -9223372036854775808 ≤ c ∧ c ≤ 9223372036854775807) (hs : -9223372036854775808 ≤ s ∧ s ≤ 9223372036854775807) :
   Calls Try.prog 4 #[.int .i64 c, .int .i64 s] w fun e w' => e = .returned (.bool true) ∧ Below w.heap.size w w' := by
  by_cases h : c < 0 ∨ 300 < c ∨ s < 0 ∨ 66000 < s ∨ 70000 < c * s
  · exact quick_full c s w h hc hs
  · obtain ⟨k, rfl⟩ : ∃ k : Nat, c = k := ⟨c.toNat, by omega⟩
    obtain ⟨z, rfl⟩ : ∃ z : Nat, s = z := ⟨s.toNat, by omega⟩
    have e : (k : Int) * (z : Int) = ((k * z : Nat) : Int) := by simp
    by_cases h4 : 65536 < z
    · exact full_big k z w (by omega) (by omega) (by omega) h4
    · exact full_small k z w (by omega) (by omega) (by omega)
end Go.Proofs.Ytgbljkbiigcofaa
