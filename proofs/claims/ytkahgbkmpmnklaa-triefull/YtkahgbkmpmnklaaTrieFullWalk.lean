/- TrieFull's walk: rows are taken just up to the limit; one that is there may still be put. -/
import Derived.Test.YtkahgbkmpmnklaaTAwake
namespace Go.Proofs.Ytkahgbkmpmnklaa
open Go.ChangeShapes Go.WideShapes Go.ChangeAt Go.RowKit Go.Maps
/-- Row i of the law. -/
def rowF (i : Nat) : List Int := [((i / 40 : Nat) : Int), ((i % 40 : Nat) : Int)]
theorem rowF_inj {i j : Nat} (h : rowF i = rowF j) : i = j := by
  unfold rowF at h
  injection h with h1 h2
  injection h2 with h2 _
  omega
/-- What is kept behind i rows. -/
def vlF : Nat → List Int → Option Int
  | 0 => fun _ => none
  | i + 1 => if i < 1000 then upd (vlF i) (rowF i) (some (i : Int)) else vlF i
theorem vlF_on {i : Nat} (h : i < 1000) : vlF (i + 1) = upd (vlF i) (rowF i) (some (i : Int)) := if_pos h
theorem vlF_off {i : Nat} (h : 1000 ≤ i) : vlF (i + 1) = vlF i := if_neg (by omega)
theorem vlF_none (j : Nat) : ∀ i, i ≤ j → vlF i (rowF j) = none
  | 0, _ => rfl
  | i + 1, h => by
    by_cases c : i < 1000
    · rw [vlF_on c, upd_other _ _ (fun e => by have := rowF_inj e; omega)]
      exact vlF_none j i (by omega)
    · rw [vlF_off (by omega)]
      exact vlF_none j i (by omega)
theorem vlF_zero : ∀ i, 1 ≤ i → vlF i [0, 0] = some 0
  | 0, h => by omega
  | 1, _ => by rw [vlF_on (by omega)]; exact upd_same _ _ _
  | i + 2, _ => by
    have ih := vlF_zero (i + 1) (by omega)
    by_cases c : i + 1 < 1000
    · rw [vlF_on c, upd_other _ _ (fun e => by have : rowF 0 = rowF (i + 1) := e; have := rowF_inj this; omega)]
      exact ih
    · rw [vlF_off (by omega)]; exact ih
theorem wrapI (j : Nat) (h : j ≤ 1000000) : IntKind.i64.wrap (j : Int) = (j : Int) := by
  have : ∀ x : Int, 0 ≤ x → x ≤ 1000000 → IntKind.i64.wrap x = x := fun x a b => by simp [IntKind.wrap, IntKind.bits, IntKind.signed]; omega
  exact this _ (by omega) (by omega)
set_option maxRecDepth 8000 in
set_option maxHeartbeats 2000000 in
theorem trieFull_walk (p : Int) (w : World) (pb : -9223372036854775808 ≤ p ∧ p ≤ 9223372036854775807) :
   Calls Try.prog 3 #[.int .i64 p] w fun e w' => e = .returned (.bool true) ∧ Below w.heap.size w w' := by
  obtain ⟨_p1, _p2⟩ := pb
  have AW := fun W => awake_any W
  by_cases c0 : p < 0
  · go_enter Try.func3, Try.ntmps3
    go_wp2_with (go_at_call 5; refine (AW _).mono ?_; rintro e w4 ⟨rfl, B4⟩)
    go_ret
    exact ⟨rfl, B4⟩
  by_cases c1 : 1010 < p
  · go_enter Try.func3, Try.ntmps3
    go_wp2_with (go_at_call 5; refine (AW _).mono ?_; rintro e w4 ⟨rfl, B4⟩)
    go_ret
    exact ⟨rfl, B4⟩
  obtain ⟨n, rfl⟩ : ∃ n : Nat, p = (n : Int) := ⟨p.toNat, by omega⟩
  have hn : n ≤ 1010 := by omega
  have T0 := ta_new w
  have B0 := below_alloc w (.cells #[.map none, .bool false, .int .i64 0, .int .i64 0] 27)
  clear c0 c1 _p1 _p2
  go_enter Try.func3, Try.ntmps3
  go_wp2_with fail
  generalize hw1 : w.alloc (.cells #[.map none, .bool false, .int .i64 0, .int .i64 0] 27) = w1 at *
  clear hw1
  go_loopg [4] n (fun r s4 wr => ∃ i : Nat, i ≤ n ∧ r = n - i ∧ s4 = .int .i64 (i : Int) ∧ TA wr w.heap.size w.heap.size (vlF i) (2 * i) (min i 1000) ∧ Below w.heap.size w wr)
  case atStart => exact ⟨0, by omega, by omega, rfl, T0, B0⟩
  case round =>
    clear T0 B0
    obtain ⟨i, hi, rfl, rfl, TT, BB⟩ := hrel
    by_cases hlt : i < n
    · have ej : (i : Int).tdiv 40 = ((i / 40 : Nat) : Int) := by rw [Int.tdiv_eq_ediv_of_nonneg (by omega)]; rfl
      have er : (i : Int).tmod 40 = ((i % 40 : Nat) : Int) := by rw [Int.tmod_eq_emod_of_nonneg (by omega)]; rfl
      have ej2 : (i : Int) / 40 = ((i / 40 : Nat) : Int) := rfl
      have er2 : (i : Int) % 40 = ((i % 40 : Nat) : Int) := rfl
      have wj := wrapI (i / 40) (by omega)
      have TK := tk_lit2 wr ((i / 40 : Nat) : Int) ((i % 40 : Nat) : Int) (by omega) (by omega)
      have FL := first_lit2 wr ((i / 40 : Nat) : Int) ((i % 40 : Nat) : Int)
      have BL := below_alloc wr (.cells #[.int .i64 ((i / 40 : Nat) : Int), .int .i64 ((i % 40 : Nat) : Int)] 3)
      have T2 := TT.below BL
      have VN := vlF_none i i (Nat.le_refl _)
      by_cases c2 : i < 1000
      · rw [Nat.min_eq_left (by omega)] at T2
        have P := put_new (some ⟨wr.heap.size, 0, none⟩) 2 2 _ (i : Int) _ _ _ (2 * i) i _ T2 TK FL (by omega) (by omega) VN c2 (by omega)
        have HV : Hid (vlF (i + 1) = upd (vlF i) [((i / 40 : Nat) : Int), ((i % 40 : Nat) : Int)] (some (i : Int))) := vlF_on c2
        have HB : Hid (∀ w3, Below w.heap.size (wr.alloc (.cells #[.int .i64 ((i / 40 : Nat) : Int), .int .i64 ((i % 40 : Nat) : Int)] 3)) w3 → Below w.heap.size w w3) := fun w3 h3 => (BB.alloc BB.size _).trans h3
        clear TT T2 TK FL BL BB VN
        generalize (i / 40) = q at *
        generalize (i % 40) = m at *
        go_wp2_with (go_at_call 6; refine P.mono ?_; rintro e w3 ⟨rfl, T3, B3⟩)
        go_roundg (n - (i + 1))
        case measure => omega
        case rel => exact ⟨i + 1, by omega, rfl, by go_num, by rw [HV.out, Nat.min_eq_left (by omega)]; exact T3, HB.out _ B3⟩
      · rw [Nat.min_eq_right (by omega)] at T2
        have P := put_full (some ⟨wr.heap.size, 0, none⟩) 2 2 _ (i : Int) _ _ _ (2 * i) 1000 _ T2 TK (by omega) (by omega) VN (by omega)
        have HT : Hid (TA (wr.alloc (.cells #[.int .i64 ((i / 40 : Nat) : Int), .int .i64 ((i % 40 : Nat) : Int)] 3)) w.heap.size w.heap.size (vlF (i + 1)) (2 * (i + 1)) (min (i + 1) 1000)) := by
          show TA _ _ _ _ _ _
          rw [vlF_off (by omega), Nat.min_eq_right (by omega)]
          exact T2.wider (by omega)
        have HB : Hid (Below w.heap.size w (wr.alloc (.cells #[.int .i64 ((i / 40 : Nat) : Int), .int .i64 ((i % 40 : Nat) : Int)] 3))) := BB.alloc BB.size _
        clear TT T2 TK FL BL BB VN
        generalize (i / 40) = q at *
        generalize (i % 40) = m at *
        go_wp2_with (go_at_call 6; refine P.mono ?_; rintro e w3 ⟨rfl, hw⟩; subst hw)
        go_roundg (n - (i + 1))
        case measure => omega
        case rel => exact ⟨i + 1, by omega, rfl, by go_num, HT.out, HB.out⟩
    · obtain rfl : i = n := by omega
      rcases Nat.eq_zero_or_pos i with rfl | hpos
      · have T4 := TT
        have BB4 := BB
        clear TT BB
        go_wp2_with (first
          | (go_at_call 5; refine (AW _).mono ?_; rintro e w6 ⟨rfl, B6⟩; have CT := count_any _ _ _ _ _ _ (T4.below B6); rw [Nat.min_eq_left (by omega)] at CT)
          | (go_at_call 8; refine CT.mono ?_; rintro e w7 ⟨rfl, hw⟩; replace hw := hw.symm; subst hw))
        go_ret
        exact ⟨rfl, below_then BB4 B6⟩
      · have TK := tk_lit2 wr 0 0 (by omega) (by omega)
        have BL := below_alloc wr (.cells #[.int .i64 0, .int .i64 0] 3)
        have P := put_there (some ⟨wr.heap.size, 0, none⟩) 2 2 _ 77 0 _ _ _ _ _ _ (TT.below BL) TK (by omega) (by omega) (vlF_zero i hpos)
        have HB : Hid (∀ w3, Below w.heap.size (wr.alloc (.cells #[.int .i64 0, .int .i64 0] 3)) w3 → Below w.heap.size w w3) := fun w3 h3 => (BB.alloc BB.size _).trans h3
        clear TT BB TK BL
        by_cases c3 : i ≤ 1000
        · go_wp2_with (first
            | (go_at_call 6; refine P.mono ?_; rintro e w3 ⟨rfl, T3, B3⟩; have TK2 := tk_lit2 w3 0 0 (by omega) (by omega); have BL2 := below_alloc w3 (.cells #[.int .i64 0, .int .i64 0] 3); have T4 := T3.below BL2; have G := get_any (some ⟨w3.heap.size, 0, none⟩) 2 2 _ _ _ _ _ _ _ T4 TK2; rw [upd_same] at G; have BB4 := (HB.out _ B3).alloc (HB.out _ B3).size (.cells #[.int .i64 0, .int .i64 0] 3); clear T3 B3 TK2 BL2)
            | (go_at_call 7; refine G.mono ?_; rintro e w5 ⟨rfl, hw⟩; replace hw := hw.symm; subst hw)
            | (go_at_call 5; refine (AW _).mono ?_; rintro e w6 ⟨rfl, B6⟩; have CT := count_any _ _ _ _ _ _ (T4.below B6); rw [Nat.min_eq_left (by omega)] at CT)
            | (go_at_call 8; refine CT.mono ?_; rintro e w7 ⟨rfl, hw⟩; replace hw := hw.symm; subst hw))
          go_ret
          exact ⟨rfl, below_then BB4 B6⟩
        · go_wp2_with (first
            | (go_at_call 6; refine P.mono ?_; rintro e w3 ⟨rfl, T3, B3⟩; have TK2 := tk_lit2 w3 0 0 (by omega) (by omega); have BL2 := below_alloc w3 (.cells #[.int .i64 0, .int .i64 0] 3); have T4 := T3.below BL2; have G := get_any (some ⟨w3.heap.size, 0, none⟩) 2 2 _ _ _ _ _ _ _ T4 TK2; rw [upd_same] at G; have BB4 := (HB.out _ B3).alloc (HB.out _ B3).size (.cells #[.int .i64 0, .int .i64 0] 3); clear T3 B3 TK2 BL2)
            | (go_at_call 7; refine G.mono ?_; rintro e w5 ⟨rfl, hw⟩; replace hw := hw.symm; subst hw)
            | (go_at_call 5; refine (AW _).mono ?_; rintro e w6 ⟨rfl, B6⟩; have CT := count_any _ _ _ _ _ _ (T4.below B6); rw [Nat.min_eq_right (by omega)] at CT)
            | (go_at_call 8; refine CT.mono ?_; rintro e w7 ⟨rfl, hw⟩; replace hw := hw.symm; subst hw))
          go_ret
          exact ⟨rfl, below_then BB4 B6⟩
end Go.Proofs.Ytkahgbkmpmnklaa
