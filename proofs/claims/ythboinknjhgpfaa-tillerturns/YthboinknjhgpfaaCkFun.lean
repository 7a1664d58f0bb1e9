/- The clocks' small calls. -/
import Derived.Test.YthboinknjhgpfaaCkBase
import Derived.BigRegion
namespace Go.Proofs.Ythboinknjhgpfaa
open Go.ChangeShapes Go.WideShapes Go.ChangeAt Go.RowKit
theorem chas_any (b g cap n : Nat) (N A B : Nat → Int) (i : Int) (w : World) (h : ClkR w b g cap n N A B) :
   Calls Try.prog 20 #[.pointer (some ⟨b, 0, none⟩), .int .i64 i] w fun e w' => e = .returned (.bool (decide (0 ≤ i ∧ i < (n : Int)))) ∧ w' = w := by
  have c0 := h.c
  rcases Decidable.em (0 ≤ i) with h0 | h0
  · rcases Decidable.em (i < (n : Int)) with h1 | h1
    · have d1 : decide (i < (n : Int)) = true := decide_eq_true h1
      go_enter Try.func20, Try.ntmps20
      go_wp2
      go_ret
      exact ⟨by simp [h0, h1], rfl⟩
    · have d1 : decide (i < (n : Int)) = false := decide_eq_false h1
      go_enter Try.func20, Try.ntmps20
      go_wp2
      go_ret
      exact ⟨by simp, rfl⟩
  · have d1 : decide (0 ≤ i) = false := decide_eq_false h0
    go_enter Try.func20, Try.ntmps20
    go_wp2
    go_ret
    exact ⟨by simp, rfl⟩
theorem cnow_none (b g cap n : Nat) (N A B : Nat → Int) (i : Int) (w : World) (h : ClkR w b g cap n N A B) (hi : ¬ (0 ≤ i ∧ i < (n : Int))) :
   Calls Try.prog 9 #[.pointer (some ⟨b, 0, none⟩), .int .i64 i] w fun e w' => e = .returned (.int .i64 (-1)) ∧ w' = w := by
  have C := chas_any b g cap n N A B i w h
  rw [decide_eq_false hi] at C
  go_enter Try.func9, Try.ntmps9
  go_wp2_with (go_at_call 20; refine C.mono ?_; rintro e w2 ⟨rfl, rfl⟩)
  go_ret
  exact ⟨rfl, rfl⟩
theorem cnow_any (b g cap n i : Nat) (N A B : Nat → Int) (w : World) (h : ClkR w b g cap n N A B) (hi : i < n) :
   Calls Try.prog 9 #[.pointer (some ⟨b, 0, none⟩), .int .i64 (i : Int)] w fun e w' => e = .returned (.int .i64 (N i)) ∧ w' = w := by
  have C := chas_any b g cap n N A B i w h
  rw [decide_eq_true (by omega)] at C
  have c0 := h.c
  have c1 := h.nds.c0 hi
  have h1 : (i : Int) < (n : Int) := by omega
  go_enter Try.func9, Try.ntmps9
  go_wp2_with (go_at_call 20; refine C.mono ?_; rintro e w ⟨rfl, rfl⟩)
  go_ret
  exact ⟨rfl, rfl⟩
theorem cdrift_none (b g cap n : Nat) (N A B : Nat → Int) (i : Int) (w : World) (h : ClkR w b g cap n N A B) (hi : ¬ (0 ≤ i ∧ i < (n : Int))) :
   Calls Try.prog 17 #[.pointer (some ⟨b, 0, none⟩), .int .i64 i] w fun e w' => e = .returned (.int .i64 (-1)) ∧ w' = w := by
  have C := chas_any b g cap n N A B i w h
  rw [decide_eq_false hi] at C
  go_enter Try.func17, Try.ntmps17
  go_wp2_with (go_at_call 20; refine C.mono ?_; rintro e w2 ⟨rfl, rfl⟩)
  go_ret
  exact ⟨rfl, rfl⟩
theorem cdrift_any (b g cap n i : Nat) (N A B : Nat → Int) (w : World) (h : ClkR w b g cap n N A B) (hi : i < n) (hs : -1000 ≤ A i ∧ A i ≤ 1000 ∧ -1000 ≤ B i ∧ B i ≤ 1000) :
   Calls Try.prog 17 #[.pointer (some ⟨b, 0, none⟩), .int .i64 (i : Int)] w fun e w' => e = .returned (.int .i64 (B i - A i)) ∧ ∃ k, w' = w.drewN k := by
  have C := chas_any b g cap n N A B i w h
  rw [decide_eq_true (by omega)] at C
  have c0 := h.c
  have c1 := h.nds.c1 hi
  have c2 := h.nds.c2 hi
  have h1 : (i : Int) < (n : Int) := by omega
  have q : wrap64 (B i - A i) = B i - A i := by unfold wrap64; omega
  generalize A i = x at *
  generalize B i = y at *
  go_enter Try.func17, Try.ntmps17
  go_wp2_with (go_at_call 20; refine C.mono ?_; rintro e w ⟨rfl, rfl⟩)
  go_quiet (fail)
  go_wp2
  go_ret
  exact ⟨rfl, nq, rfl⟩
set_option maxHeartbeats 1000000 in
theorem cnote_any (b g cap n : Nat) (N A B : Nat → Int) (w : World) (h : ClkR w b g cap n N A B) (hn : 1 ≤ n ∧ n ≤ 8) (hs : ∀ i, -1000 ≤ N i ∧ N i ≤ 1000) :
   Calls Try.prog 25 #[.pointer (some ⟨b, 0, none⟩)] w fun e w' => e = .returned (.tuple #[]) ∧ ClkR w' b g cap n N (fun i => min (A i) (N i - N 0)) (fun i => max (B i) (N i - N 0)) ∧ But g w w' := by
  have c0 := h.c
  have hne := h.ne
  have h1 : (0 : Int) < (n : Int) := by omega
  go_enter Try.func25, Try.ntmps25
  go_wp2_with fail
  go_loopg [10] n (fun gg s10 wr => ∃ j : Nat, j ≤ n ∧ gg = n - j ∧ s10 = .int .i64 (j : Int) ∧ ClkR wr b g cap n N (fun i => if i < j then min (A i) (N i - N 0) else A i) (fun i => if i < j then max (B i) (N i - N 0) else B i) ∧ But g w wr)
  case atStart => exact ⟨0, by omega, by omega, rfl, ⟨h.box, h.nds.mono (fun _ _ => rfl) (fun i _ => by simp) (fun i _ => by simp), h.max⟩, But.refl _ _⟩
  case round =>
    obtain ⟨j, hj, rfl, rfl, R, BW⟩ := hrel
    rcases Nat.lt_or_ge j n with hlt | hge
    · have d1 : (j : Int) < (n : Int) := by omega
      have b0 := R.c
      have x0 := R.nds.c0 hlt
      have y0 := R.nds.c0 (show 0 < n by omega)
      have x1 := R.nds.c1 hlt
      have x2 := R.nds.c2 hlt
      simp only [Nat.lt_irrefl, if_false, Nat.zero_mul] at x1 x2 y0
      have f1 := R.nds.frozen (j * 3 + 1)
      have f2 := R.nds.frozen (j * 3 + 2)
      have q : wrap64 (N j - N 0) = N j - N 0 := by have := hs j; have := hs 0; unfold wrap64; omega
      have HR : Hid _ := R
      have HB : Hid _ := BW
      have E1 : Hid (∀ a d : Int, (if d < a then d else a) = min a d) := fun a d => by split <;> omega
      have E2 : Hid (∀ a d : Int, (if a < d then d else a) = max a d) := fun a d => by split <;> omega
      clear R BW c0
      obtain ⟨nj, hnj⟩ : ∃ x, x = N j := ⟨_, rfl⟩
      obtain ⟨n0, hn0⟩ : ∃ x, x = N 0 := ⟨_, rfl⟩
      obtain ⟨aj, haj⟩ : ∃ x, x = A j := ⟨_, rfl⟩
      obtain ⟨bj, hbj⟩ : ∃ x, x = B j := ⟨_, rfl⟩
      rw [← hnj] at x0 q
      rw [← hn0] at y0 q
      rw [← haj] at x1
      rw [← hbj] at x2
      have HE : Hid (nj = N j ∧ n0 = N 0 ∧ aj = A j ∧ bj = B j) := ⟨hnj, hn0, haj, hbj⟩
      clear hnj hn0 haj hbj
      go_wp2_with fail
      go_quiet (fail)
      go_wp2_with fail
      go_region
      rw [E1.out aj (nj - n0), E2.out bj (nj - n0)]
      go_wp2_with fail
      go_roundg (n - (j + 1))
      case measure => omega
      case rel =>
        obtain ⟨rfl, rfl, rfl, rfl⟩ := HE.out
        have Rk := HR.out.of_blocks (w' := wr.drewN (nq + 1)) rfl rfl
        have Bk : But g w (wr.drewN (nq + 1)) := HB.out.trans (But.of_below (below_drewN (Below.refl _ _) _))
        refine ⟨j + 1, by omega, rfl, by go_num, ⟨(Rk.box.other (a := ⟨g, j * 3 + 1, none⟩) hne _).other (a := ⟨g, j * 3 + 2, none⟩) hne _, ((Rk.nds.set1 hlt _).set2 hlt _).mono (fun _ _ => rfl) (fun i _ => ?_) (fun i _ => ?_), Rk.max⟩, (Bk.set _ _).set _ _⟩
        · dsimp only [upI]
          by_cases e : i = j
          · subst e; simp
          · rw [if_neg e]
            by_cases e2 : i < j
            · rw [if_pos e2, if_pos (by omega)]
            · rw [if_neg e2, if_neg (by omega)]
        · dsimp only [upI]
          by_cases e : i = j
          · subst e; simp
          · rw [if_neg e]
            by_cases e2 : i < j
            · rw [if_pos e2, if_pos (by omega)]
            · rw [if_neg e2, if_neg (by omega)]
    · obtain rfl : j = n := by omega
      have d1 : decide ((j : Int) < (j : Int)) = false := by simp
      go_wp2_with fail
      go_end0
      exact ⟨rfl, ⟨R.box, R.nds.mono (fun _ _ => rfl) (fun i hi => by simp [hi]) (fun i hi => by simp [hi]), R.max⟩, BW⟩
end Go.Proofs.Ythboinknjhgpfaa
