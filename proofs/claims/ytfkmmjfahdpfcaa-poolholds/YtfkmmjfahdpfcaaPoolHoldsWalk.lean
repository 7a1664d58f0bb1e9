/- PoolHolds: as often as a page was held it may be dropped, and no more. -/
import Derived.Test.YtfkmmjfahdpfcaaPAwake
namespace Go.Proofs.Ytfkmmjfahdpfcaa
open Go.ChangeShapes Go.WideShapes Go.ChangeAt Go.RowKit
/-- One page that so many need. -/
def hd (h : Nat) : List Pg := [⟨h, false, 0⟩]
theorem hd_len (h : Nat) : (hd h).length = 1 := rfl
theorem hd_pg (h : Nat) : pg (hd h) 0 = ⟨h, false, 0⟩ := rfl
theorem hd_at (h : Nat) : atN (hd h) 0 = ⟨h, false, 0⟩ := rfl
theorem hold_hd (b h : Nat) (w : World) (hP : PoolAt w b (hd h) []) (h1 : 1 ≤ h) (h2 : h < 1000) :
   Calls Try.prog 13 #[.pointer (some ⟨b + 1, 0, none⟩), .int .i64 0] w fun e w' => e = .returned (.int .i64 0) ∧ PoolAt w' b (hd (h + 1)) [] ∧ Below b w w' :=
  hold_ok b 0 (hd h) [] w hP (by simp) (by simp [hd_len]) (by simp [hd_len]) (by rw [hd_pg]; unfold Pg.free; rw [decide_eq_false (by show ¬ h = 0; omega)]; rfl) (by rw [hd_pg]; exact h2)
theorem drop_hd (b h : Nat) (w : World) (hP : PoolAt w b (hd (h + 1)) []) (h2 : h < 1000) :
   Calls Try.prog 15 #[.pointer (some ⟨b + 1, 0, none⟩), .int .i64 0] w fun e w' => e = .returned (.int .i64 0) ∧ PoolAt w' b (hd h) [] ∧ Below b w w' :=
  drop_stay b 0 (hd (h + 1)) [] w hP (by simp [hd_len]) (by simp [hd_len]) (by rw [hd_pg]; show 1 ≤ h + 1; omega) (by rw [hd_pg]; show h + 1 ≤ 1000; omega) (by rw [hd_pg]; unfold Pg.idle; simp)
set_option maxHeartbeats 4000000 in
set_option maxRecDepth 100000 in
theorem poolHolds_walk (x : Int) (w : World) (hx : -9223372036854775808 ≤ x ∧ x ≤ 9223372036854775807) :
   Calls Try.prog 5 #[.int .i64 x] w fun e w' => e = .returned (.bool true) ∧ Below w.heap.size w w' := by
  have A := pawake_any w
  by_cases h0 : x < 0
  · go_enter Try.func5, Try.ntmps5
    go_wp2_with (go_at_call 9; refine A.mono ?_; rintro e w1 ⟨rfl, B1⟩)
    go_ret
    exact ⟨rfl, B1⟩
  by_cases h1 : 1100 < x
  · go_enter Try.func5, Try.ntmps5
    go_wp2_with (go_at_call 9; refine A.mono ?_; rintro e w1 ⟨rfl, B1⟩)
    go_ret
    exact ⟨rfl, B1⟩
  obtain ⟨n, rfl⟩ : ∃ n : Nat, x = n := ⟨x.toNat, by omega⟩
  have hn : (n : Int) ≤ 1100 := by omega
  have C := pnew_any 1 w (by omega) (by omega)
  rw [replicate_one] at C
  simp only [Int.natCast_one] at C
  have T1 := fun w b (h : PoolAt w b [default] []) => take_free b 0 [default] [] w h (by decide) (by decide) idx_new
  simp only [Int.natCast_zero, List.set_cons_zero] at T1
  clear A hx
  go_enter Try.func5, Try.ntmps5
  go_wp2_with first
    | (go_at_call 8; refine C.mono ?_; rintro e w1 ⟨rfl, h1, B1⟩; have C1 := T1 _ _ h1; have t1 := B1.size; clear C)
    | (go_at_call 12; refine C1.mono ?_; rintro e w2 ⟨rfl, h2, B2⟩; clear C1 h1)
  have h3 : PoolAt w2 w.heap.size (hd 1) [] := h2
  have B3 := B1.trans B2
  clear h2 B2 B1 T1
  go_loopg [5, 6, 7] n (fun gg s5 s6 _ wr => ∃ k c : Nat, k ≤ n ∧ gg = n - k ∧ s5 = .int .i64 (c : Int) ∧ s6 = .int .i64 (k : Int) ∧ Hid (c = min (k + 1) 1000) ∧ PoolAt wr w.heap.size (hd c) [] ∧ Below w.heap.size w wr)
  case atStart => exact ⟨0, 1, by omega, by omega, rfl, rfl, rfl, h3, B3⟩
  case round =>
    obtain ⟨k, c, hk, rfl, rfl, rfl, E, h4, B4⟩ := hrel
    clear h3 B3
    by_cases hlt : k < n
    · by_cases hc : c < 1000
      · have C2 := hold_hd w.heap.size c wr h4 (by have := E.out; omega) hc
        have E2 : Hid (c + 1 = min (k + 1 + 1) 1000) := by have := E.out; show _ = _; omega
        have hc' : (c : Int) < 1000 := by omega
        clear hc E
        go_wp2_with (go_at_call 13; refine C2.mono ?_; rintro e w5 ⟨rfl, h5, B5⟩)
        go_roundg (n - (k + 1))
        case measure => omega
        case rel => exact ⟨k + 1, c + 1, by omega, rfl, by go_num, by go_num, E2, h5, B4.trans B5⟩
      · have hc' : c = 1000 := by have := E.out; omega
        have E2 : Hid (1000 = min (k + 1 + 1) 1000) := by have := E.out; show _ = _; omega
        subst hc'
        have C2 := hold_big w.heap.size 0 (hd 1000) [] wr h4 (by omega) (by rw [hd_at]; exact Nat.le_refl _)
        have e5 : ((1000 : Nat) : Int) = 1000 := rfl
        rw [e5]
        clear hc E
        go_wp2_with (go_at_call 13; refine C2.mono ?_; rintro e w5 ⟨rfl, B5⟩)
        go_roundg (n - (k + 1))
        case measure => omega
        case rel => exact ⟨k + 1, 1000, by omega, rfl, by go_num, by go_num, E2, h4.below B5, B4.trans (B5.mono B4.size)⟩
    · obtain rfl : k = n := by omega
      have C2 := refs_any w.heap.size 0 (hd c) [] wr h4 (by omega)
      simp only [hd_at] at C2
      have D2 := fun b (w : World) (h : PoolAt w b (hd 0) []) => counts_any b (hd 0) [] w h (by simp [hd_len]) (by simp)
      have D3 := fun b (w : World) (h : PoolAt w b (hd 0) []) => drop_none b 0 (hd 0) [] w h (by omega) rfl
      have e7 : ((hd 0).length : Int) - (need (hd 0) : Int) - (([] : List Nat).length : Int) = 1 := by decide
      simp only [e7] at D2
      have hcb : 1 ≤ c ∧ c ≤ 1000 := by have := E.out; omega
      have hc1 : (1 : Int) ≤ (c : Int) := by omega
      have hc2 : (c : Int) ≤ 1000 := by omega
      have hcm : ((k : Int) + 1 ≤ 1000 ∧ Hid ((c : Int) = (k : Int) + 1)) ∨ (¬ (k : Int) + 1 ≤ 1000 ∧ Hid ((c : Int) = 1000)) := by
        have := E.out
        by_cases hm : (k : Int) + 1 ≤ 1000
        · exact Or.inl ⟨hm, by show _ = _; omega⟩
        · exact Or.inr ⟨hm, by show _ = _; omega⟩
      clear E hlt hk hcb
      rcases hcm with ⟨hm, hb⟩ | ⟨hm, hb⟩ <;>
      · go_wp2_with (go_at_call 20; refine C2.mono ?_; rintro e w5 ⟨rfl, B5⟩)
        all_goals first | exact absurd hb.out (by assumption) | skip
        have h5 := h4.below B5
        have B6 := B4.trans (B5.mono B4.size)
        clear C2 hm hb h4 B4 B5
        go_loopg [8] c (fun gg s8 wr => ∃ i : Nat, i ≤ c ∧ gg = c - i ∧ s8 = .int .i64 (i : Int) ∧ PoolAt wr w.heap.size (hd (c - i)) [] ∧ Below w.heap.size w wr)
        case atStart => exact ⟨0, by omega, by omega, rfl, h5, B6⟩
        case round =>
          obtain ⟨i, hi, rfl, rfl, h6, B7⟩ := hrel
          clear h5 B6
          by_cases hlt : i < c
          · obtain ⟨q, hq⟩ : ∃ q, c - i = q + 1 := ⟨c - i - 1, by omega⟩
            rw [hq] at h6
            have C3 := drop_hd w.heap.size q _ h6 (by omega)
            have e8 : c - (i + 1) = q := by omega
            have E8 : Hid (c - (i + 1) = q) := e8
            clear e8 hq h6
            go_wp2_with (go_at_call 15; refine C3.mono ?_; rintro e w7 ⟨rfl, h7, B8⟩)
            go_roundg (c - (i + 1))
            case measure => omega
            case rel => exact ⟨i + 1, by omega, rfl, by go_num, by rw [E8.out]; exact h7, B7.trans B8⟩
          · obtain rfl : i = c := by omega
            rw [Nat.sub_self] at h6
            have C3 := D2 _ _ h6
            clear hlt
            go_wp2_with first
              | (go_at_call 17; refine C3.mono ?_; rintro e w7 ⟨rfl, B8⟩; have h7 := h6.below B8; have C4 := pawake_any w7)
              | (go_at_call 9; refine C4.mono ?_; rintro e w8 ⟨rfl, B9⟩; have h8 := h7.below B9; have C5 := D3 _ _ h8)
              | (go_at_call 15; refine C5.mono ?_; rintro e w9 ⟨rfl, B10⟩)
            go_ret
            have s1 := B7.size
            have s2 := B8.size
            have s3 := B9.size
            exact ⟨rfl, ((B7.trans (B8.mono (by omega))).trans (B9.mono (by omega))).trans (B10.mono (by omega))⟩
end Go.Proofs.Ytfkmmjfahdpfcaa
