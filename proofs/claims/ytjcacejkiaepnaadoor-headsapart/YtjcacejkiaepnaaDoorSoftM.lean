/- Mixes of rows: their errors, and what comes out. -/
import Derived.Test.YtjcacejkiaepnaaDoorGrid
import Derived.Test.YtjcacejkiaepnaaDoorVec
namespace Go.Proofs.YtjcacejkiaepnaaDoor
open Go.ChangeShapes Go.WideShapes Go.ChangeAt Go.RowKit
set_option maxHeartbeats 800000 in
theorem checkMix_any (ao bo : Option Addr) (n m ca cb : Nat) (R : List (List Int)) (w : World) (hn : n ≤ 9223372036854775807) (hR : GridAt w bo m R) :
   Calls Tryd.prog 46 #[.slice ao n ca, .slice bo m cb] w fun e w' => e = .returned (.int .i64 (mixedN n R)) ∧ w' = w := by
  have hm := hR.max
  have hl := hR.len
  by_cases c1 : n = 0
  · subst c1
    have HF : Hid (mixedN 0 R = 8) := by show _ = _; unfold mixedN; rw [if_pos (Or.inl rfl)]
    go_enter Tryd.func46, Tryd.ntmps46
    go_wp2
    go_ret
    exact ⟨ret_int HF.out.symm, rfl⟩
  have z1 : ((n : Int) == 0) = false := by simp; omega
  by_cases c2 : m = 0
  · subst c2
    have HF : Hid (mixedN n R = 8) := by show _ = _; unfold mixedN; rw [if_pos (Or.inr hl)]
    clear hl
    go_enter Tryd.func46, Tryd.ntmps46
    go_wp2
    go_ret
    exact ⟨ret_int HF.out.symm, rfl⟩
  have z2 : ((m : Int) == 0) = false := by simp; omega
  by_cases c3 : 4096 < n
  · have HF : Hid (mixedN n R = 2) := by show _ = _; unfold mixedN; rw [if_neg (by omega), if_pos c3]
    clear hl
    go_enter Tryd.func46, Tryd.ntmps46
    go_wp2
    go_ret
    exact ⟨ret_int HF.out.symm, rfl⟩
  rcases Decidable.em (m = n) with rfl | c4
  · have HF : Hid (mixedN m R = if alike R m = true then 0 else 6) := by show _ = _; unfold mixedN; rw [if_neg (by omega), if_neg c3, if_neg (by omega)]
    clear hl
    obtain ⟨b, o, rfl, hc⟩ := hR.cells (by omega)
    obtain ⟨r0, m0, k0, q0, A0⟩ := hc 0 (by omega)
    rw [Nat.add_zero] at q0
    have l0 := A0.row.len
    have x0 := A0.row.max
    go_enter Tryd.func46, Tryd.ntmps46
    go_wp2
    go_loopg [25] m (fun r i wr => ∃ k : Nat, k ≤ m ∧ r = m - k ∧ i = .int .i64 k ∧ alike R k = true ∧ wr = w)
    case atStart => exact ⟨0, by omega, by omega, rfl, rfl, rfl⟩
    case round =>
      obtain ⟨k, hk, rfl, rfl, hal, rfl⟩ := hrel
      by_cases hlt : k < m
      · obtain ⟨r1, m1, k1, q1, A1⟩ := hc k hlt
        have l1 := A1.row.len
        have x1 := A1.row.max
        rcases Decidable.em (m1 = m0) with rfl | hne
        · have HA : Hid (alike R (k + 1) = true) := by show _ = _; unfold alike; rw [hal, l1, l0]; simp
          clear hR hc A0 A1 hal l0 l1
          go_wp2
          go_roundg (m - (k + 1))
          case measure => omega
          case rel => exact ⟨k + 1, by omega, rfl, by go_num, HA.out, rfl⟩
        · have HA : Hid (mixedN m R = 6) := by show _ = _; rw [HF.out, alike_not hlt (by omega)]; rfl
          have z3 : ((m1 : Int) == (m0 : Int)) = false := by simp; omega
          clear hR hc A0 A1 hal l0 l1 HF
          go_wp2
          go_ret
          exact ⟨ret_int HA.out.symm, rfl⟩
      · obtain rfl : k = m := by omega
        have HA : Hid (mixedN k R = 0) := by show _ = _; rw [HF.out, hal]; rfl
        clear hR hc A0 hal l0 HF
        go_wp2
        go_ret
        exact ⟨ret_int HA.out.symm, rfl⟩
  · have HF : Hid (mixedN n R = 6) := by show _ = _; unfold mixedN; rw [if_neg (by omega), if_neg c3, if_pos (by omega)]
    have z3 : ((m : Int) == (n : Int)) = false := by simp; omega
    clear hl
    go_enter Tryd.func46, Tryd.ntmps46
    go_wp2
    go_ret
    exact ⟨ret_int HF.out.symm, rfl⟩
theorem mix_bad (ao bo : Option Addr) (n m ca cb : Nat) (R : List (List Int)) (w : World) (hn : n ≤ 9223372036854775807) (hR : GridAt w bo m R) (hf : mixedN n R ≠ 0) :
   Calls Tryd.prog 32 #[.slice ao n ca, .slice bo m cb] w fun e w' => e = .returned (.tuple #[.slice none 0 0, .int .i64 (mixedN n R)]) ∧ w' = w := by
  have hf' : (mixedN n R == 0) = false := by simpa using hf
  generalize hq : mixedN n R = q at *
  go_enter Tryd.func32, Tryd.ntmps32
  go_wp2_with (go_at_call 46; refine (checkMix_any _ _ _ _ _ _ _ _ hn hR).mono ?_; rintro e w ⟨rfl, rfl⟩; rw [hq])
  go_ret2
  exact ⟨rfl, rfl⟩
set_option maxHeartbeats 1600000 in
theorem mix_any (ao bo : Option Addr) (n m ca cb : Nat) (A : List Int) (R : List (List Int)) (w : World) (hA : RowAt w ao n A) (hR : GridAt w bo m R) (hf : mixedN n R = 0) (hc4 : (rowOf R 0).length ≤ 4096) :
   Calls Tryd.prog 32 #[.slice ao n ca, .slice bo m cb] w fun e w' => ∃ g, e = .returned (.tuple #[.slice (some ⟨g, 0, none⟩) (rowOf R 0).length (rowOf R 0).length, .int .i64 0]) ∧ Fresh w' w.heap.size g (rowOf R 0).length (rowOf R 0).length (tab (rowOf R 0).length fun j => dotN A (colOf R n j) n) ∧ Below w.heap.size w w' := by
  obtain ⟨h1, h4, hl, hal⟩ := mixedN_ok hf
  obtain rfl : m = n := by rw [← hl]; exact hR.len.symm
  obtain ⟨b, o, rfl, hc⟩ := hR.cells (by omega)
  obtain ⟨r0, m0, k0, q0, A0⟩ := hc 0 (by omega)
  rw [Nat.add_zero] at q0
  have l0 := A0.row.len
  rw [l0] at hal hc4 ⊢
  have hmk := run_make_row' (P := Tryd.prog) 22 35 (.int .i32 0) 4 Tryd.underlying22 Tryd.infoNum rfl .i64 .i64 m0 (by omega) (by omega)
  have F0 := fresh_made w m0 (by omega)
  have B0 : Below w.heap.size w (w.alloc (.cells (madeCells #[.int .i32 0] m0) 35)) := (Below.refl _ _).alloc (Nat.le_refl _) _
  have HR : Hid (∀ wv, Below w.heap.size w wv → GridAt wv (some ⟨b, o, none⟩) m R) := fun wv hb => hR.below hb
  have HA : Hid (∀ wv, Below w.heap.size w wv → RowAt wv ao m A) := fun wv hb => hA.below hb
  go_enter Tryd.func32, Tryd.ntmps32
  go_wp2_with (go_at_call 46; refine (checkMix_any _ _ _ _ _ _ _ _ (by omega) hR).mono ?_; rintro e w ⟨rfl, rfl⟩; rw [hf])
  clear hmk hf hR hA hc A0 q0 l0
  generalize w.alloc (.cells (madeCells #[.int .i32 0] m0) 35) = w0 at *
  go_loopg [25] m0 (fun r i wr => ∃ j : Nat, j ≤ m0 ∧ r = m0 - j ∧ i = .int .i64 j ∧ Fresh wr w.heap.size w.heap.size m0 m0 (tab m0 fun i => if i < j then dotN A (colOf R m i) m else 0) ∧ Below w.heap.size w wr)
  case atStart => exact ⟨0, by omega, by omega, rfl, by rw [tab_start]; exact F0, B0⟩
  case round =>
    obtain ⟨j, hj, rfl, rfl, F1, B1⟩ := hrel
    clear F0 B0
    by_cases hlj : j < m0
    · have R1 := HR.out _ B1
      have A1 := HA.out _ B1
      obtain ⟨b2, o2, e2, hc⟩ := R1.cells (by omega)
      simp only [Option.some.injEq, Addr.mk.injEq, and_true] at e2
      obtain ⟨rfl, rfl⟩ := e2
      generalize wr = w1 at *
      go_wp2_with fail
      go_loopg [9, 30] m (fun r s i wr => ∃ k : Nat, k ≤ m ∧ r = m - k ∧ i = .int .i64 k ∧ s = .int .i64 (dsum A (colOf R m j) k) ∧ wr = w1)
      case atStart => exact ⟨0, by omega, by omega, rfl, rfl, rfl⟩
      case round =>
        obtain ⟨k, hk, rfl, rfl, rfl, rfl⟩ := hrel
        by_cases hlt : k < m
        · obtain ⟨ro, m1, k1, q1, AR⟩ := hc k hlt
          have l1 := AR.row.len
          rw [hal k hlt] at l1
          subst l1
          obtain ⟨b3, o3, rfl, hc3⟩ := AR.row.cells (by omega)
          obtain ⟨b4, o4, rfl, hc4'⟩ := A1.cells (by omega)
          have q2 := hc3 j hlj
          have q3 := hc4' k hlt
          have ec : el (colOf R m j) k = el (rowOf R k) j := el_tab hlt
          have e1 : Hid (dsum A (colOf R m j) (k + 1) = grow (dsum A (colOf R m j) k) (el A k * el (rowOf R k) j)) := by show _ = _; rw [dsum_succ, ec]
          have b1 := dsum_bd A (colOf R m j) k
          have b2 := A1.small.el k
          have b3 := AR.row.small.el j
          have b5 := prod_bd (A := 2147483648) (B := 2147483648) (a := el A k) (b := el (rowOf R k) j) b2.1 (by omega) b3.1 (by omega)
          generalize dsum A (colOf R m j) k = s at *
          generalize el A k = x at *
          generalize el (rowOf R k) j = y at *
          have w1 : IntKind.i64.wrap x = x := wrap_in (by omega)
          have w2 : IntKind.i64.wrap y = y := wrap_in (by omega)
          have w3 : IntKind.i64.wrap (x * y) = x * y := wrap_in (by omega)
          clear hc hc3 hc4' AR R1 A1 F1 ec HR HA hal
          go_wp2_with (go_at_call 40; refine (grow_any _ _ _ (by omega) (by omega) (by omega) (by omega)).mono ?_; rintro e w' ⟨rfl, rfl⟩)
          go_roundg (m - (k + 1))
          case measure => omega
          case rel => exact ⟨k + 1, by omega, rfl, by go_num, by rw [e1.out], rfl⟩
        · obtain rfl : k = m := by omega
          have b1 := dsum_bd A (colOf R k j) k
          have b2 := rnd_bd (dsum A (colOf R k j) k) 65536 140737488355328 (by omega) (by omega) (by omega)
          have HD : Hid (sat (rnd (dsum A (colOf R k j) k) 65536) = dotN A (colOf R k j) k) := rfl
          have b3 := dotN_bd A (colOf R k j) k
          have f1 := F1.frozen j
          have f2 := F1.cell hlj
          clear hc R1 A1
          go_wp2_with (first | (go_at_call 41; refine (round_any _ _ _ (by omega) (by omega) (by omega) (by omega)).mono ?_; rintro e w' ⟨rfl, n1, rfl⟩) | (go_at_call 38; refine (sat_any _ _ (by omega) (by omega)).mono ?_; rintro e w' ⟨rfl, rfl⟩; rw [HD.out]))
          go_roundg (m0 - (j + 1))
          case measure => omega
          case rel => exact ⟨j + 1, by omega, rfl, by go_num, (F1.drewN n1).step (f := fun i => dotN A (colOf R k i) k) _ hlj rfl (by omega), (below_drewN B1 n1).setCell (Nat.le_refl _) _⟩
    · obtain rfl : j = m0 := by omega
      go_wp2
      go_ret2
      exact ⟨_, rfl, by rw [← tab_done]; exact F1, B1⟩
end Go.Proofs.YtjcacejkiaepnaaDoor
