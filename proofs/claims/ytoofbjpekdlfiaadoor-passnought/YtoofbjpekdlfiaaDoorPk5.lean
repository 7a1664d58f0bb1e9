/- Contracts of the program's functions, part 5 of 14: what each call returns and leaves of memory. -/
import Derived.Test.YtoofbjpekdlfiaaDoorPk4
import Derived.Test.YtoofbjpekdlfiaaDoorPk2
import Derived.Test.YtoofbjpekdlfiaaDoorRows
import Derived.Test.YtoofbjpekdlfiaaDoorPk1
import Derived.WalkKit
import Derived.ProofKit
import Derived.OpenShut
import Derived.WalkLawsBesides
import Derived.BigQuiet
import Derived.WalkSmall
import Derived.OwnWalk
import Derived.Laws.CopyOwn
import Derived.Deep.Quiet
import Derived.Deep.LoopGhost
import Derived.Laws.MakeOwn
import Derived.Deep.RegionLaw
import Derived.Deep.CutRange
/- Mixes of rows: their errors, and what comes out. -/
namespace Go.Proofs.YtoofbjpekdlfiaaDoor
open Go.ChangeShapes Go.WideShapes Go.ChangeAt Go.RowKit
set_option maxHeartbeats 800000 in
theorem checkMix_any (ao bo : Option Addr) (n m ca cb : Nat) (R : List (List Int)) (w : World) (hn : n ≤ 9223372036854775807) (hR : GridAt w bo m R) :
   Calls Tryd.prog 98 #[.slice ao n ca, .slice bo m cb] w fun e w' => e = .returned (.int .i64 (mixedN n R)) ∧ w' = w := by
  have hm := hR.max
  have hl := hR.len
  by_cases c1 : n = 0
  · subst c1
    have HF : Hid (mixedN 0 R = 8) := by show _ = _; unfold mixedN; rw [if_pos (Or.inl rfl)]
    go_enter Tryd.func98, Tryd.ntmps98
    go_wp2
    go_ret
    exact ⟨ret_int HF.out.symm, rfl⟩
  have z1 : ((n : Int) == 0) = false := by simp; omega
  by_cases c2 : m = 0
  · subst c2
    have HF : Hid (mixedN n R = 8) := by show _ = _; unfold mixedN; rw [if_pos (Or.inr hl)]
    clear hl
    go_enter Tryd.func98, Tryd.ntmps98
    go_wp2
    go_ret
    exact ⟨ret_int HF.out.symm, rfl⟩
  have z2 : ((m : Int) == 0) = false := by simp; omega
  by_cases c3 : 4096 < n
  · have HF : Hid (mixedN n R = 2) := by show _ = _; unfold mixedN; rw [if_neg (by omega), if_pos c3]
    clear hl
    go_enter Tryd.func98, Tryd.ntmps98
    go_wp2
    go_ret
    exact ⟨ret_int HF.out.symm, rfl⟩
  rcases Decidable.em (m = n) with rfl | c4
  · have HF : Hid (mixedN m R = if alike R m = true then 0 else 6) := by show _ = _; unfold mixedN; rw [if_neg (by omega), if_neg c3, if_neg (by omega)]
    clear hl
    obtain ⟨b, o, rfl, hc⟩ := hR.cells (by omega)
    obtain ⟨r0, m0, k0, q0, A0⟩ := hc 0 (by omega)
    rw [Nat.add_zero] at q0
    have l0 := A0.row.len
    have x0 := A0.row.max
    go_enter Tryd.func98, Tryd.ntmps98
    go_wp2
    go_loopg [25] m (fun r i wr => ∃ k : Nat, k ≤ m ∧ r = m - k ∧ i = .int .i64 k ∧ alike R k = true ∧ wr = w)
    case atStart => exact ⟨0, by omega, by omega, rfl, rfl, rfl⟩
    case round =>
      obtain ⟨k, hk, rfl, rfl, hal, rfl⟩ := hrel
      by_cases hlt : k < m
      · obtain ⟨r1, m1, k1, q1, A1⟩ := hc k hlt
        have l1 := A1.row.len
        have x1 := A1.row.max
        rcases Decidable.em (m1 = m0) with rfl | hne
        · have HA : Hid (alike R (k + 1) = true) := by show _ = _; unfold alike; rw [hal, l1, l0]; simp
          clear hR hc A0 A1 hal l0 l1
          go_wp2
          go_roundg (m - (k + 1))
          case measure => omega
          case rel => exact ⟨k + 1, by omega, rfl, by go_num, HA.out, rfl⟩
        · have HA : Hid (mixedN m R = 6) := by show _ = _; rw [HF.out, alike_not hlt (by omega)]; rfl
          have z3 : ((m1 : Int) == (m0 : Int)) = false := by simp; omega
          clear hR hc A0 A1 hal l0 l1 HF
          go_wp2
          go_ret
          exact ⟨ret_int HA.out.symm, rfl⟩
      · obtain rfl : k = m := by omega
        have HA : Hid (mixedN k R = 0) := by show _ = _; rw [HF.out, hal]; rfl
        clear hR hc A0 hal l0 HF
        go_wp2
        go_ret
        exact ⟨ret_int HA.out.symm, rfl⟩
  · have HF : Hid (mixedN n R = 6) := by show _ = _; unfold mixedN; rw [if_neg (by omega), if_neg c3, if_pos (by omega)]
    have z3 : ((m : Int) == (n : Int)) = false := by simp; omega
    clear hl
    go_enter Tryd.func98, Tryd.ntmps98
    go_wp2
    go_ret
    exact ⟨ret_int HF.out.symm, rfl⟩
theorem mix_bad (ao bo : Option Addr) (n m ca cb : Nat) (R : List (List Int)) (w : World) (hn : n ≤ 9223372036854775807) (hR : GridAt w bo m R) (hf : mixedN n R ≠ 0) :
   Calls Tryd.prog 87 #[.slice ao n ca, .slice bo m cb] w fun e w' => e = .returned (.tuple #[.slice none 0 0, .int .i64 (mixedN n R)]) ∧ w' = w := by
  have hf' : (mixedN n R == 0) = false := by simpa using hf
  generalize hq : mixedN n R = q at *
  go_enter Tryd.func87, Tryd.ntmps87
  go_wp2_with (go_at_call 98; refine (checkMix_any _ _ _ _ _ _ _ _ hn hR).mono ?_; rintro e w ⟨rfl, rfl⟩; rw [hq])
  go_ret2
  exact ⟨rfl, rfl⟩
set_option maxHeartbeats 1600000 in
theorem mix_any (ao bo : Option Addr) (n m ca cb : Nat) (A : List Int) (R : List (List Int)) (w : World) (hA : RowAt w ao n A) (hR : GridAt w bo m R) (hf : mixedN n R = 0) (hc4 : (rowOf R 0).length ≤ 4096) :
   Calls Tryd.prog 87 #[.slice ao n ca, .slice bo m cb] w fun e w' => ∃ g, e = .returned (.tuple #[.slice (some ⟨g, 0, none⟩) (rowOf R 0).length (rowOf R 0).length, .int .i64 0]) ∧ Fresh w' w.heap.size g (rowOf R 0).length (rowOf R 0).length (tab (rowOf R 0).length fun j => dotN A (colOf R n j) n) ∧ Below w.heap.size w w' := by
  obtain ⟨h1, h4, hl, hal⟩ := mixedN_ok hf
  obtain rfl : m = n := by rw [← hl]; exact hR.len.symm
  obtain ⟨b, o, rfl, hc⟩ := hR.cells (by omega)
  obtain ⟨r0, m0, k0, q0, A0⟩ := hc 0 (by omega)
  rw [Nat.add_zero] at q0
  have l0 := A0.row.len
  rw [l0] at hal hc4 ⊢
  have hmk := run_make_row' (P := Tryd.prog) 24 54 (.int .i32 0) 4 Tryd.underlying24 Tryd.infoNum rfl .i64 .i64 m0 (by omega) (by omega)
  have F0 := fresh_made w m0 (by omega)
  have B0 : Below w.heap.size w (w.alloc (.cells (madeCells #[.int .i32 0] m0) 54)) := (Below.refl _ _).alloc (Nat.le_refl _) _
  have HR : Hid (∀ wv, Below w.heap.size w wv → GridAt wv (some ⟨b, o, none⟩) m R) := fun wv hb => hR.below hb
  have HA : Hid (∀ wv, Below w.heap.size w wv → RowAt wv ao m A) := fun wv hb => hA.below hb
  go_enter Tryd.func87, Tryd.ntmps87
  go_wp2_with (go_at_call 98; refine (checkMix_any _ _ _ _ _ _ _ _ (by omega) hR).mono ?_; rintro e w ⟨rfl, rfl⟩; rw [hf])
  clear hmk hf hR hA hc A0 q0 l0
  generalize w.alloc (.cells (madeCells #[.int .i32 0] m0) 54) = w0 at *
  go_loopg [25] m0 (fun r i wr => ∃ j : Nat, j ≤ m0 ∧ r = m0 - j ∧ i = .int .i64 j ∧ Fresh wr w.heap.size w.heap.size m0 m0 (tab m0 fun i => if i < j then dotN A (colOf R m i) m else 0) ∧ Below w.heap.size w wr)
  case atStart => exact ⟨0, by omega, by omega, rfl, by rw [tab_start]; exact F0, B0⟩
  case round =>
    obtain ⟨j, hj, rfl, rfl, F1, B1⟩ := hrel
    clear F0 B0
    by_cases hlj : j < m0
    · have R1 := HR.out _ B1
      have A1 := HA.out _ B1
      obtain ⟨b2, o2, e2, hc⟩ := R1.cells (by omega)
      simp only [Option.some.injEq, Addr.mk.injEq, and_true] at e2
      obtain ⟨rfl, rfl⟩ := e2
      generalize wr = w1 at *
      go_wp2_with fail
      go_loopg [9, 30] m (fun r s i wr => ∃ k : Nat, k ≤ m ∧ r = m - k ∧ i = .int .i64 k ∧ s = .int .i64 (dsum A (colOf R m j) k) ∧ wr = w1)
      case atStart => exact ⟨0, by omega, by omega, rfl, rfl, rfl⟩
      case round =>
        obtain ⟨k, hk, rfl, rfl, rfl, rfl⟩ := hrel
        by_cases hlt : k < m
        · obtain ⟨ro, m1, k1, q1, AR⟩ := hc k hlt
          have l1 := AR.row.len
          rw [hal k hlt] at l1
          subst l1
          obtain ⟨b3, o3, rfl, hc3⟩ := AR.row.cells (by omega)
          obtain ⟨b4, o4, rfl, hc4'⟩ := A1.cells (by omega)
          have q2 := hc3 j hlj
          have q3 := hc4' k hlt
          have ec : el (colOf R m j) k = el (rowOf R k) j := el_tab hlt
          have e1 : Hid (dsum A (colOf R m j) (k + 1) = grow (dsum A (colOf R m j) k) (el A k * el (rowOf R k) j)) := by show _ = _; rw [dsum_succ, ec]
          have b1 := dsum_bd A (colOf R m j) k
          have b2 := A1.small.el k
          have b3 := AR.row.small.el j
          have b5 := prod_bd (A := 2147483648) (B := 2147483648) (a := el A k) (b := el (rowOf R k) j) b2.1 (by omega) b3.1 (by omega)
          generalize dsum A (colOf R m j) k = s at *
          generalize el A k = x at *
          generalize el (rowOf R k) j = y at *
          have w1 : IntKind.i64.wrap x = x := wrap_in (by omega)
          have w2 : IntKind.i64.wrap y = y := wrap_in (by omega)
          have w3 : IntKind.i64.wrap (x * y) = x * y := wrap_in (by omega)
          clear hc hc3 hc4' AR R1 A1 F1 ec HR HA hal
          go_wp2_with (go_at_call 91; refine (grow_any _ _ _ (by omega) (by omega) (by omega) (by omega)).mono ?_; rintro e w' ⟨rfl, rfl⟩)
          go_roundg (m - (k + 1))
          case measure => omega
          case rel => exact ⟨k + 1, by omega, rfl, by go_num, by rw [e1.out], rfl⟩
        · obtain rfl : k = m := by omega
          have b1 := dsum_bd A (colOf R k j) k
          have b2 := rnd_bd (dsum A (colOf R k j) k) 65536 140737488355328 (by omega) (by omega) (by omega)
          have HD : Hid (sat (rnd (dsum A (colOf R k j) k) 65536) = dotN A (colOf R k j) k) := rfl
          have b3 := dotN_bd A (colOf R k j) k
          have f1 := F1.frozen j
          have f2 := F1.cell hlj
          clear hc R1 A1
          go_wp2_with (first | (go_at_call 93; refine (round_any _ _ _ (by omega) (by omega) (by omega) (by omega)).mono ?_; rintro e w' ⟨rfl, n1, rfl⟩) | (go_at_call 35; refine (sat_any _ _ (by omega) (by omega)).mono ?_; rintro e w' ⟨rfl, rfl⟩; rw [HD.out]))
          go_roundg (m0 - (j + 1))
          case measure => omega
          case rel => exact ⟨j + 1, by omega, rfl, by go_num, (F1.drewN n1).step (f := fun i => dotN A (colOf R k i) k) _ hlj rfl (by omega), (below_drewN B1 n1).setCell (Nat.le_refl _) _⟩
    · obtain rfl : j = m0 := by omega
      go_wp2
      go_ret2
      exact ⟨_, rfl, by rw [← tab_done]; exact F1, B1⟩
end Go.Proofs.YtoofbjpekdlfiaaDoor

/- Plain numbers: the steps, powers of two by them, and whole roots; no condition. -/
namespace Go.Proofs.YtoofbjpekdlfiaaDoor
def stp : List Nat := [65536, 64830, 64132, 63441, 62757, 62081, 61413, 60751, 60097, 59449, 58809, 58176, 57549, 56929, 56316, 55709, 55109, 54515, 53928, 53347, 52773, 52204, 51642, 51085, 50535, 49991, 49452, 48920, 48393, 47871, 47356, 46846, 46341, 45842, 45348, 44859, 44376, 43898, 43425, 42958, 42495, 42037, 41584, 41136, 40693, 40255, 39821, 39392, 38968, 38548, 38133, 37722, 37316, 36914, 36516, 36123, 35734, 35349, 34968, 34591, 34219, 33850, 33486, 33125, 32768]
def stepAt (i : Nat) : Nat := stp.getD i 0
theorem step_all : (List.range 64).all (fun i => decide (stepAt (i + 1) < stepAt i ∧ stepAt i ≤ stepAt (i + 1) + 706 ∧ 32768 ≤ stepAt (i + 1) ∧ stepAt i ≤ 65536)) = true := by decide
theorem step_at (i : Nat) (h : i < 64) : stepAt (i + 1) < stepAt i ∧ stepAt i ≤ stepAt (i + 1) + 706 ∧ 32768 ≤ stepAt (i + 1) ∧ stepAt i ≤ 65536 := by
  have := List.all_eq_true.1 step_all i (List.mem_range.2 h)
  simpa using this
/-- What is taken off a step. -/
def offN (y : Nat) : Nat := ((stepAt (y / 1024 % 64) - stepAt (y / 1024 % 64 + 1)) * (y % 1024) + 512) / 1024
def vN (y : Nat) : Nat := stepAt (y / 1024 % 64) - offN y
def powN (y : Nat) : Nat := vN y / 2 ^ (y / 65536)
theorem off_le (y : Nat) : offN y ≤ stepAt (y / 1024 % 64) - stepAt (y / 1024 % 64 + 1) := by
  unfold offN
  have h : (stepAt (y / 1024 % 64) - stepAt (y / 1024 % 64 + 1)) * (y % 1024) ≤ (stepAt (y / 1024 % 64) - stepAt (y / 1024 % 64 + 1)) * 1023 := Nat.mul_le_mul_left _ (by omega)
  have s := step_at (y / 1024 % 64) (Nat.mod_lt _ (by decide))
  omega
theorem vN_bd (y : Nat) : stepAt (y / 1024 % 64 + 1) ≤ vN y ∧ vN y ≤ stepAt (y / 1024 % 64) ∧ 32768 ≤ vN y ∧ vN y ≤ 65536 := by
  have a := off_le y
  have s := step_at (y / 1024 % 64) (Nat.mod_lt _ (by decide))
  unfold vN
  omega
theorem powN_bd (y : Nat) : powN y ≤ 65536 := Nat.le_trans (Nat.div_le_self _ _) (vN_bd y).2.2.2
/-- As the program reckons it, in whole numbers with a sign. -/
theorem prod_int (y : Nat) : ((stepAt (y / 1024 % 64) : Int) - (stepAt (y / 1024 % 64 + 1) : Int)) * ((y : Int) % 1024) = (((stepAt (y / 1024 % 64) - stepAt (y / 1024 % 64 + 1)) * (y % 1024) : Nat) : Int) := by
  have s := step_at (y / 1024 % 64) (Nat.mod_lt _ (by decide))
  rw [Int.natCast_mul, Int.ofNat_sub (by omega)]; rfl
theorem v_int (y : Nat) : (stepAt (y / 1024 % 64) : Int) - (((stepAt (y / 1024 % 64) : Int) - (stepAt (y / 1024 % 64 + 1) : Int)) * ((y : Int) % 1024) + 512) / 1024 = (vN y : Int) := by
  have a := off_le y
  rw [prod_int]
  unfold vN offN at *
  omega
theorem prod_bd2 (y : Nat) : 0 ≤ ((stepAt (y / 1024 % 64) : Int) - (stepAt (y / 1024 % 64 + 1) : Int)) * ((y : Int) % 1024) ∧ ((stepAt (y / 1024 % 64) : Int) - (stepAt (y / 1024 % 64 + 1) : Int)) * ((y : Int) % 1024) ≤ 722238 := by
  have s := step_at (y / 1024 % 64) (Nat.mod_lt _ (by decide))
  rw [prod_int]
  have h : (stepAt (y / 1024 % 64) - stepAt (y / 1024 % 64 + 1)) * (y % 1024) ≤ 706 * 1023 := Nat.mul_le_mul (by omega) (by omega)
  omega
theorem div_div (a j : Nat) : a / 2 ^ j / 2 = a / 2 ^ (j + 1) := by rw [Nat.div_div_eq_div_mul, Nat.pow_succ]
theorem div_zero_up (a j k : Nat) (h : a / 2 ^ j = 0) (hk : j ≤ k) : a / 2 ^ k = 0 := by
  have : a < 2 ^ j := by
    rcases Nat.lt_or_ge a (2 ^ j) with h' | h'
    · exact h'
    · have := Nat.div_pos h' (Nat.pow_pos (by decide)); omega
  exact Nat.div_eq_of_lt (Nat.lt_of_lt_of_le this (Nat.pow_le_pow_right (by decide) hk))
/-- The whole root, bit by bit. -/
def rtFrom : Nat → Nat → Nat → Nat
  | 0, r, _ => r
  | k + 1, r, x => if (r + 2 ^ k) * (r + 2 ^ k) ≤ x then rtFrom k (r + 2 ^ k) x else rtFrom k r x
def rt (x : Nat) : Nat := rtFrom 32 0 x
theorem rtFrom_spec : ∀ (k r x : Nat), r * r ≤ x → x < (r + 2 ^ k) * (r + 2 ^ k) → rtFrom k r x * rtFrom k r x ≤ x ∧ x < (rtFrom k r x + 1) * (rtFrom k r x + 1) ∧ r ≤ rtFrom k r x ∧ rtFrom k r x < r + 2 ^ k
  | 0, r, x, h1, h2 => by simpa [rtFrom] using ⟨h1, h2⟩
  | k + 1, r, x, h1, h2 => by
    have e : r + 2 ^ (k + 1) = r + 2 ^ k + 2 ^ k := by rw [Nat.pow_succ]; omega
    have hp : 0 < 2 ^ k := Nat.pow_pos (by decide)
    unfold rtFrom
    split
    · rename_i h
      have := rtFrom_spec k (r + 2 ^ k) x h (by rw [← e]; exact h2)
      omega
    · rename_i h
      have := rtFrom_spec k r x h1 (by omega)
      omega
theorem rt_spec (x : Nat) (h : x < 18446744073709551616) : rt x * rt x ≤ x ∧ x < (rt x + 1) * (rt x + 1) ∧ rt x < 4294967296 := by
  have := rtFrom_spec 32 0 x (by omega) (by simpa using h)
  unfold rt
  omega
/-- A root is the only one. -/
theorem rt_of (x r : Nat) (h : x < 18446744073709551616) (h1 : r * r ≤ x) (h2 : x < (r + 1) * (r + 1)) : rt x = r := by
  obtain ⟨a, b, -⟩ := rt_spec x h
  have p : rt x < r + 1 := by
    rcases Nat.lt_or_ge (rt x) (r + 1) with p | p
    · exact p
    · have := Nat.mul_le_mul p p; omega
  have q : r < rt x + 1 := by
    rcases Nat.lt_or_ge r (rt x + 1) with q | q
    · exact q
    · have := Nat.mul_le_mul q q; omega
  omega
theorem rt_mono (x y : Nat) (hxy : x ≤ y) (hy : y < 18446744073709551616) : rt x ≤ rt y := by
  obtain ⟨a, b, -⟩ := rt_spec x (by omega)
  obtain ⟨c, d, -⟩ := rt_spec y hy
  rcases Nat.lt_or_ge (rt x) (rt y + 1) with p | p
  · omega
  · have := Nat.mul_le_mul p p; omega
/-- The inverse root. -/
def invN (x : Int) : Int := if x ≤ 0 then 2147483647 else (rt (281474976710656 / x.toNat) : Int)
theorem inv_small (x : Nat) : rt (281474976710656 / x) ≤ 16777216 := by
  have h1 : 281474976710656 / x ≤ 281474976710656 := Nat.div_le_self _ _
  have h2 := rt_mono _ _ h1 (by decide)
  have h3 : rt 281474976710656 = 16777216 := rt_of _ _ (by decide) (by decide) (by decide)
  omega
theorem invN_bd (x : Int) : 0 ≤ invN x ∧ invN x ≤ 2147483647 := by
  unfold invN
  split
  · omega
  · have := inv_small x.toNat; omega
end Go.Proofs.YtoofbjpekdlfiaaDoor

/- What each call of package curve answers, where the table of steps lies in memory as the program's text lays it. -/
namespace Go.Proofs.YtoofbjpekdlfiaaDoor
open Go.ChangeShapes Go.WideShapes Go.ChangeAt Go.RowKit
def tabCells : Array Value := (stp.map fun (n : Nat) => Value.int .i32 (n : Int)).toArray
theorem tab_get (i : Nat) (h : i < 65) : tabCells[i]? = some (.int .i32 (stepAt i : Int)) := by
  have hl : stp.length = 65 := rfl
  simp [tabCells, stepAt, hl, h]
/-- The table of steps lies in block 0. -/
def Tab (w : World) : Prop := ∃ t fr, w.heap[0]? = some (.cells tabCells t fr)
theorem Tab.lt {w : World} (h : Tab w) : 0 < w.heap.size := by
  obtain ⟨t, fr, h⟩ := h
  exact (Array.getElem?_eq_some_iff.1 h).1
theorem Tab.next {w w' : World} (h : Tab w) (hb : Below w.heap.size w w') : Tab w' := by
  obtain ⟨t, fr, h'⟩ := h
  exact ⟨t, fr, (hb.block 0 (Tab.lt ⟨t, fr, h'⟩)).trans h'⟩
theorem Tab.cell {w : World} (h : Tab w) (i : Nat) (hi : i < 65) : w.cell? ⟨0, i, none⟩ = some (.int .i32 (stepAt i : Int)) := by
  obtain ⟨t, fr, h'⟩ := h
  have := tab_get i hi
  simp only [World.cell?, h']
  exact this
theorem shr_v (y v : Nat) (hv : v ≤ 65536) : Op.shift .shr .i64 (v : Int) .i64 ((y : Int) / 65536) = pure (.int .i64 ((v / 2 ^ (y / 65536) : Nat) : Int)) := by
  rw [shift_shr_any _ _ _ _ (by omega)]
  have e : ((y : Int) / 65536).toNat = y / 65536 := by omega
  rw [e]
  congr 2
  show (v : Int) / 2 ^ min (y / 65536) 64 = _
  rcases Nat.lt_or_ge (y / 65536) 64 with h | h
  · rw [Nat.min_eq_left (by omega)]; norm_cast
  · rw [Nat.min_eq_right h]
    have h1 : v / 2 ^ (y / 65536) = 0 := Nat.div_eq_of_lt (Nat.lt_of_le_of_lt hv (Nat.lt_of_lt_of_le (show 65536 < 2 ^ 64 by decide) (Nat.pow_le_pow_right (by decide) h)))
    rw [h1]
    omega
theorem pow_neg (y : Nat) (w : World) (h : Tab w) (hy : y ≤ 2147483648) :
   Calls Tryd.prog 99 #[.int .i32 (-(y : Int))] w fun e w' => e = .returned (.int .i32 (powN y : Int)) ∧ ∃ n, w' = w.drewN n := by
  have hi : y / 1024 % 64 < 64 := Nat.mod_lt _ (by decide)
  have c1 := h.cell (y / 1024 % 64) (by omega)
  have c2 := h.cell (y / 1024 % 64 + 1) (by omega)
  obtain ⟨s1, s2, s3, s4⟩ := step_at _ hi
  have pb := prod_bd2 y
  have sv := shr_v y (vN y) (vN_bd y).2.2.2
  rw [← v_int y] at sv
  have pw : ((vN y / 2 ^ (y / 65536) : Nat) : Int) = (powN y : Int) := rfl
  rw [pw] at sv
  have pbd := powN_bd y
  clear h pw
  go_enter Tryd.func99, Tryd.ntmps99
  go_wp2_with fail
  go_quiet (fail)
  go_wp2
  go_ret
  exact ⟨rfl, _, rfl⟩
theorem pow_pos (x : Int) (w : World) (h : Tab w) (h0 : 0 < x) :
   Calls Tryd.prog 99 #[.int .i32 x] w fun e w' => e = .returned (.int .i32 65536) ∧ ∃ n, w' = w.drewN n := by
  have c1 := h.cell 0 (by omega)
  have c2 := h.cell 1 (by omega)
  have e0 : stepAt 0 = 65536 := rfl
  have e1 : stepAt 1 = 64830 := rfl
  rw [e0] at c1
  rw [e1] at c2
  clear h e0 e1
  go_enter Tryd.func99, Tryd.ntmps99
  go_wp2_with fail
  go_quiet (fail)
  go_wp2
  go_ret
  exact ⟨rfl, _, rfl⟩
theorem or_add (r b k : Nat) (hb : b = 2 ^ k) (hm : r % (2 * b) = 0) : r ||| b = r + b := by
  have e : 2 * b = 2 ^ (k + 1) := by rw [hb, Nat.pow_succ]; omega
  have h := Nat.two_pow_add_eq_or_of_lt (i := k + 1) (b := b) (by rw [← e, hb]; have : 0 < 2 ^ k := Nat.pow_pos (by decide); omega) (r / (2 * b))
  rw [← e] at h
  have d : 2 * b * (r / (2 * b)) = r := by have := Nat.div_add_mod r (2 * b); omega
  rw [d] at h
  exact h.symm
theorem sq_bd (r b x : Nat) (hle : r + 2 * b ≤ 4294967296) (hb : 1 ≤ b) : (0 : Int) ≤ ((r : Int) + (b : Int)) * ((r : Int) + (b : Int)) ∧ ((r : Int) + (b : Int)) * ((r : Int) + (b : Int)) ≤ 18446744073709551615 ∧ (((r : Int) + (b : Int)) * ((r : Int) + (b : Int)) ≤ (x : Int) ↔ (r + b) * (r + b) ≤ x) := by
  have e : ((r : Int) + (b : Int)) * ((r : Int) + (b : Int)) = (((r + b) * (r + b) : Nat) : Int) := by norm_cast
  have h : (r + b) * (r + b) ≤ 4294967295 * 4294967295 := Nat.mul_le_mul (by omega) (by omega)
  rw [e]
  omega
theorem mod_half {r b : Nat} (h : r % (2 * b) = 0) : r % b = 0 ∧ (r + b) % b = 0 := by
  have h1 : r % b = 0 := Nat.mod_eq_zero_of_dvd (Nat.dvd_trans ⟨2, Nat.mul_comm _ _⟩ (Nat.dvd_of_mod_eq_zero h))
  exact ⟨h1, by rw [Nat.add_mod_right]; exact h1⟩
theorem rt_yes (k r x b : Nat) (hb : b = 2 ^ k) (h : rtFrom (k + 1) r x = rt x) (hc : (r + b) * (r + b) ≤ x) : rtFrom k (r + b) x = rt x := by
  subst hb; rw [← h]; simp [rtFrom, hc]
theorem rt_no (k r x b : Nat) (hb : b = 2 ^ k) (h : rtFrom (k + 1) r x = rt x) (hc : ¬ (r + b) * (r + b) ≤ x) : rtFrom k r x = rt x := by
  subst hb; rw [← h]; simp [rtFrom, hc]
theorem root_any (x : Nat) (w : World) :
   Calls Tryd.prog 92 #[.int .u64 (x : Int)] w fun e w' => e = .returned (.int .u64 (rt x : Int)) ∧ w' = w := by
  go_enter Tryd.func92, Tryd.ntmps92
  go_wp2
  go_loop [3, 4] (fun rv bv => ∃ (k r : Nat), k ≤ 32 ∧ rv = .int .u64 (r : Int) ∧ bv = .int .u64 ((2 ^ k / 2 : Nat) : Int) ∧ r % 2 ^ k = 0 ∧ r + 2 ^ k ≤ 4294967296 ∧ rtFrom k r x = rt x) (fun _ bv => (intOf bv).toNat)
  case atStart => exact ⟨32, 0, by decide, rfl, rfl, rfl, by decide, rfl⟩
  case round =>
    obtain ⟨k, r, hk, rfl, rfl, hm, hle, hrt⟩ := hrel
    cases k with
    | zero =>
      have HR : Hid (rtFrom 0 r x = rt x) := hrt
      clear hrt
      go_wp2
      go_ret
      exact ⟨ret_int (by rw [← HR.out]; rfl), rfl⟩
    | succ k =>
      obtain ⟨b, hb⟩ : ∃ b, b = 2 ^ k := ⟨_, rfl⟩
      have e1 : 2 ^ (k + 1) = 2 * b := by rw [hb, Nat.pow_succ]; omega
      have e2 : (2 : Nat) ^ (k + 1) / 2 = b := by omega
      have hb1 : 1 ≤ b := by rw [hb]; exact Nat.pow_pos (by decide)
      rw [e2]
      rw [e1] at hm hle
      have hor : bits BinOp.or IntKind.u64 (r : Int) (b : Int) = (r : Int) + (b : Int) := by
        rw [bits_or_u64_nat r b (by omega) (by omega), or_add r b k hb hm]; omega
      obtain ⟨q1, q2, q3⟩ := sq_bd r b x hle hb1
      have HB : Hid (b = 2 ^ k) := hb
      have HM : Hid (r % (2 * b) = 0) := hm
      by_cases hc : (r + b) * (r + b) ≤ x
      · have HR : Hid (rtFrom k (r + b) x = rt x) := rt_yes k r x b hb hrt hc
        have hc' := q3.2 hc
        clear hrt hb e1 e2 q3 hc hm
        go_wp2
        go_round
        case rel => have hb := HB.out; have hm := (mod_half HM.out).2; exact ⟨k, r + b, by omega, by go_num, by rw [← hb]; go_num, by rw [← hb]; exact hm, by rw [← hb]; omega, HR.out⟩
        case measure => simp [intOf]; omega
      · have HR : Hid (rtFrom k r x = rt x) := rt_no k r x b hb hrt hc
        have hc' : ¬ ((r : Int) + (b : Int)) * ((r : Int) + (b : Int)) ≤ (x : Int) := fun h => hc (q3.1 h)
        clear hrt hb e1 e2 q3 hc hm
        go_wp2
        go_round
        case rel => have hb := HB.out; have hm := (mod_half HM.out).1; exact ⟨k, r, by omega, by go_num, by rw [← hb]; go_num, by rw [← hb]; exact hm, by rw [← hb]; omega, HR.out⟩
        case measure => simp [intOf]; omega
theorem inv_any (x : Int) (w : World) (h1 : -2147483648 ≤ x) (h2 : x ≤ 2147483647) :
   Calls Tryd.prog 80 #[.int .i32 x] w fun e w' => e = .returned (.int .i32 (invN x)) ∧ w' = w := by
  by_cases hx : x ≤ 0
  · have HI : Hid (invN x = 2147483647) := by show _ = _; unfold invN; rw [if_pos hx]
    go_enter Tryd.func80, Tryd.ntmps80
    go_wp2
    go_ret
    exact ⟨by rw [HI.out]; rfl, rfl⟩
  · obtain ⟨n, rfl⟩ : ∃ n : Nat, x = n := ⟨x.toNat, by omega⟩
    have HI : Hid (invN (n : Int) = (rt (281474976710656 / n) : Int)) := by show _ = _; unfold invN; rw [if_neg hx]; rfl
    have hb := inv_small n
    go_enter Tryd.func80, Tryd.ntmps80
    go_wp2_with (go_at_call 92; refine (root_any (281474976710656 / n) _).mono ?_; rintro e w' ⟨rfl, rfl⟩)
    go_ret
    exact ⟨by rw [HI.out]; rfl, rfl⟩
end Go.Proofs.YtoofbjpekdlfiaaDoor

/- Plain numbers: powers never fall and halve with each step, inverses never rise, squares have their roots; no condition. -/
namespace Go.Proofs.YtoofbjpekdlfiaaDoor
def powI (x : Int) : Int := (powN (-x).toNat : Int)
theorem powI_bd (x : Int) : 0 ≤ powI x ∧ powI x ≤ 65536 := by have := powN_bd (-x).toNat; unfold powI; omega
theorem powI_pos (x : Int) (h : 0 < x) : powI x = 65536 := by unfold powI; rw [show (-x).toNat = 0 by omega]; rfl
theorem powI_neg (y : Nat) : powI (-(y : Int)) = (powN y : Int) := by unfold powI; rw [show (- -(y : Int)).toNat = y by omega]
theorem v_zero (y : Nat) (h : y % 1024 = 0) : vN y = stepAt (y / 1024 % 64) := by
  unfold vN offN; rw [h, Nat.mul_zero]; rfl
theorem pow_step (y : Nat) : powN (y + 1) ≤ powN y := by
  have hv := vN_bd y
  by_cases h1 : y % 1024 < 1023
  · have e1 : (y + 1) / 1024 = y / 1024 := by omega
    have e2 : (y + 1) / 65536 = y / 65536 := by omega
    have e3 : (y + 1) % 1024 = y % 1024 + 1 := by omega
    unfold powN
    rw [e2]
    refine Nat.div_le_div_right ?_
    have s := step_at (y / 1024 % 64) (Nat.mod_lt _ (by decide))
    unfold vN offN
    rw [e1, e3, Nat.mul_add]
    omega
  · by_cases h2 : y / 1024 % 64 < 63
    · have e1 : (y + 1) / 1024 % 64 = y / 1024 % 64 + 1 := by omega
      have e2 : (y + 1) / 65536 = y / 65536 := by omega
      unfold powN
      rw [e2]
      refine Nat.div_le_div_right ?_
      rw [v_zero (y + 1) (by omega), e1]
      exact hv.1
    · have e1 : (y + 1) / 1024 % 64 = 0 := by omega
      have e2 : (y + 1) / 65536 = y / 65536 + 1 := by omega
      unfold powN
      rw [v_zero (y + 1) (by omega), e1, e2, Nat.pow_succ, Nat.mul_comm, ← Nat.div_div_eq_div_mul]
      exact Nat.div_le_div_right hv.2.2.1
theorem pow_anti (a : Nat) : ∀ n, powN (a + n) ≤ powN a
  | 0 => Nat.le_refl _
  | n + 1 => Nat.le_trans (pow_step (a + n)) (pow_anti a n)
theorem powI_mono (x y : Int) (h : x ≤ y) : powI x ≤ powI y := by
  obtain ⟨n, hn⟩ : ∃ n : Nat, (-x).toNat = (-y).toNat + n := ⟨(-x).toNat - (-y).toNat, by omega⟩
  unfold powI
  rw [hn]
  have := pow_anti (-y).toNat n
  omega
theorem pow_half (y : Nat) : powN (y + 65536) = powN y / 2 := by
  have e1 : (y + 65536) / 1024 % 64 = y / 1024 % 64 := by omega
  have e2 : (y + 65536) % 1024 = y % 1024 := by omega
  have e3 : (y + 65536) / 65536 = y / 65536 + 1 := by omega
  unfold powN vN offN
  rw [e1, e2, e3, div_div]
theorem powI_half (x : Int) (h : x ≤ 0) : powI (x - 65536) = powI x / 2 := by
  have e : (-(x - 65536)).toNat = (-x).toNat + 65536 := by omega
  unfold powI
  rw [e, pow_half]
  omega
theorem invN_anti (x y : Int) (h : x ≤ y) : invN y ≤ invN x := by
  unfold invN
  by_cases hx : x ≤ 0
  · rw [if_pos hx]; have := invN_bd y; unfold invN at this; omega
  · rw [if_neg hx, if_neg (by omega)]
    have h1 : 281474976710656 / y.toNat ≤ 281474976710656 / x.toNat := Nat.div_le_div_left (by omega) (by omega)
    have h2 := rt_mono _ _ h1 (Nat.lt_of_le_of_lt (Nat.div_le_self _ _) (by decide))
    omega
theorem rt_sq (z : Nat) (h : z ≤ 4294967295) : rt (z * z) = z := by
  have h1 : z * z ≤ 4294967295 * 4294967295 := Nat.mul_le_mul h h
  exact rt_of _ _ (by omega) (Nat.le_refl _) (Nat.mul_lt_mul'' (by omega) (by omega))
theorem sq_succ (z : Nat) : (z + 1) * (z + 1) = z * z + 2 * z + 1 := by rw [Nat.add_mul, Nat.mul_add]; omega
theorem rt_sq_pred (z : Nat) (h : z ≤ 4294967295) (h0 : 0 < z) : rt (z * z - 1) = z - 1 := by
  have h1 : z * z ≤ 4294967295 * 4294967295 := Nat.mul_le_mul h h
  obtain ⟨m, rfl⟩ : ∃ m, z = m + 1 := ⟨z - 1, by omega⟩
  have e := sq_succ m
  refine rt_of _ _ (by omega) ?_ ?_
  · rw [show m + 1 - 1 = m by omega]; omega
  · rw [show m + 1 - 1 = m by omega]; omega
theorem rt_sq_top (z : Nat) (h : z ≤ 4294967295) : rt (z * z + 2 * z) = z := by
  have h1 : z * z ≤ 4294967295 * 4294967295 := Nat.mul_le_mul h h
  exact rt_of _ _ (by omega) (by omega) (by rw [sq_succ]; omega)
/-- A number times the square of its inverse root. -/
theorem inv_near (x : Nat) (h1 : 256 ≤ x) (h2 : x ≤ 16777216) : x * rt (281474976710656 / x) * rt (281474976710656 / x) ≤ 281474976710656 ∧
    281474976710656 < x * (rt (281474976710656 / x) + 1) * (rt (281474976710656 / x) + 1) ∧ 1 ≤ rt (281474976710656 / x) ∧ rt (281474976710656 / x) ≤ 1048576 := by
  obtain ⟨a, b, -⟩ := rt_spec (281474976710656 / x) (Nat.lt_of_le_of_lt (Nat.div_le_self _ _) (by decide))
  have d1 : 281474976710656 / x ≤ 1099511627776 := by
    have := Nat.div_le_div_left h1 (by decide) (a := 281474976710656); omega
  have d2 : 16777216 ≤ 281474976710656 / x := (Nat.le_div_iff_mul_le (by omega)).2 (by omega)
  have m1 := rt_mono _ _ d1 (by decide)
  have m2 := rt_mono _ _ d2 (Nat.lt_of_le_of_lt (Nat.div_le_self _ _) (by decide))
  have v1 : rt 1099511627776 = 1048576 := rt_of _ _ (by decide) (by decide) (by decide)
  have v2 : rt 16777216 = 4096 := rt_of _ _ (by decide) (by decide) (by decide)
  generalize rt (281474976710656 / x) = y at *
  refine ⟨?_, ?_, by omega, by omega⟩
  · rw [Nat.mul_assoc]
    exact Nat.le_trans (Nat.mul_le_mul_left x a) (Nat.mul_div_le _ _)
  · rw [Nat.mul_assoc]
    exact (Nat.div_lt_iff_lt_mul (by omega)).1 b |> fun h => by rw [Nat.mul_comm]; exact h
theorem cast_near (n y : Nat) : (n : Int) * (y : Int) = ((n * y : Nat) : Int) ∧ (n : Int) * (y : Int) * (y : Int) = ((n * y * y : Nat) : Int) ∧
    (n : Int) * ((y : Int) + 1) = ((n * (y + 1) : Nat) : Int) ∧ (n : Int) * ((y : Int) + 1) * ((y : Int) + 1) = ((n * (y + 1) * (y + 1) : Nat) : Int) := by
  refine ⟨?_, ?_, ?_, ?_⟩ <;> norm_cast
theorem cast_sq (r : Nat) : (r : Int) * (r : Int) = ((r * r : Nat) : Int) ∧ ((r : Int) + 1) * ((r : Int) + 1) = (((r + 1) * (r + 1) : Nat) : Int) := by
  refine ⟨?_, ?_⟩ <;> norm_cast
theorem inv_int (x : Nat) (h1 : 256 ≤ x) (h2 : x ≤ 16777216) : invN (x : Int) = (rt (281474976710656 / x) : Int) := by
  unfold invN; rw [if_neg (by omega)]; rfl
end Go.Proofs.YtoofbjpekdlfiaaDoor

/- Powers of every number, where the table of steps lies as the program's text lays it. -/
namespace Go.Proofs.YtoofbjpekdlfiaaDoor
open Go.ChangeShapes Go.WideShapes Go.ChangeAt Go.RowKit
theorem pow_any (x : Int) (w : World) (h : Tab w) (h1 : -2147483648 ≤ x) (h2 : x ≤ 2147483647) :
   Calls Tryd.prog 99 #[.int .i32 x] w fun e w' => e = .returned (.int .i32 (powI x)) ∧ ∃ n, w' = w.drewN n := by
  by_cases hx : 0 < x
  · rw [powI_pos x hx]; exact pow_pos x w h hx
  · obtain ⟨y, rfl⟩ : ∃ y : Nat, x = -(y : Int) := ⟨(-x).toNat, by omega⟩
    rw [powI_neg]; exact pow_neg y w h (by omega)
end Go.Proofs.YtoofbjpekdlfiaaDoor

/- Plain numbers: means of squares, norms, weights by powers, and mixes; no condition. -/
namespace Go.Proofs.YtoofbjpekdlfiaaDoor
def sumTo (f : Nat → Int) : Nat → Int
  | 0 => 0
  | k + 1 => sumTo f k + f k
theorem sumTo_zero (f : Nat → Int) : sumTo f 0 = 0 := rfl
theorem sumTo_succ (f : Nat → Int) (k : Nat) : sumTo f (k + 1) = sumTo f k + f k := rfl
theorem sumTo_congr {f g : Nat → Int} {n : Nat} (h : ∀ j, j < n → f j = g j) : sumTo f n = sumTo g n := by
  induction n with
  | zero => rfl
  | succ n ih => rw [sumTo_succ, sumTo_succ, ih (fun j hj => h j (by omega)), h n (by omega)]
theorem sumTo_bd {f : Nat → Int} {B : Int} (hB : ∀ j, 0 ≤ f j ∧ f j ≤ B) (k : Nat) : 0 ≤ sumTo f k ∧ sumTo f k ≤ B * k := by
  induction k with
  | zero => rw [sumTo_zero]; omega
  | succ k ih =>
    rw [sumTo_succ]
    have := hB k
    have e : B * ((k + 1 : Nat) : Int) = B * k + B := by rw [Int.natCast_succ, Int.mul_add, Int.mul_one]
    omega
theorem sumTo_ge {f : Nat → Int} (h0 : ∀ j, 0 ≤ f j) {j n : Nat} (hj : j < n) : f j ≤ sumTo f n := by
  have nn : ∀ k, 0 ≤ sumTo f k := fun k => by
    induction k with
    | zero => rw [sumTo_zero]; omega
    | succ k ih => rw [sumTo_succ]; have := h0 k; omega
  induction n with
  | zero => omega
  | succ n ih =>
    rw [sumTo_succ]
    rcases Nat.lt_or_ge j n with h | h
    · have := ih h; have := h0 n; omega
    · obtain rfl : j = n := by omega
      have := nn j; omega
/-- Parts of a whole, each brought down. -/
theorem parts_low {p : Nat → Int} {S : Int} (hS : 1 ≤ S) (k : Nat) : S * sumTo (fun j => 65536 * p j / S) k ≤ 65536 * sumTo p k ∧ 65536 * sumTo p k - (S - 1) * k ≤ S * sumTo (fun j => 65536 * p j / S) k := by
  induction k with
  | zero => simp [sumTo_zero]
  | succ k ih =>
    rw [sumTo_succ, sumTo_succ, Int.mul_add, Int.mul_add, Int.natCast_succ, Int.mul_add]
    have h1 := Int.mul_ediv_add_emod (65536 * p k) S
    have h2 := Int.emod_nonneg (65536 * p k) (show S ≠ 0 by omega)
    have h3 := Int.emod_lt_of_pos (65536 * p k) (show 0 < S by omega)
    omega
theorem parts_sum {p : Nat → Int} {n : Nat} (hn : 1 ≤ n) (hS : 1 ≤ sumTo p n) : sumTo (fun j => 65536 * p j / sumTo p n) n ≤ 65536 ∧ 65536 - (n : Int) < sumTo (fun j => 65536 * p j / sumTo p n) n := by
  obtain ⟨h1, h2⟩ := parts_low (p := p) hS n
  generalize sumTo (fun j => 65536 * p j / sumTo p n) n = Q at *
  generalize sumTo p n = S at *
  constructor
  · have : S * Q ≤ S * 65536 := by rw [Int.mul_comm S 65536]; exact h1
    exact Int.le_of_mul_le_mul_left this (by omega)
  · have e : S * (65536 - n) < S * Q := by
      rw [Int.mul_sub]
      have e2 : (S - 1) * (n : Int) = S * n - n := by rw [Int.sub_mul, Int.one_mul]
      omega
    exact Int.lt_of_mul_lt_mul_left e (by omega)
theorem sumTo_lin {f g : Nat → Int} {c d e : Int} {n : Nat} (h : ∀ j, j < n → c * f j ≤ d * g j + e) : c * sumTo f n ≤ d * sumTo g n + e * n := by
  induction n with
  | zero => simp [sumTo_zero]
  | succ n ih =>
    have i := ih (fun j hj => h j (by omega))
    have k := h n (by omega)
    rw [sumTo_succ, sumTo_succ, Int.mul_add, Int.mul_add, Int.natCast_succ, Int.mul_add]
    omega
theorem sumTo_mul (f : Nat → Int) (c : Int) (n : Nat) : sumTo (fun j => f j * c) n = sumTo f n * c := by
  induction n with
  | zero => simp [sumTo_zero]
  | succ n ih => rw [sumTo_succ, sumTo_succ, Int.add_mul, ih]
theorem sq_nn (a : Int) : 0 ≤ a * a := by
  rcases Int.le_total 0 a with h | h
  · exact Int.mul_nonneg h h
  · have := Int.mul_nonneg (show 0 ≤ -a by omega) (show 0 ≤ -a by omega); rwa [Int.neg_mul_neg] at this
/-- A rounded number's square, against the square ahead of rounding. -/
theorem sq_near (a y : Int) (h1 : -32768 ≤ 65536 * y - a) (h2 : 65536 * y - a ≤ 32768) :
    562949953421312 * (y * y) ≤ 131073 * (a * a) + 18446884811197906944 ∧ 131071 * (a * a) + -18446744073709551616 ≤ 562949953421312 * (y * y) := by
  obtain ⟨d, hd⟩ : ∃ d, 65536 * y = a + d := ⟨65536 * y - a, by omega⟩
  have e1 : (65536 * y) * (65536 * y) = (a + d) * (a + d) := by rw [hd]
  have q1 := sq_nn (a - 4294967296)
  have q2 := sq_nn (a + 4294967296)
  have hd1 : -32768 ≤ d := by omega
  have hd2 : d ≤ 32768 := by omega
  have q3 : d * d ≤ 1073741824 := by
    have := Int.mul_nonneg (show 0 ≤ 32768 - d by omega) (show 0 ≤ 32768 + d by omega)
    grind
  have q4 : 0 ≤ d * d := sq_nn d
  have q5 : 262144 * (a * d) ≤ a * a + 18446744073709551616 := by
    rcases Int.le_total 0 a with h | h
    · have := Int.mul_le_mul_of_nonneg_left hd2 h
      grind
    · have := Int.mul_le_mul_of_nonpos_left h hd1
      grind
  have q6 : -(a * a + 18446744073709551616) ≤ 262144 * (a * d) := by
    rcases Int.le_total 0 a with h | h
    · have := Int.mul_le_mul_of_nonneg_left hd1 h
      grind
    · have := Int.mul_le_mul_of_nonpos_left h hd2
      grind
  have e2 : 4294967296 * (y * y) = a * a + 2 * (a * d) + d * d := by grind
  clear e1 q1 q2
  generalize a * a = A at *
  generalize y * y = Y at *
  generalize a * d = D at *
  generalize d * d = E at *
  constructor <;> omega
/-- The mean of squares behind a norm is near to one. x: the numbers, y: rounded products with k; M: their mean of squares ahead. -/
theorem norm_size (x y : Nat → Int) (n : Nat) (k M : Int) (hn : 1 ≤ n) (hM : M = sumTo (fun j => x j * x j) n / (n * 65536)) (h4 : 4096 ≤ M) (hk : 20000 ≤ k)
    (k1 : (M + 1) * (k * k) ≤ 281474976710656) (k2 : 281474976710656 ≤ (M + 1) * ((k + 1) * (k + 1)))
    (hy : ∀ j, j < n → -32768 ≤ 65536 * y j - x j * k ∧ 65536 * y j - x j * k ≤ 32768) :
    64000 < sumTo (fun j => y j * y j) n / (n * 65536) ∧ sumTo (fun j => y j * y j) n / (n * 65536) < 67000 := by
  have u := sumTo_lin (f := fun j => y j * y j) (g := fun j => (x j * k) * (x j * k)) (n := n) (c := 562949953421312) (d := 131073) (e := 18446884811197906944) (fun j hj => (sq_near _ _ (hy j hj).1 (hy j hj).2).1)
  have l := sumTo_lin (f := fun j => (x j * k) * (x j * k)) (g := fun j => y j * y j) (n := n) (c := 131071) (d := 562949953421312) (e := 18446744073709551616) (fun j hj => by have := (sq_near _ _ (hy j hj).1 (hy j hj).2).2; show 131071 * (x j * k * (x j * k)) ≤ 562949953421312 * (y j * y j) + _; omega)
  have e : (fun j => (x j * k) * (x j * k)) = fun j => (x j * x j) * (k * k) := by funext j; grind
  rw [e, sumTo_mul] at u l
  generalize sumTo (fun j => x j * x j) n = S at *
  generalize sumTo (fun j => y j * y j) n = T at *
  have hN : (1 : Int) ≤ (n : Int) := by omega
  generalize (n : Int) = N at *
  have s1 : (N * 65536) * M ≤ S := by rw [hM]; exact Int.mul_ediv_self_le (by omega)
  have s2 : S < (N * 65536) * (M + 1) := by rw [hM, Int.mul_add, Int.mul_one]; exact Int.lt_mul_ediv_self_add (by omega)
  clear hM hy e
  have hK : 0 ≤ k * k := sq_nn k
  have p1 : S * (k * k) ≤ N * 65536 * (M + 1) * (k * k) := Int.mul_le_mul_of_nonneg_right (by omega) hK
  have p2 : N * 65536 * M * (k * k) ≤ S * (k * k) := Int.mul_le_mul_of_nonneg_right s1 hK
  have p3 : N * 65536 * (M + 1) * (k * k) ≤ N * 18446744073709551616 := by
    have := Int.mul_le_mul_of_nonneg_left k1 (show 0 ≤ N * 65536 by omega)
    grind
  have r1 : 5000 * ((k + 1) * (k + 1)) ≤ 5001 * (k * k) := by
    have := Int.mul_le_mul_of_nonneg_right hk (show 0 ≤ k by omega)
    grind
  have r2 : 4096 * (M + 1) ≤ 4097 * M := by omega
  have r3 : 281474976710656 * 20480000 ≤ 20489097 * (M * (k * k)) := by
    have a1 := Int.mul_le_mul_of_nonneg_left r1 (show 0 ≤ M + 1 by omega)
    have a2 := Int.mul_le_mul_of_nonneg_right r2 hK
    grind
  have r4 : N * 65536 * 281350000000000 ≤ N * 65536 * M * (k * k) := by
    rw [Int.mul_assoc _ M]
    exact Int.mul_le_mul_of_nonneg_left (by omega) (by omega)
  have hD : 0 < N * 65536 := by omega
  generalize N * 65536 * (M + 1) * (k * k) = P at *
  generalize N * 65536 * M * (k * k) = R at *
  generalize S * (k * k) = X at *
  constructor
  · have : 64001 ≤ T / (N * 65536) := (Int.le_ediv_iff_mul_le hD).2 (by omega)
    omega
  · exact (Int.ediv_lt_iff_lt_mul hD).2 (by omega)
/-- The greatest of the first k numbers (of none: the first). -/
def maxTo (A : List Int) : Nat → Int
  | 0 => el A 0
  | k + 1 => if maxTo A k < el A k then el A k else maxTo A k
theorem maxTo_one (A : List Int) : maxTo A 1 = el A 0 := by unfold maxTo maxTo; omega
theorem maxTo_bd {A : List Int} (h : Small A) (k : Nat) : -2147483648 ≤ maxTo A k ∧ maxTo A k ≤ 2147483647 := by
  induction k with
  | zero => exact h.el 0
  | succ k ih => unfold maxTo; have := h.el k; split <;> omega
theorem maxTo_ge (A : List Int) {j k : Nat} (h : j < k) : el A j ≤ maxTo A k := by
  induction k with
  | zero => omega
  | succ k ih =>
    unfold maxTo
    rcases Nat.lt_or_ge j k with h1 | h1
    · have := ih h1; split <;> omega
    · obtain rfl : j = k := by omega
      split <;> omega
theorem maxTo_at (A : List Int) {k : Nat} (h : 1 ≤ k) : ∃ j, j < k ∧ el A j = maxTo A k := by
  induction k with
  | zero => omega
  | succ k ih =>
    unfold maxTo
    split
    · exact ⟨k, by omega, rfl⟩
    · rcases Nat.eq_zero_or_pos k with h0 | h0
      · subst h0; exact ⟨0, by omega, rfl⟩
      · obtain ⟨j, hj, e⟩ := ih h0; exact ⟨j, by omega, e⟩
theorem amax_max (A : List Int) {k : Nat} (h : 1 ≤ k) : 0 ≤ amax A k ∧ el A (amax A k).toNat = maxTo A k := by
  induction k with
  | zero => omega
  | succ k ih =>
    rcases Nat.eq_zero_or_pos k with h0 | h0
    · subst h0
      rw [maxTo_one]
      have e : amax A 1 = 0 := by unfold amax; rw [if_pos (Or.inl (by show (-1 : Int) < 0; omega))]; rfl
      rw [e]; exact ⟨by omega, rfl⟩
    · obtain ⟨i1, i2⟩ := ih h0
      unfold amax maxTo
      by_cases hc : el A (amax A k).toNat < el A k
      · rw [if_pos (Or.inr hc), if_pos (by omega)]; exact ⟨by omega, by rw [Int.toNat_natCast]⟩
      · rw [if_neg (by omega), if_neg (by omega)]; exact ⟨i1, i2⟩
theorem maxTo_shift {A B : List Int} {c : Int} {n : Nat} (hn : 1 ≤ n) (h : ∀ j, j < n → el B j = el A j + c) : ∀ {k}, k ≤ n → maxTo B k = maxTo A k + c
  | 0, _ => h 0 (by omega)
  | k + 1, hk => by
    unfold maxTo
    rw [maxTo_shift hn h (by omega : k ≤ n), h k (by omega)]
    split <;> split <;> omega
theorem maxTo_same {A : List Int} {x : Int} {n : Nat} (hn : 1 ≤ n) (h : ∀ j, j < n → el A j = x) : ∀ {k}, k ≤ n → maxTo A k = x
  | 0, _ => h 0 (by omega)
  | k + 1, hk => by unfold maxTo; rw [maxTo_same hn h (by omega : k ≤ n), h k (by omega)]; split <;> rfl
/-- The power of number j, below the greatest. -/
def powW (A : List Int) (n j : Nat) : Int := powI (sat (el A j - maxTo A n))
theorem powW_bd (A : List Int) (n j : Nat) : 0 ≤ powW A n j ∧ powW A n j ≤ 65536 := powI_bd _
theorem powI_zero : powI 0 = 65536 := by decide
theorem powW_top {A : List Int} {n j : Nat} (h : el A j = maxTo A n) : powW A n j = 65536 := by
  unfold powW; rw [h, Int.sub_self, show sat 0 = 0 by decide]; exact powI_zero
/-- The sum of the first k powers. -/
def psum (A : List Int) (n k : Nat) : Int := sumTo (powW A n) k
theorem psum_zero (A : List Int) (n : Nat) : psum A n 0 = 0 := rfl
theorem psum_succ (A : List Int) (n k : Nat) : psum A n (k + 1) = psum A n k + powW A n k := rfl
theorem psum_bd (A : List Int) (n k : Nat) : 0 ≤ psum A n k ∧ psum A n k ≤ 65536 * k := sumTo_bd (powW_bd A n) k
theorem psum_top (A : List Int) {n : Nat} (h : 1 ≤ n) : 65536 ≤ psum A n n := by
  obtain ⟨j, hj, e⟩ := maxTo_at A h
  have := sumTo_ge (f := powW A n) (fun j => (powW_bd A n j).1) hj
  rw [powW_top e] at this
  exact this
/-- The weight of number j. -/
def wgt (A : List Int) (n j : Nat) : Int := 65536 * powW A n j / psum A n n
theorem wgt_bd (A : List Int) {n j : Nat} (hj : j < n) : 0 ≤ wgt A n j ∧ wgt A n j ≤ 65536 := by
  have h1 := powW_bd A n j
  have h2 := psum_top A (n := n) (by omega)
  have h3 : powW A n j ≤ psum A n n := sumTo_ge (f := powW A n) (fun j => (powW_bd A n j).1) hj
  unfold wgt
  refine ⟨Int.ediv_nonneg (by omega) (by omega), ?_⟩
  have : 65536 * powW A n j / psum A n n < 65537 := (Int.ediv_lt_iff_lt_mul (by omega)).2 (by omega)
  omega
theorem wgt_sum (A : List Int) {n : Nat} (h : 1 ≤ n) : sumTo (wgt A n) n ≤ 65536 ∧ 65536 - (n : Int) < sumTo (wgt A n) n := by
  have := psum_top A h
  exact parts_sum (p := powW A n) h (by show 1 ≤ psum A n n; omega)
theorem wgt_mono (A : List Int) {n i j : Nat} (hn : 1 ≤ n) (h : el A i ≤ el A j) : wgt A n i ≤ wgt A n j := by
  have h2 := psum_top A hn
  have h3 : powW A n i ≤ powW A n j := powI_mono _ _ (by unfold sat; omega)
  unfold wgt
  exact Int.ediv_le_ediv (by omega) (by omega)
theorem wgt_shift {A B : List Int} {c : Int} {n : Nat} (hn : 1 ≤ n) (h : ∀ j, j < n → el B j = el A j + c) {j : Nat} (hj : j < n) : wgt B n j = wgt A n j := by
  have e : ∀ j, j < n → powW B n j = powW A n j := fun j hj => by
    unfold powW; rw [maxTo_shift hn h (Nat.le_refl n), h j hj]; congr 2; omega
  unfold wgt psum
  rw [e j hj, sumTo_congr e]
theorem wgt_same {A : List Int} {x : Int} {n : Nat} (hn : 1 ≤ n) (h : ∀ j, j < n → el A j = x) {j : Nat} (hj : j < n) : wgt A n j = 65536 / n := by
  have e : ∀ j, j < n → powW A n j = 65536 := fun j hj => powW_top (by rw [h j hj, maxTo_same hn h (Nat.le_refl n)])
  have s : ∀ k, k ≤ n → psum A n k = 65536 * k := fun k hk => by
    induction k with
    | zero => rw [psum_zero]; omega
    | succ k ih => rw [psum_succ, ih (by omega), e k (by omega)]; omega
  unfold wgt
  rw [e j hj, s n (Nat.le_refl n)]
  exact Int.mul_ediv_mul_of_pos _ _ (by omega)
/-- The mean of squares. -/
def meanN (A : List Int) (n : Nat) : Int := sat (dsum A A n / n / 65536)
theorem meanN_bd (A : List Int) (n : Nat) : -2147483647 ≤ meanN A n ∧ meanN A n ≤ 2147483647 := sat_bd _
theorem dsum_sq_nn (A : List Int) (k : Nat) : 0 ≤ dsum A A k := by
  induction k with
  | zero => rw [dsum_zero]; omega
  | succ k ih => rw [dsum_succ]; have := sq_nn (el A k); unfold grow; split <;> (try split) <;> omega
theorem meanN_nn (A : List Int) (n : Nat) : 0 ≤ meanN A n := by
  have h1 : 0 ≤ dsum A A n / n := Int.ediv_nonneg (dsum_sq_nn A n) (by omega)
  have h2 : 0 ≤ dsum A A n / n / 65536 := Int.ediv_nonneg h1 (by omega)
  unfold meanN sat; omega
/-- By what a norm multiplies. -/
def normK (A : List Int) (n : Nat) : Int := invN (sat (meanN A n + 1))
theorem normK_bd (A : List Int) (n : Nat) : 0 ≤ normK A n ∧ normK A n ≤ 2147483647 := invN_bd _
/-- A norm at place j. -/
def normN (A G : List Int) (n j : Nat) : Int := mulN (mulN (el A j) (normK A n)) (el G j)
theorem normN_bd (A G : List Int) (n j : Nat) : -2147483647 ≤ normN A G n j ∧ normN A G n j ≤ 2147483647 := mulN_bd _ _
end Go.Proofs.YtoofbjpekdlfiaaDoor

/- A region that draws its order, all of whose operations are quiet in a class of worlds but the last one, which waits for all others (a store): one walk in the order of the text serves every order. -/
namespace Go.Proofs.YtoofbjpekdlfiaaDoor
open Go.ChangeShapes Go.WideShapes Go.ChangeAt Go.RowKit
/-- The last operation, made to do nothing. -/
def mute (z : Oper) : Oper := { z with op := .move (.const (.bool false)), dst := none }
section
variable {P : Program} {l : List Oper} {z : Oper} {C : World → Prop}
theorem last_at (y : Oper) : (l ++ [y]).toArray[l.length]? = some y := by simp
theorem front_at (y : Oper) {i : Nat} (h : i < l.length) : (l ++ [y]).toArray[i]? = l[i]? := by simp [List.getElem?_append_left h]
theorem ready_mute (md : Region.Mode) (listed : Array Bool) : Region.ready md (l ++ [mute z]).toArray listed = Region.ready md (l ++ [z]).toArray listed := by
  unfold Region.ready
  have hs : (l ++ [mute z]).toArray.size = (l ++ [z]).toArray.size := by simp
  rw [hs]
  refine List.filter_congr fun i hi => ?_
  have hi' : i < l.length + 1 := by simpa using hi
  by_cases h : i < l.length
  · rw [front_at _ h, front_at _ h]
  · obtain rfl : i = l.length := by omega
    rw [last_at, last_at]
    rfl
theorem yielded_mute (hd : z.dst = none) (t : Array Value) : yielded (l ++ [mute z]).toArray t = yielded (l ++ [z]).toArray t := by
  funext j
  unfold yielded
  by_cases h : j < l.length
  · rw [front_at _ h, front_at _ h]
  · by_cases h2 : j = l.length
    · subst h2
      rw [last_at, last_at]
      simp [mute, hd]
    · have e1 : (l ++ [mute z]).toArray[j]? = none := Array.getElem?_eq_none (by simp; omega)
      have e2 : (l ++ [z]).toArray[j]? = none := Array.getElem?_eq_none (by simp; omega)
      rw [e1, e2]
/-- Every edge leads back. -/
def backB (L : List Oper) : Bool := (List.range L.length).all fun k => ((L[k]?).map (·.after.all fun e => !Region.binds .any e || decide (e.on < k))).getD true
/-- The last waits for all. -/
def waitsB (z : Oper) (n : Nat) : Bool := (List.range n).all fun j => z.after.any fun e => Region.binds .any e && (e.on == j)
theorem some_ready {L : List Oper} (hb : backB L = true) {listed : Array Bool} (hs : listed.size = L.length) {n : Nat} (hn : n < L.length) (hu : listed.getD n true = false) : Region.ready .any L.toArray listed ≠ [] := by
  obtain ⟨i, hi, hmin⟩ := exists_least (p := fun i => i < L.length ∧ listed.getD i true = false) ⟨n, hn, hu⟩
  have hm : i ∈ Region.ready .any L.toArray listed := by
    refine mem_ready.2 ⟨hi.2, L[i]'hi.1, by simp [hi.1], fun e he hbind => ?_⟩
    have h1 := List.all_eq_true.1 hb i (List.mem_range.2 hi.1)
    rw [List.getElem?_eq_getElem hi.1] at h1
    simp only [Option.map_some, Option.getD_some] at h1
    have h2 := (Array.all_eq_true'.1 h1) e he
    simp only [hbind, Bool.not_true, Bool.false_or, decide_eq_true_eq] at h2
    by_cases h3 : listed.getD e.on false = true
    · exact h3
    · have h4 : listed.getD e.on true = false := by
        have hlt : e.on < listed.size := by omega
        simp only [Array.getD, hlt, dif_pos] at h3 ⊢
        simpa using h3
      have := hmin e.on ⟨by omega, h4⟩
      omega
  intro h0
  rw [h0] at hm
  cases hm
theorem all_listed (hw : waitsB z l.length = true) {listed : Array Bool} (hs : listed.size = l.length + 1) (hr : l.length ∈ Region.ready .any (l ++ [z]).toArray listed) : Region.ready .any (l ++ [z]).toArray (listed.setIfInBounds l.length true) = [] := by
  obtain ⟨_, o, ho, hall⟩ := mem_ready.1 hr
  rw [last_at] at ho
  obtain rfl := Option.some.inj ho
  apply List.eq_nil_iff_forall_not_mem.2
  intro j hj
  obtain ⟨h1, o', ho', _⟩ := mem_ready.1 hj
  by_cases hjl : j < l.length
  · have h2 := List.all_eq_true.1 hw j (List.mem_range.2 hjl)
    obtain ⟨e, he, h3⟩ := Array.any_eq_true'.1 h2
    simp only [Bool.and_eq_true, beq_iff_eq] at h3
    have h4 := hall e he h3.1
    rw [h3.2] at h4
    have hlt : j < listed.size := by omega
    rw [getD_set_ne true (show l.length ≠ j by omega)] at h1
    simp only [Array.getD, hlt, dif_pos] at h1 h4
    rw [h4] at h1
    cases h1
  · have hsz : j < (l ++ [z]).toArray.size := (Array.getElem?_eq_some_iff.1 ho').1
    obtain rfl : j = l.length := by simp at hsz; omega
    have hlt : l.length < listed.size := by omega
    simp [Array.getD, hlt] at h1
theorem wpAny_last {O : Array Oper} {Q : Exit → Act → World → Prop} (hg : z.guard = none) (hd : z.dst = none) (hb : backB (l ++ [z]) = true) (hw : waitsB z l.length = true) :
    ∀ (fuel : Nat) (listed : Array Bool) (a : Act) (w : World), C w → listed.size = l.length + 1 → listed.getD l.length true = false →
      wpAnyQ P .any (l ++ [mute z]).toArray C (fun a' => ∀ w', C w' → wpList P O Q [z] a' w') fuel listed a → wpAny P .any (l ++ [z]).toArray Q fuel listed a w := by
  intro fuel
  induction fuel with
  | zero =>
    intro listed a w hC hs hu h
    have h1 := h.1
    rw [ready_mute] at h1
    exact absurd h1 (some_ready hb (by simpa using hs) (n := l.length) (by simp) hu)
  | succ fuel ih =>
    intro listed a w hC hs hu h
    refine ⟨fun h1 => absurd h1 (some_ready hb (by simpa using hs) (n := l.length) (by simp) hu), fun i hi => ?_⟩
    have h1 := h.2 i (by rw [ready_mute]; exact hi)
    by_cases hil : i = l.length
    · subst hil
      have hr := all_listed hw hs hi
      unfold qOp at h1
      rw [last_at] at h1
      have hwant : Region.wanted (mute z) (yielded (l ++ [mute z]).toArray a.tmps) = true := by simp [Region.wanted, mute, hg]
      simp only [hwant, if_true] at h1
      obtain ⟨v, _, h2⟩ := h1
      have e : a.put (mute z).dst v = a := rfl
      rw [e] at h2
      have hQ : ∀ w', C w' → wpList P O Q [z] a w' := by
        cases fuel with
        | zero => exact h2.2
        | succ f => exact h2.1 (by rw [ready_mute]; exact hr)
      unfold wpOp
      rw [last_at]
      have hwant2 : Region.wanted z (yielded (l ++ [z]).toArray a.tmps) = true := by simp [Region.wanted, hg]
      simp only [hwant2, if_true]
      have hq0 := hQ w hC
      have hwant3 : Region.wanted z (yielded O a.tmps) = true := by simp [Region.wanted, hg]
      simp only [wpList, hwant3, if_true] at hq0
      rcases hq0 with hq0 | hq0
      case inr => exact Or.inr hq0
      refine Or.inl (Oper.wp_mono (fun a' w' hq => ?_) hq0)
      cases fuel with
      | zero => exact ⟨hr, hq⟩
      | succ f => exact ⟨fun _ => hq, fun j hj => by rw [hr] at hj; cases hj⟩
    · have hlt : i < l.length := by
        obtain ⟨_, o, ho, _⟩ := mem_ready.1 hi
        have hsz := (Array.getElem?_eq_some_iff.1 ho).1
        simp at hsz
        omega
      have hu' : (listed.setIfInBounds i true).getD l.length true = false := by
        rw [getD_set_ne true hil]
        exact hu
      have hstep := wpOp_of_qOp (Q' := Q) hC (K' := wpAny P .any (l ++ [z]).toArray Q fuel (listed.setIfInBounds i true)) (fun a' w' hw' hh => ih (listed.setIfInBounds i true) a' w' hw' (by simpa using hs) hu' hh) h1
      unfold wpOp at hstep ⊢
      rw [front_at _ hlt] at hstep ⊢
      rw [yielded_mute hd] at hstep
      exact hstep
/-- ONE WALK: the operations but the last one quiet in the class; then the last one, in every world of the class. -/
theorem wp_region_last {L : List Oper} {O : Array Oper} {id : Nat} {Q : Exit → Act → World → Prop} {a : Act} {w : World} (hL : L = l ++ [z]) (hm : P.follows .mixedOrders = true) (hg : z.guard = none) (hd : z.dst = none) (hb : backB L = true) (hw : waitsB z l.length = true)
    (hB : Region.lexB .any (l ++ [mute z]).toArray = true) (hC : C { w with drawn := w.drawn + 1 })
    (h : wpQuiet P (l ++ [mute z]).toArray C (fun a' => ∀ w', C w' → wpList P O Q [z] a' w') l a) : (Code.region id L.toArray true).wp P Q a w := by
  subst hL
  simp only [Region.lexB, Bool.and_eq_true] at hB
  have hsz : (l ++ [z]).toArray.size = l.length + 1 := by simp
  refine wp_region_any hm ?_
  rw [hsz]
  refine wpAny_last (O := O) hg hd hb hw _ _ _ _ hC (by simp) (by simp) ?_
  have hq : wpQuiet P (l ++ [mute z]).toArray C (fun a' => ∀ w', C w' → wpList P O Q [z] a' w') (l ++ [mute z]) a := by
    have app : ∀ (l' : List Oper) (a : Act), wpQuiet P (l ++ [mute z]).toArray C (fun a' => ∀ w', C w' → wpList P O Q [z] a' w') l' a →
        wpQuiet P (l ++ [mute z]).toArray C (fun a' => ∀ w', C w' → wpList P O Q [z] a' w') (l' ++ [mute z]) a := by
      intro l'
      induction l' with
      | nil =>
        intro a h
        have hwant : Region.wanted (mute z) (yielded (l ++ [mute z]).toArray a.tmps) = true := by simp [Region.wanted, mute, hg]
        show (if Region.wanted (mute z) (yielded (l ++ [mute z]).toArray a.tmps) then _ else _)
        rw [if_pos hwant]
        refine ⟨.bool false, fun w _ => ?_, h⟩
        unfold Oper.quietAt
        simp [execOp, mute, Act.eval, Oper.quietUpon]
      | cons o l' ih =>
        intro a h
        have h' : (if Region.wanted o (yielded (l ++ [mute z]).toArray a.tmps) then o.quiet P a C (wpQuiet P (l ++ [mute z]).toArray C _ l') else wpQuiet P (l ++ [mute z]).toArray C _ l' (a.put o.dst undef)) := h
        show (if Region.wanted o (yielded (l ++ [mute z]).toArray a.tmps) then o.quiet P a C (wpQuiet P (l ++ [mute z]).toArray C _ (l' ++ [mute z])) else wpQuiet P (l ++ [mute z]).toArray C _ (l' ++ [mute z]) (a.put o.dst undef))
        split
        · rename_i hw1
          rw [if_pos hw1] at h'
          exact Oper.quiet_mono (fun a' hh => ih a' hh) h'
        · rename_i hw1
          rw [if_neg hw1] at h'
          exact ih _ h'
    exact app l a h
  have := wpAnyQ_lex (C := C) (md := .any) hB.1 (l ++ [mute z]) 0 (Array.replicate (l.length + 1) false) a (by simp) (by simpa using hB.2) hq
  simpa using this
theorem wpQuiet_ops {O1 O2 : Array Oper} (hy : ∀ t, yielded O1 t = yielded O2 t) {Q : Act → Prop} : ∀ (l : List Oper) (a : Act), wpQuiet P O1 C Q l a → wpQuiet P O2 C Q l a
  | [], _, h => h
  | o :: l, a, h => by
    have h' : (if Region.wanted o (yielded O1 a.tmps) then o.quiet P a C (wpQuiet P O1 C Q l) else wpQuiet P O1 C Q l (a.put o.dst undef)) := h
    show (if Region.wanted o (yielded O2 a.tmps) then o.quiet P a C (wpQuiet P O2 C Q l) else wpQuiet P O2 C Q l (a.put o.dst undef))
    rw [hy] at h'
    split
    · rename_i hw1
      rw [if_pos hw1] at h'
      exact Oper.quiet_mono (fun a' hh => wpQuiet_ops hy l a' hh) h'
    · rename_i hw1
      rw [if_neg hw1] at h'
      exact wpQuiet_ops hy l _ h'
/-- The same, of a region that is written out. -/
theorem wp_region_last_lit {L : List Oper} {id : Nat} {Q : Exit → Act → World → Prop} {a : Act} {w : World} (hm : P.follows .mixedOrders = true) (hne : L ≠ []) (hg : (L.getLast hne).guard = none) (hd : (L.getLast hne).dst = none)
    (hb : backB L = true) (hw : waitsB (L.getLast hne) L.dropLast.length = true) (hB : Region.lexB .any (L.dropLast ++ [mute (L.getLast hne)]).toArray = true)
    (h : ∀ (l' : List Oper) (z' : Oper), l' = L.dropLast → z' = L.getLast hne → wpQuiet P L.toArray (fun w' => ∃ p : Nxt w, w' = p.to) (fun a' => ∀ w', (∃ p : Nxt w, w' = p.to) → wpList P L.toArray Q [z'] a' w') l' a) : (Code.region id L.toArray true).wp P Q a w := by
  have e := List.dropLast_concat_getLast hne
  refine wp_region_last (C := fun w' => ∃ p : Nxt w, w' = p.to) (O := L.toArray) e.symm hm hg hd hb hw hB ⟨⟨{ w with drawn := w.drawn + 1 }, (Below.refl _ w).drew⟩, rfl⟩ ?_
  refine wpQuiet_ops (O1 := L.toArray) (fun t => ?_) _ _ (h _ _ rfl rfl)
  rw [yielded_mute hd, e]
end
end Go.Proofs.YtoofbjpekdlfiaaDoor

/- What each call of package soft on one row answers: means, norms and weights, where the table of steps lies as the program's text lays it. -/
namespace Go.Proofs.YtoofbjpekdlfiaaDoor
open Go.ChangeShapes Go.WideShapes Go.ChangeAt Go.RowKit
/-- The error's number of a row. -/
def sizeN (n : Nat) : Int := if n = 0 then 8 else if 4096 < n then 2 else 0
theorem sizeN_ok {n : Nat} (h : sizeN n = 0) : 1 ≤ n ∧ n ≤ 4096 := by unfold sizeN at h; split at h <;> (try split at h) <;> omega
theorem checkRow_any (ao : Option Addr) (n ca : Nat) (w : World) (hn : n ≤ 9223372036854775807) :
   Calls Tryd.prog 90 #[.slice ao n ca] w fun e w' => e = .returned (.int .i64 (sizeN n)) ∧ w' = w := by
  by_cases c1 : n = 0
  · subst c1
    go_enter Tryd.func90, Tryd.ntmps90
    go_wp2
    go_ret
    exact ⟨rfl, rfl⟩
  have hz : ((n : Int) == 0) = false := by simp; omega
  by_cases c2 : 4096 < n
  · have HF : Hid (sizeN n = 2) := by show _ = _; unfold sizeN; rw [if_neg c1, if_pos c2]
    go_enter Tryd.func90, Tryd.ntmps90
    go_wp2
    go_ret
    exact ⟨ret_int HF.out.symm, rfl⟩
  · have HF : Hid (sizeN n = 0) := by show _ = _; unfold sizeN; rw [if_neg c1, if_neg c2]
    go_enter Tryd.func90, Tryd.ntmps90
    go_wp2
    go_ret
    exact ⟨ret_int HF.out.symm, rfl⟩
theorem mean_bad (ao : Option Addr) (n ca : Nat) (w : World) (hn : n ≤ 9223372036854775807) (hf : sizeN n ≠ 0) :
   Calls Tryd.prog 79 #[.slice ao n ca] w fun e w' => e = .returned (.tuple #[.int .i32 0, .int .i64 (sizeN n)]) ∧ w' = w := by
  have hf' : (sizeN n == 0) = false := by simpa using hf
  generalize hq : sizeN n = q at *
  go_enter Tryd.func79, Tryd.ntmps79
  go_wp2_with (go_at_call 90; refine (checkRow_any _ _ _ _ hn).mono ?_; rintro e w ⟨rfl, rfl⟩; rw [hq])
  go_ret2
  exact ⟨rfl, rfl⟩
set_option maxHeartbeats 800000 in
theorem mean_any (ao : Option Addr) (n ca : Nat) (A : List Int) (w : World) (hA : RowAt w ao n A) (hf : sizeN n = 0) :
   Calls Tryd.prog 79 #[.slice ao n ca] w fun e w' => e = .returned (.tuple #[.int .i32 (meanN A n), .int .i64 0]) ∧ w' = w := by
  obtain ⟨h1, h4⟩ := sizeN_ok hf
  go_enter Tryd.func79, Tryd.ntmps79
  go_wp2_with (go_at_call 90; refine (checkRow_any _ _ _ _ (by omega)).mono ?_; rintro e w ⟨rfl, rfl⟩; rw [hf])
  clear hf
  go_loopg [5, 15] n (fun r s i wr => ∃ k : Nat, k ≤ n ∧ r = n - k ∧ i = .int .i64 k ∧ s = .int .i64 (dsum A A k) ∧ wr = w)
  case atStart => exact ⟨0, by omega, by omega, rfl, rfl, rfl⟩
  case round =>
    obtain ⟨k, hk, rfl, rfl, rfl, rfl⟩ := hrel
    by_cases hlt : k < n
    · obtain ⟨b, o, rfl, hc⟩ := hA.cells (by omega)
      have e1 : Hid (dsum A A (k + 1) = grow (dsum A A k) (el A k * el A k)) := dsum_succ A A k
      have b1 := dsum_bd A A k
      have b2 := hA.small.el k
      have c1 := hc k hlt
      have b4 := prod_bd (A := 2147483648) (B := 2147483648) (a := el A k) (b := el A k) b2.1 (by omega) b2.1 (by omega)
      generalize dsum A A k = s at *
      generalize el A k = x at *
      have w1 : IntKind.i64.wrap x = x := wrap_in (by omega)
      have w3 : IntKind.i64.wrap (x * x) = x * x := wrap_in (by omega)
      clear hA hc
      go_wp2_with (go_at_call 91; refine (grow_any _ _ _ (by omega) (by omega) (by omega) (by omega)).mono ?_; rintro e w' ⟨rfl, rfl⟩)
      go_roundg (n - (k + 1))
      case measure => omega
      case rel => exact ⟨k + 1, by omega, rfl, by go_num, by rw [e1.out], rfl⟩
    · obtain rfl : k = n := by omega
      have b1 := dsum_bd A A k
      have b2 := dsum_sq_nn A k
      have HM : Hid (meanN A k = sat (dsum A A k / k / 65536)) := rfl
      have b3 := Int.ediv_nonneg b2 (show (0 : Int) ≤ k by omega)
      have b4 := Int.ediv_le_self (k : Int) b2
      have b5 : dsum A A k / (k : Int) / 65536 ≤ dsum A A k / (k : Int) := Int.ediv_le_self _ b3
      have b6 : 0 ≤ dsum A A k / (k : Int) / 65536 := Int.ediv_nonneg b3 (by omega)
      have hk0 : (k : Int) ≠ 0 := by omega
      generalize dsum A A k = s at *
      clear hA
      go_wp2_with (go_at_call 35; refine (sat_any _ _ (by omega) (by omega)).mono ?_; rintro e w' ⟨rfl, rfl⟩)
      go_ret2
      exact ⟨by rw [HM.out]; rfl, rfl⟩
theorem norm_bad (ao bo : Option Addr) (n m ca cb : Nat) (w : World) (hn : n ≤ 9223372036854775807) (hf : sizeN n ≠ 0) :
   Calls Tryd.prog 64 #[.slice ao n ca, .slice bo m cb] w fun e w' => e = .returned (.tuple #[.slice none 0 0, .int .i64 (sizeN n)]) ∧ w' = w := by
  have hf' : (sizeN n == 0) = false := by simpa using hf
  generalize hq : sizeN n = q at *
  go_enter Tryd.func64, Tryd.ntmps64
  go_wp2_with (go_at_call 79; refine (mean_bad _ _ _ _ hn (by rw [hq]; exact hf)).mono ?_; rintro e w ⟨rfl, rfl⟩; rw [hq])
  go_ret2
  exact ⟨rfl, rfl⟩
theorem norm_len (ao bo : Option Addr) (n m ca cb : Nat) (A : List Int) (w : World) (hA : RowAt w ao n A) (hf : sizeN n = 0) (hl : m ≠ n) :
   Calls Tryd.prog 64 #[.slice ao n ca, .slice bo m cb] w fun e w' => e = .returned (.tuple #[.slice none 0 0, .int .i64 6]) ∧ w' = w := by
  have hl' : ((m : Int) == (n : Int)) = false := by simp; omega
  have h4 := (sizeN_ok hf).2
  go_enter Tryd.func64, Tryd.ntmps64
  go_wp2_with (go_at_call 79; refine (mean_any _ _ _ _ _ hA hf).mono ?_; rintro e w ⟨rfl, rfl⟩)
  go_ret2
  exact ⟨rfl, rfl⟩
set_option maxHeartbeats 1600000 in
theorem norm_any (ao bo : Option Addr) (n ca cb : Nat) (A G : List Int) (w : World) (hA : RowAt w ao n A) (hG : RowAt w bo n G) (hf : sizeN n = 0) :
   Calls Tryd.prog 64 #[.slice ao n ca, .slice bo n cb] w fun e w' => ∃ g, e = .returned (.tuple #[.slice (some ⟨g, 0, none⟩) n n, .int .i64 0]) ∧ Fresh w' w.heap.size g n n (tab n (normN A G n)) ∧ Below w.heap.size w w' := by
  obtain ⟨h1, h4⟩ := sizeN_ok hf
  have hmk := run_make_row' (P := Tryd.prog) 24 54 (.int .i32 0) 4 Tryd.underlying24 Tryd.infoNum rfl .i64 .i64 n (by omega) (by omega)
  have F0 := fresh_made w n (by omega)
  have B0 : Below w.heap.size w (w.alloc (.cells (madeCells #[.int .i32 0] n) 54)) := (Below.refl _ _).alloc (Nat.le_refl _) _
  have mb := meanN_bd A n
  have HK : Hid (invN (sat (meanN A n + 1)) = normK A n) := rfl
  have sb := sat_bd (meanN A n + 1)
  go_enter Tryd.func64, Tryd.ntmps64
  go_wp2_with (first | (go_at_call 79; refine (mean_any _ _ _ _ _ hA hf).mono ?_; rintro e w ⟨rfl, rfl⟩) | (go_at_call 34; refine (add_any _ _ _ (by omega) (by omega) (by omega) (by omega)).mono ?_; rintro e w ⟨rfl, rfl⟩) | (go_at_call 80; refine (inv_any _ _ (by omega) (by omega)).mono ?_; rintro e w ⟨rfl, rfl⟩; rw [HK.out]))
  clear hmk hf HK
  generalize w.alloc (.cells (madeCells #[.int .i32 0] n) 54) = w0 at *
  have kb := normK_bd A n
  go_loopg [33] n (fun r i wr => ∃ k : Nat, k ≤ n ∧ r = n - k ∧ i = .int .i64 k ∧ Fresh wr w.heap.size w.heap.size n n (tab n fun j => if j < k then normN A G n j else 0) ∧ Below w.heap.size w wr)
  case atStart => exact ⟨0, by omega, by omega, rfl, by rw [tab_start]; exact F0, B0⟩
  case round =>
    obtain ⟨k, hk, rfl, rfl, F1, B1⟩ := hrel
    clear F0 B0
    by_cases hlt : k < n
    · have A1 := hA.below B1
      have G1 := hG.below B1
      have ax := hA.small.el k
      have gx := hG.small.el k
      have HM1 : Hid (mulN (el A k) (normK A n) = sat (rnd (el A k * normK A n) 65536)) := rfl
      have HM2 : Hid (normN A G n k = sat (rnd (mulN (el A k) (normK A n) * el G k) 65536)) := rfl
      have m1 := mulN_bd (el A k) (normK A n)
      have m2 := normN_bd A G n k
      obtain ⟨b, o, rfl, hc⟩ := A1.cells (by omega)
      obtain ⟨b', o', rfl, hc'⟩ := G1.cells (by omega)
      have c1 := hc k hlt
      have c2 : ∀ p : Nxt wr, p.to.cell? ⟨b', o' + k, none⟩ = some (.int .i32 (el G k)) := fun p => by
        obtain ⟨b2, o2, e2, h2⟩ := (G1.below p.ok).cells (by omega)
        simp only [Option.some.injEq, Addr.mk.injEq, and_true] at e2
        obtain ⟨rfl, rfl⟩ := e2
        exact h2 k hlt
      have y1 : ∀ p : Nxt wr, Calls Tryd.prog 81 #[.int .i32 (el A k), .int .i32 (normK A n)] p.to fun e w'' => e = .returned (.int .i32 (mulN (el A k) (normK A n))) ∧ ∃ q : Nxt wr, w'' = q.to := fun p => calls_nxt_drew (mul_any _ _ _ (by omega) (by omega) (by omega) (by omega))
      have y2 : ∀ p : Nxt wr, Calls Tryd.prog 81 #[.int .i32 (mulN (el A k) (normK A n)), .int .i32 (el G k)] p.to fun e w'' => e = .returned (.int .i32 (normN A G n k)) ∧ ∃ q : Nxt wr, w'' = q.to := fun p => calls_nxt_drew (mul_any _ _ _ (by omega) (by omega) (by omega) (by omega))
      generalize mulN (el A k) (normK A n) = z1 at *
      have HS : Hid (∀ w', Fresh w' w.heap.size w.heap.size n n (tab n fun j => if j < k then normN A G n j else 0) → Fresh (w'.setCell ⟨w.heap.size, k, none⟩ (.int .i32 (normN A G n k))) w.heap.size w.heap.size n n (tab n fun j => if j < k + 1 then normN A G n j else 0)) := fun w' h => h.step _ hlt rfl (by omega)
      generalize hz2 : normN A G n k = z2 at *
      clear hz2 hc hc' hA hG A1 G1 HM1 HM2
      generalize normK A n = kk at *
      generalize el A k = xa at *
      generalize el G k = xg at *
      go_wp2_with fail
      haveI := nxt_ne wr
      refine wp_region_last_lit (by kernel_rfl) (List.cons_ne_nil _ _) (by kernel_rfl) (by kernel_rfl) (by kernel_rfl) (by kernel_rfl) (by kernel_rfl) ?_
      intro l' z' hl' hz'
      simp only [List.dropLast_cons_cons, List.dropLast_singleton] at hl'
      simp only [List.getLast_cons_cons, List.getLast_singleton] at hz'
      subst hl' hz'
      repeat (first | go_big_quiet_skip | (go_big_quiet_want; go_big_quiet_op; first | go_big_quiet_on | (apply Exists.intro; refine ⟨fun pq => ?_, ?_⟩; (first | (go_at_call_of 81 z1; exact y2 _) | (go_at_call 81; exact y1 _)); go_big_quiet_on)))
      refine wpQuiet_nil ?_
      intro _ hw'
      obtain ⟨⟨w3, B3⟩, hw''⟩ := hw'
      subst hw''
      have F3 := F1.below B3
      have ff := F3.frozen k
      have fc := F3.cell hlt
      have F4 := HS.out _ F3
      replace B3 := below_then B1 B3
      clear y1 y2 c2 c1 F1
      go_wp2
      go_roundg (n - (k + 1))
      case measure => omega
      case rel => exact ⟨k + 1, by omega, rfl, by go_num, F4, B3.setCell (Nat.le_refl _) _⟩
    · obtain rfl : k = n := by omega
      go_wp2
      go_ret2
      exact ⟨_, rfl, by rw [← tab_done]; exact F1, B1⟩
end Go.Proofs.YtoofbjpekdlfiaaDoor

/- Weights: the greatest number, powers below it, and each by their sum, where the table of steps lies as the program's text lays it. -/
namespace Go.Proofs.YtoofbjpekdlfiaaDoor
open Go.ChangeShapes Go.WideShapes Go.ChangeAt Go.RowKit
set_option maxHeartbeats 800000 in
theorem max_any (ao : Option Addr) (n ca : Nat) (A : List Int) (w : World) (hA : RowAt w ao n A) (h1 : 1 ≤ n) :
   Calls Tryd.prog 97 #[.slice ao n ca] w fun e w' => e = .returned (.int .i32 (maxTo A n)) ∧ w' = w := by
  have hn := hA.max
  obtain ⟨b, o, rfl, hc⟩ := hA.cells (by omega)
  have c0 := hc 0 (by omega)
  rw [Nat.add_zero] at c0
  go_enter Tryd.func97, Tryd.ntmps97
  go_wp2
  go_loopg [3, 4] (n - 1) (fun r s i wr => ∃ k : Nat, 1 ≤ k ∧ k ≤ n ∧ r = n - k ∧ i = .int .i64 k ∧ s = .int .i32 (maxTo A k) ∧ wr = w)
  case atStart => exact ⟨1, by omega, by omega, by omega, rfl, by rw [maxTo_one], rfl⟩
  case round =>
    obtain ⟨k, hk1, hk, rfl, rfl, rfl, rfl⟩ := hrel
    by_cases hlt : k < n
    · have c1 := hc k hlt
      by_cases hgt : maxTo A k < el A k
      · have HS : Hid (maxTo A (k + 1) = el A k) := by show _ = _; unfold maxTo; rw [if_pos hgt]
        generalize maxTo A k = s at *
        generalize el A k = x at *
        clear hA hc c0
        go_wp2
        go_roundg (n - (k + 1))
        case measure => omega
        case rel => exact ⟨k + 1, by omega, by omega, rfl, by go_num, by rw [HS.out], rfl⟩
      · have HS : Hid (maxTo A (k + 1) = maxTo A k) := by
          show _ = _
          conv => lhs; unfold maxTo
          rw [if_neg hgt]
        generalize maxTo A k = s at *
        generalize el A k = x at *
        clear hA hc c0
        go_wp2
        go_roundg (n - (k + 1))
        case measure => omega
        case rel => exact ⟨k + 1, by omega, by omega, rfl, by go_num, by rw [HS.out], rfl⟩
    · obtain rfl : k = n := by omega
      clear hA hc c0
      go_wp2
      go_ret
      exact ⟨rfl, rfl⟩
set_option maxHeartbeats 800000 in
theorem powersBelow_any (ao : Option Addr) (n ca : Nat) (A : List Int) (w : World) (hT : Tab w) (hA : RowAt w ao n A) (hn : n ≤ 4096) :
   Calls Tryd.prog 96 #[.slice ao n ca, .int .i32 (maxTo A n)] w fun e w' => ∃ g, e = .returned (.slice (some ⟨g, 0, none⟩) n n) ∧ Fresh w' w.heap.size g n n (tab n (powW A n)) ∧ Below w.heap.size w w' := by
  have hmk := run_make_row' (P := Tryd.prog) 24 54 (.int .i32 0) 4 Tryd.underlying24 Tryd.infoNum rfl .i64 .i64 n (by omega) (by omega)
  have F0 := fresh_made w n (by omega)
  have B0 : Below w.heap.size w (w.alloc (.cells (madeCells #[.int .i32 0] n) 54)) := (Below.refl _ _).alloc (Nat.le_refl _) _
  go_enter Tryd.func96, Tryd.ntmps96
  go_wp2
  clear hmk
  generalize w.alloc (.cells (madeCells #[.int .i32 0] n) 54) = w0 at *
  have mb := maxTo_bd hA.small n
  go_loopg [13] n (fun r i wr => ∃ k : Nat, k ≤ n ∧ r = n - k ∧ i = .int .i64 k ∧ Fresh wr w.heap.size w.heap.size n n (tab n fun j => if j < k then powW A n j else 0) ∧ Below w.heap.size w wr)
  case atStart => exact ⟨0, by omega, by omega, rfl, by rw [tab_start]; exact F0, B0⟩
  case round =>
    obtain ⟨k, hk, rfl, rfl, F1, B1⟩ := hrel
    clear F0 B0
    by_cases hlt : k < n
    · obtain ⟨b, o, rfl, hc⟩ := (hA.below B1).cells (by omega)
      have T1 := hT.next B1
      have b2 := hA.small.el k
      have c1 := hc k hlt
      have f1 := F1.frozen k
      have f2 := F1.cell hlt
      have HP : Hid (powI (sat (el A k - maxTo A n)) = powW A n k) := rfl
      have b3 := powW_bd A n k
      have b4 := sat_bd (el A k - maxTo A n)
      clear hA hc hT
      go_wp2_with (first | (go_at_call 100; refine (sub_any _ _ _ (by omega) (by omega) (by omega) (by omega)).mono ?_; rintro e w' ⟨rfl, rfl⟩) | (go_at_call 99; refine (pow_any _ _ T1 (by omega) (by omega)).mono ?_; rintro e w' ⟨rfl, m1, rfl⟩; rw [HP.out]))
      go_roundg (n - (k + 1))
      case measure => omega
      case rel => exact ⟨k + 1, by omega, rfl, by go_num, (F1.drewN m1).step _ hlt rfl (by omega), (below_drewN B1 m1).setCell (Nat.le_refl _) _⟩
    · obtain rfl : k = n := by omega
      go_wp2
      go_ret
      exact ⟨_, rfl, by rw [← tab_done]; exact F1, B1⟩
theorem weights_bad (ao : Option Addr) (n ca : Nat) (w : World) (hn : n ≤ 9223372036854775807) (hf : sizeN n ≠ 0) :
   Calls Tryd.prog 86 #[.slice ao n ca] w fun e w' => e = .returned (.tuple #[.slice none 0 0, .int .i64 (sizeN n)]) ∧ w' = w := by
  have hf' : (sizeN n == 0) = false := by simpa using hf
  generalize hq : sizeN n = q at *
  go_enter Tryd.func86, Tryd.ntmps86
  go_wp2_with (go_at_call 90; refine (checkRow_any _ _ _ _ hn).mono ?_; rintro e w ⟨rfl, rfl⟩; rw [hq])
  go_ret2
  exact ⟨rfl, rfl⟩
set_option maxHeartbeats 1600000 in
theorem weights_any (ao : Option Addr) (n ca : Nat) (A : List Int) (w : World) (hT : Tab w) (hA : RowAt w ao n A) (hf : sizeN n = 0) :
   Calls Tryd.prog 86 #[.slice ao n ca] w fun e w' => ∃ g, e = .returned (.tuple #[.slice (some ⟨g, 0, none⟩) n n, .int .i64 0]) ∧ Fresh w' w.heap.size g n n (tab n (wgt A n)) ∧ Below w.heap.size w w' := by
  obtain ⟨h1, h4⟩ := sizeN_ok hf
  have hmk := run_make_row' (P := Tryd.prog) 24 54 (.int .i32 0) 4 Tryd.underlying24 Tryd.infoNum rfl .i64 .i64 n (by omega) (by omega)
  go_enter Tryd.func86, Tryd.ntmps86
  go_wp2_with (first | (go_at_call 90; refine (checkRow_any _ _ _ _ (by omega)).mono ?_; rintro e w ⟨rfl, rfl⟩; rw [hf]) | (go_at_call 97; refine (max_any _ _ _ _ _ hA h1).mono ?_; rintro e w ⟨rfl, rfl⟩) | (go_at_call 96; refine (powersBelow_any _ _ _ _ _ hT hA h4).mono ?_; rintro e w1 ⟨g1, rfl, F1, B1⟩))
  have cc : ∀ k, k < n → w1.cell? ⟨g1, k, none⟩ = some (.int .i32 (powW A n k)) := fun k hk => by
    have := F1.cell hk
    rwa [el_tab hk] at this
  have hg1 := F1.lt
  have pb : ∀ k, 0 ≤ powW A n k ∧ powW A n k ≤ 65536 := powW_bd A n
  go_loopg [6, 23] n (fun r s i wr => ∃ k : Nat, k ≤ n ∧ r = n - k ∧ i = .int .i64 k ∧ s = .int .i64 (psum A n k) ∧ wr = w1)
  case atStart => exact ⟨0, by omega, by omega, rfl, rfl, rfl⟩
  case round =>
    obtain ⟨k, hk, rfl, rfl, rfl, rfl⟩ := hrel
    by_cases hlt : k < n
    · have c1 := cc k hlt
      have HS : Hid (psum A n (k + 1) = psum A n k + powW A n k) := psum_succ A n k
      have b1 := psum_bd A n k
      have b2 := pb k
      generalize psum A n k = s at *
      generalize powW A n k = x at *
      clear hmk cc pb
      go_wp2
      go_roundg (n - (k + 1))
      case measure => omega
      case rel => exact ⟨k + 1, by omega, rfl, by go_num, by rw [HS.out], rfl⟩
    · obtain rfl : k = n := by omega
      generalize wr = w1 at *
      have sb := psum_bd A k k
      have st := psum_top A h1
      have F2 := fresh_made w1 k (by omega)
      have B2 : Below w1.heap.size w1 (w1.alloc (.cells (madeCells #[.int .i32 0] k) 54)) := (Below.refl _ _).alloc (Nat.le_refl _) _
      have s2 : w.heap.size ≤ w1.heap.size := B1.size
      replace F1 := F1.below B2
      go_wp2
      clear hmk cc
      generalize w1.alloc (.cells (madeCells #[.int .i32 0] k) 54) = w2 at *
      go_loopg [37] k (fun r i wx => ∃ j : Nat, j ≤ k ∧ r = k - j ∧ i = .int .i64 j ∧ Fresh wx w1.heap.size w1.heap.size k k (tab k fun i => if i < j then wgt A k i else 0) ∧ Fresh wx w.heap.size g1 k k (tab k (powW A k)) ∧ Below w1.heap.size w1 wx)
      case atStart => exact ⟨0, by omega, by omega, rfl, by rw [tab_start]; exact F2, F1, B2⟩
      case round =>
        obtain ⟨j, hj, rfl, rfl, F3, F4, B3⟩ := hrel
        clear F1 F2 B2
        by_cases hlj : j < k
        · have c1 := F4.cell hlj
          rw [el_tab hlj] at c1
          have f1 := F3.frozen j
          have f2 := F3.cell hlj
          have b2 := pb j
          have HW : Hid (65536 * powW A k j / psum A k k = wgt A k j) := rfl
          have b3 := wgt_bd A hlj
          have F5 := F3.step (wgt A k j) hlj rfl (by omega)
          have ne : g1 ≠ w1.heap.size := by omega
          have F6 : Fresh (wr.setCell ⟨w1.heap.size, j, none⟩ (.int .i32 (wgt A k j))) w.heap.size g1 k k (tab k (powW A k)) := F4.setOther ne _
          have hne : psum A k k ≠ 0 := by omega
          have E9 : Hid (wrap32 (wgt A k j) = wgt A k j) := by show _ = _; unfold wrap32; omega
          generalize psum A k k = S at *
          generalize powW A k j = x at *
          have hq1 : 0 ≤ 65536 * x := by omega
          clear pb hT hA F4
          go_wp2
          go_roundg (k - (j + 1))
          case measure => omega
          case rel => exact ⟨j + 1, by omega, rfl, by go_num, by rw [HW.out, E9.out]; exact F5, by rw [HW.out, E9.out]; exact F6, B3.setCell (Nat.le_refl _) _⟩
        · obtain rfl : j = k := by omega
          go_wp2
          go_ret2
          exact ⟨_, rfl, by rw [← tab_done]; exact F3.mono s2, B1.trans (B3.mono s2)⟩
end Go.Proofs.YtoofbjpekdlfiaaDoor

/- Package heads: how well a row goes with keys, parts of rows, what one head makes. -/
namespace Go.Proofs.YtoofbjpekdlfiaaDoor
open Go.ChangeShapes Go.WideShapes Go.ChangeAt Go.RowKit
/-- A part of a row. -/
def partOf (A : List Int) (i m : Nat) : List Int := (A.drop i).take m
theorem el_part {A : List Int} {i m k : Nat} (h : k < m) : el (partOf A i m) k = el A (i + k) := by unfold partOf; rw [el_take h, el_drop]
theorem len_part {A : List Int} {i m : Nat} (h : i + m ≤ A.length) : (partOf A i m).length = m := by unfold partOf; simp; omega
/-- By what a score is brought to its size. -/
def scoreK (n : Nat) : Int := invN (sat (clip n * 65536))
theorem scoreK_bd (n : Nat) : 0 ≤ scoreK n ∧ scoreK n ≤ 2147483647 := invN_bd _
/-- How well a row goes with a key. -/
def scoreN (Q K : List Int) (n : Nat) : Int := mulN (dotN Q K n) (scoreK n)
theorem scoreN_bd (Q K : List Int) (n : Nat) : -2147483647 ≤ scoreN Q K n ∧ scoreN Q K n ≤ 2147483647 := mulN_bd _ _
theorem Tryd.infoRow : (Tryd.prog.info? 24).map (fun i => (i.zero, i.size, i.bytes)) = some (some (.slice none 0 0), 1, 24) := by kernel_rfl
theorem run_make_room' {P : Program} (t e : TypeId) (z : Value) (bytes : Nat) (ht : P.underlying t = some (.slice e)) (hinfo : (P.info? e).map (fun i => (i.zero, i.size, i.bytes)) = some (some z, 1, bytes)) (hz1 : z.cells = #[z])
    (kl kc : IntKind) (n : Nat) (hbytes : bytes * n ≤ 281474976710656) (h63 : n ≤ 9223372036854775807) (w : World) :
    (Instr.makeSlice t (.int kl 0) (.int kc (n : Int))).run P w = .ok (.slice (some ⟨w.heap.size, 0, none⟩) 0 n) (w.alloc (.cells (madeCells #[z] n) e)) := by
  obtain ⟨i, hi, hzz⟩ := Option.map_eq_some_iff.1 hinfo
  simp only [Prod.mk.injEq] at hzz
  obtain ⟨hz, hs, hb⟩ := hzz
  have hb' : (i.bytes : Int) * (n : Int) ≤ 281474976710656 := by
    rw [hb]
    have h : ((bytes * n : Nat) : Int) ≤ 281474976710656 := by omega
    rwa [Int.natCast_mul] at h
  have hr := run_make (P := P) w t e i z ht hi hz kl kc 0 n (Int.le_refl _) (by omega) hb' (by omega)
  simp only [Int.toNat_zero, Int.toNat_natCast, hs, Nat.mul_one, hz1] at hr
  exact hr
theorem fresh_room (w : World) (n : Nat) (hn : n ≤ 9223372036854775807) : Fresh (w.alloc (.cells (madeCells #[.int .i32 0] n) 54)) w.heap.size w.heap.size 0 n [] := by
  obtain ⟨c, hb, hs, hc⟩ := World.rowIs_made w (.int .i32 0) n 54
  exact ⟨Nat.le_refl _, rfl, by omega, hn, small_nil, c, hb, hs, fun t ht => by omega⟩
set_option maxHeartbeats 1600000 in
theorem scores_any (qo ko : Option Addr) (n m cq ck : Nat) (Q : List Int) (K : List (List Int)) (w : World) (hQ : RowAt w qo n Q) (hK : GridAt w ko m K) (hn : n ≤ 4096) (hm : m ≤ 4096) (hl : ∀ t, t < m → (rowOf K t).length = n) :
   Calls Tryd.prog 85 #[.slice qo n cq, .slice ko m ck] w fun e w' => ∃ g, e = .returned (.tuple #[.slice (some ⟨g, 0, none⟩) m m, .int .i64 0]) ∧ Fresh w' w.heap.size g m m (tab m fun i => scoreN Q (rowOf K i) n) ∧ Below w.heap.size w w' := by
  have hmk := run_make_row' (P := Tryd.prog) 24 54 (.int .i32 0) 4 Tryd.underlying24 Tryd.infoNum rfl .i64 .i64 m (by omega) (by omega)
  have F0 := fresh_made w m (by omega)
  have B0 : Below w.heap.size w (w.alloc (.cells (madeCells #[.int .i32 0] m) 54)) := (Below.refl _ _).alloc (Nat.le_refl _) _
  have HK : Hid (∀ wv, Below w.heap.size w wv → GridAt wv ko m K) := fun wv hb => hK.below hb
  have HQ : Hid (∀ wv, Below w.heap.size w wv → RowAt wv qo n Q) := fun wv hb => hQ.below hb
  have hk := scoreK_bd n
  have sb := sat_bd (clip n * 65536)
  have HE : Hid (invN (sat (clip n * 65536)) = scoreK n) := rfl
  go_enter Tryd.func85, Tryd.ntmps85
  go_wp2_with (first | (go_at_call 95; refine (of_any _ _ (by omega) (by omega)).mono ?_; rintro e w ⟨rfl, rfl⟩) | (go_at_call 80; refine (inv_any _ _ (by omega) (by omega)).mono ?_; rintro e w ⟨rfl, rfl⟩; rw [HE.out]))
  clear hmk hK hQ
  generalize w.alloc (.cells (madeCells #[.int .i32 0] m) 54) = w0 at *
  go_loopg [21] m (fun r i wr => ∃ j : Nat, j ≤ m ∧ r = m - j ∧ i = .int .i64 j ∧ Fresh wr w.heap.size w.heap.size m m (tab m fun i => if i < j then scoreN Q (rowOf K i) n else 0) ∧ Below w.heap.size w wr)
  case atStart => exact ⟨0, by omega, by omega, rfl, by rw [tab_start]; exact F0, B0⟩
  case round =>
    obtain ⟨j, hj, rfl, rfl, F1, B1⟩ := hrel
    clear F0 B0
    by_cases hlj : j < m
    · have R1 := HK.out _ B1
      have A1 := HQ.out _ B1
      obtain ⟨b, o, rfl, hc⟩ := R1.cells (by omega)
      obtain ⟨ro, m1, k1, q1, AR⟩ := hc j hlj
      have l1 := AR.row.len
      rw [hl j hlj] at l1
      subst l1
      have f1 := F1.frozen j
      have f2 := F1.cell hlj
      have d1 := dotN_bd Q (rowOf K j) n
      have HS : Hid (mulN (dotN Q (rowOf K j) n) (scoreK n) = scoreN Q (rowOf K j) n) := rfl
      have d2 := scoreN_bd Q (rowOf K j) n
      clear hc R1
      go_wp2_with (first | (go_at_call 89; refine (dot_any _ _ _ _ _ _ _ _ A1 AR.row hn).mono ?_; rintro e w1 ⟨rfl, n1, rfl⟩) | (go_at_call 81; refine (mul_any _ _ _ (by omega) (by omega) (by omega) (by omega)).mono ?_; rintro e w' ⟨rfl, n2, rfl⟩))
      go_roundg (m - (j + 1))
      case measure => omega
      case rel => exact ⟨j + 1, by omega, rfl, by go_num, (F1.drewN (n1 + n2)).step (f := fun i => scoreN Q (rowOf K i) n) (scoreN Q (rowOf K j) n) hlj rfl (by omega), (below_drewN B1 (n1 + n2)).setCell (Nat.le_refl _) _⟩
    · obtain rfl : j = m := by omega
      go_wp2
      go_ret2
      exact ⟨_, rfl, by rw [← tab_done]; exact F1, B1⟩
/-- Are the first k rows of that length? -/
def longs (R : List (List Int)) (s : Nat) : Nat → Bool
  | 0 => true
  | k + 1 => longs R s k && ((rowOf R k).length == s)
theorem longs_len {R : List (List Int)} {s n : Nat} (h : longs R s n = true) {t : Nat} (ht : t < n) : (rowOf R t).length = s := by
  induction n with
  | zero => omega
  | succ n ih =>
    unfold longs at h
    rw [Bool.and_eq_true] at h
    rcases Nat.lt_or_ge t n with h1 | h1
    · exact ih h.1 h1
    · obtain rfl : t = n := by omega
      simpa using h.2
theorem longs_not {R : List (List Int)} {s n t : Nat} (ht : t < n) (h : (rowOf R t).length ≠ s) : longs R s n = false := by
  cases e : longs R s n with
  | false => rfl
  | true => exact absurd (longs_len e ht) h
theorem longs_of {R : List (List Int)} {s n : Nat} (h : ∀ t, t < n → (rowOf R t).length = s) : longs R s n = true := by
  induction n with
  | zero => rfl
  | succ n ih => unfold longs; rw [ih fun t ht => h t (by omega), h n (by omega)]; simp
set_option maxHeartbeats 800000 in
theorem allLong_any (ao : Option Addr) (m ca s : Nat) (R : List (List Int)) (w : World) (hR : GridAt w ao m R) (hs : s ≤ 9223372036854775807) :
   Calls Tryd.prog 84 #[.slice ao m ca, .int .i64 s] w fun e w' => e = .returned (.bool (longs R s m)) ∧ w' = w := by
  have hm := hR.max
  go_enter Tryd.func84, Tryd.ntmps84
  go_wp2
  go_loopg [9] m (fun r i wr => ∃ k : Nat, k ≤ m ∧ r = m - k ∧ i = .int .i64 k ∧ longs R s k = true ∧ wr = w)
  case atStart => exact ⟨0, by omega, by omega, rfl, rfl, rfl⟩
  case round =>
    obtain ⟨k, hk, rfl, rfl, hal, rfl⟩ := hrel
    by_cases hlt : k < m
    · obtain ⟨b, o, rfl, hc⟩ := hR.cells (by omega)
      obtain ⟨r1, m1, k1, q1, A1⟩ := hc k hlt
      have l1 := A1.row.len
      have x1 := A1.row.max
      rcases Decidable.em (m1 = s) with rfl | hne
      · have HA : Hid (longs R m1 (k + 1) = true) := by show _ = _; unfold longs; rw [hal, l1]; simp
        clear hR hc A1 hal l1
        go_wp2
        go_roundg (m - (k + 1))
        case measure => omega
        case rel => exact ⟨k + 1, by omega, rfl, by go_num, HA.out, rfl⟩
      · have HA : Hid (longs R s m = false) := longs_not hlt (by omega)
        have z3 : ((m1 : Int) == (s : Int)) = false := by simp; omega
        clear hR hc A1 hal l1
        go_wp2
        go_ret
        exact ⟨by rw [HA.out]; rfl, rfl⟩
    · obtain rfl : k = m := by omega
      have HA : Hid (longs R s k = true) := hal
      clear hR hal
      go_wp2
      go_ret
      exact ⟨by rw [HA.out]; rfl, rfl⟩
/-- Rows of rows of a block of the call's own, of which the first k are laid: each a row that lay in w0. -/
structure CutTo (w0 w : World) (g m k : Nat) (R : List (List Int)) : Prop where
  row : ∃ cur : Array Value, w.heap[g]? = some (.cells cur 24 (0, 0)) ∧ cur.size = m ∧ ∀ t, t < k → ∃ ro n c, cur[t]? = some (.slice ro n c) ∧ Arg w0 ro n c (rowOf R t)
theorem CutTo.frozen {w0 w : World} {g m k : Nat} {R : List (List Int)} (h : CutTo w0 w g m k R) (t : Nat) : w.frozen? ⟨g, t, none⟩ = false := by
  obtain ⟨c, hb, _, _⟩ := h.row
  simp [World.frozen?, hb]
theorem CutTo.cell {w0 w : World} {g m k : Nat} {R : List (List Int)} (h : CutTo w0 w g m k R) {t : Nat} (ht : t < m) : ∃ v, w.cell? ⟨g, t, none⟩ = some v := by
  obtain ⟨c, hb, hs, _⟩ := h.row
  refine ⟨c[t]'(by omega), ?_⟩
  simp [World.cell?, hb]
theorem CutTo.step {w0 w : World} {g m k : Nat} {R : List (List Int)} (h : CutTo w0 w g m k R) (hk : k < m) {ro : Option Addr} {n c : Nat} (hA : Arg w0 ro n c (rowOf R k)) : CutTo w0 (w.setCell ⟨g, k, none⟩ (.slice ro n c)) g m (k + 1) R := by
  obtain ⟨cur, hb, hs, hc⟩ := h.row
  refine ⟨cur.setIfInBounds k (.slice ro n c), ?_, by simpa using hs, fun t ht => ?_⟩
  · simp [World.setCell, Array.getElem?_modify, hb]
  · rw [Array.getElem?_setIfInBounds]
    by_cases e : k = t
    · subst e; rw [if_pos rfl, if_pos (by omega)]; exact ⟨_, _, _, rfl, hA⟩
    · rw [if_neg e]; exact hc t (by omega)
theorem CutTo.grid {w0 w : World} {g m : Nat} {R : List (List Int)} (h : CutTo w0 w g m m R) (hl : R.length = m) (hm : m ≤ 9223372036854775807) (hb : Below w0.heap.size w0 w) : GridAt w (some ⟨g, 0, none⟩) m R := by
  obtain ⟨cur, hh, hs, hc⟩ := h.row
  refine ⟨hl, hm, fun _ => ⟨g, 0, rfl, fun t ht => ?_⟩⟩
  obtain ⟨ro, n, c, e, A⟩ := hc t ht
  refine ⟨ro, n, c, ?_, A.below hb⟩
  simp [World.cell?, hh, e]
theorem cutTo_made (w : World) (m : Nat) (R : List (List Int)) : CutTo w (w.alloc (.cells (madeCells #[.slice none 0 0] m) 24)) w.heap.size m 0 R := by
  obtain ⟨c, hb, hs, hc⟩ := World.rowIs_made w (.slice none 0 0) m 24
  exact ⟨c, hb, hs, fun t ht => by omega⟩
theorem Arg.part {w : World} {b o n ca : Nat} {A : List Int} (h : Arg w (some ⟨b, o, none⟩) n ca A) (i m : Nat) (him : i + m ≤ n) : Arg w (some ⟨b, o + i, none⟩) m (ca - i) (partOf A i m) :=
  ⟨h.row.part i m him, by have := h.fit; omega, by have := h.max; omega, (fun h => by cases h), fun b' o' e t ht => by
    simp only [Option.some.injEq, Addr.mk.injEq, and_true] at e
    obtain ⟨rfl, rfl⟩ := e
    rw [Nat.add_assoc]
    exact h.cold _ _ rfl _ (by omega)⟩
/-- The same part of each row. -/
def partsOf (R : List (List Int)) (i m : Nat) : List (List Int) := R.map fun r => partOf r i m
theorem rowOf_parts {R : List (List Int)} {i m t : Nat} (ht : t < R.length) : rowOf (partsOf R i m) t = partOf (rowOf R t) i m := by
  unfold rowOf partsOf
  simp [List.getD_eq_getElem?_getD, ht]
set_option maxHeartbeats 800000 in
theorem cut_any (ao : Option Addr) (m ca f s n : Nat) (R : List (List Int)) (w : World) (hR : GridAt w ao m R) (hm : m ≤ 1048576) (hl : ∀ t, t < m → (rowOf R t).length = n) (hs : 1 ≤ s) (hn : f + s ≤ n) (hn4 : n ≤ 4096) :
   Calls Tryd.prog 75 #[.slice ao m ca, .int .i64 f, .int .i64 s] w fun e w' => ∃ g, e = .returned (.slice (some ⟨g, 0, none⟩) m m) ∧ GridAt w' (some ⟨g, 0, none⟩) m (partsOf R f s) ∧ Below w.heap.size w w' := by
  have hmk := run_make_row' (P := Tryd.prog) 55 24 (.slice none 0 0) 24 Tryd.underlying55 Tryd.infoRow rfl .i64 .i64 m (by omega) (by omega)
  have F0 := cutTo_made w m (partsOf R f s)
  have B0 : Below w.heap.size w (w.alloc (.cells (madeCells #[.slice none 0 0] m) 24)) := (Below.refl _ _).alloc (Nat.le_refl _) _
  have hll : (partsOf R f s).length = m := by unfold partsOf; rw [List.length_map]; exact hR.len
  have hrl := hR.len
  go_enter Tryd.func75, Tryd.ntmps75
  go_wp2
  clear hmk
  generalize w.alloc (.cells (madeCells #[.slice none 0 0] m) 24) = w0 at *
  go_loopg [15] m (fun r i wr => ∃ k : Nat, k ≤ m ∧ r = m - k ∧ i = .int .i64 k ∧ CutTo w wr w.heap.size m k (partsOf R f s) ∧ Below w.heap.size w wr)
  case atStart => exact ⟨0, by omega, by omega, rfl, F0, B0⟩
  case round =>
    obtain ⟨k, hk, rfl, rfl, F1, B1⟩ := hrel
    clear F0 B0
    by_cases hlt : k < m
    · obtain ⟨b0, o0, e0, hc0⟩ := hR.cells (by omega)
      obtain ⟨r0, m0, k0, q0, A0⟩ := hc0 k hlt
      subst e0
      have q1 := (B1.cell (p := ⟨b0, o0 + k, none⟩) (by simpa using World.block_lt_of_cell? w _ q0)).trans q0
      have l1 := A0.row.len
      rw [hl k hlt] at l1
      subst l1
      obtain ⟨b3, o3, rfl, hc3⟩ := A0.row.cells (by omega)
      have A1 := A0.part f s hn
      rw [← rowOf_parts (R := R) (by omega)] at A1
      have x1 := A0.fit
      have x2 := A0.max
      have f1 := F1.frozen k
      obtain ⟨v0, f2⟩ := F1.cell hlt
      have F2 := F1.step hlt A1
      have B2 := B1.setCell (p := ⟨w.heap.size, k, none⟩) (Nat.le_refl _) (.slice (some ⟨b3, o3 + f, none⟩) s (k0 - f))
      clear hc0 hc3 q0 A0 A1 F1
      go_wp2
      go_roundg (m - (k + 1))
      case measure => omega
      case rel => exact ⟨k + 1, by omega, rfl, by go_num, F2, B2⟩
    · obtain rfl : k = m := by omega
      go_wp2
      go_ret
      exact ⟨_, rfl, F1.grid hll (by omega) B1, B1⟩
end Go.Proofs.YtoofbjpekdlfiaaDoor

/- Package heads: what one head makes, the errors of Attend, and Attend. -/
namespace Go.Proofs.YtoofbjpekdlfiaaDoor
open Go.ChangeShapes Go.WideShapes Go.ChangeAt Go.RowKit
/-- The scores of a row and m keys. -/
def scrs (Q : List Int) (K : List (List Int)) (m n : Nat) : List Int := tab m fun i => scoreN Q (rowOf K i) n
/-- What a head makes at a place of the values' rows. -/
def headEl (Q : List Int) (K V : List (List Int)) (m n j : Nat) : Int := dotN (tab m (wgt (scrs Q K m n) m)) (colOf V m j) m
theorem headEl_bd (Q : List Int) (K V : List (List Int)) (m n j : Nat) : -2147483647 ≤ headEl Q K V m n j ∧ headEl Q K V m n j ≤ 2147483647 := dotN_bd _ _ _
theorem mixedN_of {m n : Nat} {V : List (List Int)} (h1 : 1 ≤ m) (h4 : m ≤ 4096) (hl : V.length = m) (ha : ∀ t, t < m → (rowOf V t).length = n) : mixedN m V = 0 := by
  unfold mixedN
  rw [if_neg (by omega), if_neg (by omega), if_neg (by omega)]
  have e : alike V m = true := by
    have : ∀ k, k ≤ m → alike V k = true := by
      intro k
      induction k with
      | zero => intro _; rfl
      | succ k ih => intro hk; unfold alike; rw [ih (by omega), ha k (by omega), ha 0 (by omega)]; simp
    exact this m (Nat.le_refl _)
  rw [if_pos e]
set_option maxHeartbeats 1600000 in
theorem attendOne_any (qo ko vo : Option Addr) (n m cq ck cv : Nat) (Q : List Int) (K V : List (List Int)) (w : World) (hT : Tab w) (hQ : RowAt w qo n Q) (hK : GridAt w ko m K) (hV : GridAt w vo m V) (hn : n ≤ 4096) (h1 : 1 ≤ m) (hm : m ≤ 4096) (hlk : ∀ t, t < m → (rowOf K t).length = n) (hlv : ∀ t, t < m → (rowOf V t).length = n) :
   Calls Tryd.prog 74 #[.slice qo n cq, .slice ko m ck, .slice vo m cv] w fun e w' => ∃ g, e = .returned (.tuple #[.slice (some ⟨g, 0, none⟩) n n, .int .i64 0]) ∧ Fresh w' w.heap.size g n n (tab n fun j => headEl Q K V m n j) ∧ Below w.heap.size w w' := by
  have hs : sizeN m = 0 := by unfold sizeN; rw [if_neg (by omega), if_neg (by omega)]
  have hx : mixedN m V = 0 := mixedN_of h1 hm hV.len hlv
  have hv0 := hlv 0 (by omega)
  go_enter Tryd.func74, Tryd.ntmps74
  go_wp2_with fail
  refine (scores_any _ _ _ _ _ _ _ _ _ hQ hK hn hm hlk).mono ?_
  rintro e w1 ⟨g1, rfl, F1, B1⟩
  replace hT := hT.next B1
  replace hV := hV.below B1
  clear hQ hK
  go_wp2_with fail
  refine (weights_any _ _ _ _ _ hT F1.rowAt hs).mono ?_
  rintro e w2 ⟨g2, rfl, F2, B2⟩
  replace hV := hV.below B2
  replace B2 := below_then B1 B2
  clear hT F1 B1
  go_wp2_with fail
  refine (mix_any _ _ _ _ _ _ _ _ _ F2.rowAt hV hx (by omega)).mono ?_
  rw [hv0]
  rintro e w3 ⟨g3, rfl, F3, B3⟩
  have s2 := B2.size
  replace B3 := below_then B2 B3
  go_wp2
  go_ret2
  exact ⟨_, rfl, F3.mono s2, B3⟩
/-- The error's number of what Attend is handed. -/
def hchkN (n m mv : Nat) (K V : List (List Int)) (h : Int) : Int :=
  if h < 1 ∨ 4 < h then 1 else if n = 0 ∨ m = 0 then 8 else if 32 < n ∨ 128 < m then 2 else if n % h.toNat ≠ 0 ∨ mv ≠ m ∨ longs K n m = false ∨ longs V n mv = false then 6 else 0
theorem hchkN_ok {n m mv : Nat} {K V : List (List Int)} {h : Int} (e : hchkN n m mv K V h = 0) : (1 ≤ h ∧ h ≤ 4) ∧ (1 ≤ n ∧ n ≤ 32) ∧ (1 ≤ m ∧ m ≤ 128) ∧ n % h.toNat = 0 ∧ mv = m ∧ (∀ t, t < m → (rowOf K t).length = n) ∧ ∀ t, t < m → (rowOf V t).length = n := by
  unfold hchkN at e
  split at e
  · omega
  · split at e
    · omega
    · split at e
      · omega
      · split at e
        · omega
        · rename_i a b c d
          have d1 : n % h.toNat = 0 := Decidable.byContradiction fun x => d (Or.inl x)
          have d2 : mv = m := Decidable.byContradiction fun x => d (Or.inr (Or.inl x))
          have d3 : longs K n m = true := by cases q : longs K n m with | true => rfl | false => exact absurd (Or.inr (Or.inr (Or.inl q))) d
          have d4 : longs V n mv = true := by cases q : longs V n mv with | true => rfl | false => exact absurd (Or.inr (Or.inr (Or.inr q))) d
          subst d2
          exact ⟨by omega, by omega, by omega, d1, rfl, fun t ht => longs_len d3 ht, fun t ht => longs_len d4 ht⟩
set_option maxHeartbeats 1600000 in
theorem hcheck_any (qo ko vo : Option Addr) (n m mv cq ck cv : Nat) (K V : List (List Int)) (h : Int) (w : World) (hn : n ≤ 9223372036854775807) (hK : GridAt w ko m K) (hV : GridAt w vo mv V) (b1 : -9223372036854775808 ≤ h) (b2 : h ≤ 9223372036854775807) :
   Calls Tryd.prog 73 #[.slice qo n cq, .slice ko m ck, .slice vo mv cv, .int .i64 h] w fun e w' => e = .returned (.int .i64 (hchkN n m mv K V h)) ∧ w' = w := by
  have hm := hK.max
  have hmv := hV.max
  by_cases c1 : h < 1
  · have HF : Hid (hchkN n m mv K V h = 1) := by show _ = _; unfold hchkN; rw [if_pos (Or.inl c1)]
    go_enter Tryd.func73, Tryd.ntmps73
    go_wp2
    go_ret
    exact ⟨ret_int HF.out.symm, rfl⟩
  by_cases c2 : 4 < h
  · have HF : Hid (hchkN n m mv K V h = 1) := by show _ = _; unfold hchkN; rw [if_pos (Or.inr c2)]
    go_enter Tryd.func73, Tryd.ntmps73
    go_wp2
    go_ret
    exact ⟨ret_int HF.out.symm, rfl⟩
  by_cases c3 : n = 0
  · subst c3
    have HF : Hid (hchkN 0 m mv K V h = 8) := by show _ = _; unfold hchkN; rw [if_neg (by omega), if_pos (Or.inl rfl)]
    go_enter Tryd.func73, Tryd.ntmps73
    go_wp2
    go_ret
    exact ⟨ret_int HF.out.symm, rfl⟩
  have z1 : ((n : Int) == 0) = false := by simp; omega
  by_cases c4 : m = 0
  · subst c4
    have HF : Hid (hchkN n 0 mv K V h = 8) := by show _ = _; unfold hchkN; rw [if_neg (by omega), if_pos (Or.inr rfl)]
    go_enter Tryd.func73, Tryd.ntmps73
    go_wp2
    go_ret
    exact ⟨ret_int HF.out.symm, rfl⟩
  have z2 : ((m : Int) == 0) = false := by simp; omega
  by_cases c5 : 32 < n
  · have HF : Hid (hchkN n m mv K V h = 2) := by show _ = _; unfold hchkN; rw [if_neg (by omega), if_neg (by omega), if_pos (Or.inl c5)]
    go_enter Tryd.func73, Tryd.ntmps73
    go_wp2
    go_ret
    exact ⟨ret_int HF.out.symm, rfl⟩
  by_cases c6 : 128 < m
  · have HF : Hid (hchkN n m mv K V h = 2) := by show _ = _; unfold hchkN; rw [if_neg (by omega), if_neg (by omega), if_pos (Or.inr c6)]
    go_enter Tryd.func73, Tryd.ntmps73
    go_wp2
    go_ret
    exact ⟨ret_int HF.out.symm, rfl⟩
  obtain ⟨H, rfl⟩ : ∃ H : Nat, h = H := ⟨h.toNat, by omega⟩
  have hz : (H : Int) ≠ 0 := by omega
  have HC : Hid (hchkN n m mv K V H = if n % H ≠ 0 ∨ mv ≠ m ∨ longs K n m = false ∨ longs V n mv = false then 6 else 0) := by show _ = _; unfold hchkN; rw [if_neg (by omega), if_neg (by omega), if_neg (by omega), Int.toNat_natCast]
  by_cases c7 : n % H = 0
  · have z3 : (n : Int) % (H : Int) = 0 := by omega
    rcases Decidable.em (mv = m) with rfl | c8
    · cases c9 : longs K n mv with
      | false =>
        have HF : Hid (hchkN n mv mv K V H = 6) := by show _ = _; rw [HC.out, if_pos (Or.inr (Or.inr (Or.inl c9)))]
        clear HC
        go_enter Tryd.func73, Tryd.ntmps73
        go_wp2_with (go_at_call 84; refine (allLong_any _ _ _ _ _ _ hK hn).mono ?_; rintro e w ⟨rfl, rfl⟩; rw [c9])
        go_ret
        exact ⟨ret_int HF.out.symm, rfl⟩
      | true =>
        cases c10 : longs V n mv with
        | false =>
          have HF : Hid (hchkN n mv mv K V H = 6) := by show _ = _; rw [HC.out, if_pos (Or.inr (Or.inr (Or.inr c10)))]
          clear HC
          go_enter Tryd.func73, Tryd.ntmps73
          go_wp2_with fail
          refine (allLong_any _ _ _ _ _ _ hK hn).mono ?_
          rintro e w ⟨rfl, rfl⟩
          rw [c9]
          go_wp2_with fail
          refine (allLong_any _ _ _ _ _ _ hV hn).mono ?_
          rintro e w ⟨rfl, rfl⟩
          rw [c10]
          go_wp2
          go_ret
          exact ⟨ret_int HF.out.symm, rfl⟩
        | true =>
          have HF : Hid (hchkN n mv mv K V H = 0) := by show _ = _; rw [HC.out, if_neg (by simp [c7, c9, c10])]
          clear HC
          go_enter Tryd.func73, Tryd.ntmps73
          go_wp2_with fail
          refine (allLong_any _ _ _ _ _ _ hK hn).mono ?_
          rintro e w ⟨rfl, rfl⟩
          rw [c9]
          go_wp2_with fail
          refine (allLong_any _ _ _ _ _ _ hV hn).mono ?_
          rintro e w ⟨rfl, rfl⟩
          rw [c10]
          go_wp2
          go_ret
          exact ⟨ret_int HF.out.symm, rfl⟩
    · have HF : Hid (hchkN n m mv K V H = 6) := by show _ = _; rw [HC.out, if_pos (Or.inr (Or.inl c8))]
      have z4 : ((mv : Int) == (m : Int)) = false := by simp; omega
      clear HC
      go_enter Tryd.func73, Tryd.ntmps73
      go_wp2
      go_ret
      exact ⟨ret_int HF.out.symm, rfl⟩
  · have HF : Hid (hchkN n m mv K V H = 6) := by show _ = _; rw [HC.out, if_pos (Or.inl c7)]
    have z3 : ((n : Int) % (H : Int) == 0) = false := by simp; omega
    clear HC
    go_enter Tryd.func73, Tryd.ntmps73
    go_wp2
    go_ret
    exact ⟨ret_int HF.out.symm, rfl⟩
end Go.Proofs.YtoofbjpekdlfiaaDoor

/- Package heads: Attend, head by head. -/
namespace Go.Proofs.YtoofbjpekdlfiaaDoor
open Go.ChangeShapes Go.WideShapes Go.ChangeAt Go.RowKit
/-- What comes out at a place, heads of s numbers each. -/
def attEl (Q : List Int) (K V : List (List Int)) (m s j : Nat) : Int := headEl (partOf Q (j / s * s) s) (partsOf K (j / s * s) s) V m s j
theorem attEl_bd (Q : List Int) (K V : List (List Int)) (m s j : Nat) : -2147483647 ≤ attEl Q K V m s j ∧ attEl Q K V m s j ≤ 2147483647 := headEl_bd _ _ _ _ _ _
theorem tab_append (a b : Nat) (f : Nat → Int) : tab (a + b) f = tab a f ++ tab b fun j => f (a + j) := by
  unfold tab
  rw [List.range_add, List.map_append, List.map_map]
  rfl
theorem col_parts {V : List (List Int)} {m f s j : Nat} (hl : V.length = m) (hj : j < s) : colOf (partsOf V f s) m j = colOf V m (f + j) := by
  unfold colOf
  refine tab_congr fun k hk => ?_
  rw [rowOf_parts (by omega), el_part hj]
theorem head_att (Q : List Int) (K V : List (List Int)) (m s k : Nat) (hs : 1 ≤ s) (hl : V.length = m) : (tab s fun j => headEl (partOf Q (k * s) s) (partsOf K (k * s) s) (partsOf V (k * s) s) m s j) = tab s fun j => attEl Q K V m s (k * s + j) := by
  refine tab_congr fun j hj => ?_
  have e : (k * s + j) / s = k := by rw [Nat.add_comm, Nat.add_mul_div_right _ _ (by omega), Nat.div_eq_of_lt hj]; omega
  unfold attEl
  rw [e]
  unfold headEl
  rw [col_parts hl hj]
theorem attend_bad (qo ko vo : Option Addr) (n m mv cq ck cv : Nat) (K V : List (List Int)) (h : Int) (w : World) (hn : n ≤ 9223372036854775807) (hK : GridAt w ko m K) (hV : GridAt w vo mv V) (b1 : -9223372036854775808 ≤ h) (b2 : h ≤ 9223372036854775807) (hf : hchkN n m mv K V h ≠ 0) :
   Calls Tryd.prog 59 #[.slice qo n cq, .slice ko m ck, .slice vo mv cv, .int .i64 h] w fun e w' => e = .returned (.tuple #[.slice none 0 0, .int .i64 (hchkN n m mv K V h)]) ∧ w' = w := by
  have hf' : (hchkN n m mv K V h == 0) = false := by simpa using hf
  generalize hq : hchkN n m mv K V h = q at *
  go_enter Tryd.func59, Tryd.ntmps59
  go_wp2_with (go_at_call 73; refine (hcheck_any _ _ _ _ _ _ _ _ _ _ _ _ _ hn hK hV b1 b2).mono ?_; rintro e w ⟨rfl, rfl⟩; rw [hq])
  go_ret2
  exact ⟨rfl, rfl⟩
set_option maxHeartbeats 3200000 in
theorem attend_any (qo ko vo : Option Addr) (n m mv cq ck cv : Nat) (Q : List Int) (K V : List (List Int)) (h : Int) (w : World) (hT : Tab w) (hQ : Arg w qo n cq Q) (hK : GridAt w ko m K) (hV : GridAt w vo mv V) (hf : hchkN n m mv K V h = 0) :
   Calls Tryd.prog 59 #[.slice qo n cq, .slice ko m ck, .slice vo mv cv, .int .i64 h] w fun e w' => ∃ g cap, e = .returned (.tuple #[.slice (some ⟨g, 0, none⟩) n cap, .int .i64 0]) ∧ Fresh w' w.heap.size g n cap (tab n (attEl Q K V m (n / h.toNat))) ∧ Below w.heap.size w w' := by
  obtain ⟨hh, hn, hm, hd, rfl, hlk, hlv⟩ := hchkN_ok hf
  obtain ⟨H, rfl⟩ : ∃ H : Nat, h = H := ⟨h.toNat, by omega⟩
  rw [Int.toNat_natCast] at hd ⊢
  obtain ⟨s, hs⟩ : ∃ s, s = n / H := ⟨_, rfl⟩
  have hns : H * s = n := by rw [hs]; exact Nat.mul_div_cancel' (Nat.dvd_of_mod_eq_zero hd)
  have h1 : 1 ≤ s := by
    rcases Nat.eq_zero_or_pos s with e | e
    · rw [e] at hns; omega
    · exact e
  have hsn : s ≤ n := by rw [hs]; exact Nat.div_le_self _ _
  have hdiv : (n : Int) / (H : Int) = s := by rw [hs]; rfl
  rw [← hs]
  have hmk := run_make_room' (P := Tryd.prog) 24 54 (.int .i32 0) 4 Tryd.underlying24 Tryd.infoNum rfl .i64 .i64 n (by omega) (by omega)
  have F0 := fresh_room w n (by omega)
  have B0 : Below w.heap.size w (w.alloc (.cells (madeCells #[.int .i32 0] n) 54)) := (Below.refl _ _).alloc (Nat.le_refl _) _
  have HK : Hid (∀ wv, Below w.heap.size w wv → GridAt wv ko mv K) := fun wv hb => hK.below hb
  have HV : Hid (∀ wv, Below w.heap.size w wv → GridAt wv vo mv V) := fun wv hb => hV.below hb
  have HQ : Hid (∀ wv, Below w.heap.size w wv → Arg wv qo n cq Q) := fun wv hb => hQ.below hb
  have HT : Hid (∀ wv, Below w.heap.size w wv → Tab wv) := fun wv hb => hT.next hb
  have hz : (H : Int) ≠ 0 := by omega
  clear hs
  go_enter Tryd.func59, Tryd.ntmps59
  go_wp2_with (go_at_call 73; refine (hcheck_any _ _ _ _ _ _ _ _ _ _ _ _ _ (by omega) hK hV (by omega) (by omega)).mono ?_; rintro e w ⟨rfl, rfl⟩; rw [hf])
  clear hmk hf hK hV hQ hT
  generalize w.alloc (.cells (madeCells #[.int .i32 0] n) 54) = w0 at *
  go_loopg [11, 33] H (fun r s0 i wr => ∃ (k g cap : Nat), k ≤ H ∧ r = H - k ∧ i = .int .i64 k ∧ s0 = .slice (some ⟨g, 0, none⟩) (k * s) cap ∧ Fresh wr w.heap.size g (k * s) cap (tab (k * s) (attEl Q K V mv s)) ∧ Below w.heap.size w wr)
  case atStart => exact ⟨0, _, _, by omega, by omega, rfl, by rw [Nat.zero_mul], by rw [Nat.zero_mul]; exact F0, B0⟩
  case round =>
    obtain ⟨k, g, cap, hk, rfl, rfl, rfl, F1, B1⟩ := hrel
    clear F0 B0
    by_cases hlt : k < H
    · have hps : k * s + s ≤ n := by rw [← hns, ← Nat.succ_mul]; exact Nat.mul_le_mul_right _ hlt
      have HX : Hid (tab ((k + 1) * s) (attEl Q K V mv s) = tab (k * s) (attEl Q K V mv s) ++ tab s fun j => headEl (partOf Q (k * s) s) (partsOf K (k * s) s) (partsOf V (k * s) s) mv s j) := by
        show _ = _
        rw [head_att Q K V mv s k h1 (HV.out _ B1).len, Nat.succ_mul, tab_append]
      have HP : Hid ((k + 1) * s = k * s + s) := Nat.succ_mul k s
      have hmul : (k : Int) * (s : Int) = ((k * s : Nat) : Int) := by rw [Int.natCast_mul]
      have AQ := HQ.out _ B1
      obtain ⟨b, o, rfl, hc⟩ := AQ.row.cells (by omega)
      clear hc
      have x1 := AQ.fit
      have x2 := AQ.max
      have AP := AQ.part (k * s) s hps
      have LK : ∀ t, t < mv → (rowOf (partsOf K (k * s) s) t).length = s := fun t ht => by
        rw [rowOf_parts (by rw [(HK.out _ B1).len]; exact ht), len_part (by rw [hlk t ht]; exact hps)]
      have LV : ∀ t, t < mv → (rowOf (partsOf V (k * s) s) t).length = s := fun t ht => by
        rw [rowOf_parts (by rw [(HV.out _ B1).len]; exact ht), len_part (by rw [hlv t ht]; exact hps)]
      generalize hp : k * s = p at *
      have hp' := hp
      clear hp
      have BD : Below w.heap.size w wr.drew := B1.drew
      have s1 := B1.size
      go_wp2_with fail
      have hk4 : k < 4 := by omega
      clear hmul hdiv hd hz hns hp' hh
      have y0 : IntKind.i64.wrap ((p : Int) + (s : Int)) = (p : Int) + (s : Int) := wrap_in (by omega)
      have y1 : 0 ≤ (p : Int) + (s : Int) := by omega
      have y2 : (p : Int) + (s : Int) ≤ (cq : Int) := by omega
      have y3 : ¬ cq = p := by omega
      go_region_with (first
        | (go_at_call 75; refine (cut_any _ _ _ p s n K _ (by exact HK.out _ BD) (by omega) hlk h1 hps (by omega)).mono ?_; rintro e w1 ⟨g1, rfl, G1, C1⟩; have D1 := below_then BD C1)
        | (go_at_call 75; refine (cut_any _ _ _ p s n V _ (by exact HV.out _ D1) (by omega) hlv h1 hps (by omega)).mono ?_; rintro e w2 ⟨g2, rfl, G2, C2⟩; have D2 := below_then D1 C2; replace G1 := G1.below C2; have P2 := AP.below ((((Below.refl _ _).drew).trans (C1.mono (by exact Nat.le_refl _))).trans (C2.mono (by exact C1.size))))
        | (go_at_call 74; refine (attendOne_any _ _ _ _ _ _ _ _ _ _ _ _ (HT.out _ D2) P2.row G1 G2 (by omega) (by omega) (by omega) LK LV).mono ?_; rintro e w3 ⟨g3, rfl, F3, C3⟩; have D3 := below_then D2 C3))
      all_goals
        have E3 := F1.drew.below (((C1.mono (by exact Nat.le_refl _)).trans (C2.mono (by exact C1.size))).trans (C3.mono (by exact Nat.le_trans C1.size C2.size)))
        have s3 := D3.size
        have M3 := F3.rowAt
        go_wp2_with (at_builtin; refine wpList_append_row rfl _ _ rfl w.heap.size g p cap _ rfl (by exact E3) (some ⟨g3, 0, none⟩) s s _ rfl (by exact M3) (fun h => by cases h) (by omega) (by omega) ?_; intro g' cap' w' F4 B4)
        go_roundg (H - (k + 1))
        case measure => omega
        case rel => exact ⟨k + 1, g', cap', by omega, rfl, by go_num, by rw [HP.out], by rw [HX.out, HP.out]; exact F4, D3.trans B4⟩
    · obtain rfl : k = H := by omega
      rw [hns] at F1
      go_wp2
      go_ret2
      refine ⟨g, cap, ?_, F1, B1⟩
      rw [hns]
      rfl
end Go.Proofs.YtoofbjpekdlfiaaDoor

/- Package pass: its norm, its sums, and what a matrix makes of a row, of numbers that fit. -/
namespace Go.Proofs.YtoofbjpekdlfiaaDoor
open Go.ChangeShapes Go.WideShapes Go.ChangeAt Go.RowKit
theorem pnorm_any (ao bo : Option Addr) (n ca cb : Nat) (A G : List Int) (w : World) (hA : RowAt w ao n A) (hG : RowAt w bo n G) (hf : sizeN n = 0) :
   Calls Tryd.prog 38 #[.slice ao n ca, .slice bo n cb] w fun e w' => ∃ g, e = .returned (.slice (some ⟨g, 0, none⟩) n n) ∧ Fresh w' w.heap.size g n n (tab n (normN A G n)) ∧ Below w.heap.size w w' := by
  go_enter Tryd.func38, Tryd.ntmps38
  go_wp2_with (go_at_call 64; refine (norm_any _ _ _ _ _ _ _ _ hA hG hf).mono ?_; rintro e w1 ⟨g1, rfl, F1, B1⟩)
  go_ret
  exact ⟨_, rfl, F1, B1⟩
theorem padd_any (ao bo : Option Addr) (n ca cb : Nat) (A B : List Int) (w : World) (hA : RowAt w ao n A) (hB : RowAt w bo n B) (hn : n ≤ 4096) :
   Calls Tryd.prog 61 #[.slice ao n ca, .slice bo n cb] w fun e w' => ∃ g, e = .returned (.slice (some ⟨g, 0, none⟩) n n) ∧ Fresh w' w.heap.size g n n (tab n fun j => addN (el A j) (el B j)) ∧ Below w.heap.size w w' := by
  go_enter Tryd.func61, Tryd.ntmps61
  go_wp2_with (go_at_call 77; refine (vadd_any _ _ _ _ _ _ _ _ hA hB hn).mono ?_; rintro e w1 ⟨g1, rfl, F1, B1⟩)
  go_ret
  exact ⟨_, rfl, F1, B1⟩
theorem papply_any (r c b o n ca : Nat) (D : List Int) (vo : Option Addr) (cv : Nat) (V : List Int) (w : World) (h : MatAt w r c b o n ca D) (hV : RowAt w vo c V) :
   Calls Tryd.prog 37 #[matV r c (some ⟨b, o, none⟩) n ca, .slice vo c cv] w fun e w' => ∃ g, e = .returned (.slice (some ⟨g, 0, none⟩) r r) ∧ Fresh w' w.heap.size g r r (tab r fun i => dotN (rowN D c i) V c) ∧ Below w.heap.size w w' := by
  have X0 := box_new w r c (some ⟨b, o, none⟩) n ca
  have B0 : Below w.heap.size w (w.alloc (.cells #[.int .i64 r, .int .i64 c, .slice (some ⟨b, o, none⟩) n ca] 26)) := (Below.refl _ _).alloc (Nat.le_refl _) _
  generalize hw0 : w.alloc (.cells #[.int .i64 r, .int .i64 c, .slice (some ⟨b, o, none⟩) n ca] 26) = w0 at X0 B0
  have q0 := X0.c0
  have q1 := X0.c1
  have q2 := X0.c2
  have s0 := B0.size
  have C := apply_any r c b o n ca D vo cv V w0 (h.below B0) (hV.below B0)
  unfold matV at C
  go_enter Tryd.func37, Tryd.ntmps37
  unfold matV
  go_wp2_with (go_at_call 63; refine C.mono ?_; rintro e w1 ⟨g1, rfl, F1, B1⟩)
  go_ret
  exact ⟨_, rfl, F1.mono s0, below_then B0 B1⟩
end Go.Proofs.YtoofbjpekdlfiaaDoor

/- append of one number onto a row of the call's own, as one step of a region that draws. -/
namespace Go.Proofs.YtoofbjpekdlfiaaDoor
open Go.ChangeShapes Go.WideShapes Go.ChangeAt Go.RowKit
/-- append of one number onto a row of the call's own, or nil, as one step of a region that draws. -/
theorem step_append_one {ops : Array Oper} {o : Oper} {a : Act} {w : World} {K : Act → World → Prop} {Q : Exit → Act → World → Prop} {E : Prop}
    (hg : o.guard = none) (s x : Operand) (hop : o.op = .call { callee := .builtin .append, args := #[s, x], argTypes := #[24, 24] })
    (B : Nat) (ao : Option Addr) (n cap : Nat) (A : List Int) (hs : a.eval s = .slice ao n cap) (hown : w.ownsRow B 54 1 (.slice ao n cap) n (A.map (Value.int .i32)))
    (bo : Nat) (y : Int) (hx : a.eval x = .slice (some ⟨bo, 0, none⟩) 1 1) (hX : RowAt w (some ⟨bo, 0, none⟩) 1 [y]) (hlen : n + 1 ≤ 1048576) (hB : B ≤ w.heap.size)
    (h : ∀ g' cap' w', w'.ownsRow B 54 1 (.slice (some ⟨g', 0, none⟩) (n + 1) cap') (n + 1) ((A ++ [y]).map (Value.int .i32)) → Below B w w' → B ≤ g' → K (a.put o.dst (.slice (some ⟨g', 0, none⟩) (n + 1) cap')) w') :
    if Region.wanted o (yielded ops a.tmps) = true then Oper.wp Tryd.prog o a w K Q else E := by
  have hw : Region.wanted o (yielded ops a.tmps) = true := by simp [Region.wanted, hg]
  rw [if_pos hw]
  obtain ⟨i0, hi, hz0, hz1, hz2⟩ := info_parts Tryd.infoNum
  refine wp_append_own w s x 24 hop B 54 i0 (.int .i32 0) 1 4 Tryd.underlying24 hi hz0 hz1 hz2 rfl (by decide) _ n _ hs hown ⟨bo, 0, none⟩ 1 1 [.int .i32 y] hx rfl ?_ (ints_oneCell .i32 [y]) (by unfold maxLen; omega) (by omega) hB ?_
  · intro j u hj
    obtain ⟨b, o', e, hcell⟩ := hX.cells (by omega)
    simp only [Option.some.injEq, Addr.mk.injEq, and_true] at e
    obtain ⟨rfl, rfl⟩ := e
    match j, hj with
    | 0, hj =>
      have h0 := hcell 0 (by omega)
      simp at hj
      subst hj
      have e2 : (Addr.mk bo 0 none).add 0 = ⟨bo, 0 + 0, none⟩ := by simp [Addr.add]
      rw [e2, h0]
      rfl
  · intro v' w' hown' hgr hnil
    have hb : Below B w w' := (Below.refl _ _).grown hgr hB (fun k hk => by
      cases ao with
      | none => simp [Value.ownBlock] at hk
      | some ad =>
        obtain ⟨_, h2⟩ := hown
        rcases h2 with ⟨h3, _⟩ | ⟨g, c', cur, hv, hg2, _⟩
        · cases h3
        · simp only [Value.slice.injEq] at hv
          obtain ⟨e1, _⟩ := hv
          rw [Option.some.inj e1] at hk
          simp [Value.ownBlock] at hk
          omega)
    obtain ⟨h1, h2⟩ := hown'
    rcases h2 with ⟨h3, h4⟩ | ⟨g', c', cur, hv, hg2, hr⟩
    · omega
    · subst hv
      have e : A.map (Value.int .i32) ++ [.int .i32 y] = (A ++ [y]).map (Value.int .i32) := by simp
      rw [e] at h1 hr
      exact h g' c' w' ⟨h1, Or.inr ⟨g', c', cur, rfl, hg2, hr⟩⟩ hb hg2
theorem owns_below {w w' : World} {B n : Nat} {e : TypeId} {v : Value} {xs : List Value} (h : w.ownsRow B e 1 v n xs) (hb : Below w.heap.size w w') : w'.ownsRow B e 1 v n xs := by
  obtain ⟨h1, h2⟩ := h
  refine ⟨h1, ?_⟩
  rcases h2 with h2 | ⟨g, cap, cur, hv, hg, hh, r⟩
  · exact Or.inl h2
  · exact Or.inr ⟨g, cap, cur, hv, hg, by rw [hb.block g (Array.getElem?_eq_some_iff.1 hh).1]; exact hh, r⟩
theorem tab_snoc1 (n : Nat) (f : Nat → Int) : tab (n + 1) f = tab n f ++ [f n] := by unfold tab; rw [List.range_succ, List.map_append]; rfl
end Go.Proofs.YtoofbjpekdlfiaaDoor
