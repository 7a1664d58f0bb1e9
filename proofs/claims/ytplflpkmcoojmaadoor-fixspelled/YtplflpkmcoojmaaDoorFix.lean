/- What each call of package fix answers, and that the awake check of the laws of layer 1 is true, of every input in range. -/
import Derived.Test.YtplflpkmcoojmaaDoorRows
import Derived.Test.YtplflpkmcoojmaaDoorNum
import Derived.Test.YtplflpkmcoojmaaDoorKin
import Derived.WalkKit
import Derived.ProofKit
import Derived.OpenShut
import Derived.WalkLawsBesides
import Derived.BigQuiet
import Derived.WalkSmall
import Derived.Laws.IdiomStrings
import Derived.Lib.UnsafeStr
import Derived.OwnWalk
namespace Go.Proofs.YtplflpkmcoojmaaDoor
open Go.ChangeShapes Go.WideShapes Go.ChangeAt Go.RowKit
open Go.Lib (byteCells)
theorem sat_any (x : Int) (w : World) (h1 : -9223372036854775808 ≤ x) (h2 : x ≤ 9223372036854775807) :
   Calls Tryd.prog 19 #[.int .i64 x] w fun e w' => e = .returned (.int .i32 (sat x)) ∧ w' = w := by
  go_enter Tryd.func19, Tryd.ntmps19
  go_wp2
  all_goals
    go_ret
    exact ⟨ret_int (by unfold sat; omega), rfl⟩
theorem add_any (x y : Int) (w : World) (h1 : -2147483648 ≤ x) (h2 : x ≤ 2147483647) (h3 : -2147483648 ≤ y) (h4 : y ≤ 2147483647) :
   Calls Tryd.prog 11 #[.int .i32 x, .int .i32 y] w fun e w' => e = .returned (.int .i32 (sat (x + y))) ∧ w' = w := by
  go_enter Tryd.func11, Tryd.ntmps11
  go_wp2_with (go_at_call 19; refine (sat_any _ _ (by omega) (by omega)).mono ?_; rintro e w' ⟨rfl, rfl⟩)
  go_ret
  exact ⟨rfl, rfl⟩
theorem round_any (x d : Int) (w : World) (h1 : -9223372036854775808 ≤ x) (h2 : x ≤ 9223372036854775807) (h3 : 1 ≤ d) (h4 : d ≤ 9223372036854775807) :
   Calls Tryd.prog 17 #[.int .i64 x, .int .i64 d] w fun e w' => e = .returned (.int .i64 (rnd x d)) ∧ ∃ n, w' = w.drewN n := by
  have hd : d ≠ 0 := by omega
  by_cases hx : 0 ≤ x
  · obtain ⟨e, r0, r1, q0, q1⟩ := parts_pos x d hx h3
    by_cases hr : 0 < x % d
    · by_cases hh : d - x % d ≤ x % d
      · have ha := rnd_pos_up x d _ _ h3 e hx r1 hh
        have HA : Hid (rnd x d = x / d + 1) := ha
        have hq : x / d + 1 ≤ 9223372036854775807 := by have := Int.mul_le_mul_of_nonneg_left (show 2 ≤ d by omega) q0; omega
        clear ha e
        go_enter Tryd.func17, Tryd.ntmps17
        go_wp2_with fail
        go_quiet (fail)
        go_wp2
        go_ret
        exact ⟨ret_int (by rw [HA.out]), _, rfl⟩
      · have ha := rnd_pos_dn x d _ _ h3 e hx r0 (by omega)
        have HA : Hid (rnd x d = x / d) := ha
        clear ha e
        go_enter Tryd.func17, Tryd.ntmps17
        go_wp2_with fail
        go_quiet (fail)
        go_wp2
        go_ret
        exact ⟨ret_int (by rw [HA.out]), _, rfl⟩
    · have ha := rnd_pos_dn x d _ _ h3 e hx r0 (by omega)
      have HA : Hid (rnd x d = x / d) := ha
      clear ha e
      go_enter Tryd.func17, Tryd.ntmps17
      go_wp2_with fail
      go_quiet (fail)
      go_wp2
      go_ret
      exact ⟨ret_int (by rw [HA.out]), _, rfl⟩
  · obtain ⟨q, r, eq, er, e, r0, r1, q0, q1⟩ := parts_neg x d (by omega) h3
    by_cases hr : r < 0
    · by_cases hh : d + r ≤ -r
      · have ha := rnd_neg_up x d _ _ h3 e (by omega) r1 hh
        have HA : Hid (rnd x d = q - 1) := ha
        have hq : -9223372036854775808 ≤ q - 1 := by have := Int.mul_le_mul_of_nonneg_left (show 2 ≤ d by omega) (show 0 ≤ -q by omega); omega
        clear ha e
        go_enter Tryd.func17, Tryd.ntmps17
        go_wp2_with fail
        go_quiet (fail)
        go_wp2
        go_ret
        exact ⟨ret_int (by rw [HA.out]), _, rfl⟩
      · have ha := rnd_neg_dn x d _ _ h3 e (by omega) r0 (by omega)
        have HA : Hid (rnd x d = q) := ha
        clear ha e
        go_enter Tryd.func17, Tryd.ntmps17
        go_wp2_with fail
        go_quiet (fail)
        go_wp2
        go_ret
        exact ⟨ret_int (by rw [HA.out]), _, rfl⟩
    · have ha := rnd_neg_dn x d _ _ h3 e (by omega) r0 (by omega)
      have HA : Hid (rnd x d = q) := ha
      clear ha e
      go_enter Tryd.func17, Tryd.ntmps17
      go_wp2_with fail
      go_quiet (fail)
      go_wp2
      go_ret
      exact ⟨ret_int (by rw [HA.out]), _, rfl⟩

theorem mul_any (x y : Int) (w : World) (h1 : -2147483648 ≤ x) (h2 : x ≤ 2147483647) (h3 : -2147483648 ≤ y) (h4 : y ≤ 2147483647) :
   Calls Tryd.prog 10 #[.int .i32 x, .int .i32 y] w fun e w' => e = .returned (.int .i32 (sat (rnd (x * y) 65536))) ∧ ∃ n, w' = w.drewN n := by
  have hp := prod_bd (A := 2147483648) (B := 2147483648) (a := x) (b := y) h1 (by omega) h3 (by omega)
  have hr := rnd_bd (x * y) 65536 (2147483648 * 32768) (by omega) (by omega) (by omega)
  go_enter Tryd.func10, Tryd.ntmps10
  go_wp2_with (first | (go_at_call 17; refine (round_any _ _ _ (by omega) (by omega) (by omega) (by omega)).mono ?_; rintro e w' ⟨rfl, n, rfl⟩) | (go_at_call 19; refine (sat_any _ _ (by omega) (by omega)).mono ?_; rintro e w' ⟨rfl, rfl⟩))
  go_ret
  exact ⟨rfl, _, rfl⟩
theorem div_zero (x : Int) (w : World) :
   Calls Tryd.prog 9 #[.int .i32 x, .int .i32 0] w fun e w' => e = .returned (.tuple #[.int .i32 0, .int .i64 5]) ∧ ∃ n, w' = w.drewN n := by
  go_enter Tryd.func9, Tryd.ntmps9
  go_wp2
  go_ret2
  exact ⟨rfl, 0, rfl⟩
theorem div_any (x y : Int) (w : World) (h1 : -2147483648 ≤ x) (h2 : x ≤ 2147483647) (h3 : -2147483648 ≤ y) (h4 : y ≤ 2147483647) (hy : y ≠ 0) :
   Calls Tryd.prog 9 #[.int .i32 x, .int .i32 y] w fun e w' => e = .returned (.tuple #[.int .i32 (quo x y), .int .i64 0]) ∧ ∃ n, w' = w.drewN n := by
  have hne : (y == 0) = false := by simpa using hy
  by_cases hn : y < 0
  · have hr := rnd_bd (-(x * 65536)) (-y) (2147483648 * 65536) (by omega) (by have := Int.mul_le_mul_of_nonneg_left (show 1 ≤ -y by omega) (show (0:Int) ≤ 2147483648 * 65536 by omega); omega) (by have := Int.mul_le_mul_of_nonneg_left (show 1 ≤ -y by omega) (show (0:Int) ≤ 2147483648 * 65536 by omega); omega)
    have HQ : Hid (quo x y = sat (rnd (-(x * 65536)) (-y))) := by show _ = _; unfold quo; rw [if_pos hn]
    go_enter Tryd.func9, Tryd.ntmps9
    go_wp2_with (first | (go_at_call 17; refine (round_any _ _ _ (by omega) (by omega) (by omega) (by omega)).mono ?_; rintro e w' ⟨rfl, n, rfl⟩) | (go_at_call 19; refine (sat_any _ _ (by omega) (by omega)).mono ?_; rintro e w' ⟨rfl, rfl⟩))
    go_ret2
    exact ⟨by rw [HQ.out]; rfl, _, rfl⟩
  · have hr := rnd_bd (x * 65536) y (2147483648 * 65536) (by omega) (by have := Int.mul_le_mul_of_nonneg_left (show 1 ≤ y by omega) (show (0:Int) ≤ 2147483648 * 65536 by omega); omega) (by have := Int.mul_le_mul_of_nonneg_left (show 1 ≤ y by omega) (show (0:Int) ≤ 2147483648 * 65536 by omega); omega)
    have HQ : Hid (quo x y = sat (rnd (x * 65536) y)) := by show _ = _; unfold quo; rw [if_neg hn]
    go_enter Tryd.func9, Tryd.ntmps9
    go_wp2_with (first | (go_at_call 17; refine (round_any _ _ _ (by omega) (by omega) (by omega) (by omega)).mono ?_; rintro e w' ⟨rfl, n, rfl⟩) | (go_at_call 19; refine (sat_any _ _ (by omega) (by omega)).mono ?_; rintro e w' ⟨rfl, rfl⟩))
    go_ret2
    exact ⟨by rw [HQ.out]; rfl, _, rfl⟩
def lenOf : Value → Nat | .slice _ n _ => n | _ => 0
theorem lenOf_owns {w : World} {base : Nat} {e : TypeId} {size : Nat} {v : Value} {n : Nat} {xs : List Value} (h : w.ownsRow base e size v n xs) : lenOf v = n := by
  rcases h.2 with ⟨rfl, rfl⟩ | ⟨g, cap, cur, rfl, _⟩ <;> rfl
theorem Tryd.info5 : (Tryd.prog.info? 5).map (fun i => (i.zero, i.size, i.bytes)) = some (some (.int .u8 0), 1, 1) := by kernel_rfl
set_option maxHeartbeats 1600000 in
theorem part_zero (w : World) : Calls Tryd.prog 8 #[.int .i64 0] w fun e w' => e = .returned (.string ⟨#[]⟩) ∧ w' = w := by
  go_enter Tryd.func8, Tryd.ntmps8
  go_wp2
  go_ret
  exact ⟨rfl, rfl⟩
set_option maxHeartbeats 1600000 in
theorem part_any (p0 : Nat) (w : World) (h0 : p0 < 65536) (h1 : p0 ≠ 0) :
   Calls Tryd.prog 8 #[.int .i64 (p0 : Int)] w fun e w' => e = .returned (.string ⟨(46 :: fd 16 p0).toArray⟩) ∧ Below w.heap.size w w' := by
  obtain ⟨i0, hi, hz0, hz1, hz2⟩ := info_parts Tryd.info5
  have hne : ((p0 : Int) == 0) = false := by simp; omega
  go_enter Tryd.func8, Tryd.ntmps8
  go_wp2
  go_loopw [0, 3] (fun pv tv wr => ∃ (p k : Nat) (l : List UInt8), pv = .int .i64 (p : Int) ∧ p < 65536 ∧ p * 10 ^ k % 65536 = 0 ∧ l.length + k = 17 ∧ l ≠ [] ∧ wr.ownsRow w.heap.size 5 1 tv l.length (byteCells l) ∧ Below w.heap.size w wr ∧ l ++ fd k p = 46 :: fd 16 p0)
    (fun _ tv _ => 17 - lenOf tv)
  case atStart =>
    refine ⟨p0, 16, [46], rfl, h0, ?_, rfl, by simp, ⟨rfl, .inr ⟨w.heap.size, 1, #[.int .u8 46], rfl, Nat.le_refl _, ?_, Nat.le_refl _, by decide, rfl, rfl⟩⟩, (Below.refl _ _).alloc (Nat.le_refl _) _, rfl⟩
    · rw [show (10 : Nat) ^ 16 = 65536 * 152587890625 by decide, Nat.mul_left_comm]; exact Nat.mul_mod_right _ _
    · exact heap_alloc_new _ _
  case round =>
    obtain ⟨p, k, l, rfl, hp, hk, hlen, hne', hown, hb, hl⟩ := hrel
    by_cases hp0 : p = 0
    · subst hp0
      rw [fd_zero, List.append_nil] at hl
      have HL : Hid (l = 46 :: fd 16 p0) := hl
      have hpos : 0 < l.length := by cases l <;> simp_all
      clear hl
      rcases hown.2 with ⟨-, h00⟩ | ⟨g, cap, cur, rfl, -, -, -, -, -, -⟩
      · omega
      · have hcv := run_convert_bytes_back (P := Tryd.prog) wr 41 9 5 ⟨g, 0, none⟩ cap l Tryd.underlying41 Tryd.underlying5 Tryd.underlying9 (fun j hj => hown.cells (g := g) rfl j _ (by simp [byteCells, hj]))
        go_wp2
        go_ret
        exact ⟨by rw [← HL.out]; rfl, hb⟩
    · obtain ⟨k, rfl⟩ : ∃ k', k = k' + 1 := by
        cases k with
        | zero => simp at hk; omega
        | succ k' => exact ⟨k', rfl⟩
      have hpne : ((p : Int) == 0) = false := by simp; omega
      have R1 := fd_next p k hk
      rw [fd_succ k p hp0] at hl
      have hc := fd_digit p hp
      have HL : Hid (l ++ UInt8.ofNat (48 + p * 10 / 65536) :: fd k (p * 10 % 65536) = 46 :: fd 16 p0) := hl
      have HC : Hid ((UInt8.ofNat (48 + p * 10 / 65536)).toNat = 48 + p * 10 / 65536) := hc
      have HR : Hid (p * 10 % 65536 * 10 ^ k % 65536 = 0) := R1
      have HK : Hid (p * 10 ^ (k + 1) % 65536 = 0) := hk
      clear hl hc R1 hk
      go_wp2_with (at_builtin; refine wpList_append_own _ rfl _ _ 41 rfl w.heap.size 5 i0 (.int .u8 0) 1 1 Tryd.underlying41 hi hz0 hz1 hz2 rfl (by decide) _ _ _ rfl (hown.alloc _) ⟨wr.heap.size, 0, none⟩ 1 1 [Value.int .u8 (48 + (p : Int) * 10 / 65536)] rfl rfl ?c1 ?c2 ?c3 ?c4 ?c5 ?_)
      case c1 => intro j u hj; match j, hj with | 0, hj => simp at hj; subst hj; simp [Addr.add]
      case c2 => intro u' hu'; simp at hu'; subst hu'; rfl
      case c3 => unfold maxLen; omega
      case c4 => omega
      case c5 => have := hb.size; simp; omega
      · intro v' w1 hown' hgrow _
        have hb1 : Below w.heap.size w w1 := (hb.alloc (by have := hb.size; omega) _).grown hgrow (by have := hb.size; simp; omega) (fun k hk => (hown.lt k hk).1)
        have hv : lenOf v' = l.length + 1 := lenOf_owns hown'
        have hv3 : lenOf u3 = l.length := lenOf_owns hown
        have eL : byteCells l ++ [Value.int .u8 (48 + (p : Int) * 10 / 65536)] = byteCells (l ++ [UInt8.ofNat (48 + p * 10 / 65536)]) := by
          have := HC.out
          simp only [byteCells, List.map_append, List.map_cons, List.map_nil, this]
          congr 3
        have eN : l.length + 1 = (l ++ [UInt8.ofNat (48 + p * 10 / 65536)]).length := by simp
        rw [eL, eN] at hown'
        have HV : Hid (lenOf v' = l.length + 1) := hv
        have HV3 : Hid (lenOf u3 = l.length) := hv3
        clear hgrow hown hb hv hv3 eL eN
        go_wp2
        go_roundw
        case rel => exact ⟨p * 10 % 65536, k, l ++ [UInt8.ofNat (48 + p * 10 / 65536)], by go_num, by omega, HR.out, by simp; omega, by simp, hown', hb1, by rw [List.append_assoc]; exact HL.out⟩
        case measure => have a := HV.out; have b := HV3.out; simp [a, b]; omega

theorem fmt_one (w : World) : Calls Tryd.prog 7 #[.int .i64 1, .int .i64 10] w fun e w' => e = .returned (.string ⟨#[49]⟩) ∧ Below w.heap.size w w' := by
  go_enter Tryd.func7, Tryd.ntmps7
  go_wp2
  go_ret
  exact ⟨rfl, Below.refl _ _⟩
theorem part_half (w : World) : Calls Tryd.prog 8 #[.int .i64 32768] w fun e w' => e = .returned (.string ⟨#[46, 53]⟩) ∧ Below w.heap.size w w' :=
  part_any 32768 w (by decide) (by decide)
theorem text_15 (w : World) : Calls Tryd.prog 4 #[.int .i32 98304] w fun e w' => e = .returned (.string ⟨#[49, 46, 53]⟩) ∧ Below w.heap.size w w' := by
  have hne := nxt_ne w
  go_enter Tryd.func4, Tryd.ntmps4
  go_wp2_with fail
  refine wp_region_nxt (by kernel_rfl) (by kernel_rfl) ?_
  repeat (first | go_big_quiet_skip | (go_big_quiet_want; go_big_quiet_op; first | go_big_quiet_on | (apply Exists.intro; refine ⟨fun _ => ?_, ?_⟩; (first | (go_at_call 7; exact calls_nxt (fmt_one _)) | (go_at_call 8; exact calls_nxt (part_half _))); go_big_quiet_on)))
  refine wpQuiet_nil ?_
  intro _ hw'
  obtain ⟨⟨wq, hwq⟩, hw''⟩ := hw'
  subst hw''
  go_wp2
  go_ret
  exact ⟨rfl, hwq⟩
theorem awake_any (w : World) : Calls Tryd.prog 5 #[] w fun e w' => e = .returned (.bool true) ∧ Below w.heap.size w w' := by
  have q1 : quo 65536 196608 = 21845 := by decide
  have q2 : sat (rnd 9663676416 65536) = 147456 := by decide
  have q3 : sat 2147483648 = 2147483647 := by decide
  go_enter Tryd.func5, Tryd.ntmps5
  go_wp2_with (first | (go_at_call 9; refine (div_any 65536 196608 _ (by omega) (by omega) (by omega) (by omega) (by omega)).mono ?_; rintro e w1 ⟨rfl, n1, rfl⟩) | (go_at_call 10; refine (mul_any 98304 98304 _ (by omega) (by omega) (by omega) (by omega)).mono ?_; rintro e w2 ⟨rfl, n2, rfl⟩) | (go_at_call 4; refine (text_15 _).mono ?_; rintro e w3 ⟨rfl, hb⟩) | (go_at_call 11; refine (add_any 2147483647 1 _ (by omega) (by omega) (by omega) (by omega)).mono ?_; rintro e w4 ⟨rfl, rfl⟩))
  go_ret
  exact ⟨rfl, below_then (below_drewN (Below.refl _ _) _) hb⟩
end Go.Proofs.YtplflpkmcoojmaaDoor
