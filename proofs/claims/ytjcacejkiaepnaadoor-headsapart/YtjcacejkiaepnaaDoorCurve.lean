/- What each call of package curve answers, where the table of steps lies in memory as the program's text lays it. -/
import Derived.Test.YtjcacejkiaepnaaDoorRows
import Derived.Test.YtjcacejkiaepnaaDoorCNum
import Derived.Test.YtjcacejkiaepnaaDoorKin
import Derived.WalkKit
import Derived.ProofKit
import Derived.OpenShut
import Derived.WalkLawsBesides
import Derived.BigQuiet
import Derived.WalkSmall
import Derived.OwnWalk
import Derived.Laws.CopyOwn
namespace Go.Proofs.YtjcacejkiaepnaaDoor
open Go.ChangeShapes Go.WideShapes Go.ChangeAt Go.RowKit
def tabCells : Array Value := (stp.map fun (n : Nat) => Value.int .i32 (n : Int)).toArray
theorem tab_get (i : Nat) (h : i < 65) : tabCells[i]? = some (.int .i32 (stepAt i : Int)) := by
  have hl : stp.length = 65 := rfl
  simp [tabCells, stepAt, hl, h]
/-- The table of steps lies in block 0. -/
def Tab (w : World) : Prop := ∃ t fr, w.heap[0]? = some (.cells tabCells t fr)
theorem Tab.lt {w : World} (h : Tab w) : 0 < w.heap.size := by
  obtain ⟨t, fr, h⟩ := h
  exact (Array.getElem?_eq_some_iff.1 h).1
theorem Tab.next {w w' : World} (h : Tab w) (hb : Below w.heap.size w w') : Tab w' := by
  obtain ⟨t, fr, h'⟩ := h
  exact ⟨t, fr, (hb.block 0 (Tab.lt ⟨t, fr, h'⟩)).trans h'⟩
theorem Tab.cell {w : World} (h : Tab w) (i : Nat) (hi : i < 65) : w.cell? ⟨0, i, none⟩ = some (.int .i32 (stepAt i : Int)) := by
  obtain ⟨t, fr, h'⟩ := h
  have := tab_get i hi
  simp only [World.cell?, h']
  exact this
theorem shr_v (y v : Nat) (hv : v ≤ 65536) : Op.shift .shr .i64 (v : Int) .i64 ((y : Int) / 65536) = pure (.int .i64 ((v / 2 ^ (y / 65536) : Nat) : Int)) := by
  rw [shift_shr_any _ _ _ _ (by omega)]
  have e : ((y : Int) / 65536).toNat = y / 65536 := by omega
  rw [e]
  congr 2
  show (v : Int) / 2 ^ min (y / 65536) 64 = _
  rcases Nat.lt_or_ge (y / 65536) 64 with h | h
  · rw [Nat.min_eq_left (by omega)]; norm_cast
  · rw [Nat.min_eq_right h]
    have h1 : v / 2 ^ (y / 65536) = 0 := Nat.div_eq_of_lt (Nat.lt_of_le_of_lt hv (Nat.lt_of_lt_of_le (show 65536 < 2 ^ 64 by decide) (Nat.pow_le_pow_right (by decide) h)))
    rw [h1]
    omega
theorem pow_neg (y : Nat) (w : World) (h : Tab w) (hy : y ≤ 2147483648) :
   Calls Tryd.prog 48 #[.int .i32 (-(y : Int))] w fun e w' => e = .returned (.int .i32 (powN y : Int)) ∧ ∃ n, w' = w.drewN n := by
  have hi : y / 1024 % 64 < 64 := Nat.mod_lt _ (by decide)
  have c1 := h.cell (y / 1024 % 64) (by omega)
  have c2 := h.cell (y / 1024 % 64 + 1) (by omega)
  obtain ⟨s1, s2, s3, s4⟩ := step_at _ hi
  have pb := prod_bd2 y
  have sv := shr_v y (vN y) (vN_bd y).2.2.2
  rw [← v_int y] at sv
  have pw : ((vN y / 2 ^ (y / 65536) : Nat) : Int) = (powN y : Int) := rfl
  rw [pw] at sv
  have pbd := powN_bd y
  clear h pw
  go_enter Tryd.func48, Tryd.ntmps48
  go_wp2_with fail
  go_quiet (fail)
  go_wp2
  go_ret
  exact ⟨rfl, _, rfl⟩
theorem pow_pos (x : Int) (w : World) (h : Tab w) (h0 : 0 < x) :
   Calls Tryd.prog 48 #[.int .i32 x] w fun e w' => e = .returned (.int .i32 65536) ∧ ∃ n, w' = w.drewN n := by
  have c1 := h.cell 0 (by omega)
  have c2 := h.cell 1 (by omega)
  have e0 : stepAt 0 = 65536 := rfl
  have e1 : stepAt 1 = 64830 := rfl
  rw [e0] at c1
  rw [e1] at c2
  clear h e0 e1
  go_enter Tryd.func48, Tryd.ntmps48
  go_wp2_with fail
  go_quiet (fail)
  go_wp2
  go_ret
  exact ⟨rfl, _, rfl⟩
theorem or_add (r b k : Nat) (hb : b = 2 ^ k) (hm : r % (2 * b) = 0) : r ||| b = r + b := by
  have e : 2 * b = 2 ^ (k + 1) := by rw [hb, Nat.pow_succ]; omega
  have h := Nat.two_pow_add_eq_or_of_lt (i := k + 1) (b := b) (by rw [← e, hb]; have : 0 < 2 ^ k := Nat.pow_pos (by decide); omega) (r / (2 * b))
  rw [← e] at h
  have d : 2 * b * (r / (2 * b)) = r := by have := Nat.div_add_mod r (2 * b); omega
  rw [d] at h
  exact h.symm
theorem sq_bd (r b x : Nat) (hle : r + 2 * b ≤ 4294967296) (hb : 1 ≤ b) : (0 : Int) ≤ ((r : Int) + (b : Int)) * ((r : Int) + (b : Int)) ∧ ((r : Int) + (b : Int)) * ((r : Int) + (b : Int)) ≤ 18446744073709551615 ∧ (((r : Int) + (b : Int)) * ((r : Int) + (b : Int)) ≤ (x : Int) ↔ (r + b) * (r + b) ≤ x) := by
  have e : ((r : Int) + (b : Int)) * ((r : Int) + (b : Int)) = (((r + b) * (r + b) : Nat) : Int) := by norm_cast
  have h : (r + b) * (r + b) ≤ 4294967295 * 4294967295 := Nat.mul_le_mul (by omega) (by omega)
  rw [e]
  omega
theorem mod_half {r b : Nat} (h : r % (2 * b) = 0) : r % b = 0 ∧ (r + b) % b = 0 := by
  have h1 : r % b = 0 := Nat.mod_eq_zero_of_dvd (Nat.dvd_trans ⟨2, Nat.mul_comm _ _⟩ (Nat.dvd_of_mod_eq_zero h))
  exact ⟨h1, by rw [Nat.add_mod_right]; exact h1⟩
theorem rt_yes (k r x b : Nat) (hb : b = 2 ^ k) (h : rtFrom (k + 1) r x = rt x) (hc : (r + b) * (r + b) ≤ x) : rtFrom k (r + b) x = rt x := by
  subst hb; rw [← h]; simp [rtFrom, hc]
theorem rt_no (k r x b : Nat) (hb : b = 2 ^ k) (h : rtFrom (k + 1) r x = rt x) (hc : ¬ (r + b) * (r + b) ≤ x) : rtFrom k r x = rt x := by
  subst hb; rw [← h]; simp [rtFrom, hc]
theorem root_any (x : Nat) (w : World) :
   Calls Tryd.prog 37 #[.int .u64 (x : Int)] w fun e w' => e = .returned (.int .u64 (rt x : Int)) ∧ w' = w := by
  go_enter Tryd.func37, Tryd.ntmps37
  go_wp2
  go_loop [3, 4] (fun rv bv => ∃ (k r : Nat), k ≤ 32 ∧ rv = .int .u64 (r : Int) ∧ bv = .int .u64 ((2 ^ k / 2 : Nat) : Int) ∧ r % 2 ^ k = 0 ∧ r + 2 ^ k ≤ 4294967296 ∧ rtFrom k r x = rt x) (fun _ bv => (intOf bv).toNat)
  case atStart => exact ⟨32, 0, by decide, rfl, rfl, rfl, by decide, rfl⟩
  case round =>
    obtain ⟨k, r, hk, rfl, rfl, hm, hle, hrt⟩ := hrel
    cases k with
    | zero =>
      have HR : Hid (rtFrom 0 r x = rt x) := hrt
      clear hrt
      go_wp2
      go_ret
      exact ⟨ret_int (by rw [← HR.out]; rfl), rfl⟩
    | succ k =>
      obtain ⟨b, hb⟩ : ∃ b, b = 2 ^ k := ⟨_, rfl⟩
      have e1 : 2 ^ (k + 1) = 2 * b := by rw [hb, Nat.pow_succ]; omega
      have e2 : (2 : Nat) ^ (k + 1) / 2 = b := by omega
      have hb1 : 1 ≤ b := by rw [hb]; exact Nat.pow_pos (by decide)
      rw [e2]
      rw [e1] at hm hle
      have hor : bits BinOp.or IntKind.u64 (r : Int) (b : Int) = (r : Int) + (b : Int) := by
        rw [bits_or_u64_nat r b (by omega) (by omega), or_add r b k hb hm]; omega
      obtain ⟨q1, q2, q3⟩ := sq_bd r b x hle hb1
      have HB : Hid (b = 2 ^ k) := hb
      have HM : Hid (r % (2 * b) = 0) := hm
      by_cases hc : (r + b) * (r + b) ≤ x
      · have HR : Hid (rtFrom k (r + b) x = rt x) := rt_yes k r x b hb hrt hc
        have hc' := q3.2 hc
        clear hrt hb e1 e2 q3 hc hm
        go_wp2
        go_round
        case rel => have hb := HB.out; have hm := (mod_half HM.out).2; exact ⟨k, r + b, by omega, by go_num, by rw [← hb]; go_num, by rw [← hb]; exact hm, by rw [← hb]; omega, HR.out⟩
        case measure => simp [intOf]; omega
      · have HR : Hid (rtFrom k r x = rt x) := rt_no k r x b hb hrt hc
        have hc' : ¬ ((r : Int) + (b : Int)) * ((r : Int) + (b : Int)) ≤ (x : Int) := fun h => hc (q3.1 h)
        clear hrt hb e1 e2 q3 hc hm
        go_wp2
        go_round
        case rel => have hb := HB.out; have hm := (mod_half HM.out).1; exact ⟨k, r, by omega, by go_num, by rw [← hb]; go_num, by rw [← hb]; exact hm, by rw [← hb]; omega, HR.out⟩
        case measure => simp [intOf]; omega
theorem inv_any (x : Int) (w : World) (h1 : -2147483648 ≤ x) (h2 : x ≤ 2147483647) :
   Calls Tryd.prog 23 #[.int .i32 x] w fun e w' => e = .returned (.int .i32 (invN x)) ∧ w' = w := by
  by_cases hx : x ≤ 0
  · have HI : Hid (invN x = 2147483647) := by show _ = _; unfold invN; rw [if_pos hx]
    go_enter Tryd.func23, Tryd.ntmps23
    go_wp2
    go_ret
    exact ⟨by rw [HI.out]; rfl, rfl⟩
  · obtain ⟨n, rfl⟩ : ∃ n : Nat, x = n := ⟨x.toNat, by omega⟩
    have HI : Hid (invN (n : Int) = (rt (281474976710656 / n) : Int)) := by show _ = _; unfold invN; rw [if_neg hx]; rfl
    have hb := inv_small n
    go_enter Tryd.func23, Tryd.ntmps23
    go_wp2_with (go_at_call 37; refine (root_any (281474976710656 / n) _).mono ?_; rintro e w' ⟨rfl, rfl⟩)
    go_ret
    exact ⟨by rw [HI.out]; rfl, rfl⟩
end Go.Proofs.YtjcacejkiaepnaaDoor
