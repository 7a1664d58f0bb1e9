/- The Go text of CurveSteps returns true at every input, where the table of steps lies as the program's text lays it. -/
import Derived.Test.YtijjghlfamebaabDoorCStep
import Derived.Lib.Hide
namespace Go.Proofs.YtijjghlfamebaabDoor
open Go.ChangeShapes Go.WideShapes Go.ChangeAt Go.RowKit
set_option linter.unusedVariables false
/-- The law's own copy of the table, in block g. -/
def Cop (g : Nat) (w : World) : Prop := w.heap[g]? = some (.cells tabCells 30 (0, 0))
theorem Cop.cell {g : Nat} {w : World} (h : Cop g w) (i : Nat) (hi : i < 65) : w.cell? ⟨g, i, none⟩ = some (.int .i32 (stepAt i : Int)) := by
  have := tab_get i hi
  unfold Cop at h
  simp only [World.cell?, h]
  exact this
theorem Cop.next {g : Nat} {w w' : World} (h : Cop g w) (hb : Below w.heap.size w w') : Cop g w' :=
  (hb.block g (Array.getElem?_eq_some_iff.1 h).1).trans h
theorem cop_of {g : Nat} {w w' : World} (h : Cop g w) (e : w'.heap = w.heap) : Cop g w' := by unfold Cop at *; rw [e]; exact h
theorem tab_of {w w' : World} (h : Tab w) (e : w'.heap = w.heap) : Tab w' := by unfold Tab at *; rw [e]; exact h
theorem root_int (v : Int) (w : World) (h0 : 0 ≤ v) : Calls Tryd.prog 17 #[.int .u64 v] w fun e w' => e = .returned (.int .u64 (rt v.toNat : Int)) ∧ w' = w := by
  obtain ⟨n, rfl⟩ : ∃ n : Nat, v = n := ⟨v.toNat, by omega⟩
  exact root_any n w
theorem roots_of (z : Int) (h0 : 0 ≤ z) (h1 : z ≤ 4294967295) : (0 ≤ z * z ∧ z * z ≤ 18446744065119617025) ∧ (rt (z * z).toNat : Int) = z ∧ (0 < z → (1 ≤ z * z ∧ (rt (z * z - 1).toNat : Int) = z - 1 ∧ (rt ((z * z).toNat - 1) : Int) = z - 1)) ∧ (rt (z * z + 2 * z).toNat : Int) = z := by
  obtain ⟨n, rfl⟩ : ∃ n : Nat, z = n := ⟨z.toNat, by omega⟩
  have e := (cast_sq n).1
  have hn : n ≤ 4294967295 := by omega
  have hm : n * n ≤ 4294967295 * 4294967295 := Nat.mul_le_mul hn hn
  have a1 := rt_sq n hn
  have a3 := rt_sq_top n hn
  rw [e]
  refine ⟨by omega, by rw [Int.toNat_natCast, a1], fun hz => ?_, ?_⟩
  · have a2 := rt_sq_pred n hn (by omega)
    have hp : 1 ≤ n * n := Nat.mul_pos (by omega) (by omega)
    have e2 : (((n * n : Nat) : Int) - 1).toNat = n * n - 1 := by omega
    exact ⟨by omega, by rw [e2, a2]; omega, by rw [Int.toNat_natCast, a2]; omega⟩
  · have e3 : (((n * n : Nat) : Int) + 2 * (n : Int)).toNat = n * n + 2 * n := by omega
    rw [e3, a3]
theorem pow_between (y : Nat) : (powN y : Int) ≤ (stepAt (y / 1024 % 64) : Int) / 2 ^ (y / 1024 / 64) ∧ (stepAt (y / 1024 % 64 + 1) : Int) / 2 ^ (y / 1024 / 64) ≤ (powN y : Int) := by
  have e : y / 1024 / 64 = y / 65536 := by omega
  rw [e]
  have p1 : powN y ≤ stepAt (y / 1024 % 64) / 2 ^ (y / 65536) := Nat.div_le_div_right (vN_bd y).2.1
  have p2 : stepAt (y / 1024 % 64 + 1) / 2 ^ (y / 65536) ≤ powN y := Nat.div_le_div_right (vN_bd y).1
  refine ⟨?_, ?_⟩ <;> norm_cast
set_option maxRecDepth 100000 in
set_option maxHeartbeats 6400000 in
theorem curveSteps_walk (x i z : Int) (x1 : -2147483648 ≤ x) (x2 : x ≤ 2147483647) (i1 : -9223372036854775808 ≤ i) (i2 : i ≤ 9223372036854775807) (z1 : 0 ≤ z) (z2 : z ≤ 4294967295) (w : World) (h : Tab w) :
    Calls Tryd.prog 7 #[.int .i32 x, .int .i64 i, .int .u32 z] w fun e w' => e = .returned (.bool true) ∧ Below w.heap.size w w' := by
  have hg2 : ∀ (u : World) o, (u.alloc o).heap[u.heap.size]? = some o := fun u o => heap_alloc_new _ _
  obtain ⟨zb, q1, q2, q3⟩ := roots_of z z1 z2
  have HQ2 : Hid (0 < z → (1 ≤ z * z ∧ (rt (z * z - 1).toNat : Int) = z - 1 ∧ (rt ((z * z).toNat - 1) : Int) = z - 1)) := q2
  clear q2
  go_enter Tryd.func7, Tryd.ntmps7
  go_wp2_with (first | (go_at_call 15; refine (steps_any _ h).mono ?_; rintro e w1 ⟨rfl, hb1⟩) | (refine wpList_store_row rfl 30 _ _ rfl _ tabCells rfl rfl 30 Tryd.zeroCells30 (hg2 _ _) (by kernel_rfl) (by kernel_rfl) (by kernel_rfl) ?_; refine Hid.out ?_))
  obtain ⟨W2, hW2⟩ : ∃ W2, W2 = (w1.alloc (Obj.cells Tryd.zeroCells30 30)).setRow w1.heap.size tabCells := ⟨_, rfl⟩
  rw [← hW2]
  have hb2 : Below w.heap.size w W2 := by
    rw [hW2]; exact below_then hb1 (below_setRow ((Below.refl _ _).alloc (Nat.le_refl _) _) (Nat.le_refl _) _)
  have cop : Cop w1.heap.size W2 := by
    rw [hW2]; exact setRow_heap _ _ _ _ _ _ (hg2 _ _)
  clear hW2 hg2
  obtain ⟨g, hg⟩ : ∃ g, g = w1.heap.size := ⟨_, rfl⟩
  rw [← hg] at cop
  rw [← hg]
  clear hg hb1
  refine Lib.hid ?_
  have c0 : W2.cell? ⟨g, 0, none⟩ = some (.int .i32 65536) := cop.cell 0 (by decide)
  have c64 : W2.cell? ⟨g, 64, none⟩ = some (.int .i32 32768) := cop.cell 64 (by decide)
  have HT : Hid (Tab W2) := h.next hb2
  have HC : Hid (Cop g W2) := cop
  clear h cop
  by_cases hi : i < 0 ∨ 63 < i
  · have ci1 : W2.cell? ⟨g, 1, none⟩ = some (.int .i32 64830) := HC.out.cell 1 (by decide)
    rcases hi with hi | hi
    · skip
      go_wp2_with fail
      go_quiet (fail)
      clear c0 c64
      by_cases hz : 0 < z
      · obtain ⟨q4, q5, q6⟩ := HQ2.out hz
        rcases (show 0 < x ∨ x < -1310720 ∨ (x ≤ 0 ∧ -1310720 ≤ x) by omega) with hx | hx | ⟨hx, hx'⟩
        · go_wp2_with (first | (go_at_call 17; refine (root_int _ _ (by omega)).mono ?_; rintro e w2 ⟨rfl, rfl⟩) | (go_at_call 12; refine (awake2_any _ (by exact tab_of HT.out rfl)).mono ?_; rintro e w1 ⟨rfl, hb⟩))
          go_ret
          exact ⟨rfl, below_then (below_drewN hb2 _) (by assumption)⟩
        · go_wp2_with (first | (go_at_call 17; refine (root_int _ _ (by omega)).mono ?_; rintro e w2 ⟨rfl, rfl⟩) | (go_at_call 12; refine (awake2_any _ (by exact tab_of HT.out rfl)).mono ?_; rintro e w1 ⟨rfl, hb⟩))
          go_ret
          exact ⟨rfl, below_then (below_drewN hb2 _) (by assumption)⟩
        · obtain ⟨y, rfl⟩ : ∃ y : Nat, x = -(y : Int) := ⟨(-x).toNat, by omega⟩
          have hk : y / 1024 % 64 < 64 := Nat.mod_lt _ (by decide)
          have ne := nxt_ne (W2.drewN nq)
          have ck : ∀ p : Nxt (W2.drewN nq), p.to.cell? ⟨g, y / 1024 % 64, none⟩ = some (.int .i32 (stepAt (y / 1024 % 64) : Int)) := fun p => (Cop.next (cop_of (w' := W2.drewN nq) HC.out rfl) p.ok).cell _ (by omega)
          have ck1 : ∀ p : Nxt (W2.drewN nq), p.to.cell? ⟨g, y / 1024 % 64 + 1, none⟩ = some (.int .i32 (stepAt (y / 1024 % 64 + 1) : Int)) := fun p => (Cop.next (cop_of (w' := W2.drewN nq) HC.out rfl) p.ok).cell _ (by omega)
          obtain ⟨s1, s2, s3, s4⟩ := step_at _ hk
          have fp := powI_neg y
          obtain ⟨d1, d2⟩ := pow_between y
          have p3 := powN_bd y
          go_wp2_with (first | (go_at_call 17; refine (root_int _ _ (by omega)).mono ?_; rintro e w2 ⟨rfl, rfl⟩))
          refine wp_region_nxt (by kernel_rfl) (by kernel_rfl) ?_
          repeat (first | go_big_quiet_skip | (go_big_quiet_want; go_big_quiet_op; first | go_big_quiet_on | (apply Exists.intro; refine ⟨fun pq => ?_, ?_⟩; (first | (go_at_call 12; exact calls_nxt (awake2_any _ (Tab.next (tab_of (w' := W2.drewN nq) HT.out rfl) pq.ok))) | (go_at_call 13; exact calls_nxt_drew (pow_any _ _ (Tab.next (tab_of (w' := W2.drewN nq) HT.out rfl) pq.ok) x1 x2))); go_big_quiet_on)))
          refine wpQuiet_nil ?_
          intro _ hw'
          obtain ⟨⟨wq, hwq⟩, hw''⟩ := hw'
          subst hw''
          go_wp2
          go_ret
          exact ⟨rfl, below_then (below_drewN hb2 _) hwq⟩
      · obtain rfl : z = 0 := by omega
        rcases (show 0 < x ∨ x < -1310720 ∨ (x ≤ 0 ∧ -1310720 ≤ x) by omega) with hx | hx | ⟨hx, hx'⟩
        · go_wp2_with (first | (go_at_call 17; refine (root_int _ _ (by omega)).mono ?_; rintro e w2 ⟨rfl, rfl⟩) | (go_at_call 12; refine (awake2_any _ (by exact tab_of HT.out rfl)).mono ?_; rintro e w1 ⟨rfl, hb⟩))
          go_ret
          exact ⟨rfl, below_then (below_drewN hb2 _) (by assumption)⟩
        · go_wp2_with (first | (go_at_call 17; refine (root_int _ _ (by omega)).mono ?_; rintro e w2 ⟨rfl, rfl⟩) | (go_at_call 12; refine (awake2_any _ (by exact tab_of HT.out rfl)).mono ?_; rintro e w1 ⟨rfl, hb⟩))
          go_ret
          exact ⟨rfl, below_then (below_drewN hb2 _) (by assumption)⟩
        · obtain ⟨y, rfl⟩ : ∃ y : Nat, x = -(y : Int) := ⟨(-x).toNat, by omega⟩
          have hk : y / 1024 % 64 < 64 := Nat.mod_lt _ (by decide)
          have ne := nxt_ne (W2.drewN nq)
          have ck : ∀ p : Nxt (W2.drewN nq), p.to.cell? ⟨g, y / 1024 % 64, none⟩ = some (.int .i32 (stepAt (y / 1024 % 64) : Int)) := fun p => (Cop.next (cop_of (w' := W2.drewN nq) HC.out rfl) p.ok).cell _ (by omega)
          have ck1 : ∀ p : Nxt (W2.drewN nq), p.to.cell? ⟨g, y / 1024 % 64 + 1, none⟩ = some (.int .i32 (stepAt (y / 1024 % 64 + 1) : Int)) := fun p => (Cop.next (cop_of (w' := W2.drewN nq) HC.out rfl) p.ok).cell _ (by omega)
          obtain ⟨s1, s2, s3, s4⟩ := step_at _ hk
          have fp := powI_neg y
          obtain ⟨d1, d2⟩ := pow_between y
          have p3 := powN_bd y
          go_wp2_with (first | (go_at_call 17; refine (root_int _ _ (by omega)).mono ?_; rintro e w2 ⟨rfl, rfl⟩))
          refine wp_region_nxt (by kernel_rfl) (by kernel_rfl) ?_
          repeat (first | go_big_quiet_skip | (go_big_quiet_want; go_big_quiet_op; first | go_big_quiet_on | (apply Exists.intro; refine ⟨fun pq => ?_, ?_⟩; (first | (go_at_call 12; exact calls_nxt (awake2_any _ (Tab.next (tab_of (w' := W2.drewN nq) HT.out rfl) pq.ok))) | (go_at_call 13; exact calls_nxt_drew (pow_any _ _ (Tab.next (tab_of (w' := W2.drewN nq) HT.out rfl) pq.ok) x1 x2))); go_big_quiet_on)))
          refine wpQuiet_nil ?_
          intro _ hw'
          obtain ⟨⟨wq, hwq⟩, hw''⟩ := hw'
          subst hw''
          go_wp2
          go_ret
          exact ⟨rfl, below_then (below_drewN hb2 _) hwq⟩
    · skip
      go_wp2_with fail
      go_quiet (fail)
      clear c0 c64
      by_cases hz : 0 < z
      · obtain ⟨q4, q5, q6⟩ := HQ2.out hz
        rcases (show 0 < x ∨ x < -1310720 ∨ (x ≤ 0 ∧ -1310720 ≤ x) by omega) with hx | hx | ⟨hx, hx'⟩
        · go_wp2_with (first | (go_at_call 17; refine (root_int _ _ (by omega)).mono ?_; rintro e w2 ⟨rfl, rfl⟩) | (go_at_call 12; refine (awake2_any _ (by exact tab_of HT.out rfl)).mono ?_; rintro e w1 ⟨rfl, hb⟩))
          go_ret
          exact ⟨rfl, below_then (below_drewN hb2 _) (by assumption)⟩
        · go_wp2_with (first | (go_at_call 17; refine (root_int _ _ (by omega)).mono ?_; rintro e w2 ⟨rfl, rfl⟩) | (go_at_call 12; refine (awake2_any _ (by exact tab_of HT.out rfl)).mono ?_; rintro e w1 ⟨rfl, hb⟩))
          go_ret
          exact ⟨rfl, below_then (below_drewN hb2 _) (by assumption)⟩
        · obtain ⟨y, rfl⟩ : ∃ y : Nat, x = -(y : Int) := ⟨(-x).toNat, by omega⟩
          have hk : y / 1024 % 64 < 64 := Nat.mod_lt _ (by decide)
          have ne := nxt_ne (W2.drewN nq)
          have ck : ∀ p : Nxt (W2.drewN nq), p.to.cell? ⟨g, y / 1024 % 64, none⟩ = some (.int .i32 (stepAt (y / 1024 % 64) : Int)) := fun p => (Cop.next (cop_of (w' := W2.drewN nq) HC.out rfl) p.ok).cell _ (by omega)
          have ck1 : ∀ p : Nxt (W2.drewN nq), p.to.cell? ⟨g, y / 1024 % 64 + 1, none⟩ = some (.int .i32 (stepAt (y / 1024 % 64 + 1) : Int)) := fun p => (Cop.next (cop_of (w' := W2.drewN nq) HC.out rfl) p.ok).cell _ (by omega)
          obtain ⟨s1, s2, s3, s4⟩ := step_at _ hk
          have fp := powI_neg y
          obtain ⟨d1, d2⟩ := pow_between y
          have p3 := powN_bd y
          go_wp2_with (first | (go_at_call 17; refine (root_int _ _ (by omega)).mono ?_; rintro e w2 ⟨rfl, rfl⟩))
          refine wp_region_nxt (by kernel_rfl) (by kernel_rfl) ?_
          repeat (first | go_big_quiet_skip | (go_big_quiet_want; go_big_quiet_op; first | go_big_quiet_on | (apply Exists.intro; refine ⟨fun pq => ?_, ?_⟩; (first | (go_at_call 12; exact calls_nxt (awake2_any _ (Tab.next (tab_of (w' := W2.drewN nq) HT.out rfl) pq.ok))) | (go_at_call 13; exact calls_nxt_drew (pow_any _ _ (Tab.next (tab_of (w' := W2.drewN nq) HT.out rfl) pq.ok) x1 x2))); go_big_quiet_on)))
          refine wpQuiet_nil ?_
          intro _ hw'
          obtain ⟨⟨wq, hwq⟩, hw''⟩ := hw'
          subst hw''
          go_wp2
          go_ret
          exact ⟨rfl, below_then (below_drewN hb2 _) hwq⟩
      · obtain rfl : z = 0 := by omega
        rcases (show 0 < x ∨ x < -1310720 ∨ (x ≤ 0 ∧ -1310720 ≤ x) by omega) with hx | hx | ⟨hx, hx'⟩
        · go_wp2_with (first | (go_at_call 17; refine (root_int _ _ (by omega)).mono ?_; rintro e w2 ⟨rfl, rfl⟩) | (go_at_call 12; refine (awake2_any _ (by exact tab_of HT.out rfl)).mono ?_; rintro e w1 ⟨rfl, hb⟩))
          go_ret
          exact ⟨rfl, below_then (below_drewN hb2 _) (by assumption)⟩
        · go_wp2_with (first | (go_at_call 17; refine (root_int _ _ (by omega)).mono ?_; rintro e w2 ⟨rfl, rfl⟩) | (go_at_call 12; refine (awake2_any _ (by exact tab_of HT.out rfl)).mono ?_; rintro e w1 ⟨rfl, hb⟩))
          go_ret
          exact ⟨rfl, below_then (below_drewN hb2 _) (by assumption)⟩
        · obtain ⟨y, rfl⟩ : ∃ y : Nat, x = -(y : Int) := ⟨(-x).toNat, by omega⟩
          have hk : y / 1024 % 64 < 64 := Nat.mod_lt _ (by decide)
          have ne := nxt_ne (W2.drewN nq)
          have ck : ∀ p : Nxt (W2.drewN nq), p.to.cell? ⟨g, y / 1024 % 64, none⟩ = some (.int .i32 (stepAt (y / 1024 % 64) : Int)) := fun p => (Cop.next (cop_of (w' := W2.drewN nq) HC.out rfl) p.ok).cell _ (by omega)
          have ck1 : ∀ p : Nxt (W2.drewN nq), p.to.cell? ⟨g, y / 1024 % 64 + 1, none⟩ = some (.int .i32 (stepAt (y / 1024 % 64 + 1) : Int)) := fun p => (Cop.next (cop_of (w' := W2.drewN nq) HC.out rfl) p.ok).cell _ (by omega)
          obtain ⟨s1, s2, s3, s4⟩ := step_at _ hk
          have fp := powI_neg y
          obtain ⟨d1, d2⟩ := pow_between y
          have p3 := powN_bd y
          go_wp2_with (first | (go_at_call 17; refine (root_int _ _ (by omega)).mono ?_; rintro e w2 ⟨rfl, rfl⟩))
          refine wp_region_nxt (by kernel_rfl) (by kernel_rfl) ?_
          repeat (first | go_big_quiet_skip | (go_big_quiet_want; go_big_quiet_op; first | go_big_quiet_on | (apply Exists.intro; refine ⟨fun pq => ?_, ?_⟩; (first | (go_at_call 12; exact calls_nxt (awake2_any _ (Tab.next (tab_of (w' := W2.drewN nq) HT.out rfl) pq.ok))) | (go_at_call 13; exact calls_nxt_drew (pow_any _ _ (Tab.next (tab_of (w' := W2.drewN nq) HT.out rfl) pq.ok) x1 x2))); go_big_quiet_on)))
          refine wpQuiet_nil ?_
          intro _ hw'
          obtain ⟨⟨wq, hwq⟩, hw''⟩ := hw'
          subst hw''
          go_wp2
          go_ret
          exact ⟨rfl, below_then (below_drewN hb2 _) hwq⟩
  · obtain ⟨j, rfl⟩ : ∃ j : Nat, i = j := ⟨i.toNat, by omega⟩
    have hj : j < 64 := by omega
    have ci := HC.out.cell j (by omega)
    have ci1 := HC.out.cell (j + 1) (by omega)
    obtain ⟨u1, u2, u3, u4⟩ := step_at j hj
    go_wp2_with fail
    go_quiet (fail)
    clear c0 c64
    by_cases hz : 0 < z
    · obtain ⟨q4, q5, q6⟩ := HQ2.out hz
      rcases (show 0 < x ∨ x < -1310720 ∨ (x ≤ 0 ∧ -1310720 ≤ x) by omega) with hx | hx | ⟨hx, hx'⟩
      · go_wp2_with (first | (go_at_call 17; refine (root_int _ _ (by omega)).mono ?_; rintro e w2 ⟨rfl, rfl⟩) | (go_at_call 12; refine (awake2_any _ (by exact tab_of HT.out rfl)).mono ?_; rintro e w1 ⟨rfl, hb⟩))
        go_ret
        exact ⟨rfl, below_then (below_drewN hb2 _) (by assumption)⟩
      · go_wp2_with (first | (go_at_call 17; refine (root_int _ _ (by omega)).mono ?_; rintro e w2 ⟨rfl, rfl⟩) | (go_at_call 12; refine (awake2_any _ (by exact tab_of HT.out rfl)).mono ?_; rintro e w1 ⟨rfl, hb⟩))
        go_ret
        exact ⟨rfl, below_then (below_drewN hb2 _) (by assumption)⟩
      · obtain ⟨y, rfl⟩ : ∃ y : Nat, x = -(y : Int) := ⟨(-x).toNat, by omega⟩
        have hk : y / 1024 % 64 < 64 := Nat.mod_lt _ (by decide)
        have ne := nxt_ne (W2.drewN nq)
        have ck : ∀ p : Nxt (W2.drewN nq), p.to.cell? ⟨g, y / 1024 % 64, none⟩ = some (.int .i32 (stepAt (y / 1024 % 64) : Int)) := fun p => (Cop.next (cop_of (w' := W2.drewN nq) HC.out rfl) p.ok).cell _ (by omega)
        have ck1 : ∀ p : Nxt (W2.drewN nq), p.to.cell? ⟨g, y / 1024 % 64 + 1, none⟩ = some (.int .i32 (stepAt (y / 1024 % 64 + 1) : Int)) := fun p => (Cop.next (cop_of (w' := W2.drewN nq) HC.out rfl) p.ok).cell _ (by omega)
        obtain ⟨s1, s2, s3, s4⟩ := step_at _ hk
        have fp := powI_neg y
        obtain ⟨d1, d2⟩ := pow_between y
        have p3 := powN_bd y
        go_wp2_with (first | (go_at_call 17; refine (root_int _ _ (by omega)).mono ?_; rintro e w2 ⟨rfl, rfl⟩))
        refine wp_region_nxt (by kernel_rfl) (by kernel_rfl) ?_
        repeat (first | go_big_quiet_skip | (go_big_quiet_want; go_big_quiet_op; first | go_big_quiet_on | (apply Exists.intro; refine ⟨fun pq => ?_, ?_⟩; (first | (go_at_call 12; exact calls_nxt (awake2_any _ (Tab.next (tab_of (w' := W2.drewN nq) HT.out rfl) pq.ok))) | (go_at_call 13; exact calls_nxt_drew (pow_any _ _ (Tab.next (tab_of (w' := W2.drewN nq) HT.out rfl) pq.ok) x1 x2))); go_big_quiet_on)))
        refine wpQuiet_nil ?_
        intro _ hw'
        obtain ⟨⟨wq, hwq⟩, hw''⟩ := hw'
        subst hw''
        go_wp2
        go_ret
        exact ⟨rfl, below_then (below_drewN hb2 _) hwq⟩
    · obtain rfl : z = 0 := by omega
      rcases (show 0 < x ∨ x < -1310720 ∨ (x ≤ 0 ∧ -1310720 ≤ x) by omega) with hx | hx | ⟨hx, hx'⟩
      · go_wp2_with (first | (go_at_call 17; refine (root_int _ _ (by omega)).mono ?_; rintro e w2 ⟨rfl, rfl⟩) | (go_at_call 12; refine (awake2_any _ (by exact tab_of HT.out rfl)).mono ?_; rintro e w1 ⟨rfl, hb⟩))
        go_ret
        exact ⟨rfl, below_then (below_drewN hb2 _) (by assumption)⟩
      · go_wp2_with (first | (go_at_call 17; refine (root_int _ _ (by omega)).mono ?_; rintro e w2 ⟨rfl, rfl⟩) | (go_at_call 12; refine (awake2_any _ (by exact tab_of HT.out rfl)).mono ?_; rintro e w1 ⟨rfl, hb⟩))
        go_ret
        exact ⟨rfl, below_then (below_drewN hb2 _) (by assumption)⟩
      · obtain ⟨y, rfl⟩ : ∃ y : Nat, x = -(y : Int) := ⟨(-x).toNat, by omega⟩
        have hk : y / 1024 % 64 < 64 := Nat.mod_lt _ (by decide)
        have ne := nxt_ne (W2.drewN nq)
        have ck : ∀ p : Nxt (W2.drewN nq), p.to.cell? ⟨g, y / 1024 % 64, none⟩ = some (.int .i32 (stepAt (y / 1024 % 64) : Int)) := fun p => (Cop.next (cop_of (w' := W2.drewN nq) HC.out rfl) p.ok).cell _ (by omega)
        have ck1 : ∀ p : Nxt (W2.drewN nq), p.to.cell? ⟨g, y / 1024 % 64 + 1, none⟩ = some (.int .i32 (stepAt (y / 1024 % 64 + 1) : Int)) := fun p => (Cop.next (cop_of (w' := W2.drewN nq) HC.out rfl) p.ok).cell _ (by omega)
        obtain ⟨s1, s2, s3, s4⟩ := step_at _ hk
        have fp := powI_neg y
        obtain ⟨d1, d2⟩ := pow_between y
        have p3 := powN_bd y
        go_wp2_with (first | (go_at_call 17; refine (root_int _ _ (by omega)).mono ?_; rintro e w2 ⟨rfl, rfl⟩))
        refine wp_region_nxt (by kernel_rfl) (by kernel_rfl) ?_
        repeat (first | go_big_quiet_skip | (go_big_quiet_want; go_big_quiet_op; first | go_big_quiet_on | (apply Exists.intro; refine ⟨fun pq => ?_, ?_⟩; (first | (go_at_call 12; exact calls_nxt (awake2_any _ (Tab.next (tab_of (w' := W2.drewN nq) HT.out rfl) pq.ok))) | (go_at_call 13; exact calls_nxt_drew (pow_any _ _ (Tab.next (tab_of (w' := W2.drewN nq) HT.out rfl) pq.ok) x1 x2))); go_big_quiet_on)))
        refine wpQuiet_nil ?_
        intro _ hw'
        obtain ⟨⟨wq, hwq⟩, hw''⟩ := hw'
        subst hw''
        go_wp2
        go_ret
        exact ⟨rfl, below_then (below_drewN hb2 _) hwq⟩
end Go.Proofs.YtijjghlfamebaabDoor
