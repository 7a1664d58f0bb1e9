/- What each call of package soft on one row answers: means, norms and weights, where the table of steps lies as the program's text lays it. -/
import Derived.Test.YtmocofkcaamnoacDoorRows
import Derived.Test.YtmocofkcaamnoacDoorVec
import Derived.Test.YtmocofkcaamnoacDoorCPow
import Derived.Test.YtmocofkcaamnoacDoorWNum
import Derived.Test.YtmocofkcaamnoacDoorLast
namespace Go.Proofs.YtmocofkcaamnoacDoor
open Go.ChangeShapes Go.WideShapes Go.ChangeAt Go.RowKit
/-- The error's number of a row. -/
def sizeN (n : Nat) : Int := if n = 0 then 8 else if 4096 < n then 2 else 0
theorem sizeN_ok {n : Nat} (h : sizeN n = 0) : 1 ≤ n ∧ n ≤ 4096 := by unfold sizeN at h; split at h <;> (try split at h) <;> omega
theorem checkRow_any (ao : Option Addr) (n ca : Nat) (w : World) (hn : n ≤ 9223372036854775807) :
   Calls Tryd.prog 19 #[.slice ao n ca] w fun e w' => e = .returned (.int .i64 (sizeN n)) ∧ w' = w := by
  by_cases c1 : n = 0
  · subst c1
    go_enter Tryd.func19, Tryd.ntmps19
    go_wp2
    go_ret
    exact ⟨rfl, rfl⟩
  have hz : ((n : Int) == 0) = false := by simp; omega
  by_cases c2 : 4096 < n
  · have HF : Hid (sizeN n = 2) := by show _ = _; unfold sizeN; rw [if_neg c1, if_pos c2]
    go_enter Tryd.func19, Tryd.ntmps19
    go_wp2
    go_ret
    exact ⟨ret_int HF.out.symm, rfl⟩
  · have HF : Hid (sizeN n = 0) := by show _ = _; unfold sizeN; rw [if_neg c1, if_neg c2]
    go_enter Tryd.func19, Tryd.ntmps19
    go_wp2
    go_ret
    exact ⟨ret_int HF.out.symm, rfl⟩
theorem mean_bad (ao : Option Addr) (n ca : Nat) (w : World) (hn : n ≤ 9223372036854775807) (hf : sizeN n ≠ 0) :
   Calls Tryd.prog 15 #[.slice ao n ca] w fun e w' => e = .returned (.tuple #[.int .i32 0, .int .i64 (sizeN n)]) ∧ w' = w := by
  have hf' : (sizeN n == 0) = false := by simpa using hf
  generalize hq : sizeN n = q at *
  go_enter Tryd.func15, Tryd.ntmps15
  go_wp2_with (go_at_call 19; refine (checkRow_any _ _ _ _ hn).mono ?_; rintro e w ⟨rfl, rfl⟩; rw [hq])
  go_ret2
  exact ⟨rfl, rfl⟩
set_option maxHeartbeats 800000 in
theorem mean_any (ao : Option Addr) (n ca : Nat) (A : List Int) (w : World) (hA : RowAt w ao n A) (hf : sizeN n = 0) :
   Calls Tryd.prog 15 #[.slice ao n ca] w fun e w' => e = .returned (.tuple #[.int .i32 (meanN A n), .int .i64 0]) ∧ w' = w := by
  obtain ⟨h1, h4⟩ := sizeN_ok hf
  go_enter Tryd.func15, Tryd.ntmps15
  go_wp2_with (go_at_call 19; refine (checkRow_any _ _ _ _ (by omega)).mono ?_; rintro e w ⟨rfl, rfl⟩; rw [hf])
  clear hf
  go_loopg [5, 15] n (fun r s i wr => ∃ k : Nat, k ≤ n ∧ r = n - k ∧ i = .int .i64 k ∧ s = .int .i64 (dsum A A k) ∧ wr = w)
  case atStart => exact ⟨0, by omega, by omega, rfl, rfl, rfl⟩
  case round =>
    obtain ⟨k, hk, rfl, rfl, rfl, rfl⟩ := hrel
    by_cases hlt : k < n
    · obtain ⟨b, o, rfl, hc⟩ := hA.cells (by omega)
      have e1 : Hid (dsum A A (k + 1) = grow (dsum A A k) (el A k * el A k)) := dsum_succ A A k
      have b1 := dsum_bd A A k
      have b2 := hA.small.el k
      have c1 := hc k hlt
      have b4 := prod_bd (A := 2147483648) (B := 2147483648) (a := el A k) (b := el A k) b2.1 (by omega) b2.1 (by omega)
      generalize dsum A A k = s at *
      generalize el A k = x at *
      have w1 : IntKind.i64.wrap x = x := wrap_in (by omega)
      have w3 : IntKind.i64.wrap (x * x) = x * x := wrap_in (by omega)
      clear hA hc
      go_wp2_with (go_at_call 24; refine (grow_any _ _ _ (by omega) (by omega) (by omega) (by omega)).mono ?_; rintro e w' ⟨rfl, rfl⟩)
      go_roundg (n - (k + 1))
      case measure => omega
      case rel => exact ⟨k + 1, by omega, rfl, by go_num, by rw [e1.out], rfl⟩
    · obtain rfl : k = n := by omega
      have b1 := dsum_bd A A k
      have b2 := dsum_sq_nn A k
      have HM : Hid (meanN A k = sat (dsum A A k / k / 65536)) := rfl
      have b3 := Int.ediv_nonneg b2 (show (0 : Int) ≤ k by omega)
      have b4 := Int.ediv_le_self (k : Int) b2
      have b5 : dsum A A k / (k : Int) / 65536 ≤ dsum A A k / (k : Int) := Int.ediv_le_self _ b3
      have b6 : 0 ≤ dsum A A k / (k : Int) / 65536 := Int.ediv_nonneg b3 (by omega)
      have hk0 : (k : Int) ≠ 0 := by omega
      generalize dsum A A k = s at *
      clear hA
      go_wp2_with (go_at_call 25; refine (sat_any _ _ (by omega) (by omega)).mono ?_; rintro e w' ⟨rfl, rfl⟩)
      go_ret2
      exact ⟨by rw [HM.out]; rfl, rfl⟩
theorem norm_bad (ao bo : Option Addr) (n m ca cb : Nat) (w : World) (hn : n ≤ 9223372036854775807) (hf : sizeN n ≠ 0) :
   Calls Tryd.prog 7 #[.slice ao n ca, .slice bo m cb] w fun e w' => e = .returned (.tuple #[.slice none 0 0, .int .i64 (sizeN n)]) ∧ w' = w := by
  have hf' : (sizeN n == 0) = false := by simpa using hf
  generalize hq : sizeN n = q at *
  go_enter Tryd.func7, Tryd.ntmps7
  go_wp2_with (go_at_call 15; refine (mean_bad _ _ _ _ hn (by rw [hq]; exact hf)).mono ?_; rintro e w ⟨rfl, rfl⟩; rw [hq])
  go_ret2
  exact ⟨rfl, rfl⟩
theorem norm_len (ao bo : Option Addr) (n m ca cb : Nat) (A : List Int) (w : World) (hA : RowAt w ao n A) (hf : sizeN n = 0) (hl : m ≠ n) :
   Calls Tryd.prog 7 #[.slice ao n ca, .slice bo m cb] w fun e w' => e = .returned (.tuple #[.slice none 0 0, .int .i64 6]) ∧ w' = w := by
  have hl' : ((m : Int) == (n : Int)) = false := by simp; omega
  have h4 := (sizeN_ok hf).2
  go_enter Tryd.func7, Tryd.ntmps7
  go_wp2_with (go_at_call 15; refine (mean_any _ _ _ _ _ hA hf).mono ?_; rintro e w ⟨rfl, rfl⟩)
  go_ret2
  exact ⟨rfl, rfl⟩
set_option maxHeartbeats 1600000 in
theorem norm_any (ao bo : Option Addr) (n ca cb : Nat) (A G : List Int) (w : World) (hA : RowAt w ao n A) (hG : RowAt w bo n G) (hf : sizeN n = 0) :
   Calls Tryd.prog 7 #[.slice ao n ca, .slice bo n cb] w fun e w' => ∃ g, e = .returned (.tuple #[.slice (some ⟨g, 0, none⟩) n n, .int .i64 0]) ∧ Fresh w' w.heap.size g n n (tab n (normN A G n)) ∧ Below w.heap.size w w' := by
  obtain ⟨h1, h4⟩ := sizeN_ok hf
  have hmk := run_make_row' (P := Tryd.prog) 27 39 (.int .i32 0) 4 Tryd.underlying27 Tryd.infoNum rfl .i64 .i64 n (by omega) (by omega)
  have F0 := fresh_made w n (by omega)
  have B0 : Below w.heap.size w (w.alloc (.cells (madeCells #[.int .i32 0] n) 39)) := (Below.refl _ _).alloc (Nat.le_refl _) _
  have mb := meanN_bd A n
  have HK : Hid (invN (sat (meanN A n + 1)) = normK A n) := rfl
  have sb := sat_bd (meanN A n + 1)
  go_enter Tryd.func7, Tryd.ntmps7
  go_wp2_with (first | (go_at_call 15; refine (mean_any _ _ _ _ _ hA hf).mono ?_; rintro e w ⟨rfl, rfl⟩) | (go_at_call 17; refine (add_any _ _ _ (by omega) (by omega) (by omega) (by omega)).mono ?_; rintro e w ⟨rfl, rfl⟩) | (go_at_call 16; refine (inv_any _ _ (by omega) (by omega)).mono ?_; rintro e w ⟨rfl, rfl⟩; rw [HK.out]))
  clear hmk hf HK
  generalize w.alloc (.cells (madeCells #[.int .i32 0] n) 39) = w0 at *
  have kb := normK_bd A n
  go_loopg [33] n (fun r i wr => ∃ k : Nat, k ≤ n ∧ r = n - k ∧ i = .int .i64 k ∧ Fresh wr w.heap.size w.heap.size n n (tab n fun j => if j < k then normN A G n j else 0) ∧ Below w.heap.size w wr)
  case atStart => exact ⟨0, by omega, by omega, rfl, by rw [tab_start]; exact F0, B0⟩
  case round =>
    obtain ⟨k, hk, rfl, rfl, F1, B1⟩ := hrel
    clear F0 B0
    by_cases hlt : k < n
    · have A1 := hA.below B1
      have G1 := hG.below B1
      have ax := hA.small.el k
      have gx := hG.small.el k
      have HM1 : Hid (mulN (el A k) (normK A n) = sat (rnd (el A k * normK A n) 65536)) := rfl
      have HM2 : Hid (normN A G n k = sat (rnd (mulN (el A k) (normK A n) * el G k) 65536)) := rfl
      have m1 := mulN_bd (el A k) (normK A n)
      have m2 := normN_bd A G n k
      obtain ⟨b, o, rfl, hc⟩ := A1.cells (by omega)
      obtain ⟨b', o', rfl, hc'⟩ := G1.cells (by omega)
      have c1 := hc k hlt
      have c2 : ∀ p : Nxt wr, p.to.cell? ⟨b', o' + k, none⟩ = some (.int .i32 (el G k)) := fun p => by
        obtain ⟨b2, o2, e2, h2⟩ := (G1.below p.ok).cells (by omega)
        simp only [Option.some.injEq, Addr.mk.injEq, and_true] at e2
        obtain ⟨rfl, rfl⟩ := e2
        exact h2 k hlt
      have y1 : ∀ p : Nxt wr, Calls Tryd.prog 18 #[.int .i32 (el A k), .int .i32 (normK A n)] p.to fun e w'' => e = .returned (.int .i32 (mulN (el A k) (normK A n))) ∧ ∃ q : Nxt wr, w'' = q.to := fun p => calls_nxt_drew (mul_any _ _ _ (by omega) (by omega) (by omega) (by omega))
      have y2 : ∀ p : Nxt wr, Calls Tryd.prog 18 #[.int .i32 (mulN (el A k) (normK A n)), .int .i32 (el G k)] p.to fun e w'' => e = .returned (.int .i32 (normN A G n k)) ∧ ∃ q : Nxt wr, w'' = q.to := fun p => calls_nxt_drew (mul_any _ _ _ (by omega) (by omega) (by omega) (by omega))
      generalize mulN (el A k) (normK A n) = z1 at *
      have HS : Hid (∀ w', Fresh w' w.heap.size w.heap.size n n (tab n fun j => if j < k then normN A G n j else 0) → Fresh (w'.setCell ⟨w.heap.size, k, none⟩ (.int .i32 (normN A G n k))) w.heap.size w.heap.size n n (tab n fun j => if j < k + 1 then normN A G n j else 0)) := fun w' h => h.step _ hlt rfl (by omega)
      generalize hz2 : normN A G n k = z2 at *
      clear hz2 hc hc' hA hG A1 G1 HM1 HM2
      generalize normK A n = kk at *
      generalize el A k = xa at *
      generalize el G k = xg at *
      go_wp2_with fail
      haveI := nxt_ne wr
      refine wp_region_last_lit (by kernel_rfl) (List.cons_ne_nil _ _) (by kernel_rfl) (by kernel_rfl) (by kernel_rfl) (by kernel_rfl) (by kernel_rfl) ?_
      intro l' z' hl' hz'
      simp only [List.dropLast_cons_cons, List.dropLast_singleton] at hl'
      simp only [List.getLast_cons_cons, List.getLast_singleton] at hz'
      subst hl' hz'
      repeat (first | go_big_quiet_skip | (go_big_quiet_want; go_big_quiet_op; first | go_big_quiet_on | (apply Exists.intro; refine ⟨fun pq => ?_, ?_⟩; (first | (go_at_call_of 18 z1; exact y2 _) | (go_at_call 18; exact y1 _)); go_big_quiet_on)))
      refine wpQuiet_nil ?_
      intro _ hw'
      obtain ⟨⟨w3, B3⟩, hw''⟩ := hw'
      subst hw''
      have F3 := F1.below B3
      have ff := F3.frozen k
      have fc := F3.cell hlt
      have F4 := HS.out _ F3
      replace B3 := below_then B1 B3
      clear y1 y2 c2 c1 F1
      go_wp2
      go_roundg (n - (k + 1))
      case measure => omega
      case rel => exact ⟨k + 1, by omega, rfl, by go_num, F4, B3.setCell (Nat.le_refl _) _⟩
    · obtain rfl : k = n := by omega
      go_wp2
      go_ret2
      exact ⟨_, rfl, by rw [← tab_done]; exact F1, B1⟩
end Go.Proofs.YtmocofkcaamnoacDoor
