/- Contracts of the program's functions, part 3 of 13: what each call returns and leaves of memory. -/
import Derived.Test.YtcanjlofnpnhkaaGreatDoorRows
import Derived.Test.YtcanjlofnpnhkaaGreatDoorPk2
import Derived.Laws.MakeOwn
import Derived.WalkKit
import Derived.ProofKit
import Derived.OpenShut
import Derived.WalkLawsBesides
import Derived.BigQuiet
import Derived.WalkSmall
import Derived.Laws.IdiomStrings
import Derived.Lib.UnsafeStr
import Derived.OwnWalk
import Derived.Laws.ResultCell
import Derived.Deep.RegionLaw
import Derived.Deep.CutRange
import Derived.Laws.Tables
import Derived.Test.YtcanjlofnpnhkaaGreatDoorPk1
import Derived.Laws.Bits64
/- What each call of package soft on one row answers: means, norms and weights, where the table of steps lies as the program's text lays it. -/
namespace Go.Proofs.YtcanjlofnpnhkaaGreatDoor
open Go.ChangeShapes Go.WideShapes Go.ChangeAt Go.RowKit
/-- The error's number of a row. -/
def sizeN (n : Nat) : Int := if n = 0 then 8 else if 4096 < n then 2 else 0
theorem sizeN_ok {n : Nat} (h : sizeN n = 0) : 1 ≤ n ∧ n ≤ 4096 := by unfold sizeN at h; split at h <;> (try split at h) <;> omega
theorem checkRow_any (ao : Option Addr) (n ca : Nat) (w : World) (hn : n ≤ 9223372036854775807) :
   Calls Tryz.prog 97 #[.slice ao n ca] w fun e w' => e = .returned (.int .i64 (sizeN n)) ∧ w' = w := by
  by_cases c1 : n = 0
  · subst c1
    go_enter Tryz.func97, Tryz.ntmps97
    go_wp2
    go_ret
    exact ⟨rfl, rfl⟩
  have hz : ((n : Int) == 0) = false := by simp; omega
  by_cases c2 : 4096 < n
  · have HF : Hid (sizeN n = 2) := by show _ = _; unfold sizeN; rw [if_neg c1, if_pos c2]
    go_enter Tryz.func97, Tryz.ntmps97
    go_wp2
    go_ret
    exact ⟨ret_int HF.out.symm, rfl⟩
  · have HF : Hid (sizeN n = 0) := by show _ = _; unfold sizeN; rw [if_neg c1, if_neg c2]
    go_enter Tryz.func97, Tryz.ntmps97
    go_wp2
    go_ret
    exact ⟨ret_int HF.out.symm, rfl⟩
theorem mean_bad (ao : Option Addr) (n ca : Nat) (w : World) (hn : n ≤ 9223372036854775807) (hf : sizeN n ≠ 0) :
   Calls Tryz.prog 87 #[.slice ao n ca] w fun e w' => e = .returned (.tuple #[.int .i32 0, .int .i64 (sizeN n)]) ∧ w' = w := by
  have hf' : (sizeN n == 0) = false := by simpa using hf
  generalize hq : sizeN n = q at *
  go_enter Tryz.func87, Tryz.ntmps87
  go_wp2_with (go_at_call 97; refine (checkRow_any _ _ _ _ hn).mono ?_; rintro e w ⟨rfl, rfl⟩; rw [hq])
  go_ret2
  exact ⟨rfl, rfl⟩
set_option maxHeartbeats 800000 in
theorem mean_any (ao : Option Addr) (n ca : Nat) (A : List Int) (w : World) (hA : RowAt w ao n A) (hf : sizeN n = 0) :
   Calls Tryz.prog 87 #[.slice ao n ca] w fun e w' => e = .returned (.tuple #[.int .i32 (meanN A n), .int .i64 0]) ∧ w' = w := by
  obtain ⟨h1, h4⟩ := sizeN_ok hf
  go_enter Tryz.func87, Tryz.ntmps87
  go_wp2_with (go_at_call 97; refine (checkRow_any _ _ _ _ (by omega)).mono ?_; rintro e w ⟨rfl, rfl⟩; rw [hf])
  clear hf
  go_loopg [5, 15] n (fun r s i wr => ∃ k : Nat, k ≤ n ∧ r = n - k ∧ i = .int .i64 k ∧ s = .int .i64 (dsum A A k) ∧ wr = w)
  case atStart => exact ⟨0, by omega, by omega, rfl, rfl, rfl⟩
  case round =>
    obtain ⟨k, hk, rfl, rfl, rfl, rfl⟩ := hrel
    by_cases hlt : k < n
    · obtain ⟨b, o, rfl, hc⟩ := hA.cells (by omega)
      have e1 : Hid (dsum A A (k + 1) = grow (dsum A A k) (el A k * el A k)) := dsum_succ A A k
      have b1 := dsum_bd A A k
      have b2 := hA.small.el k
      have c1 := hc k hlt
      have b4 := prod_bd (A := 2147483648) (B := 2147483648) (a := el A k) (b := el A k) b2.1 (by omega) b2.1 (by omega)
      generalize dsum A A k = s at *
      generalize el A k = x at *
      have w1 : IntKind.i64.wrap x = x := wrap_in (by omega)
      have w3 : IntKind.i64.wrap (x * x) = x * x := wrap_in (by omega)
      clear hA hc
      go_wp2_with (go_at_call 98; refine (grow_any _ _ _ (by omega) (by omega) (by omega) (by omega)).mono ?_; rintro e w' ⟨rfl, rfl⟩)
      go_roundg (n - (k + 1))
      case measure => omega
      case rel => exact ⟨k + 1, by omega, rfl, by go_num, by rw [e1.out], rfl⟩
    · obtain rfl : k = n := by omega
      have b1 := dsum_bd A A k
      have b2 := dsum_sq_nn A k
      have HM : Hid (meanN A k = sat (dsum A A k / k / 65536)) := rfl
      have b3 := Int.ediv_nonneg b2 (show (0 : Int) ≤ k by omega)
      have b4 := Int.ediv_le_self (k : Int) b2
      have b5 : dsum A A k / (k : Int) / 65536 ≤ dsum A A k / (k : Int) := Int.ediv_le_self _ b3
      have b6 : 0 ≤ dsum A A k / (k : Int) / 65536 := Int.ediv_nonneg b3 (by omega)
      have hk0 : (k : Int) ≠ 0 := by omega
      generalize dsum A A k = s at *
      clear hA
      go_wp2_with (go_at_call 71; refine (sat_any _ _ (by omega) (by omega)).mono ?_; rintro e w' ⟨rfl, rfl⟩)
      go_ret2
      exact ⟨by rw [HM.out]; rfl, rfl⟩
theorem norm_bad (ao bo : Option Addr) (n m ca cb : Nat) (w : World) (hn : n ≤ 9223372036854775807) (hf : sizeN n ≠ 0) :
   Calls Tryz.prog 77 #[.slice ao n ca, .slice bo m cb] w fun e w' => e = .returned (.tuple #[.slice none 0 0, .int .i64 (sizeN n)]) ∧ w' = w := by
  have hf' : (sizeN n == 0) = false := by simpa using hf
  generalize hq : sizeN n = q at *
  go_enter Tryz.func77, Tryz.ntmps77
  go_wp2_with (go_at_call 87; refine (mean_bad _ _ _ _ hn (by rw [hq]; exact hf)).mono ?_; rintro e w ⟨rfl, rfl⟩; rw [hq])
  go_ret2
  exact ⟨rfl, rfl⟩
theorem norm_len (ao bo : Option Addr) (n m ca cb : Nat) (A : List Int) (w : World) (hA : RowAt w ao n A) (hf : sizeN n = 0) (hl : m ≠ n) :
   Calls Tryz.prog 77 #[.slice ao n ca, .slice bo m cb] w fun e w' => e = .returned (.tuple #[.slice none 0 0, .int .i64 6]) ∧ w' = w := by
  have hl' : ((m : Int) == (n : Int)) = false := by simp; omega
  have h4 := (sizeN_ok hf).2
  go_enter Tryz.func77, Tryz.ntmps77
  go_wp2_with (go_at_call 87; refine (mean_any _ _ _ _ _ hA hf).mono ?_; rintro e w ⟨rfl, rfl⟩)
  go_ret2
  exact ⟨rfl, rfl⟩
set_option maxHeartbeats 1600000 in
theorem norm_any (ao bo : Option Addr) (n ca cb : Nat) (A G : List Int) (w : World) (hA : RowAt w ao n A) (hG : RowAt w bo n G) (hf : sizeN n = 0) :
   Calls Tryz.prog 77 #[.slice ao n ca, .slice bo n cb] w fun e w' => ∃ g, e = .returned (.tuple #[.slice (some ⟨g, 0, none⟩) n n, .int .i64 0]) ∧ Fresh w' w.heap.size g n n (tab n (normN A G n)) ∧ Below w.heap.size w w' := by
  obtain ⟨h1, h4⟩ := sizeN_ok hf
  have hmk := run_make_row' (P := Tryz.prog) 35 106 (.int .i32 0) 4 Tryz.underlying35 Tryz.infoNum rfl .i64 .i64 n (by omega) (by omega)
  have F0 := fresh_made w n (by omega)
  have B0 : Below w.heap.size w (w.alloc (.cells (madeCells #[.int .i32 0] n) 106)) := (Below.refl _ _).alloc (Nat.le_refl _) _
  have mb := meanN_bd A n
  have HK : Hid (invN (sat (meanN A n + 1)) = normK A n) := rfl
  have sb := sat_bd (meanN A n + 1)
  go_enter Tryz.func77, Tryz.ntmps77
  go_wp2_with (first | (go_at_call 87; refine (mean_any _ _ _ _ _ hA hf).mono ?_; rintro e w ⟨rfl, rfl⟩) | (go_at_call 70; refine (add_any _ _ _ (by omega) (by omega) (by omega) (by omega)).mono ?_; rintro e w ⟨rfl, rfl⟩) | (go_at_call 88; refine (inv_any _ _ (by omega) (by omega)).mono ?_; rintro e w ⟨rfl, rfl⟩; rw [HK.out]))
  clear hmk hf HK
  generalize w.alloc (.cells (madeCells #[.int .i32 0] n) 106) = w0 at *
  have kb := normK_bd A n
  go_loopg [33] n (fun r i wr => ∃ k : Nat, k ≤ n ∧ r = n - k ∧ i = .int .i64 k ∧ Fresh wr w.heap.size w.heap.size n n (tab n fun j => if j < k then normN A G n j else 0) ∧ Below w.heap.size w wr)
  case atStart => exact ⟨0, by omega, by omega, rfl, by rw [tab_start]; exact F0, B0⟩
  case round =>
    obtain ⟨k, hk, rfl, rfl, F1, B1⟩ := hrel
    clear F0 B0
    by_cases hlt : k < n
    · have A1 := hA.below B1
      have G1 := hG.below B1
      have ax := hA.small.el k
      have gx := hG.small.el k
      have HM1 : Hid (mulN (el A k) (normK A n) = sat (rnd (el A k * normK A n) 65536)) := rfl
      have HM2 : Hid (normN A G n k = sat (rnd (mulN (el A k) (normK A n) * el G k) 65536)) := rfl
      have m1 := mulN_bd (el A k) (normK A n)
      have m2 := normN_bd A G n k
      obtain ⟨b, o, rfl, hc⟩ := A1.cells (by omega)
      obtain ⟨b', o', rfl, hc'⟩ := G1.cells (by omega)
      have c1 := hc k hlt
      have c2 : ∀ p : Nxt wr, p.to.cell? ⟨b', o' + k, none⟩ = some (.int .i32 (el G k)) := fun p => by
        obtain ⟨b2, o2, e2, h2⟩ := (G1.below p.ok).cells (by omega)
        simp only [Option.some.injEq, Addr.mk.injEq, and_true] at e2
        obtain ⟨rfl, rfl⟩ := e2
        exact h2 k hlt
      have y1 : ∀ p : Nxt wr, Calls Tryz.prog 89 #[.int .i32 (el A k), .int .i32 (normK A n)] p.to fun e w'' => e = .returned (.int .i32 (mulN (el A k) (normK A n))) ∧ ∃ q : Nxt wr, w'' = q.to := fun p => calls_nxt_drew (mul_any _ _ _ (by omega) (by omega) (by omega) (by omega))
      have y2 : ∀ p : Nxt wr, Calls Tryz.prog 89 #[.int .i32 (mulN (el A k) (normK A n)), .int .i32 (el G k)] p.to fun e w'' => e = .returned (.int .i32 (normN A G n k)) ∧ ∃ q : Nxt wr, w'' = q.to := fun p => calls_nxt_drew (mul_any _ _ _ (by omega) (by omega) (by omega) (by omega))
      generalize mulN (el A k) (normK A n) = z1 at *
      have HS : Hid (∀ w', Fresh w' w.heap.size w.heap.size n n (tab n fun j => if j < k then normN A G n j else 0) → Fresh (w'.setCell ⟨w.heap.size, k, none⟩ (.int .i32 (normN A G n k))) w.heap.size w.heap.size n n (tab n fun j => if j < k + 1 then normN A G n j else 0)) := fun w' h => h.step _ hlt rfl (by omega)
      generalize hz2 : normN A G n k = z2 at *
      clear hz2 hc hc' hA hG A1 G1 HM1 HM2
      generalize normK A n = kk at *
      generalize el A k = xa at *
      generalize el G k = xg at *
      go_wp2_with fail
      haveI := nxt_ne wr
      refine wp_region_last_lit (by kernel_rfl) (List.cons_ne_nil _ _) (by kernel_rfl) (by kernel_rfl) (by kernel_rfl) (by kernel_rfl) (by kernel_rfl) ?_
      intro l' z' hl' hz'
      simp only [List.dropLast_cons_cons, List.dropLast_singleton] at hl'
      simp only [List.getLast_cons_cons, List.getLast_singleton] at hz'
      subst hl' hz'
      repeat (first | go_big_quiet_skip | (go_big_quiet_want; go_big_quiet_op; first | go_big_quiet_on | (apply Exists.intro; refine ⟨fun pq => ?_, ?_⟩; (first | (go_at_call_of 89 z1; exact y2 _) | (go_at_call 89; exact y1 _)); go_big_quiet_on)))
      refine wpQuiet_nil ?_
      intro _ hw'
      obtain ⟨⟨w3, B3⟩, hw''⟩ := hw'
      subst hw''
      have F3 := F1.below B3
      have ff := F3.frozen k
      have fc := F3.cell hlt
      have F4 := HS.out _ F3
      replace B3 := below_then B1 B3
      clear y1 y2 c2 c1 F1
      go_wp2
      go_roundg (n - (k + 1))
      case measure => omega
      case rel => exact ⟨k + 1, by omega, rfl, by go_num, F4, B3.setCell (Nat.le_refl _) _⟩
    · obtain rfl : k = n := by omega
      go_wp2
      go_ret2
      exact ⟨_, rfl, by rw [← tab_done]; exact F1, B1⟩
end Go.Proofs.YtcanjlofnpnhkaaGreatDoor

/- Weights: the greatest number, powers below it, and each by their sum, where the table of steps lies as the program's text lays it. -/
namespace Go.Proofs.YtcanjlofnpnhkaaGreatDoor
open Go.ChangeShapes Go.WideShapes Go.ChangeAt Go.RowKit
set_option maxHeartbeats 800000 in
theorem max_any (ao : Option Addr) (n ca : Nat) (A : List Int) (w : World) (hA : RowAt w ao n A) (h1 : 1 ≤ n) :
   Calls Tryz.prog 103 #[.slice ao n ca] w fun e w' => e = .returned (.int .i32 (maxTo A n)) ∧ w' = w := by
  have hn := hA.max
  obtain ⟨b, o, rfl, hc⟩ := hA.cells (by omega)
  have c0 := hc 0 (by omega)
  rw [Nat.add_zero] at c0
  go_enter Tryz.func103, Tryz.ntmps103
  go_wp2
  go_loopg [3, 4] (n - 1) (fun r s i wr => ∃ k : Nat, 1 ≤ k ∧ k ≤ n ∧ r = n - k ∧ i = .int .i64 k ∧ s = .int .i32 (maxTo A k) ∧ wr = w)
  case atStart => exact ⟨1, by omega, by omega, by omega, rfl, by rw [maxTo_one], rfl⟩
  case round =>
    obtain ⟨k, hk1, hk, rfl, rfl, rfl, rfl⟩ := hrel
    by_cases hlt : k < n
    · have c1 := hc k hlt
      by_cases hgt : maxTo A k < el A k
      · have HS : Hid (maxTo A (k + 1) = el A k) := by show _ = _; unfold maxTo; rw [if_pos hgt]
        generalize maxTo A k = s at *
        generalize el A k = x at *
        clear hA hc c0
        go_wp2
        go_roundg (n - (k + 1))
        case measure => omega
        case rel => exact ⟨k + 1, by omega, by omega, rfl, by go_num, by rw [HS.out], rfl⟩
      · have HS : Hid (maxTo A (k + 1) = maxTo A k) := by
          show _ = _
          conv => lhs; unfold maxTo
          rw [if_neg hgt]
        generalize maxTo A k = s at *
        generalize el A k = x at *
        clear hA hc c0
        go_wp2
        go_roundg (n - (k + 1))
        case measure => omega
        case rel => exact ⟨k + 1, by omega, by omega, rfl, by go_num, by rw [HS.out], rfl⟩
    · obtain rfl : k = n := by omega
      clear hA hc c0
      go_wp2
      go_ret
      exact ⟨rfl, rfl⟩
set_option maxHeartbeats 800000 in
theorem powersBelow_any (ao : Option Addr) (n ca : Nat) (A : List Int) (w : World) (hT : Tab w) (hA : RowAt w ao n A) (hn : n ≤ 4096) :
   Calls Tryz.prog 102 #[.slice ao n ca, .int .i32 (maxTo A n)] w fun e w' => ∃ g, e = .returned (.slice (some ⟨g, 0, none⟩) n n) ∧ Fresh w' w.heap.size g n n (tab n (powW A n)) ∧ Below w.heap.size w w' := by
  have hmk := run_make_row' (P := Tryz.prog) 35 106 (.int .i32 0) 4 Tryz.underlying35 Tryz.infoNum rfl .i64 .i64 n (by omega) (by omega)
  have F0 := fresh_made w n (by omega)
  have B0 : Below w.heap.size w (w.alloc (.cells (madeCells #[.int .i32 0] n) 106)) := (Below.refl _ _).alloc (Nat.le_refl _) _
  go_enter Tryz.func102, Tryz.ntmps102
  go_wp2
  clear hmk
  generalize w.alloc (.cells (madeCells #[.int .i32 0] n) 106) = w0 at *
  have mb := maxTo_bd hA.small n
  go_loopg [13] n (fun r i wr => ∃ k : Nat, k ≤ n ∧ r = n - k ∧ i = .int .i64 k ∧ Fresh wr w.heap.size w.heap.size n n (tab n fun j => if j < k then powW A n j else 0) ∧ Below w.heap.size w wr)
  case atStart => exact ⟨0, by omega, by omega, rfl, by rw [tab_start]; exact F0, B0⟩
  case round =>
    obtain ⟨k, hk, rfl, rfl, F1, B1⟩ := hrel
    clear F0 B0
    by_cases hlt : k < n
    · obtain ⟨b, o, rfl, hc⟩ := (hA.below B1).cells (by omega)
      have T1 := hT.next B1
      have b2 := hA.small.el k
      have c1 := hc k hlt
      have f1 := F1.frozen k
      have f2 := F1.cell hlt
      have HP : Hid (powI (sat (el A k - maxTo A n)) = powW A n k) := rfl
      have b3 := powW_bd A n k
      have b4 := sat_bd (el A k - maxTo A n)
      clear hA hc hT
      go_wp2_with (first | (go_at_call 106; refine (sub_any _ _ _ (by omega) (by omega) (by omega) (by omega)).mono ?_; rintro e w' ⟨rfl, rfl⟩) | (go_at_call 105; refine (pow_any _ _ T1 (by omega) (by omega)).mono ?_; rintro e w' ⟨rfl, m1, rfl⟩; rw [HP.out]))
      go_roundg (n - (k + 1))
      case measure => omega
      case rel => exact ⟨k + 1, by omega, rfl, by go_num, (F1.drewN m1).step _ hlt rfl (by omega), (below_drewN B1 m1).setCell (Nat.le_refl _) _⟩
    · obtain rfl : k = n := by omega
      go_wp2
      go_ret
      exact ⟨_, rfl, by rw [← tab_done]; exact F1, B1⟩
theorem weights_bad (ao : Option Addr) (n ca : Nat) (w : World) (hn : n ≤ 9223372036854775807) (hf : sizeN n ≠ 0) :
   Calls Tryz.prog 93 #[.slice ao n ca] w fun e w' => e = .returned (.tuple #[.slice none 0 0, .int .i64 (sizeN n)]) ∧ w' = w := by
  have hf' : (sizeN n == 0) = false := by simpa using hf
  generalize hq : sizeN n = q at *
  go_enter Tryz.func93, Tryz.ntmps93
  go_wp2_with (go_at_call 97; refine (checkRow_any _ _ _ _ hn).mono ?_; rintro e w ⟨rfl, rfl⟩; rw [hq])
  go_ret2
  exact ⟨rfl, rfl⟩
set_option maxHeartbeats 1600000 in
theorem weights_any (ao : Option Addr) (n ca : Nat) (A : List Int) (w : World) (hT : Tab w) (hA : RowAt w ao n A) (hf : sizeN n = 0) :
   Calls Tryz.prog 93 #[.slice ao n ca] w fun e w' => ∃ g, e = .returned (.tuple #[.slice (some ⟨g, 0, none⟩) n n, .int .i64 0]) ∧ Fresh w' w.heap.size g n n (tab n (wgt A n)) ∧ Below w.heap.size w w' := by
  obtain ⟨h1, h4⟩ := sizeN_ok hf
  have hmk := run_make_row' (P := Tryz.prog) 35 106 (.int .i32 0) 4 Tryz.underlying35 Tryz.infoNum rfl .i64 .i64 n (by omega) (by omega)
  go_enter Tryz.func93, Tryz.ntmps93
  go_wp2_with (first | (go_at_call 97; refine (checkRow_any _ _ _ _ (by omega)).mono ?_; rintro e w ⟨rfl, rfl⟩; rw [hf]) | (go_at_call 103; refine (max_any _ _ _ _ _ hA h1).mono ?_; rintro e w ⟨rfl, rfl⟩) | (go_at_call 102; refine (powersBelow_any _ _ _ _ _ hT hA h4).mono ?_; rintro e w1 ⟨g1, rfl, F1, B1⟩))
  have cc : ∀ k, k < n → w1.cell? ⟨g1, k, none⟩ = some (.int .i32 (powW A n k)) := fun k hk => by
    have := F1.cell hk
    rwa [el_tab hk] at this
  have hg1 := F1.lt
  have pb : ∀ k, 0 ≤ powW A n k ∧ powW A n k ≤ 65536 := powW_bd A n
  go_loopg [6, 23] n (fun r s i wr => ∃ k : Nat, k ≤ n ∧ r = n - k ∧ i = .int .i64 k ∧ s = .int .i64 (psum A n k) ∧ wr = w1)
  case atStart => exact ⟨0, by omega, by omega, rfl, rfl, rfl⟩
  case round =>
    obtain ⟨k, hk, rfl, rfl, rfl, rfl⟩ := hrel
    by_cases hlt : k < n
    · have c1 := cc k hlt
      have HS : Hid (psum A n (k + 1) = psum A n k + powW A n k) := psum_succ A n k
      have b1 := psum_bd A n k
      have b2 := pb k
      generalize psum A n k = s at *
      generalize powW A n k = x at *
      clear hmk cc pb
      go_wp2
      go_roundg (n - (k + 1))
      case measure => omega
      case rel => exact ⟨k + 1, by omega, rfl, by go_num, by rw [HS.out], rfl⟩
    · obtain rfl : k = n := by omega
      generalize wr = w1 at *
      have sb := psum_bd A k k
      have st := psum_top A h1
      have F2 := fresh_made w1 k (by omega)
      have B2 : Below w1.heap.size w1 (w1.alloc (.cells (madeCells #[.int .i32 0] k) 106)) := (Below.refl _ _).alloc (Nat.le_refl _) _
      have s2 : w.heap.size ≤ w1.heap.size := B1.size
      replace F1 := F1.below B2
      go_wp2
      clear hmk cc
      generalize w1.alloc (.cells (madeCells #[.int .i32 0] k) 106) = w2 at *
      go_loopg [37] k (fun r i wx => ∃ j : Nat, j ≤ k ∧ r = k - j ∧ i = .int .i64 j ∧ Fresh wx w1.heap.size w1.heap.size k k (tab k fun i => if i < j then wgt A k i else 0) ∧ Fresh wx w.heap.size g1 k k (tab k (powW A k)) ∧ Below w1.heap.size w1 wx)
      case atStart => exact ⟨0, by omega, by omega, rfl, by rw [tab_start]; exact F2, F1, B2⟩
      case round =>
        obtain ⟨j, hj, rfl, rfl, F3, F4, B3⟩ := hrel
        clear F1 F2 B2
        by_cases hlj : j < k
        · have c1 := F4.cell hlj
          rw [el_tab hlj] at c1
          have f1 := F3.frozen j
          have f2 := F3.cell hlj
          have b2 := pb j
          have HW : Hid (65536 * powW A k j / psum A k k = wgt A k j) := rfl
          have b3 := wgt_bd A hlj
          have F5 := F3.step (wgt A k j) hlj rfl (by omega)
          have ne : g1 ≠ w1.heap.size := by omega
          have F6 : Fresh (wr.setCell ⟨w1.heap.size, j, none⟩ (.int .i32 (wgt A k j))) w.heap.size g1 k k (tab k (powW A k)) := F4.setOther ne _
          have hne : psum A k k ≠ 0 := by omega
          have E9 : Hid (wrap32 (wgt A k j) = wgt A k j) := by show _ = _; unfold wrap32; omega
          generalize psum A k k = S at *
          generalize powW A k j = x at *
          have hq1 : 0 ≤ 65536 * x := by omega
          clear pb hT hA F4
          go_wp2
          go_roundg (k - (j + 1))
          case measure => omega
          case rel => exact ⟨j + 1, by omega, rfl, by go_num, by rw [HW.out, E9.out]; exact F5, by rw [HW.out, E9.out]; exact F6, B3.setCell (Nat.le_refl _) _⟩
        · obtain rfl : j = k := by omega
          go_wp2
          go_ret2
          exact ⟨_, rfl, by rw [← tab_done]; exact F3.mono s2, B1.trans (B3.mono s2)⟩
end Go.Proofs.YtcanjlofnpnhkaaGreatDoor

/- Package heads: how well a row goes with keys, parts of rows, what one head makes. -/
namespace Go.Proofs.YtcanjlofnpnhkaaGreatDoor
open Go.ChangeShapes Go.WideShapes Go.ChangeAt Go.RowKit
/-- A part of a row. -/
def partOf (A : List Int) (i m : Nat) : List Int := (A.drop i).take m
theorem el_part {A : List Int} {i m k : Nat} (h : k < m) : el (partOf A i m) k = el A (i + k) := by unfold partOf; rw [el_take h, el_drop]
theorem len_part {A : List Int} {i m : Nat} (h : i + m ≤ A.length) : (partOf A i m).length = m := by unfold partOf; simp; omega
/-- By what a score is brought to its size. -/
def scoreK (n : Nat) : Int := invN (sat (clip n * 65536))
theorem scoreK_bd (n : Nat) : 0 ≤ scoreK n ∧ scoreK n ≤ 2147483647 := invN_bd _
/-- How well a row goes with a key. -/
def scoreN (Q K : List Int) (n : Nat) : Int := mulN (dotN Q K n) (scoreK n)
theorem scoreN_bd (Q K : List Int) (n : Nat) : -2147483647 ≤ scoreN Q K n ∧ scoreN Q K n ≤ 2147483647 := mulN_bd _ _
theorem Tryz.infoRow : (Tryz.prog.info? 35).map (fun i => (i.zero, i.size, i.bytes)) = some (some (.slice none 0 0), 1, 24) := by kernel_rfl
theorem run_make_room' {P : Program} (t e : TypeId) (z : Value) (bytes : Nat) (ht : P.underlying t = some (.slice e)) (hinfo : (P.info? e).map (fun i => (i.zero, i.size, i.bytes)) = some (some z, 1, bytes)) (hz1 : z.cells = #[z])
    (kl kc : IntKind) (n : Nat) (hbytes : bytes * n ≤ 281474976710656) (h63 : n ≤ 9223372036854775807) (w : World) :
    (Instr.makeSlice t (.int kl 0) (.int kc (n : Int))).run P w = .ok (.slice (some ⟨w.heap.size, 0, none⟩) 0 n) (w.alloc (.cells (madeCells #[z] n) e)) := by
  obtain ⟨i, hi, hzz⟩ := Option.map_eq_some_iff.1 hinfo
  simp only [Prod.mk.injEq] at hzz
  obtain ⟨hz, hs, hb⟩ := hzz
  have hb' : (i.bytes : Int) * (n : Int) ≤ 281474976710656 := by
    rw [hb]
    have h : ((bytes * n : Nat) : Int) ≤ 281474976710656 := by omega
    rwa [Int.natCast_mul] at h
  have hr := run_make (P := P) w t e i z ht hi hz kl kc 0 n (Int.le_refl _) (by omega) hb' (by omega)
  simp only [Int.toNat_zero, Int.toNat_natCast, hs, Nat.mul_one, hz1] at hr
  exact hr
theorem fresh_room (w : World) (n : Nat) (hn : n ≤ 9223372036854775807) : Fresh (w.alloc (.cells (madeCells #[.int .i32 0] n) 106)) w.heap.size w.heap.size 0 n [] := by
  obtain ⟨c, hb, hs, hc⟩ := World.rowIs_made w (.int .i32 0) n 106
  exact ⟨Nat.le_refl _, rfl, by omega, hn, small_nil, c, hb, hs, fun t ht => by omega⟩
set_option maxHeartbeats 1600000 in
theorem scores_any (qo ko : Option Addr) (n m cq ck : Nat) (Q : List Int) (K : List (List Int)) (w : World) (hQ : RowAt w qo n Q) (hK : GridAt w ko m K) (hn : n ≤ 4096) (hm : m ≤ 4096) (hl : ∀ t, t < m → (rowOf K t).length = n) :
   Calls Tryz.prog 92 #[.slice qo n cq, .slice ko m ck] w fun e w' => ∃ g, e = .returned (.tuple #[.slice (some ⟨g, 0, none⟩) m m, .int .i64 0]) ∧ Fresh w' w.heap.size g m m (tab m fun i => scoreN Q (rowOf K i) n) ∧ Below w.heap.size w w' := by
  have hmk := run_make_row' (P := Tryz.prog) 35 106 (.int .i32 0) 4 Tryz.underlying35 Tryz.infoNum rfl .i64 .i64 m (by omega) (by omega)
  have F0 := fresh_made w m (by omega)
  have B0 : Below w.heap.size w (w.alloc (.cells (madeCells #[.int .i32 0] m) 106)) := (Below.refl _ _).alloc (Nat.le_refl _) _
  have HK : Hid (∀ wv, Below w.heap.size w wv → GridAt wv ko m K) := fun wv hb => hK.below hb
  have HQ : Hid (∀ wv, Below w.heap.size w wv → RowAt wv qo n Q) := fun wv hb => hQ.below hb
  have hk := scoreK_bd n
  have sb := sat_bd (clip n * 65536)
  have HE : Hid (invN (sat (clip n * 65536)) = scoreK n) := rfl
  go_enter Tryz.func92, Tryz.ntmps92
  go_wp2_with (first | (go_at_call 101; refine (of_any _ _ (by omega) (by omega)).mono ?_; rintro e w ⟨rfl, rfl⟩) | (go_at_call 88; refine (inv_any _ _ (by omega) (by omega)).mono ?_; rintro e w ⟨rfl, rfl⟩; rw [HE.out]))
  clear hmk hK hQ
  generalize w.alloc (.cells (madeCells #[.int .i32 0] m) 106) = w0 at *
  go_loopg [21] m (fun r i wr => ∃ j : Nat, j ≤ m ∧ r = m - j ∧ i = .int .i64 j ∧ Fresh wr w.heap.size w.heap.size m m (tab m fun i => if i < j then scoreN Q (rowOf K i) n else 0) ∧ Below w.heap.size w wr)
  case atStart => exact ⟨0, by omega, by omega, rfl, by rw [tab_start]; exact F0, B0⟩
  case round =>
    obtain ⟨j, hj, rfl, rfl, F1, B1⟩ := hrel
    clear F0 B0
    by_cases hlj : j < m
    · have R1 := HK.out _ B1
      have A1 := HQ.out _ B1
      obtain ⟨b, o, rfl, hc⟩ := R1.cells (by omega)
      obtain ⟨ro, m1, k1, q1, AR⟩ := hc j hlj
      have l1 := AR.row.len
      rw [hl j hlj] at l1
      subst l1
      have f1 := F1.frozen j
      have f2 := F1.cell hlj
      have d1 := dotN_bd Q (rowOf K j) n
      have HS : Hid (mulN (dotN Q (rowOf K j) n) (scoreK n) = scoreN Q (rowOf K j) n) := rfl
      have d2 := scoreN_bd Q (rowOf K j) n
      clear hc R1
      go_wp2_with (first | (go_at_call 96; refine (dot_any _ _ _ _ _ _ _ _ A1 AR.row hn).mono ?_; rintro e w1 ⟨rfl, n1, rfl⟩) | (go_at_call 89; refine (mul_any _ _ _ (by omega) (by omega) (by omega) (by omega)).mono ?_; rintro e w' ⟨rfl, n2, rfl⟩))
      go_roundg (m - (j + 1))
      case measure => omega
      case rel => exact ⟨j + 1, by omega, rfl, by go_num, (F1.drewN (n1 + n2)).step (f := fun i => scoreN Q (rowOf K i) n) (scoreN Q (rowOf K j) n) hlj rfl (by omega), (below_drewN B1 (n1 + n2)).setCell (Nat.le_refl _) _⟩
    · obtain rfl : j = m := by omega
      go_wp2
      go_ret2
      exact ⟨_, rfl, by rw [← tab_done]; exact F1, B1⟩
/-- Are the first k rows of that length? -/
def longs (R : List (List Int)) (s : Nat) : Nat → Bool
  | 0 => true
  | k + 1 => longs R s k && ((rowOf R k).length == s)
theorem longs_len {R : List (List Int)} {s n : Nat} (h : longs R s n = true) {t : Nat} (ht : t < n) : (rowOf R t).length = s := by
  induction n with
  | zero => omega
  | succ n ih =>
    unfold longs at h
    rw [Bool.and_eq_true] at h
    rcases Nat.lt_or_ge t n with h1 | h1
    · exact ih h.1 h1
    · obtain rfl : t = n := by omega
      simpa using h.2
theorem longs_not {R : List (List Int)} {s n t : Nat} (ht : t < n) (h : (rowOf R t).length ≠ s) : longs R s n = false := by
  cases e : longs R s n with
  | false => rfl
  | true => exact absurd (longs_len e ht) h
theorem longs_of {R : List (List Int)} {s n : Nat} (h : ∀ t, t < n → (rowOf R t).length = s) : longs R s n = true := by
  induction n with
  | zero => rfl
  | succ n ih => unfold longs; rw [ih fun t ht => h t (by omega), h n (by omega)]; simp
set_option maxHeartbeats 800000 in
theorem allLong_any (ao : Option Addr) (m ca s : Nat) (R : List (List Int)) (w : World) (hR : GridAt w ao m R) (hs : s ≤ 9223372036854775807) :
   Calls Tryz.prog 91 #[.slice ao m ca, .int .i64 s] w fun e w' => e = .returned (.bool (longs R s m)) ∧ w' = w := by
  have hm := hR.max
  go_enter Tryz.func91, Tryz.ntmps91
  go_wp2
  go_loopg [9] m (fun r i wr => ∃ k : Nat, k ≤ m ∧ r = m - k ∧ i = .int .i64 k ∧ longs R s k = true ∧ wr = w)
  case atStart => exact ⟨0, by omega, by omega, rfl, rfl, rfl⟩
  case round =>
    obtain ⟨k, hk, rfl, rfl, hal, rfl⟩ := hrel
    by_cases hlt : k < m
    · obtain ⟨b, o, rfl, hc⟩ := hR.cells (by omega)
      obtain ⟨r1, m1, k1, q1, A1⟩ := hc k hlt
      have l1 := A1.row.len
      have x1 := A1.row.max
      rcases Decidable.em (m1 = s) with rfl | hne
      · have HA : Hid (longs R m1 (k + 1) = true) := by show _ = _; unfold longs; rw [hal, l1]; simp
        clear hR hc A1 hal l1
        go_wp2
        go_roundg (m - (k + 1))
        case measure => omega
        case rel => exact ⟨k + 1, by omega, rfl, by go_num, HA.out, rfl⟩
      · have HA : Hid (longs R s m = false) := longs_not hlt (by omega)
        have z3 : ((m1 : Int) == (s : Int)) = false := by simp; omega
        clear hR hc A1 hal l1
        go_wp2
        go_ret
        exact ⟨by rw [HA.out]; rfl, rfl⟩
    · obtain rfl : k = m := by omega
      have HA : Hid (longs R s k = true) := hal
      clear hR hal
      go_wp2
      go_ret
      exact ⟨by rw [HA.out]; rfl, rfl⟩
/-- Rows of rows of a block of the call's own, of which the first k are laid: each a row that lay in w0. -/
structure CutTo (w0 w : World) (g m k : Nat) (R : List (List Int)) : Prop where
  row : ∃ cur : Array Value, w.heap[g]? = some (.cells cur 35 (0, 0)) ∧ cur.size = m ∧ ∀ t, t < k → ∃ ro n c, cur[t]? = some (.slice ro n c) ∧ Arg w0 ro n c (rowOf R t)
theorem CutTo.frozen {w0 w : World} {g m k : Nat} {R : List (List Int)} (h : CutTo w0 w g m k R) (t : Nat) : w.frozen? ⟨g, t, none⟩ = false := by
  obtain ⟨c, hb, _, _⟩ := h.row
  simp [World.frozen?, hb]
theorem CutTo.cell {w0 w : World} {g m k : Nat} {R : List (List Int)} (h : CutTo w0 w g m k R) {t : Nat} (ht : t < m) : ∃ v, w.cell? ⟨g, t, none⟩ = some v := by
  obtain ⟨c, hb, hs, _⟩ := h.row
  refine ⟨c[t]'(by omega), ?_⟩
  simp [World.cell?, hb]
theorem CutTo.step {w0 w : World} {g m k : Nat} {R : List (List Int)} (h : CutTo w0 w g m k R) (hk : k < m) {ro : Option Addr} {n c : Nat} (hA : Arg w0 ro n c (rowOf R k)) : CutTo w0 (w.setCell ⟨g, k, none⟩ (.slice ro n c)) g m (k + 1) R := by
  obtain ⟨cur, hb, hs, hc⟩ := h.row
  refine ⟨cur.setIfInBounds k (.slice ro n c), ?_, by simpa using hs, fun t ht => ?_⟩
  · simp [World.setCell, Array.getElem?_modify, hb]
  · rw [Array.getElem?_setIfInBounds]
    by_cases e : k = t
    · subst e; rw [if_pos rfl, if_pos (by omega)]; exact ⟨_, _, _, rfl, hA⟩
    · rw [if_neg e]; exact hc t (by omega)
theorem CutTo.grid {w0 w : World} {g m : Nat} {R : List (List Int)} (h : CutTo w0 w g m m R) (hl : R.length = m) (hm : m ≤ 9223372036854775807) (hb : Below w0.heap.size w0 w) : GridAt w (some ⟨g, 0, none⟩) m R := by
  obtain ⟨cur, hh, hs, hc⟩ := h.row
  refine ⟨hl, hm, fun _ => ⟨g, 0, rfl, fun t ht => ?_⟩⟩
  obtain ⟨ro, n, c, e, A⟩ := hc t ht
  refine ⟨ro, n, c, ?_, A.below hb⟩
  simp [World.cell?, hh, e]
theorem cutTo_made (w : World) (m : Nat) (R : List (List Int)) : CutTo w (w.alloc (.cells (madeCells #[.slice none 0 0] m) 35)) w.heap.size m 0 R := by
  obtain ⟨c, hb, hs, hc⟩ := World.rowIs_made w (.slice none 0 0) m 35
  exact ⟨c, hb, hs, fun t ht => by omega⟩
theorem Arg.part {w : World} {b o n ca : Nat} {A : List Int} (h : Arg w (some ⟨b, o, none⟩) n ca A) (i m : Nat) (him : i + m ≤ n) : Arg w (some ⟨b, o + i, none⟩) m (ca - i) (partOf A i m) :=
  ⟨h.row.part i m him, by have := h.fit; omega, by have := h.max; omega, (fun h => by cases h), fun b' o' e t ht => by
    simp only [Option.some.injEq, Addr.mk.injEq, and_true] at e
    obtain ⟨rfl, rfl⟩ := e
    rw [Nat.add_assoc]
    exact h.cold _ _ rfl _ (by omega)⟩
/-- The same part of each row. -/
def partsOf (R : List (List Int)) (i m : Nat) : List (List Int) := R.map fun r => partOf r i m
theorem rowOf_parts {R : List (List Int)} {i m t : Nat} (ht : t < R.length) : rowOf (partsOf R i m) t = partOf (rowOf R t) i m := by
  unfold rowOf partsOf
  simp [List.getD_eq_getElem?_getD, ht]
set_option maxHeartbeats 800000 in
theorem cut_any (ao : Option Addr) (m ca f s n : Nat) (R : List (List Int)) (w : World) (hR : GridAt w ao m R) (hm : m ≤ 1048576) (hl : ∀ t, t < m → (rowOf R t).length = n) (hs : 1 ≤ s) (hn : f + s ≤ n) (hn4 : n ≤ 4096) :
   Calls Tryz.prog 83 #[.slice ao m ca, .int .i64 f, .int .i64 s] w fun e w' => ∃ g, e = .returned (.slice (some ⟨g, 0, none⟩) m m) ∧ GridAt w' (some ⟨g, 0, none⟩) m (partsOf R f s) ∧ Below w.heap.size w w' := by
  have hmk := run_make_row' (P := Tryz.prog) 105 35 (.slice none 0 0) 24 Tryz.underlying105 Tryz.infoRow rfl .i64 .i64 m (by omega) (by omega)
  have F0 := cutTo_made w m (partsOf R f s)
  have B0 : Below w.heap.size w (w.alloc (.cells (madeCells #[.slice none 0 0] m) 35)) := (Below.refl _ _).alloc (Nat.le_refl _) _
  have hll : (partsOf R f s).length = m := by unfold partsOf; rw [List.length_map]; exact hR.len
  have hrl := hR.len
  go_enter Tryz.func83, Tryz.ntmps83
  go_wp2
  clear hmk
  generalize w.alloc (.cells (madeCells #[.slice none 0 0] m) 35) = w0 at *
  go_loopg [15] m (fun r i wr => ∃ k : Nat, k ≤ m ∧ r = m - k ∧ i = .int .i64 k ∧ CutTo w wr w.heap.size m k (partsOf R f s) ∧ Below w.heap.size w wr)
  case atStart => exact ⟨0, by omega, by omega, rfl, F0, B0⟩
  case round =>
    obtain ⟨k, hk, rfl, rfl, F1, B1⟩ := hrel
    clear F0 B0
    by_cases hlt : k < m
    · obtain ⟨b0, o0, e0, hc0⟩ := hR.cells (by omega)
      obtain ⟨r0, m0, k0, q0, A0⟩ := hc0 k hlt
      subst e0
      have q1 := (B1.cell (p := ⟨b0, o0 + k, none⟩) (by simpa using World.block_lt_of_cell? w _ q0)).trans q0
      have l1 := A0.row.len
      rw [hl k hlt] at l1
      subst l1
      obtain ⟨b3, o3, rfl, hc3⟩ := A0.row.cells (by omega)
      have A1 := A0.part f s hn
      rw [← rowOf_parts (R := R) (by omega)] at A1
      have x1 := A0.fit
      have x2 := A0.max
      have f1 := F1.frozen k
      obtain ⟨v0, f2⟩ := F1.cell hlt
      have F2 := F1.step hlt A1
      have B2 := B1.setCell (p := ⟨w.heap.size, k, none⟩) (Nat.le_refl _) (.slice (some ⟨b3, o3 + f, none⟩) s (k0 - f))
      clear hc0 hc3 q0 A0 A1 F1
      go_wp2
      go_roundg (m - (k + 1))
      case measure => omega
      case rel => exact ⟨k + 1, by omega, rfl, by go_num, F2, B2⟩
    · obtain rfl : k = m := by omega
      go_wp2
      go_ret
      exact ⟨_, rfl, F1.grid hll (by omega) B1, B1⟩
end Go.Proofs.YtcanjlofnpnhkaaGreatDoor

/- Package heads: what one head makes, the errors of Attend, and Attend. -/
namespace Go.Proofs.YtcanjlofnpnhkaaGreatDoor
open Go.ChangeShapes Go.WideShapes Go.ChangeAt Go.RowKit
/-- The scores of a row and m keys. -/
def scrs (Q : List Int) (K : List (List Int)) (m n : Nat) : List Int := tab m fun i => scoreN Q (rowOf K i) n
/-- What a head makes at a place of the values' rows. -/
def headEl (Q : List Int) (K V : List (List Int)) (m n j : Nat) : Int := dotN (tab m (wgt (scrs Q K m n) m)) (colOf V m j) m
theorem headEl_bd (Q : List Int) (K V : List (List Int)) (m n j : Nat) : -2147483647 ≤ headEl Q K V m n j ∧ headEl Q K V m n j ≤ 2147483647 := dotN_bd _ _ _
theorem mixedN_of {m n : Nat} {V : List (List Int)} (h1 : 1 ≤ m) (h4 : m ≤ 4096) (hl : V.length = m) (ha : ∀ t, t < m → (rowOf V t).length = n) : mixedN m V = 0 := by
  unfold mixedN
  rw [if_neg (by omega), if_neg (by omega), if_neg (by omega)]
  have e : alike V m = true := by
    have : ∀ k, k ≤ m → alike V k = true := by
      intro k
      induction k with
      | zero => intro _; rfl
      | succ k ih => intro hk; unfold alike; rw [ih (by omega), ha k (by omega), ha 0 (by omega)]; simp
    exact this m (Nat.le_refl _)
  rw [if_pos e]
set_option maxHeartbeats 1600000 in
theorem attendOne_any (qo ko vo : Option Addr) (n m cq ck cv : Nat) (Q : List Int) (K V : List (List Int)) (w : World) (hT : Tab w) (hQ : RowAt w qo n Q) (hK : GridAt w ko m K) (hV : GridAt w vo m V) (hn : n ≤ 4096) (h1 : 1 ≤ m) (hm : m ≤ 4096) (hlk : ∀ t, t < m → (rowOf K t).length = n) (hlv : ∀ t, t < m → (rowOf V t).length = n) :
   Calls Tryz.prog 82 #[.slice qo n cq, .slice ko m ck, .slice vo m cv] w fun e w' => ∃ g, e = .returned (.tuple #[.slice (some ⟨g, 0, none⟩) n n, .int .i64 0]) ∧ Fresh w' w.heap.size g n n (tab n fun j => headEl Q K V m n j) ∧ Below w.heap.size w w' := by
  have hs : sizeN m = 0 := by unfold sizeN; rw [if_neg (by omega), if_neg (by omega)]
  have hx : mixedN m V = 0 := mixedN_of h1 hm hV.len hlv
  have hv0 := hlv 0 (by omega)
  go_enter Tryz.func82, Tryz.ntmps82
  go_wp2_with fail
  refine (scores_any _ _ _ _ _ _ _ _ _ hQ hK hn hm hlk).mono ?_
  rintro e w1 ⟨g1, rfl, F1, B1⟩
  replace hT := hT.next B1
  replace hV := hV.below B1
  clear hQ hK
  go_wp2_with fail
  refine (weights_any _ _ _ _ _ hT F1.rowAt hs).mono ?_
  rintro e w2 ⟨g2, rfl, F2, B2⟩
  replace hV := hV.below B2
  replace B2 := below_then B1 B2
  clear hT F1 B1
  go_wp2_with fail
  refine (mix_any _ _ _ _ _ _ _ _ _ F2.rowAt hV hx (by omega)).mono ?_
  rw [hv0]
  rintro e w3 ⟨g3, rfl, F3, B3⟩
  have s2 := B2.size
  replace B3 := below_then B2 B3
  go_wp2
  go_ret2
  exact ⟨_, rfl, F3.mono s2, B3⟩
/-- The error's number of what Attend is handed. -/
def hchkN (n m mv : Nat) (K V : List (List Int)) (h : Int) : Int :=
  if h < 1 ∨ 4 < h then 1 else if n = 0 ∨ m = 0 then 8 else if 32 < n ∨ 128 < m then 2 else if n % h.toNat ≠ 0 ∨ mv ≠ m ∨ longs K n m = false ∨ longs V n mv = false then 6 else 0
theorem hchkN_ok {n m mv : Nat} {K V : List (List Int)} {h : Int} (e : hchkN n m mv K V h = 0) : (1 ≤ h ∧ h ≤ 4) ∧ (1 ≤ n ∧ n ≤ 32) ∧ (1 ≤ m ∧ m ≤ 128) ∧ n % h.toNat = 0 ∧ mv = m ∧ (∀ t, t < m → (rowOf K t).length = n) ∧ ∀ t, t < m → (rowOf V t).length = n := by
  unfold hchkN at e
  split at e
  · omega
  · split at e
    · omega
    · split at e
      · omega
      · split at e
        · omega
        · rename_i a b c d
          have d1 : n % h.toNat = 0 := Decidable.byContradiction fun x => d (Or.inl x)
          have d2 : mv = m := Decidable.byContradiction fun x => d (Or.inr (Or.inl x))
          have d3 : longs K n m = true := by cases q : longs K n m with | true => rfl | false => exact absurd (Or.inr (Or.inr (Or.inl q))) d
          have d4 : longs V n mv = true := by cases q : longs V n mv with | true => rfl | false => exact absurd (Or.inr (Or.inr (Or.inr q))) d
          subst d2
          exact ⟨by omega, by omega, by omega, d1, rfl, fun t ht => longs_len d3 ht, fun t ht => longs_len d4 ht⟩
set_option maxHeartbeats 1600000 in
theorem hcheck_any (qo ko vo : Option Addr) (n m mv cq ck cv : Nat) (K V : List (List Int)) (h : Int) (w : World) (hn : n ≤ 9223372036854775807) (hK : GridAt w ko m K) (hV : GridAt w vo mv V) (b1 : -9223372036854775808 ≤ h) (b2 : h ≤ 9223372036854775807) :
   Calls Tryz.prog 81 #[.slice qo n cq, .slice ko m ck, .slice vo mv cv, .int .i64 h] w fun e w' => e = .returned (.int .i64 (hchkN n m mv K V h)) ∧ w' = w := by
  have hm := hK.max
  have hmv := hV.max
  by_cases c1 : h < 1
  · have HF : Hid (hchkN n m mv K V h = 1) := by show _ = _; unfold hchkN; rw [if_pos (Or.inl c1)]
    go_enter Tryz.func81, Tryz.ntmps81
    go_wp2
    go_ret
    exact ⟨ret_int HF.out.symm, rfl⟩
  by_cases c2 : 4 < h
  · have HF : Hid (hchkN n m mv K V h = 1) := by show _ = _; unfold hchkN; rw [if_pos (Or.inr c2)]
    go_enter Tryz.func81, Tryz.ntmps81
    go_wp2
    go_ret
    exact ⟨ret_int HF.out.symm, rfl⟩
  by_cases c3 : n = 0
  · subst c3
    have HF : Hid (hchkN 0 m mv K V h = 8) := by show _ = _; unfold hchkN; rw [if_neg (by omega), if_pos (Or.inl rfl)]
    go_enter Tryz.func81, Tryz.ntmps81
    go_wp2
    go_ret
    exact ⟨ret_int HF.out.symm, rfl⟩
  have z1 : ((n : Int) == 0) = false := by simp; omega
  by_cases c4 : m = 0
  · subst c4
    have HF : Hid (hchkN n 0 mv K V h = 8) := by show _ = _; unfold hchkN; rw [if_neg (by omega), if_pos (Or.inr rfl)]
    go_enter Tryz.func81, Tryz.ntmps81
    go_wp2
    go_ret
    exact ⟨ret_int HF.out.symm, rfl⟩
  have z2 : ((m : Int) == 0) = false := by simp; omega
  by_cases c5 : 32 < n
  · have HF : Hid (hchkN n m mv K V h = 2) := by show _ = _; unfold hchkN; rw [if_neg (by omega), if_neg (by omega), if_pos (Or.inl c5)]
    go_enter Tryz.func81, Tryz.ntmps81
    go_wp2
    go_ret
    exact ⟨ret_int HF.out.symm, rfl⟩
  by_cases c6 : 128 < m
  · have HF : Hid (hchkN n m mv K V h = 2) := by show _ = _; unfold hchkN; rw [if_neg (by omega), if_neg (by omega), if_pos (Or.inr c6)]
    go_enter Tryz.func81, Tryz.ntmps81
    go_wp2
    go_ret
    exact ⟨ret_int HF.out.symm, rfl⟩
  obtain ⟨H, rfl⟩ : ∃ H : Nat, h = H := ⟨h.toNat, by omega⟩
  have hz : (H : Int) ≠ 0 := by omega
  have HC : Hid (hchkN n m mv K V H = if n % H ≠ 0 ∨ mv ≠ m ∨ longs K n m = false ∨ longs V n mv = false then 6 else 0) := by show _ = _; unfold hchkN; rw [if_neg (by omega), if_neg (by omega), if_neg (by omega), Int.toNat_natCast]
  by_cases c7 : n % H = 0
  · have z3 : (n : Int) % (H : Int) = 0 := by omega
    rcases Decidable.em (mv = m) with rfl | c8
    · cases c9 : longs K n mv with
      | false =>
        have HF : Hid (hchkN n mv mv K V H = 6) := by show _ = _; rw [HC.out, if_pos (Or.inr (Or.inr (Or.inl c9)))]
        clear HC
        go_enter Tryz.func81, Tryz.ntmps81
        go_wp2_with (go_at_call 91; refine (allLong_any _ _ _ _ _ _ hK hn).mono ?_; rintro e w ⟨rfl, rfl⟩; rw [c9])
        go_ret
        exact ⟨ret_int HF.out.symm, rfl⟩
      | true =>
        cases c10 : longs V n mv with
        | false =>
          have HF : Hid (hchkN n mv mv K V H = 6) := by show _ = _; rw [HC.out, if_pos (Or.inr (Or.inr (Or.inr c10)))]
          clear HC
          go_enter Tryz.func81, Tryz.ntmps81
          go_wp2_with fail
          refine (allLong_any _ _ _ _ _ _ hK hn).mono ?_
          rintro e w ⟨rfl, rfl⟩
          rw [c9]
          go_wp2_with fail
          refine (allLong_any _ _ _ _ _ _ hV hn).mono ?_
          rintro e w ⟨rfl, rfl⟩
          rw [c10]
          go_wp2
          go_ret
          exact ⟨ret_int HF.out.symm, rfl⟩
        | true =>
          have HF : Hid (hchkN n mv mv K V H = 0) := by show _ = _; rw [HC.out, if_neg (by simp [c7, c9, c10])]
          clear HC
          go_enter Tryz.func81, Tryz.ntmps81
          go_wp2_with fail
          refine (allLong_any _ _ _ _ _ _ hK hn).mono ?_
          rintro e w ⟨rfl, rfl⟩
          rw [c9]
          go_wp2_with fail
          refine (allLong_any _ _ _ _ _ _ hV hn).mono ?_
          rintro e w ⟨rfl, rfl⟩
          rw [c10]
          go_wp2
          go_ret
          exact ⟨ret_int HF.out.symm, rfl⟩
    · have HF : Hid (hchkN n m mv K V H = 6) := by show _ = _; rw [HC.out, if_pos (Or.inr (Or.inl c8))]
      have z4 : ((mv : Int) == (m : Int)) = false := by simp; omega
      clear HC
      go_enter Tryz.func81, Tryz.ntmps81
      go_wp2
      go_ret
      exact ⟨ret_int HF.out.symm, rfl⟩
  · have HF : Hid (hchkN n m mv K V H = 6) := by show _ = _; rw [HC.out, if_pos (Or.inl c7)]
    have z3 : ((n : Int) % (H : Int) == 0) = false := by simp; omega
    clear HC
    go_enter Tryz.func81, Tryz.ntmps81
    go_wp2
    go_ret
    exact ⟨ret_int HF.out.symm, rfl⟩
end Go.Proofs.YtcanjlofnpnhkaaGreatDoor

/- Package heads: Attend, head by head. -/
namespace Go.Proofs.YtcanjlofnpnhkaaGreatDoor
open Go.ChangeShapes Go.WideShapes Go.ChangeAt Go.RowKit
/-- What comes out at a place, heads of s numbers each. -/
def attEl (Q : List Int) (K V : List (List Int)) (m s j : Nat) : Int := headEl (partOf Q (j / s * s) s) (partsOf K (j / s * s) s) V m s j
theorem attEl_bd (Q : List Int) (K V : List (List Int)) (m s j : Nat) : -2147483647 ≤ attEl Q K V m s j ∧ attEl Q K V m s j ≤ 2147483647 := headEl_bd _ _ _ _ _ _
theorem tab_append (a b : Nat) (f : Nat → Int) : tab (a + b) f = tab a f ++ tab b fun j => f (a + j) := by
  unfold tab
  rw [List.range_add, List.map_append, List.map_map]
  rfl
theorem col_parts {V : List (List Int)} {m f s j : Nat} (hl : V.length = m) (hj : j < s) : colOf (partsOf V f s) m j = colOf V m (f + j) := by
  unfold colOf
  refine tab_congr fun k hk => ?_
  rw [rowOf_parts (by omega), el_part hj]
theorem head_att (Q : List Int) (K V : List (List Int)) (m s k : Nat) (hs : 1 ≤ s) (hl : V.length = m) : (tab s fun j => headEl (partOf Q (k * s) s) (partsOf K (k * s) s) (partsOf V (k * s) s) m s j) = tab s fun j => attEl Q K V m s (k * s + j) := by
  refine tab_congr fun j hj => ?_
  have e : (k * s + j) / s = k := by rw [Nat.add_comm, Nat.add_mul_div_right _ _ (by omega), Nat.div_eq_of_lt hj]; omega
  unfold attEl
  rw [e]
  unfold headEl
  rw [col_parts hl hj]
theorem attend_bad (qo ko vo : Option Addr) (n m mv cq ck cv : Nat) (K V : List (List Int)) (h : Int) (w : World) (hn : n ≤ 9223372036854775807) (hK : GridAt w ko m K) (hV : GridAt w vo mv V) (b1 : -9223372036854775808 ≤ h) (b2 : h ≤ 9223372036854775807) (hf : hchkN n m mv K V h ≠ 0) :
   Calls Tryz.prog 72 #[.slice qo n cq, .slice ko m ck, .slice vo mv cv, .int .i64 h] w fun e w' => e = .returned (.tuple #[.slice none 0 0, .int .i64 (hchkN n m mv K V h)]) ∧ w' = w := by
  have hf' : (hchkN n m mv K V h == 0) = false := by simpa using hf
  generalize hq : hchkN n m mv K V h = q at *
  go_enter Tryz.func72, Tryz.ntmps72
  go_wp2_with (go_at_call 81; refine (hcheck_any _ _ _ _ _ _ _ _ _ _ _ _ _ hn hK hV b1 b2).mono ?_; rintro e w ⟨rfl, rfl⟩; rw [hq])
  go_ret2
  exact ⟨rfl, rfl⟩
set_option maxHeartbeats 3200000 in
theorem attend_any (qo ko vo : Option Addr) (n m mv cq ck cv : Nat) (Q : List Int) (K V : List (List Int)) (h : Int) (w : World) (hT : Tab w) (hQ : Arg w qo n cq Q) (hK : GridAt w ko m K) (hV : GridAt w vo mv V) (hf : hchkN n m mv K V h = 0) :
   Calls Tryz.prog 72 #[.slice qo n cq, .slice ko m ck, .slice vo mv cv, .int .i64 h] w fun e w' => ∃ g cap, e = .returned (.tuple #[.slice (some ⟨g, 0, none⟩) n cap, .int .i64 0]) ∧ Fresh w' w.heap.size g n cap (tab n (attEl Q K V m (n / h.toNat))) ∧ Below w.heap.size w w' := by
  obtain ⟨hh, hn, hm, hd, rfl, hlk, hlv⟩ := hchkN_ok hf
  obtain ⟨H, rfl⟩ : ∃ H : Nat, h = H := ⟨h.toNat, by omega⟩
  rw [Int.toNat_natCast] at hd ⊢
  obtain ⟨s, hs⟩ : ∃ s, s = n / H := ⟨_, rfl⟩
  have hns : H * s = n := by rw [hs]; exact Nat.mul_div_cancel' (Nat.dvd_of_mod_eq_zero hd)
  have h1 : 1 ≤ s := by
    rcases Nat.eq_zero_or_pos s with e | e
    · rw [e] at hns; omega
    · exact e
  have hsn : s ≤ n := by rw [hs]; exact Nat.div_le_self _ _
  have hdiv : (n : Int) / (H : Int) = s := by rw [hs]; rfl
  rw [← hs]
  have hmk := run_make_room' (P := Tryz.prog) 35 106 (.int .i32 0) 4 Tryz.underlying35 Tryz.infoNum rfl .i64 .i64 n (by omega) (by omega)
  have F0 := fresh_room w n (by omega)
  have B0 : Below w.heap.size w (w.alloc (.cells (madeCells #[.int .i32 0] n) 106)) := (Below.refl _ _).alloc (Nat.le_refl _) _
  have HK : Hid (∀ wv, Below w.heap.size w wv → GridAt wv ko mv K) := fun wv hb => hK.below hb
  have HV : Hid (∀ wv, Below w.heap.size w wv → GridAt wv vo mv V) := fun wv hb => hV.below hb
  have HQ : Hid (∀ wv, Below w.heap.size w wv → Arg wv qo n cq Q) := fun wv hb => hQ.below hb
  have HT : Hid (∀ wv, Below w.heap.size w wv → Tab wv) := fun wv hb => hT.next hb
  have hz : (H : Int) ≠ 0 := by omega
  clear hs
  go_enter Tryz.func72, Tryz.ntmps72
  go_wp2_with (go_at_call 81; refine (hcheck_any _ _ _ _ _ _ _ _ _ _ _ _ _ (by omega) hK hV (by omega) (by omega)).mono ?_; rintro e w ⟨rfl, rfl⟩; rw [hf])
  clear hmk hf hK hV hQ hT
  generalize w.alloc (.cells (madeCells #[.int .i32 0] n) 106) = w0 at *
  go_loopg [11, 33] H (fun r s0 i wr => ∃ (k g cap : Nat), k ≤ H ∧ r = H - k ∧ i = .int .i64 k ∧ s0 = .slice (some ⟨g, 0, none⟩) (k * s) cap ∧ Fresh wr w.heap.size g (k * s) cap (tab (k * s) (attEl Q K V mv s)) ∧ Below w.heap.size w wr)
  case atStart => exact ⟨0, _, _, by omega, by omega, rfl, by rw [Nat.zero_mul], by rw [Nat.zero_mul]; exact F0, B0⟩
  case round =>
    obtain ⟨k, g, cap, hk, rfl, rfl, rfl, F1, B1⟩ := hrel
    clear F0 B0
    by_cases hlt : k < H
    · have hps : k * s + s ≤ n := by rw [← hns, ← Nat.succ_mul]; exact Nat.mul_le_mul_right _ hlt
      have HX : Hid (tab ((k + 1) * s) (attEl Q K V mv s) = tab (k * s) (attEl Q K V mv s) ++ tab s fun j => headEl (partOf Q (k * s) s) (partsOf K (k * s) s) (partsOf V (k * s) s) mv s j) := by
        show _ = _
        rw [head_att Q K V mv s k h1 (HV.out _ B1).len, Nat.succ_mul, tab_append]
      have HP : Hid ((k + 1) * s = k * s + s) := Nat.succ_mul k s
      have hmul : (k : Int) * (s : Int) = ((k * s : Nat) : Int) := by rw [Int.natCast_mul]
      have AQ := HQ.out _ B1
      obtain ⟨b, o, rfl, hc⟩ := AQ.row.cells (by omega)
      clear hc
      have x1 := AQ.fit
      have x2 := AQ.max
      have AP := AQ.part (k * s) s hps
      have LK : ∀ t, t < mv → (rowOf (partsOf K (k * s) s) t).length = s := fun t ht => by
        rw [rowOf_parts (by rw [(HK.out _ B1).len]; exact ht), len_part (by rw [hlk t ht]; exact hps)]
      have LV : ∀ t, t < mv → (rowOf (partsOf V (k * s) s) t).length = s := fun t ht => by
        rw [rowOf_parts (by rw [(HV.out _ B1).len]; exact ht), len_part (by rw [hlv t ht]; exact hps)]
      generalize hp : k * s = p at *
      have hp' := hp
      clear hp
      have BD : Below w.heap.size w wr.drew := B1.drew
      have s1 := B1.size
      go_wp2_with fail
      have hk4 : k < 4 := by omega
      clear hmul hdiv hd hz hns hp' hh
      have y0 : IntKind.i64.wrap ((p : Int) + (s : Int)) = (p : Int) + (s : Int) := wrap_in (by omega)
      have y1 : 0 ≤ (p : Int) + (s : Int) := by omega
      have y2 : (p : Int) + (s : Int) ≤ (cq : Int) := by omega
      have y3 : ¬ cq = p := by omega
      go_region_with (first
        | (go_at_call 83; refine (cut_any _ _ _ p s n K _ (by exact HK.out _ BD) (by omega) hlk h1 hps (by omega)).mono ?_; rintro e w1 ⟨g1, rfl, G1, C1⟩; have D1 := below_then BD C1)
        | (go_at_call 83; refine (cut_any _ _ _ p s n V _ (by exact HV.out _ D1) (by omega) hlv h1 hps (by omega)).mono ?_; rintro e w2 ⟨g2, rfl, G2, C2⟩; have D2 := below_then D1 C2; replace G1 := G1.below C2; have P2 := AP.below ((((Below.refl _ _).drew).trans (C1.mono (by exact Nat.le_refl _))).trans (C2.mono (by exact C1.size))))
        | (go_at_call 82; refine (attendOne_any _ _ _ _ _ _ _ _ _ _ _ _ (HT.out _ D2) P2.row G1 G2 (by omega) (by omega) (by omega) LK LV).mono ?_; rintro e w3 ⟨g3, rfl, F3, C3⟩; have D3 := below_then D2 C3))
      all_goals
        have E3 := F1.drew.below (((C1.mono (by exact Nat.le_refl _)).trans (C2.mono (by exact C1.size))).trans (C3.mono (by exact Nat.le_trans C1.size C2.size)))
        have s3 := D3.size
        have M3 := F3.rowAt
        go_wp2_with (at_builtin; refine wpList_append_row rfl _ _ rfl w.heap.size g p cap _ rfl (by exact E3) (some ⟨g3, 0, none⟩) s s _ rfl (by exact M3) (fun h => by cases h) (by omega) (by omega) ?_; intro g' cap' w' F4 B4)
        go_roundg (H - (k + 1))
        case measure => omega
        case rel => exact ⟨k + 1, g', cap', by omega, rfl, by go_num, by rw [HP.out], by rw [HX.out, HP.out]; exact F4, D3.trans B4⟩
    · obtain rfl : k = H := by omega
      rw [hns] at F1
      go_wp2
      go_ret2
      refine ⟨g, cap, ?_, F1, B1⟩
      rw [hns]
      rfl
end Go.Proofs.YtcanjlofnpnhkaaGreatDoor

/- What each call of the document's package for layer 1 answers, of every input in range. -/
namespace Go.Proofs.YtcanjlofnpnhkaaGreatDoor
open Go.ChangeShapes Go.WideShapes Go.ChangeAt Go.RowKit
open Go.Lib (byteCells)
end Go.Proofs.YtcanjlofnpnhkaaGreatDoor

/- What the laws of layer 3 call beside package vec: a copy of a row, the awake check, the document's own answers. -/
namespace Go.Proofs.YtcanjlofnpnhkaaGreatDoor
open Go.ChangeShapes Go.WideShapes Go.ChangeAt Go.RowKit
set_option maxHeartbeats 800000 in
theorem few_any (ao : Option Addr) (n ca : Nat) (A : List Int) (lim : Nat) (li : Int) (w : World) (hli : li = lim) (hA : Arg w ao n ca A) (hl : lim ≤ 5000) :
   Calls Tryz.prog 65 #[.slice ao n ca, .int .i64 li] w fun e w' => ∃ g n' cap, e = .returned (.slice (some ⟨g, 0, none⟩) n' cap) ∧ n' ≤ lim ∧ Fresh w' w.heap.size g n' cap (A.take lim) ∧ Below w.heap.size w w' := by
  subst hli
  have hm := hA.max
  have hf := hA.fit
  have hlen := hA.row.len
  have F0 := fresh_empty w
  have B0 : Below w.heap.size w (w.alloc (.cells #[] 106)) := (Below.refl _ _).alloc (Nat.le_refl _) _
  by_cases hgt : lim < n
  · obtain ⟨b, o, rfl, hc⟩ := hA.row.cells (by omega)
    have R := (hA.row.part 0 lim (by omega)).below B0
    rw [Nat.add_zero, List.drop_zero] at R
    clear hA hc hlen
    go_enter Tryz.func65, Tryz.ntmps65
    go_wp2_with (at_builtin; refine wpList_append_row rfl _ _ rfl w.heap.size w.heap.size 0 0 [] rfl F0 (some ⟨b, o, none⟩) lim ca (A.take lim) rfl R (fun h => by cases h) (by omega) (by simp) ?_; intro g' cap' w' F1 B1)
    rw [Nat.zero_add, List.nil_append] at *
    go_ret
    exact ⟨_, _, _, rfl, Nat.le_refl _, F1, B0.trans B1⟩
  · have R := hA.row.below B0
    have ht : A.take lim = A := List.take_of_length_le (by omega)
    rw [ht]
    have hnil := hA.nil
    clear hA ht hlen
    go_enter Tryz.func65, Tryz.ntmps65
    go_wp2_with (at_builtin; refine wpList_append_row rfl _ _ rfl w.heap.size w.heap.size 0 0 [] rfl F0 ao n ca A rfl R hnil (by omega) (by simp) ?_; intro g' cap' w' F1 B1)
    rw [Nat.zero_add, List.nil_append] at *
    go_ret
    exact ⟨_, _, _, rfl, by omega, F1, B0.trans B1⟩
theorem dot_lit : dotN [65536, 32768] [65536, 65536] 2 = 98304 := by decide
theorem amax_lit : amax [3, 7, 7] 3 = 1 := by decide
set_option maxHeartbeats 800000 in
theorem same_any (ao bo : Option Addr) (n ca cb : Nat) (A : List Int) (w : World) (hA : RowAt w ao n A) (hB : RowAt w bo n A) :
   Calls Tryz.prog 55 #[.slice ao n ca, .slice bo n cb] w fun e w' => e = .returned (.bool true) ∧ ∃ m, w' = w.drewN m := by
  have hn := hA.max
  go_enter Tryz.func55, Tryz.ntmps55
  go_wp2
  go_loopg [13] n (fun r i wr => ∃ k : Nat, k ≤ n ∧ r = n - k ∧ i = .int .i64 k ∧ ∃ m, wr = w.drewN m)
  case atStart => exact ⟨0, by omega, by omega, rfl, 0, rfl⟩
  case round =>
    obtain ⟨k, hk, rfl, rfl, m0, hw0⟩ := hrel
    replace hA : RowAt wr ao n A := hw0 ▸ hA.drewN m0
    replace hB : RowAt wr bo n A := hw0 ▸ hB.drewN m0
    have HW : Hid (wr = w.drewN m0) := hw0
    clear hw0
    by_cases hlt : k < n
    · obtain ⟨b, o, rfl, hc⟩ := hA.cells (by omega)
      obtain ⟨b', o', rfl, hc'⟩ := hB.cells (by omega)
      have c1 := hc k hlt
      have c2 := hc' k hlt
      clear hA hB hc hc'
      go_wp2_with fail
      go_quiet (fail)
      go_wp2
      go_roundg (n - (k + 1))
      case measure => omega
      case rel => exact ⟨k + 1, by omega, rfl, by go_num, m0 + nq, by rw [HW.out, World.drewN_drewN]⟩
    · obtain rfl : k = n := by omega
      go_wp2
      go_ret
      exact ⟨rfl, m0, HW.out⟩
end Go.Proofs.YtcanjlofnpnhkaaGreatDoor

/- Sums of products: by a row with one 65536 it picks a number; of rows joined it is nearly the sum. -/
namespace Go.Proofs.YtcanjlofnpnhkaaGreatDoor
open Go.RowKit
theorem grow_in (s x : Int) (h : -9223372036854775807 ≤ s + x ∧ s + x ≤ 9223372036854775807) : grow s x = s + x := by unfold grow; omega
theorem fitN_comm (n m : Nat) : fitN n m = fitN m n := by unfold fitN; split <;> split <;> (try split) <;> (try split) <;> omega
def dotV (A B : List Int) (n m : Nat) : Int := if fitN n m = 0 then dotN A B n else 0
theorem fit_zero {n m : Nat} (h : fitN n m = 0) : n = m ∧ n ≤ 4096 := by
  unfold fitN at h
  split at h
  · omega
  · split at h
    · omega
    · omega
theorem fit_refl {n : Nat} (h : n ≤ 4096) : fitN n n = 0 := by unfold fitN; rw [if_neg (by omega), if_neg (by simp)]
theorem fit_six {n m : Nat} (h1 : n ≤ 4096) (h2 : m ≤ 4096) (h : n ≠ m) : fitN n m = 6 := by unfold fitN; rw [if_neg (by omega), if_pos h]
theorem dotV_comm (A B : List Int) (n m : Nat) : dotV A B n m = dotV B A m n := by
  unfold dotV
  rw [fitN_comm m n]
  by_cases h : fitN n m = 0
  · rw [if_pos h, if_pos h, (fit_zero h).1, dotN_comm]
  · rw [if_neg h, if_neg h]
/-- A row that has x at one place, elsewhere noughts. -/
theorem dsum_unit (A Z : List Int) (a : Nat) (hA : Small A) (hz : ∀ k, el Z k = if k = a then 65536 else 0) (k : Nat) : dsum A Z k = if a < k then el A a * 65536 else 0 := by
  induction k with
  | zero => rw [dsum_zero, if_neg (by omega)]
  | succ k ih =>
    rw [dsum_succ, ih, hz k]
    have hb := hA.el a
    by_cases h1 : k = a
    · subst h1
      rw [if_neg (by omega), if_pos rfl, if_pos (by omega), grow_in _ _ (by omega), Int.zero_add]
    · rw [if_neg h1, Int.mul_zero]
      by_cases h2 : a < k
      · rw [if_pos h2, if_pos (by omega), grow_in _ _ (by omega), Int.add_zero]
      · rw [if_neg h2, if_neg (by omega), grow_in _ _ (by omega), Int.add_zero]
theorem dotN_unit (A Z : List Int) (a n : Nat) (hA : Small A) (hz : ∀ k, el Z k = if k = a then 65536 else 0) (h : a < n) : dotN A Z n = sat (el A a) := by
  unfold dotN
  rw [dsum_unit A Z a hA hz n, if_pos h, rnd_whole _ _ (by omega)]
theorem el_tab_zero (n k : Nat) : el (tab n fun _ => 0) k = 0 := by
  by_cases h : k < n
  · exact el_tab h
  · exact el_over (by rw [tab_len]; omega)
theorem el_unit (n a : Nat) (h : a < n) (k : Nat) : el ((tab n fun _ => 0).set a 65536) k = if k = a then 65536 else 0 := by
  rw [el_set (by rw [tab_len]; exact h), el_tab_zero]
end Go.Proofs.YtcanjlofnpnhkaaGreatDoor

/- More of what the laws of layer 3 call: dot products of any two rows; small numbers; the document's greatest place; rows that are overwritten. -/
namespace Go.Proofs.YtcanjlofnpnhkaaGreatDoor
open Go.ChangeShapes Go.WideShapes Go.ChangeAt Go.RowKit
theorem dot_all (ao bo : Option Addr) (n m ca cb : Nat) (A B : List Int) (w : World) (hA : RowAt w ao n A) (hB : RowAt w bo m B) :
   Calls Tryz.prog 96 #[.slice ao n ca, .slice bo m cb] w fun e w' => e = .returned (.tuple #[.int .i32 (dotV A B n m), .int .i64 (fitN n m)]) ∧ ∃ m, w' = w.drewN m := by
  by_cases hf : fitN n m = 0
  · obtain ⟨rfl, h4⟩ := fit_zero hf
    have e : dotV A B n n = dotN A B n := by unfold dotV; rw [if_pos hf]
    rw [e, hf]
    exact dot_any ao bo n ca cb A B w hA hB h4
  · have e : dotV A B n m = 0 := by unfold dotV; rw [if_neg hf]
    rw [e]
    exact (dot_bad ao bo n m ca cb w hA.max hB.max hf).mono fun e w' ⟨h1, h2⟩ => ⟨h1, 0, h2⟩
/-- Of what was there, only blocks among gs may have turned. -/
structure Kept (gs : List Nat) (w w' : World) : Prop where
  os : w'.os = w.os
  tape : w'.tape = w.tape
  output : w'.output = w.output
  size : w.heap.size ≤ w'.heap.size
  block : ∀ k, k < w.heap.size → k ∉ gs → w'.heap[k]? = w.heap[k]?
theorem Kept.refl (gs : List Nat) (w : World) : Kept gs w w := ⟨rfl, rfl, rfl, Nat.le_refl _, fun _ _ _ => rfl⟩
theorem Kept.set {gs : List Nat} {w w' : World} (h : Kept gs w w') {a : Addr} (ha : a.block ∈ gs) (v : Value) : Kept gs w (w'.setCell a v) :=
  ⟨h.os, h.tape, h.output, by simpa [World.setCell] using h.size, fun k hk hn => by
    have hne : k ≠ a.block := fun e => hn (by rw [e]; exact ha)
    rw [Below.heap_setCell _ _ _ _ hne]; exact h.block k hk hn⟩
theorem Kept.below {gs : List Nat} {w w' : World} (h : Kept gs w w') {B : Nat} (hB : B ≤ w.heap.size) (hg : ∀ g ∈ gs, B ≤ g) : Below B w w' :=
  ⟨h.os, h.tape, h.output, h.size, fun k hk => h.block k (by omega) (fun hm => by have := hg k hm; omega)⟩
theorem Fresh.kept {w w' : World} {B g n cap : Nat} {A : List Int} {gs : List Nat} (h : Fresh w B g n cap A) (hk : Kept gs w w') (hg : g ∉ gs) : Fresh w' B g n cap A := h.of_block (hk.block g h.lt hg)
end Go.Proofs.YtcanjlofnpnhkaaGreatDoor

/- What each call of package mat answers, and that it changes nothing of what was there. -/
namespace Go.Proofs.YtcanjlofnpnhkaaGreatDoor
open Go.ChangeShapes Go.WideShapes Go.ChangeAt Go.RowKit
/-- A matrix as a value. -/
def matV (r c : Int) (ao : Option Addr) (n ca : Nat) : Value := .agg #[.int .i64 r, .int .i64 c, .slice ao n ca]
def sideN (r c : Int) : Int := if r < 1 ∨ c < 1 then 1 else if 128 < r ∨ 128 < c then 2 else 0
def chkN (r c : Int) (n : Nat) : Int := if sideN r c ≠ 0 then sideN r c else if (n : Int) ≠ r * c then 6 else 0
theorem side_zero {r c : Int} (h : sideN r c = 0) : 1 ≤ r ∧ r ≤ 128 ∧ 1 ≤ c ∧ c ≤ 128 := by
  unfold sideN at h
  split at h
  · omega
  · split at h <;> omega
theorem chk_zero {r c : Int} {n : Nat} (h : chkN r c n = 0) : ∃ r' c' : Nat, r = r' ∧ c = c' ∧ 1 ≤ r' ∧ r' ≤ 128 ∧ 1 ≤ c' ∧ c' ≤ 128 ∧ n = r' * c' := by
  unfold chkN at h
  split at h
  · rename_i h1; exact absurd h h1
  · rename_i h1
    have h2 := side_zero (Classical.not_not.1 h1)
    split at h
    · omega
    · rename_i h3
      have h3 := Classical.not_not.1 h3
      refine ⟨r.toNat, c.toNat, by omega, by omega, by omega, by omega, by omega, by omega, ?_⟩
      have e : ((r.toNat * c.toNat : Nat) : Int) = r * c := by rw [Int.natCast_mul]; congr 1 <;> omega
      omega
theorem chk_ok {r c : Nat} {n : Nat} (h1 : 1 ≤ r) (h2 : r ≤ 128) (h3 : 1 ≤ c) (h4 : c ≤ 128) (h : n = r * c) : chkN r c n = 0 := by
  have e : sideN r c = 0 := by unfold sideN; rw [if_neg (by omega), if_neg (by omega)]
  unfold chkN
  rw [e, if_neg (by omega), if_neg (by subst h; simp)]
theorem checkSides_any (r c : Int) (w : World) (h1 : -9223372036854775808 ≤ r ∧ r ≤ 9223372036854775807) (h2 : -9223372036854775808 ≤ c ∧ c ≤ 9223372036854775807) :
   Calls Tryz.prog 90 #[.int .i64 r, .int .i64 c] w fun e w' => e = .returned (.int .i64 (sideN r c)) ∧ w' = w := by
  by_cases a1 : r < 1
  · have HF : Hid (sideN r c = 1) := by show _ = _; unfold sideN; rw [if_pos (Or.inl a1)]
    go_enter Tryz.func90, Tryz.ntmps90
    go_wp2
    go_ret
    exact ⟨ret_int HF.out.symm, rfl⟩
  by_cases a2 : c < 1
  · have HF : Hid (sideN r c = 1) := by show _ = _; unfold sideN; rw [if_pos (Or.inr a2)]
    go_enter Tryz.func90, Tryz.ntmps90
    go_wp2
    go_ret
    exact ⟨ret_int HF.out.symm, rfl⟩
  by_cases a3 : 128 < r
  · have HF : Hid (sideN r c = 2) := by show _ = _; unfold sideN; rw [if_neg (by omega), if_pos (Or.inl a3)]
    go_enter Tryz.func90, Tryz.ntmps90
    go_wp2
    go_ret
    exact ⟨ret_int HF.out.symm, rfl⟩
  by_cases a4 : 128 < c
  · have HF : Hid (sideN r c = 2) := by show _ = _; unfold sideN; rw [if_neg (by omega), if_pos (Or.inr a4)]
    go_enter Tryz.func90, Tryz.ntmps90
    go_wp2
    go_ret
    exact ⟨ret_int HF.out.symm, rfl⟩
  · have HF : Hid (sideN r c = 0) := by show _ = _; unfold sideN; rw [if_neg (by omega), if_neg (by omega)]
    go_enter Tryz.func90, Tryz.ntmps90
    go_wp2
    go_ret
    exact ⟨ret_int HF.out.symm, rfl⟩
theorem mul_side {r c : Int} (h : 1 ≤ r ∧ r ≤ 128 ∧ 1 ≤ c ∧ c ≤ 128) : 1 ≤ r * c ∧ r * c ≤ 16384 := by
  have h1 := Int.mul_le_mul h.2.1 h.2.2.2 (by omega) (show (0 : Int) ≤ 128 by omega)
  have h2 := Int.mul_le_mul h.1 h.2.2.1 (by omega) (show (0 : Int) ≤ r by omega)
  omega
set_option maxHeartbeats 800000 in
theorem check_any (r c : Int) (ao : Option Addr) (n ca : Nat) (w : World) (h1 : -9223372036854775808 ≤ r ∧ r ≤ 9223372036854775807) (h2 : -9223372036854775808 ≤ c ∧ c ≤ 9223372036854775807) :
   Calls Tryz.prog 78 #[matV r c ao n ca] w fun e w' => e = .returned (.int .i64 (chkN r c n)) ∧ Below w.heap.size w w' := by
  unfold matV
  by_cases hs : sideN r c = 0
  · have hb := side_zero hs
    have hm := mul_side hb
    by_cases he : (n : Int) = r * c
    · have HF : Hid (chkN r c n = 0) := by show _ = _; unfold chkN; rw [if_neg (by omega), if_neg (by omega)]
      have he' : ((n : Int) == r * c) = true := by simpa using he
      clear he
      generalize hp : r * c = p at *
      go_enter Tryz.func78, Tryz.ntmps78
      go_wp2_with fail
      refine (checkSides_any r c _ h1 h2).mono ?_
      rintro e w' ⟨rfl, rfl⟩
      rw [hs]
      go_wp2
      go_ret
      exact ⟨ret_int HF.out.symm, (Below.refl _ _).alloc (Nat.le_refl _) _⟩
    · have HF : Hid (chkN r c n = 6) := by show _ = _; unfold chkN; rw [if_neg (by omega), if_pos he]
      have he' : ((n : Int) == r * c) = false := by simpa using he
      clear he
      generalize hp : r * c = p at *
      go_enter Tryz.func78, Tryz.ntmps78
      go_wp2_with fail
      refine (checkSides_any r c _ h1 h2).mono ?_
      rintro e w' ⟨rfl, rfl⟩
      rw [hs]
      go_wp2
      go_ret
      exact ⟨ret_int HF.out.symm, (Below.refl _ _).alloc (Nat.le_refl _) _⟩
  · have HF : Hid (chkN r c n = sideN r c) := by show _ = _; unfold chkN; rw [if_pos hs]
    have hs' : (sideN r c == 0) = false := by simpa using hs
    generalize hq : sideN r c = q at *
    go_enter Tryz.func78, Tryz.ntmps78
    go_wp2_with fail
    refine (checkSides_any r c _ h1 h2).mono ?_
    rintro e w' ⟨rfl, rfl⟩
    rw [hq]
    go_wp2
    go_ret
    exact ⟨ret_int HF.out.symm, (Below.refl _ _).alloc (Nat.le_refl _) _⟩
/-- Row i of a matrix of c columns; column j of one of r rows. -/
def rowN (D : List Int) (c i : Nat) : List Int := tab c fun j => el D (i * c + j)
def colN (D : List Int) (r c j : Nat) : List Int := tab r fun i => el D (i * c + j)
/-- A sound matrix in memory. -/
structure MatAt (w : World) (r c b o n ca : Nat) (D : List Int) : Prop where
  r1 : 1 ≤ r
  r2 : r ≤ 128
  c1 : 1 ≤ c
  c2 : c ≤ 128
  size : n = r * c
  fit : n ≤ ca
  max : ca ≤ 9223372036854775807
  row : RowAt w (some ⟨b, o, none⟩) n D
theorem MatAt.below {w w' : World} {r c b o n ca : Nat} {D : List Int} (h : MatAt w r c b o n ca D) (hb : Below w.heap.size w w') : MatAt w' r c b o n ca D := ⟨h.r1, h.r2, h.c1, h.c2, h.size, h.fit, h.max, h.row.below hb⟩
theorem row_in {r c i : Nat} (h : i < r) : i * c + c ≤ r * c := by
  have := Nat.mul_le_mul_right c (show i + 1 ≤ r from h)
  rw [Nat.add_mul, Nat.one_mul] at this
  exact this
theorem size_le {r c : Nat} (h1 : r ≤ 128) (h2 : c ≤ 128) : r * c ≤ 16384 := Nat.mul_le_mul h1 h2
theorem MatAt.rowAt {w : World} {r c b o n ca : Nat} {D : List Int} (h : MatAt w r c b o n ca D) {i : Nat} (hi : i < r) : RowAt w (some ⟨b, o + i * c, none⟩) c (rowN D c i) := by
  have h1 := row_in (c := c) hi
  have h2 := h.size
  have e : (D.drop (i * c)).take c = rowN D c i := by
    unfold rowN
    refine ext_el (by rw [tab_len, List.length_take, List.length_drop, h.row.len]; omega) fun k hk => ?_
    rw [List.length_take] at hk
    rw [el_take (by omega), el_drop, el_tab (by omega)]
  rw [← e]
  exact h.row.part (i * c) c (by omega)
set_option maxHeartbeats 800000 in
theorem mrow_any (r c b o n ca : Nat) (D : List Int) (i : Nat) (w : World) (h : MatAt w r c b o n ca D) (hi : i < r) :
   Calls Tryz.prog 80 #[matV r c (some ⟨b, o, none⟩) n ca, .int .i64 i] w fun e w' => ∃ cap, e = .returned (.slice (some ⟨b, o + i * c, none⟩) c cap) ∧ Below w.heap.size w w' := by
  have h1 := row_in (c := c) hi
  have h2 := h.size
  have h3 := h.fit
  have h4 := h.max
  have h5 := h.c1
  have h6 := size_le h.r2 h.c2
  have e1 : (i : Int) * (c : Int) = ((i * c : Nat) : Int) := by rw [Int.natCast_mul]
  have e2 : ((i : Int) + 1) * (c : Int) = ((i * c + c : Nat) : Int) := by rw [Int.add_mul, e1]; omega
  have e3 : i < 128 := by have := h.r2; omega
  generalize hic : i * c = ic at *
  generalize hrc : r * c = rc at *
  clear h
  unfold matV
  go_enter Tryz.func80, Tryz.ntmps80
  go_wp2
  go_ret
  refine ⟨ca - ic, ?_, (Below.refl _ _).alloc (Nat.le_refl _) _⟩
  show Ending.returned (.slice (some ⟨b, o + ic, none⟩) (ic + c - ic) (ca - ic)) = _
  rw [Nat.add_sub_cancel_left]
theorem run_eql_nil (w : World) (t e : TypeId) (a : Option Addr) (l c : Nat) (h : Tryz.prog.underlying t = some (.slice e)) : (binOp .eql t (.slice a l c) (.slice none 0 0)).run Tryz.prog w = .ok (.bool a.isNone) w := by
  simp [binOp, run_equal_slice_nil w t e a l c h]
theorem clone_any (b o n ca : Nat) (A : List Int) (w : World) (hA : RowAt w (some ⟨b, o, none⟩) n A) (hn : n ≤ 1048576) :
   Calls Tryz.prog 64 #[.slice (some ⟨b, o, none⟩) n ca] w fun e w' => ∃ g cap, e = .returned (.slice (some ⟨g, 0, none⟩) n cap) ∧ Fresh w' w.heap.size g n cap A ∧ Below w.heap.size w w' := by
  have F0 := fresh_empty w
  have B0 : Below w.heap.size w (w.alloc (.cells #[] 106)) := (Below.refl _ _).alloc (Nat.le_refl _) _
  have R := hA.below B0
  have hq : ∀ w : World, (binOp .eql 35 (.slice (some ⟨b, o, none⟩) n ca) (.slice none 0 0)).run Tryz.prog w = .ok (.bool false) w := fun w => run_eql_nil w _ 106 _ _ _ Tryz.underlying35
  clear hA
  go_enter Tryz.func64, Tryz.ntmps64
  go_wp2_with (at_builtin; refine wpList_append_row rfl _ _ rfl w.heap.size w.heap.size 0 0 [] rfl F0 (some ⟨b, o, none⟩) n ca A rfl R (fun h => by cases h) (by omega) (by simp) ?_; intro g' cap' w' F1 B1)
  rw [Nat.zero_add, List.nil_append] at *
  go_ret
  exact ⟨_, _, rfl, F1, B0.trans B1⟩
theorem mdot_any (ao bo : Option Addr) (n ca cb : Nat) (A B : List Int) (w : World) (hA : RowAt w ao n A) (hB : RowAt w bo n B) (h4 : n ≤ 4096) :
   Calls Tryz.prog 86 #[.slice ao n ca, .slice bo n cb] w fun e w' => e = .returned (.int .i32 (dotN A B n)) ∧ ∃ m, w' = w.drewN m := by
  go_enter Tryz.func86, Tryz.ntmps86
  go_wp2_with fail
  refine (dot_any ao bo n ca cb A B _ (by exact hA) (by exact hB) h4).mono ?_
  rintro e w' ⟨rfl, m, rfl⟩
  go_wp2
  go_ret
  exact ⟨rfl, m, rfl⟩
/-- A matrix that was laid into a block of its own. -/
def Box (w : World) (g : Nat) (r c : Int) (ao : Option Addr) (n ca : Nat) : Prop := w.heap[g]? = some (.cells #[.int .i64 r, .int .i64 c, .slice ao n ca] 37 (0, 0))
theorem box_new (w : World) (r c : Int) (ao : Option Addr) (n ca : Nat) : Box (w.alloc (.cells #[.int .i64 r, .int .i64 c, .slice ao n ca] 37)) w.heap.size r c ao n ca := heap_alloc_new _ _
theorem Box.lt {w : World} {g : Nat} {r c : Int} {ao : Option Addr} {n ca : Nat} (h : Box w g r c ao n ca) : g < w.heap.size := (Array.getElem?_eq_some_iff.1 h).1
theorem Box.block {w w' : World} {g : Nat} {r c : Int} {ao : Option Addr} {n ca : Nat} (h : Box w g r c ao n ca) (e : w'.heap[g]? = w.heap[g]?) : Box w' g r c ao n ca := Eq.trans e h
theorem Box.below {w w' : World} {g : Nat} {r c : Int} {ao : Option Addr} {n ca : Nat} (h : Box w g r c ao n ca) (hb : Below w.heap.size w w') : Box w' g r c ao n ca := h.block (hb.block g h.lt)
theorem Box.c0 {w : World} {g : Nat} {r c : Int} {ao : Option Addr} {n ca : Nat} (h : Box w g r c ao n ca) : w.cell? ⟨g, 0, none⟩ = some (.int .i64 r) := by unfold Box at h; unfold World.cell?; simp only [h]; rfl
theorem Box.c1 {w : World} {g : Nat} {r c : Int} {ao : Option Addr} {n ca : Nat} (h : Box w g r c ao n ca) : w.cell? ⟨g, 1, none⟩ = some (.int .i64 c) := by unfold Box at h; unfold World.cell?; simp only [h]; rfl
theorem Box.c2 {w : World} {g : Nat} {r c : Int} {ao : Option Addr} {n ca : Nat} (h : Box w g r c ao n ca) : w.cell? ⟨g, 2, none⟩ = some (.slice ao n ca) := by unfold Box at h; unfold World.cell?; simp only [h]; rfl
theorem Box.frozen {w : World} {g : Nat} {r c : Int} {ao : Option Addr} {n ca : Nat} (h : Box w g r c ao n ca) (k : Nat) : w.frozen? ⟨g, k, none⟩ = false := by unfold Box at h; unfold World.frozen?; simp only [h]; rfl
set_option maxHeartbeats 800000 in
theorem row_bad (r c : Int) (ao : Option Addr) (n ca : Nat) (i : Int) (w : World) (h1 : -9223372036854775808 ≤ r ∧ r ≤ 9223372036854775807) (h2 : -9223372036854775808 ≤ c ∧ c ≤ 9223372036854775807) (hf : chkN r c n ≠ 0) :
   Calls Tryz.prog 69 #[matV r c ao n ca, .int .i64 i] w fun e w' => e = .returned (.tuple #[.slice none 0 0, .int .i64 (chkN r c n)]) ∧ Below w.heap.size w w' := by
  have hf' : (chkN r c n == 0) = false := by simpa using hf
  have X0 := box_new w r c ao n ca
  have B0 : Below w.heap.size w (w.alloc (.cells #[.int .i64 r, .int .i64 c, .slice ao n ca] 37)) := (Below.refl _ _).alloc (Nat.le_refl _) _
  generalize hw0 : w.alloc (.cells #[.int .i64 r, .int .i64 c, .slice ao n ca] 37) = w0 at X0 B0
  have q0 := X0.c0
  have q1 := X0.c1
  have q2 := X0.c2
  have C := check_any r c ao n ca w0 h1 h2
  generalize chkN r c n = q at *
  go_enter Tryz.func69, Tryz.ntmps69
  unfold matV at *
  go_wp2_with fail
  refine C.mono ?_
  rintro e w1 ⟨rfl, B1⟩
  replace B1 := below_then B0 B1
  clear hw0 q0 q1 q2 X0 C
  go_wp2
  go_ret2
  exact ⟨rfl, B1⟩
set_option maxHeartbeats 800000 in
theorem row_none (r c b o n ca : Nat) (D : List Int) (i : Int) (w : World) (h : MatAt w r c b o n ca D) (hi : i < 0 ∨ (r : Int) ≤ i) :
   Calls Tryz.prog 69 #[matV r c (some ⟨b, o, none⟩) n ca, .int .i64 i] w fun e w' => e = .returned (.tuple #[.slice none 0 0, .int .i64 8]) ∧ Below w.heap.size w w' := by
  have r2 := h.r2
  have c2 := h.c2
  have hk := chk_ok h.r1 h.r2 h.c1 h.c2 h.size
  have X0 := box_new w r c (some ⟨b, o, none⟩) n ca
  have B0 : Below w.heap.size w (w.alloc (.cells #[.int .i64 r, .int .i64 c, .slice (some ⟨b, o, none⟩) n ca] 37)) := (Below.refl _ _).alloc (Nat.le_refl _) _
  generalize hw0 : w.alloc (.cells #[.int .i64 r, .int .i64 c, .slice (some ⟨b, o, none⟩) n ca] 37) = w0 at X0 B0
  have q0 := X0.c0
  have q1 := X0.c1
  have q2 := X0.c2
  have C := check_any r c (some ⟨b, o, none⟩) n ca w0 (by omega) (by omega)
  rw [hk] at C
  rcases hi with hi | hi
  all_goals
    go_enter Tryz.func69, Tryz.ntmps69
    unfold matV at *
    go_wp2_with fail
    refine C.mono ?_
    rintro e w1 ⟨rfl, B1⟩
    replace X0 := X0.below B1
    replace q0 := X0.c0
    replace q1 := X0.c1
    replace q2 := X0.c2
    replace B1 := below_then B0 B1
    clear hw0 X0 C
    go_wp2
    go_ret2
    exact ⟨rfl, B1⟩
set_option maxHeartbeats 800000 in
theorem row_any (r c b o n ca : Nat) (D : List Int) (i : Nat) (w : World) (h : MatAt w r c b o n ca D) (hi : i < r) :
   Calls Tryz.prog 69 #[matV r c (some ⟨b, o, none⟩) n ca, .int .i64 i] w fun e w' => ∃ g cap, e = .returned (.tuple #[.slice (some ⟨g, 0, none⟩) c cap, .int .i64 0]) ∧ Fresh w' w.heap.size g c cap (rowN D c i) ∧ Below w.heap.size w w' := by
  have r2 := h.r2
  have c2 := h.c2
  have hk := chk_ok h.r1 h.r2 h.c1 h.c2 h.size
  have X0 := box_new w r c (some ⟨b, o, none⟩) n ca
  have B0 : Below w.heap.size w (w.alloc (.cells #[.int .i64 r, .int .i64 c, .slice (some ⟨b, o, none⟩) n ca] 37)) := (Below.refl _ _).alloc (Nat.le_refl _) _
  generalize hw0 : w.alloc (.cells #[.int .i64 r, .int .i64 c, .slice (some ⟨b, o, none⟩) n ca] 37) = w0 at X0 B0
  have q0 := X0.c0
  have q1 := X0.c1
  have q2 := X0.c2
  have C := check_any r c (some ⟨b, o, none⟩) n ca w0 (by omega) (by omega)
  rw [hk] at C
  replace h := h.below B0
  go_enter Tryz.func69, Tryz.ntmps69
  unfold matV at *
  go_wp2_with fail
  refine C.mono ?_
  rintro e w1 ⟨rfl, B1⟩
  replace X0 := X0.below B1
  replace q0 := X0.c0
  replace q1 := X0.c1
  replace q2 := X0.c2
  replace h := h.below B1
  replace B1 := below_then B0 B1
  clear hw0 X0 C B0
  go_wp2_with fail
  refine (mrow_any r c b o n ca D i w1 h hi).mono ?_
  rintro e w2 ⟨cap, rfl, B2⟩
  replace h := h.below B2
  replace B2 := below_then B1 B2
  have R := h.rowAt hi
  clear q0 q1 q2
  go_wp2_with fail
  refine (clone_any _ _ _ _ _ w2 R (by omega)).mono ?_
  rintro e w3 ⟨g3, c3, rfl, F3, B3⟩
  have s2 := B2.size
  replace B3 := below_then B2 B3
  go_wp2
  go_ret2
  exact ⟨g3, c3, rfl, F3.mono s2, B3⟩
end Go.Proofs.YtcanjlofnpnhkaaGreatDoor

/- What mat.Apply, mat.blank and mat.Turn answer. -/
namespace Go.Proofs.YtcanjlofnpnhkaaGreatDoor
open Go.ChangeShapes Go.WideShapes Go.ChangeAt Go.RowKit
set_option maxHeartbeats 800000 in
theorem apply_bad (r c : Int) (ao : Option Addr) (n ca : Nat) (v : Value) (w : World) (h1 : -9223372036854775808 ≤ r ∧ r ≤ 9223372036854775807) (h2 : -9223372036854775808 ≤ c ∧ c ≤ 9223372036854775807) (hf : chkN r c n ≠ 0) :
   Calls Tryz.prog 76 #[matV r c ao n ca, v] w fun e w' => e = .returned (.tuple #[.slice none 0 0, .int .i64 (chkN r c n)]) ∧ Below w.heap.size w w' := by
  have hf' : (chkN r c n == 0) = false := by simpa using hf
  have X0 := box_new w r c ao n ca
  have B0 : Below w.heap.size w (w.alloc (.cells #[.int .i64 r, .int .i64 c, .slice ao n ca] 37)) := (Below.refl _ _).alloc (Nat.le_refl _) _
  generalize hw0 : w.alloc (.cells #[.int .i64 r, .int .i64 c, .slice ao n ca] 37) = w0 at X0 B0
  have q0 := X0.c0
  have q1 := X0.c1
  have q2 := X0.c2
  have C := check_any r c ao n ca w0 h1 h2
  generalize chkN r c n = q at *
  go_enter Tryz.func76, Tryz.ntmps76
  unfold matV at *
  go_wp2_with fail
  refine C.mono ?_
  rintro e w1 ⟨rfl, B1⟩
  replace B1 := below_then B0 B1
  clear hw0 q0 q1 q2 X0 C
  go_wp2
  go_ret2
  exact ⟨rfl, B1⟩
set_option maxHeartbeats 800000 in
theorem apply_len (r c b o n ca : Nat) (D : List Int) (vo : Option Addr) (m cv : Nat) (w : World) (h : MatAt w r c b o n ca D) (hne : m ≠ c) :
   Calls Tryz.prog 76 #[matV r c (some ⟨b, o, none⟩) n ca, .slice vo m cv] w fun e w' => e = .returned (.tuple #[.slice none 0 0, .int .i64 6]) ∧ Below w.heap.size w w' := by
  have r2 := h.r2
  have c2 := h.c2
  have hk := chk_ok h.r1 h.r2 h.c1 h.c2 h.size
  have X0 := box_new w r c (some ⟨b, o, none⟩) n ca
  have B0 : Below w.heap.size w (w.alloc (.cells #[.int .i64 r, .int .i64 c, .slice (some ⟨b, o, none⟩) n ca] 37)) := (Below.refl _ _).alloc (Nat.le_refl _) _
  generalize hw0 : w.alloc (.cells #[.int .i64 r, .int .i64 c, .slice (some ⟨b, o, none⟩) n ca] 37) = w0 at X0 B0
  have q0 := X0.c0
  have q1 := X0.c1
  have q2 := X0.c2
  have C := check_any r c (some ⟨b, o, none⟩) n ca w0 (by omega) (by omega)
  rw [hk] at C
  go_enter Tryz.func76, Tryz.ntmps76
  unfold matV at *
  go_wp2_with fail
  refine C.mono ?_
  rintro e w1 ⟨rfl, B1⟩
  replace X0 := X0.below B1
  replace q0 := X0.c0
  replace q1 := X0.c1
  replace q2 := X0.c2
  replace B1 := below_then B0 B1
  clear hw0 X0 C
  go_wp2
  go_ret2
  exact ⟨rfl, B1⟩
set_option maxHeartbeats 1600000 in
theorem apply_any (r c b o n ca : Nat) (D : List Int) (vo : Option Addr) (cv : Nat) (V : List Int) (w : World) (h : MatAt w r c b o n ca D) (hV : RowAt w vo c V) :
   Calls Tryz.prog 76 #[matV r c (some ⟨b, o, none⟩) n ca, .slice vo c cv] w fun e w' => ∃ g, e = .returned (.tuple #[.slice (some ⟨g, 0, none⟩) r r, .int .i64 0]) ∧ Fresh w' w.heap.size g r r (tab r fun i => dotN (rowN D c i) V c) ∧ Below w.heap.size w w' := by
  have r2 := h.r2
  have c2 := h.c2
  have hk := chk_ok h.r1 h.r2 h.c1 h.c2 h.size
  have X0 := box_new w r c (some ⟨b, o, none⟩) n ca
  have B0 : Below w.heap.size w (w.alloc (.cells #[.int .i64 r, .int .i64 c, .slice (some ⟨b, o, none⟩) n ca] 37)) := (Below.refl _ _).alloc (Nat.le_refl _) _
  generalize hw0 : w.alloc (.cells #[.int .i64 r, .int .i64 c, .slice (some ⟨b, o, none⟩) n ca] 37) = w0 at X0 B0
  have q0 := X0.c0
  have q1 := X0.c1
  have q2 := X0.c2
  have C := check_any r c (some ⟨b, o, none⟩) n ca w0 (by omega) (by omega)
  rw [hk] at C
  have hmk := run_make_row' (P := Tryz.prog) 35 106 (.int .i32 0) 4 Tryz.underlying35 Tryz.infoNum rfl .i64 .i64 r (by omega) (by omega)
  go_enter Tryz.func76, Tryz.ntmps76
  unfold matV at *
  go_wp2_with fail
  refine C.mono ?_
  rintro e w1 ⟨rfl, B1⟩
  replace X0 := X0.below B1
  replace q0 := X0.c0
  replace q1 := X0.c1
  replace q2 := X0.c2
  replace B1 := below_then B0 B1
  clear hw0 C B0
  have s1 := B1.size
  have F2 := fresh_made w1 r (by omega)
  have B2 : Below w1.heap.size w1 (w1.alloc (.cells (madeCells #[.int .i32 0] r) 106)) := (Below.refl _ _).alloc (Nat.le_refl _) _
  generalize hw2 : w1.alloc (.cells (madeCells #[.int .i32 0] r) 106) = w2 at F2 B2
  go_wp2_with fail
  clear hw2 hmk q0 q1 q2
  have i0 := X0.lt
  replace X0 := X0.below B2
  replace B2 := below_then B1 B2
  clear B1
  go_loopg [24] r (fun k0 i wr => ∃ k : Nat, k ≤ r ∧ k0 = r - k ∧ i = .int .i64 k ∧ Fresh wr w1.heap.size w1.heap.size r r (tab r fun j => if j < k then dotN (rowN D c j) V c else 0) ∧ Box wr w.heap.size r c (some ⟨b, o, none⟩) n ca ∧ Below w.heap.size w wr)
  case atStart => exact ⟨0, by omega, by omega, rfl, by rw [tab_start]; exact F2, X0, B2⟩
  case round =>
    clear X0 F2 B2
    obtain ⟨k, hk, rfl, rfl, F3, X3, B3⟩ := hrel
    by_cases hlt : k < r
    · replace h := h.below B3
      replace hV := hV.below B3
      have q0 := X3.c0
      have q1 := X3.c1
      have q2 := X3.c2
      go_wp2_with fail
      refine (mrow_any r c b o n ca D k wr h hlt).mono ?_
      rintro e w4 ⟨cap, rfl, B4⟩
      clear q0 q1 q2
      replace h := h.below B4
      replace hV := hV.below B4
      replace F3 := F3.below B4
      replace X3 := X3.below B4
      replace B4 := below_then B3 B4
      go_wp2_with fail
      refine (mdot_any _ _ c _ _ _ V w4 (h.rowAt hlt) hV (by omega)).mono ?_
      rintro e w5 ⟨rfl, m5, hw5⟩
      have B5 : Below w4.heap.size w4 w5 := hw5 ▸ below_drewN (Below.refl _ _) m5
      clear hw5
      replace F3 := F3.below B5
      replace X3 := X3.below B5
      replace B5 := below_then B4 B5
      have f1 := F3.frozen k
      have f2 := F3.cell hlt
      have b1 := dotN_bd (rowN D c k) V c
      clear h hV B3 B4
      go_wp2
      go_roundg (r - (k + 1))
      case measure => omega
      case rel => exact ⟨k + 1, by omega, rfl, by go_num, F3.step _ hlt rfl (by omega), X3.block (Below.heap_setCell _ _ _ _ (by show w.heap.size ≠ w1.heap.size; omega)), B5.setCell (p := ⟨w1.heap.size, k, none⟩) s1 _⟩
    · obtain rfl : k = r := by omega
      rw [tab_done] at F3
      go_wp2
      go_ret2
      exact ⟨_, rfl, F3.mono s1, B3⟩
theorem heap_setCell_at {w : World} {g k : Nat} {t : TypeId} {fr : Nat × Nat} {cs : Array Value} {v : Value} (h : w.heap[g]? = some (.cells cs t fr)) : (w.setCell ⟨g, k, none⟩ v).heap[g]? = some (.cells (cs.setIfInBounds k v) t fr) := by
  simp [World.setCell, Array.getElem?_modify, h]
theorem Box.put {w : World} {g : Nat} {r c : Int} {ao : Option Addr} {n ca : Nat} (h : Box w g r c ao n ca) (r' c' : Int) (ao' : Option Addr) (n' ca' : Nat) :
    Box (((w.setCell ⟨g, 0, none⟩ (.int .i64 r')).setCell ⟨g, 1, none⟩ (.int .i64 c')).setCell ⟨g, 2, none⟩ (.slice ao' n' ca')) g r' c' ao' n' ca' := by
  unfold Box at *
  rw [heap_setCell_at (heap_setCell_at (heap_setCell_at h))]
  rfl
theorem Below.put {B : Nat} {a w : World} (h : Below B a w) {g : Nat} (hg : B ≤ g) (u v x : Value) : Below B a (((w.setCell ⟨g, 0, none⟩ u).setCell ⟨g, 1, none⟩ v).setCell ⟨g, 2, none⟩ x) :=
  ((h.setCell (p := ⟨g, 0, none⟩) hg u).setCell (p := ⟨g, 1, none⟩) hg v).setCell (p := ⟨g, 2, none⟩) hg x
theorem Fresh.put {w : World} {B g n cap : Nat} {A : List Int} (h : Fresh w B g n cap A) {k : Nat} (hg : g ≠ k) (u v x : Value) : Fresh (((w.setCell ⟨k, 0, none⟩ u).setCell ⟨k, 1, none⟩ v).setCell ⟨k, 2, none⟩ x) B g n cap A :=
  ((h.setOther (a := ⟨k, 0, none⟩) hg u).setOther (a := ⟨k, 1, none⟩) hg v).setOther (a := ⟨k, 2, none⟩) hg x
theorem results_mat {fn : Func} {p u : Tmp} (h : fn.results = #[.cell p 37, .tmp u]) (tmps : Array Value) (w : World) (g : Nat) (r c : Int) (ao : Option Addr) (n ca : Nat)
    (hp : tmps.getD p undef = .pointer (some ⟨g, 0, none⟩)) (hb : Box w g r c ao n ca) : (results fn tmps).run Tryz.prog w = .ok (.tuple #[matV r c ao n ca, tmps.getD u undef]) w := by
  rw [results_cell_tmp h, hp]
  simp only [asAddr, Result.andThen]
  have hl := run_loadVar_row (P := Tryz.prog) w g 37 37 _ _ _ hb Tryz.underlying37 rfl (by kernel_rfl)
  simp [hl, matV]
/-- The turned matrix' numbers. -/
def turnN (D : List Int) (r c : Nat) : List Int := tab (c * r) fun q => el D ((q % r) * c + q / r)
theorem place_eq {r j k q : Nat} (hk : k < r) : q = j * r + k ↔ (q % r = k ∧ q / r = j) := by
  constructor
  · rintro rfl
    constructor
    · rw [Nat.add_comm, Nat.add_mul_mod_self_right, Nat.mod_eq_of_lt hk]
    · rw [Nat.add_comm, Nat.add_mul_div_right _ _ (by omega), Nat.div_eq_of_lt hk, Nat.zero_add]
  · rintro ⟨h1, h2⟩
    have := Nat.div_add_mod q r
    rw [h1, h2, Nat.mul_comm] at this
    omega
/-- What is there when k rows and j places of the next are done. -/
def turnK (D : List Int) (r c k j : Nat) : List Int := tab (c * r) fun q => if q % r < k ∨ (q % r = k ∧ q / r < j) then el D ((q % r) * c + q / r) else 0
theorem turnK_start (D : List Int) (r c : Nat) : turnK D r c 0 0 = tab (c * r) fun _ => 0 := tab_congr fun q _ => by
  generalize q % r = x
  generalize q / r = y
  rw [if_neg (by omega)]
theorem turnK_next (D : List Int) (r c k : Nat) (hk : k < r) : turnK D r c k c = turnK D r c (k + 1) 0 := tab_congr fun q hq => by
  have h1 : q / r < c := (Nat.div_lt_iff_lt_mul (by omega)).2 hq
  generalize q % r = x at *
  generalize q / r = y at *
  by_cases h : x < k ∨ x = k
  · rw [if_pos (by omega), if_pos (by omega)]
  · rw [if_neg (by omega), if_neg (by omega)]
theorem turnK_end (D : List Int) (r c : Nat) (hr : 1 ≤ r) : turnK D r c r 0 = turnN D r c := tab_congr fun q _ => by
  have := Nat.mod_lt q (show 0 < r by omega)
  rw [if_pos (by omega)]
theorem turnK_step (D : List Int) (r c k j : Nat) (hk : k < r) (hj : j < c) : (turnK D r c k j).set (j * r + k) (el D (k * c + j)) = turnK D r c k (j + 1) := by
  unfold turnK
  have hq : j * r + k < c * r := by have := row_in (c := r) hj; omega
  rw [tab_set hq]
  refine tab_congr fun q _ => ?_
  by_cases h : q = j * r + k
  · rw [if_pos h]
    obtain ⟨h1, h2⟩ := (place_eq hk).1 h
    rw [if_pos (by omega), h1, h2]
  · rw [if_neg h]
    have h' : ¬ (q % r = k ∧ q / r = j) := fun x => h ((place_eq hk).2 x)
    by_cases h3 : q % r < k ∨ (q % r = k ∧ q / r < j)
    · rw [if_pos h3, if_pos (by omega)]
    · rw [if_neg h3, if_neg (by omega)]
end Go.Proofs.YtcanjlofnpnhkaaGreatDoor

/- Package pass: its norm, its sums, and what a matrix makes of a row, of numbers that fit. -/
namespace Go.Proofs.YtcanjlofnpnhkaaGreatDoor
open Go.ChangeShapes Go.WideShapes Go.ChangeAt Go.RowKit
theorem pnorm_any (ao bo : Option Addr) (n ca cb : Nat) (A G : List Int) (w : World) (hA : RowAt w ao n A) (hG : RowAt w bo n G) (hf : sizeN n = 0) :
   Calls Tryz.prog 62 #[.slice ao n ca, .slice bo n cb] w fun e w' => ∃ g, e = .returned (.slice (some ⟨g, 0, none⟩) n n) ∧ Fresh w' w.heap.size g n n (tab n (normN A G n)) ∧ Below w.heap.size w w' := by
  go_enter Tryz.func62, Tryz.ntmps62
  go_wp2_with (go_at_call 77; refine (norm_any _ _ _ _ _ _ _ _ hA hG hf).mono ?_; rintro e w1 ⟨g1, rfl, F1, B1⟩)
  go_ret
  exact ⟨_, rfl, F1, B1⟩
theorem padd_any (ao bo : Option Addr) (n ca cb : Nat) (A B : List Int) (w : World) (hA : RowAt w ao n A) (hB : RowAt w bo n B) (hn : n ≤ 4096) :
   Calls Tryz.prog 74 #[.slice ao n ca, .slice bo n cb] w fun e w' => ∃ g, e = .returned (.slice (some ⟨g, 0, none⟩) n n) ∧ Fresh w' w.heap.size g n n (tab n fun j => addN (el A j) (el B j)) ∧ Below w.heap.size w w' := by
  go_enter Tryz.func74, Tryz.ntmps74
  go_wp2_with (go_at_call 85; refine (vadd_any _ _ _ _ _ _ _ _ hA hB hn).mono ?_; rintro e w1 ⟨g1, rfl, F1, B1⟩)
  go_ret
  exact ⟨_, rfl, F1, B1⟩
theorem papply_any (r c b o n ca : Nat) (D : List Int) (vo : Option Addr) (cv : Nat) (V : List Int) (w : World) (h : MatAt w r c b o n ca D) (hV : RowAt w vo c V) :
   Calls Tryz.prog 61 #[matV r c (some ⟨b, o, none⟩) n ca, .slice vo c cv] w fun e w' => ∃ g, e = .returned (.slice (some ⟨g, 0, none⟩) r r) ∧ Fresh w' w.heap.size g r r (tab r fun i => dotN (rowN D c i) V c) ∧ Below w.heap.size w w' := by
  have X0 := box_new w r c (some ⟨b, o, none⟩) n ca
  have B0 : Below w.heap.size w (w.alloc (.cells #[.int .i64 r, .int .i64 c, .slice (some ⟨b, o, none⟩) n ca] 37)) := (Below.refl _ _).alloc (Nat.le_refl _) _
  generalize hw0 : w.alloc (.cells #[.int .i64 r, .int .i64 c, .slice (some ⟨b, o, none⟩) n ca] 37) = w0 at X0 B0
  have q0 := X0.c0
  have q1 := X0.c1
  have q2 := X0.c2
  have s0 := B0.size
  have C := apply_any r c b o n ca D vo cv V w0 (h.below B0) (hV.below B0)
  unfold matV at C
  go_enter Tryz.func61, Tryz.ntmps61
  unfold matV
  go_wp2_with (go_at_call 76; refine C.mono ?_; rintro e w1 ⟨g1, rfl, F1, B1⟩)
  go_ret
  exact ⟨_, rfl, F1.mono s0, below_then B0 B1⟩
end Go.Proofs.YtcanjlofnpnhkaaGreatDoor

/- append of one number onto a row of the call's own, as one step of a region that draws. -/
namespace Go.Proofs.YtcanjlofnpnhkaaGreatDoor
open Go.ChangeShapes Go.WideShapes Go.ChangeAt Go.RowKit
/-- append of one number onto a row of the call's own, or nil, as one step of a region that draws. -/
theorem step_append_one {ops : Array Oper} {o : Oper} {a : Act} {w : World} {K : Act → World → Prop} {Q : Exit → Act → World → Prop} {E : Prop}
    (hg : o.guard = none) (s x : Operand) (hop : o.op = .call { callee := .builtin .append, args := #[s, x], argTypes := #[35, 35] })
    (B : Nat) (ao : Option Addr) (n cap : Nat) (A : List Int) (hs : a.eval s = .slice ao n cap) (hown : w.ownsRow B 106 1 (.slice ao n cap) n (A.map (Value.int .i32)))
    (bo : Nat) (y : Int) (hx : a.eval x = .slice (some ⟨bo, 0, none⟩) 1 1) (hX : RowAt w (some ⟨bo, 0, none⟩) 1 [y]) (hlen : n + 1 ≤ 1048576) (hB : B ≤ w.heap.size)
    (h : ∀ g' cap' w', w'.ownsRow B 106 1 (.slice (some ⟨g', 0, none⟩) (n + 1) cap') (n + 1) ((A ++ [y]).map (Value.int .i32)) → Below B w w' → B ≤ g' → K (a.put o.dst (.slice (some ⟨g', 0, none⟩) (n + 1) cap')) w') :
    if Region.wanted o (yielded ops a.tmps) = true then Oper.wp Tryz.prog o a w K Q else E := by
  have hw : Region.wanted o (yielded ops a.tmps) = true := by simp [Region.wanted, hg]
  rw [if_pos hw]
  obtain ⟨i0, hi, hz0, hz1, hz2⟩ := info_parts Tryz.infoNum
  refine wp_append_own w s x 35 hop B 106 i0 (.int .i32 0) 1 4 Tryz.underlying35 hi hz0 hz1 hz2 rfl (by decide) _ n _ hs hown ⟨bo, 0, none⟩ 1 1 [.int .i32 y] hx rfl ?_ (ints_oneCell .i32 [y]) (by unfold maxLen; omega) (by omega) hB ?_
  · intro j u hj
    obtain ⟨b, o', e, hcell⟩ := hX.cells (by omega)
    simp only [Option.some.injEq, Addr.mk.injEq, and_true] at e
    obtain ⟨rfl, rfl⟩ := e
    match j, hj with
    | 0, hj =>
      have h0 := hcell 0 (by omega)
      simp at hj
      subst hj
      have e2 : (Addr.mk bo 0 none).add 0 = ⟨bo, 0 + 0, none⟩ := by simp [Addr.add]
      rw [e2, h0]
      rfl
  · intro v' w' hown' hgr hnil
    have hb : Below B w w' := (Below.refl _ _).grown hgr hB (fun k hk => by
      cases ao with
      | none => simp [Value.ownBlock] at hk
      | some ad =>
        obtain ⟨_, h2⟩ := hown
        rcases h2 with ⟨h3, _⟩ | ⟨g, c', cur, hv, hg2, _⟩
        · cases h3
        · simp only [Value.slice.injEq] at hv
          obtain ⟨e1, _⟩ := hv
          rw [Option.some.inj e1] at hk
          simp [Value.ownBlock] at hk
          omega)
    obtain ⟨h1, h2⟩ := hown'
    rcases h2 with ⟨h3, h4⟩ | ⟨g', c', cur, hv, hg2, hr⟩
    · omega
    · subst hv
      have e : A.map (Value.int .i32) ++ [.int .i32 y] = (A ++ [y]).map (Value.int .i32) := by simp
      rw [e] at h1 hr
      exact h g' c' w' ⟨h1, Or.inr ⟨g', c', cur, rfl, hg2, hr⟩⟩ hb hg2
theorem owns_below {w w' : World} {B n : Nat} {e : TypeId} {v : Value} {xs : List Value} (h : w.ownsRow B e 1 v n xs) (hb : Below w.heap.size w w') : w'.ownsRow B e 1 v n xs := by
  obtain ⟨h1, h2⟩ := h
  refine ⟨h1, ?_⟩
  rcases h2 with h2 | ⟨g, cap, cur, hv, hg, hh, r⟩
  · exact Or.inl h2
  · exact Or.inr ⟨g, cap, cur, hv, hg, by rw [hb.block g (Array.getElem?_eq_some_iff.1 hh).1]; exact hh, r⟩
theorem tab_snoc1 (n : Nat) (f : Nat → Int) : tab (n + 1) f = tab n f ++ [f n] := by unfold tab; rw [List.range_succ, List.map_append]; rfl
end Go.Proofs.YtcanjlofnpnhkaaGreatDoor

/- Package pass: a new list of rows with one more at its end. -/
namespace Go.Proofs.YtcanjlofnpnhkaaGreatDoor
open Go.ChangeShapes Go.WideShapes Go.ChangeAt Go.RowKit
/-- The values of rows, and what they read as. -/
structure RowsAt (w : World) (vs : List Value) (R : List (List Int)) : Prop where
  len : vs.length = R.length
  rows : ∀ t, t < R.length → ∃ ro m c, vs[t]? = some (.slice ro m c) ∧ Arg w ro m c (rowOf R t)
theorem RowsAt.below {w w' : World} {vs : List Value} {R : List (List Int)} (h : RowsAt w vs R) (hb : Below w.heap.size w w') : RowsAt w' vs R :=
  ⟨h.len, fun t ht => let ⟨ro, m, c, e, A⟩ := h.rows t ht; ⟨ro, m, c, e, A.below hb⟩⟩
theorem RowsAt.one {w : World} {vs : List Value} {R : List (List Int)} (h : RowsAt w vs R) : ∀ u ∈ vs, u.oneCell' = true := by
  intro u hu
  obtain ⟨t, ht, e⟩ := List.mem_iff_getElem.1 hu
  obtain ⟨ro, m, c, e2, _⟩ := h.rows t (by rw [← h.len]; exact ht)
  rw [List.getElem?_eq_getElem ht] at e2
  simp only [Option.some.injEq] at e2
  rw [← e, e2]
  rfl
theorem GridAt.vals {w : World} {b o n : Nat} {R : List (List Int)} (h : GridAt w (some ⟨b, o, none⟩) n R) : ∃ vs, RowsAt w vs R ∧ ∀ j u, vs[j]? = some u → w.cell? ((Addr.mk b o none).add j) = some u := by
  refine ⟨(List.range n).map fun t => (w.cell? ⟨b, o + t, none⟩).getD default, ⟨by simp [h.len], fun t ht => ?_⟩, fun j u hj => ?_⟩
  · have hn : t < n := by rw [← h.len]; exact ht
    obtain ⟨b', o', e, hc⟩ := h.cells (by omega)
    simp only [Option.some.injEq, Addr.mk.injEq, and_true] at e
    obtain ⟨rfl, rfl⟩ := e
    obtain ⟨ro, m, c, h1, h2⟩ := hc t hn
    exact ⟨ro, m, c, by rw [List.getElem?_map, List.getElem?_range hn]; simp [h1], h2⟩
  · have hl : j < n := by
      have := (List.getElem?_eq_some_iff.1 hj).1
      simpa using this
    obtain ⟨b', o', e, hc⟩ := h.cells (by omega)
    simp only [Option.some.injEq, Addr.mk.injEq, and_true] at e
    obtain ⟨rfl, rfl⟩ := e
    obtain ⟨ro, m, c, h1, h2⟩ := hc j hl
    rw [List.getElem?_map, List.getElem?_range hl] at hj
    simp [h1] at hj
    have e2 : (Addr.mk b o none).add j = ⟨b, o + j, none⟩ := by simp [Addr.add]
    rw [e2, h1, hj]
/-- A list of rows of the call's own reads as they do. -/
theorem grid_of_owns {w : World} {B g n cap : Nat} {vs : List Value} {R : List (List Int)} (h : w.ownsRow B 35 1 (.slice (some ⟨g, 0, none⟩) n cap) n vs) (hR : RowsAt w vs R) (hn : n ≤ 9223372036854775807) : GridAt w (some ⟨g, 0, none⟩) n R := by
  have hl : R.length = n := by have h1 := h.1; have h2 := hR.len; omega
  refine ⟨hl, hn, fun _ => ⟨g, 0, rfl, fun t ht => ?_⟩⟩
  obtain ⟨ro, m, c, e, A⟩ := hR.rows t (by omega)
  have hc := h.cells (g := g) rfl t _ e
  have e2 : (Addr.mk g 0 none).add t = ⟨g, t, none⟩ := by simp [Addr.add]; intro h; exact h.symm
  rw [e2] at hc
  exact ⟨_, _, _, by rw [Nat.zero_add]; exact hc, A⟩
theorem RowsAt.snoc {w : World} {vs : List Value} {R : List (List Int)} (h : RowsAt w vs R) {ro : Option Addr} {m c : Nat} {Y : List Int} (hY : Arg w ro m c Y) : RowsAt w (vs ++ [.slice ro m c]) (R ++ [Y]) := by
  have hl := h.len
  refine ⟨by simp [hl], fun t ht => ?_⟩
  rw [List.length_append, List.length_singleton] at ht
  rcases Nat.lt_or_ge t R.length with h1 | h1
  · obtain ⟨ro', m', c', e, A⟩ := h.rows t h1
    refine ⟨ro', m', c', by rw [List.getElem?_append_left (by omega)]; exact e, ?_⟩
    have : rowOf (R ++ [Y]) t = rowOf R t := by unfold rowOf; simp only [List.getD_eq_getElem?_getD]; rw [List.getElem?_append_left h1]
    rw [this]
    exact A
  · obtain rfl : t = R.length := by omega
    refine ⟨ro, m, c, by rw [← hl]; simp, ?_⟩
    have : rowOf (R ++ [Y]) R.length = Y := by unfold rowOf; simp
    rw [this]
    exact hY
theorem clones_any (ao : Option Addr) (n ca : Nat) (R : List (List Int)) (w : World) (hR : GridAt w ao n R) (hc : ao = none → ca = 0) (hn : n ≤ 1048576) :
   Calls Tryz.prog 84 #[.slice ao n ca] w fun e w' => ∃ v vs, e = .returned v ∧ w'.ownsRow w.heap.size 35 1 v n vs ∧ RowsAt w vs R ∧ Below w.heap.size w w' := by
  cases ao with
  | none =>
    have hm : n = 0 := by
      rcases Nat.eq_zero_or_pos n with h0 | h0
      · exact h0
      · obtain ⟨b, o, e, _⟩ := hR.cells h0; cases e
    subst hm
    have hc0 := hc rfl
    subst hc0
    obtain rfl : R = [] := List.length_eq_zero_iff.1 hR.len
    have hq : ∀ w : World, (binOp .eql 105 (.slice none 0 0) (.slice none 0 0)).run Tryz.prog w = .ok (.bool true) w := fun w => run_eql_nil w _ 35 _ _ _ Tryz.underlying105
    go_enter Tryz.func84, Tryz.ntmps84
    go_wp2
    go_ret
    exact ⟨_, rfl, [], World.ownsRow_nil _ _ _ _, ⟨rfl, fun t ht => by simp at ht⟩, Below.refl _ _⟩
  | some ad =>
    obtain ⟨i0, hi, hz0, hz1, hz2⟩ := info_parts Tryz.infoRow
    have B0 : Below w.heap.size w (w.alloc (.cells #[] 35)) := (Below.refl _ _).alloc (Nat.le_refl _) _
    have O0 : (w.alloc (.cells #[] 35)).ownsRow w.heap.size 35 1 (.slice (some ⟨w.heap.size, 0, none⟩) 0 0) 0 [] := World.ownsRow_made w #[] 0 (Nat.le_refl _) (by decide) rfl
    have hvs : ∃ vs : List Value, RowsAt w vs R ∧ ∀ j u, vs[j]? = some u → w.cell? (ad.add j) = some u := by
      rcases Nat.eq_zero_or_pos n with h0 | h0
      · subst h0
        obtain rfl : R = [] := List.length_eq_zero_iff.1 hR.len
        exact ⟨[], ⟨rfl, fun t ht => by simp at ht⟩, fun j u hj => by simp at hj⟩
      · obtain ⟨b, o, e, _⟩ := hR.cells h0
        simp only [Option.some.injEq] at e
        subst e
        exact hR.vals
    obtain ⟨vs, V, hv⟩ := hvs
    have hl : vs.length = n := by rw [V.len, hR.len]
    have hv2 : ∀ j u, vs[j]? = some u → (w.alloc (.cells #[] 35)).cell? (ad.add j) = some u := fun j u hj => by
      have h1 := hv j u hj
      have h2 : (ad.add j).block < w.heap.size := World.block_lt_of_cell? w _ h1
      rw [World.cell?_of_block (B0.block _ h2)]
      exact h1
    have hq : ∀ w : World, (binOp .eql 105 (.slice (some ad) n ca) (.slice none 0 0)).run Tryz.prog w = .ok (.bool false) w := fun w => run_eql_nil w _ 35 _ _ _ Tryz.underlying105
    have one := V.one
    go_enter Tryz.func84, Tryz.ntmps84
    go_wp2_with (at_builtin; refine wpList_append_own _ rfl _ _ 105 rfl w.heap.size 35 i0 (.slice none 0 0) 1 24 Tryz.underlying105 hi hz0 hz1 hz2 rfl (by decide) _ 0 [] rfl O0 ad n ca vs rfl (by omega) hv2 one (by unfold maxLen; omega) (by omega) (by simp) ?_; intro v' w' O1 G1 N1)
    have hb : Below w.heap.size (w.alloc (.cells #[] 35)) w' := (Below.refl _ _).grown G1 (by simp) (fun k hk => (O0.lt k hk).1)
    rw [Nat.zero_add, List.nil_append] at O1
    go_ret
    exact ⟨v', vs, rfl, O1, V, B0.trans hb⟩
theorem behind_any (ao : Option Addr) (n ca : Nat) (R : List (List Int)) (yo : Option Addr) (m c : Nat) (Y : List Int) (w : World) (hR : GridAt w ao n R) (hc : ao = none → ca = 0) (hn : n ≤ 4096) (hY : Arg w yo m c Y) :
   Calls Tryz.prog 73 #[.slice ao n ca, .slice yo m c] w fun e w' => ∃ g cap, e = .returned (.slice (some ⟨g, 0, none⟩) (n + 1) cap) ∧ GridAt w' (some ⟨g, 0, none⟩) (n + 1) (R ++ [Y]) ∧ Below w.heap.size w w' := by
  obtain ⟨i0, hi, hz0, hz1, hz2⟩ := info_parts Tryz.infoRow
  have C := clones_any ao n ca R w hR hc (by omega)
  go_enter Tryz.func73, Tryz.ntmps73
  go_wp2_with fail
  refine C.mono ?_
  rintro e w1 ⟨v, vs, rfl, O1, V1, B1⟩
  have hl : vs.length = n := by rw [V1.len, hR.len]
  have B2 : Below w1.heap.size w1 (w1.alloc (.cells #[.slice yo m c] 35)) := (Below.refl _ _).alloc (Nat.le_refl _) _
  have O2 := owns_below O1 B2
  have hx : ∀ j u, [Value.slice yo m c][j]? = some u → (w1.alloc (.cells #[.slice yo m c] 35)).cell? ((Addr.mk w1.heap.size 0 none).add j) = some u := by
    intro j u hj
    match j, hj with
    | 0, hj =>
      simp at hj
      subst hj
      have e := heap_alloc_new w1 (.cells #[.slice yo m c] 35)
      have e2 : (Addr.mk w1.heap.size 0 none).add 0 = ⟨w1.heap.size, 0, none⟩ := by simp [Addr.add]
      rw [e2]
      unfold World.cell?
      simp only [e]
      rfl
  have s1 := B1.size
  have D2 := below_then B1 B2
  have s2 := B2.size
  clear C
  go_wp2_with (at_builtin; refine wpList_append_own _ rfl _ _ 105 rfl w.heap.size 35 i0 (.slice none 0 0) 1 24 Tryz.underlying105 hi hz0 hz1 hz2 rfl (by decide) _ n vs rfl O2 ⟨w1.heap.size, 0, none⟩ 1 1 [.slice yo m c] rfl rfl hx (by intro u hu; simp at hu; subst hu; rfl) (by unfold maxLen; omega) (by omega) (by omega) ?_; intro v' w' O3 G3 N3)
  have hb : Below w.heap.size (w1.alloc (.cells #[.slice yo m c] 35)) w' := (Below.refl _ _).grown G3 (by omega) (fun k hk => (O2.lt k hk).1)
  have D3 := D2.trans hb
  go_ret
  have O4 := O3
  obtain ⟨h4, h5⟩ := O4
  rcases h5 with ⟨_, h6⟩ | ⟨g, cap, cur, rfl, h7⟩
  · omega
  · exact ⟨g, cap, rfl, grid_of_owns O3 ((V1.snoc hY).below D3) (by omega), D3⟩
end Go.Proofs.YtcanjlofnpnhkaaGreatDoor

/- Blocks of memory of the call's own whose cells are known one by one: structs. -/
namespace Go.Proofs.YtcanjlofnpnhkaaGreatDoor
open Go.ChangeShapes Go.WideShapes Go.ChangeAt Go.RowKit
/-- Block g has the cells cs. -/
def Blk (w : World) (g : Nat) (T : TypeId) (cs : Array Value) : Prop := w.heap[g]? = some (.cells cs T (0, 0))
theorem blk_new (w : World) (T : TypeId) (cs : Array Value) : Blk (w.alloc (.cells cs T)) w.heap.size T cs := heap_alloc_new _ _
theorem Blk.lt {w : World} {g : Nat} {T : TypeId} {cs : Array Value} (h : Blk w g T cs) : g < w.heap.size := (Array.getElem?_eq_some_iff.1 h).1
theorem Blk.of_block {w w' : World} {g : Nat} {T : TypeId} {cs : Array Value} (h : Blk w g T cs) (e : w'.heap[g]? = w.heap[g]?) : Blk w' g T cs := Eq.trans e h
theorem Blk.below {w w' : World} {g : Nat} {T : TypeId} {cs : Array Value} (h : Blk w g T cs) (hb : Below w.heap.size w w') : Blk w' g T cs := h.of_block (hb.block g h.lt)
theorem Blk.cell {w : World} {g : Nat} {T : TypeId} {cs : Array Value} (h : Blk w g T cs) (i : Nat) {v : Value} (hv : cs[i]? = some v) : w.cell? ⟨g, i, none⟩ = some v := by
  unfold Blk at h; unfold World.cell?; simp only [h]; exact hv
theorem Blk.frozen {w : World} {g : Nat} {T : TypeId} {cs : Array Value} (h : Blk w g T cs) (k : Nat) : w.frozen? ⟨g, k, none⟩ = false := by unfold Blk at h; unfold World.frozen?; simp only [h]; rfl
theorem Blk.set {w : World} {g : Nat} {T : TypeId} {cs : Array Value} (h : Blk w g T cs) (i : Nat) (v : Value) : Blk (w.setCell ⟨g, i, none⟩ v) g T (cs.setIfInBounds i v) := by
  unfold Blk at *
  simp [World.setCell, Array.getElem?_modify, h]
theorem Blk.other {w : World} {g : Nat} {T : TypeId} {cs : Array Value} (h : Blk w g T cs) {a : Addr} (ha : g ≠ a.block) (v : Value) : Blk (w.setCell a v) g T cs := h.of_block (Below.heap_setCell _ _ _ _ ha)
theorem Blk.row {w : World} {g : Nat} {T : TypeId} {cs : Array Value} (h : Blk w g T cs) (ds : Array Value) : Blk (w.setRow g ds) g T ds := setRow_heap _ _ _ _ _ _ h
end Go.Proofs.YtcanjlofnpnhkaaGreatDoor

/- Plain numbers: numbers that are made from a seed; no condition. -/
namespace Go.Proofs.YtcanjlofnpnhkaaGreatDoor
/-- A step of the mixing. -/
def sprN (x p c : Nat) : Nat := (x ^^^ (x / p)) * c % 18446744073709551616
/-- What a state is mixed to. -/
def mixN (st : Nat) : Nat := sprN (sprN st 1073741824 13787848793156543929) 134217728 10723151780598845931 ^^^ (sprN (sprN st 1073741824 13787848793156543929) 134217728 10723151780598845931 / 2147483648)
/-- State number i (from 0 on) of a seed. -/
def stN (seed i : Nat) : Nat := (seed + i * 11400714819323198485) % 18446744073709551616
theorem stN_lt (seed i : Nat) : stN seed i < 18446744073709551616 := Nat.mod_lt _ (by decide)
theorem stN_succ (seed i : Nat) : stN seed (i + 1) = (stN seed i + 11400714819323198485) % 18446744073709551616 := by unfold stN; omega
theorem stN_zero (seed : Nat) (h : seed < 18446744073709551616) : stN seed 0 = seed := by unfold stN; omega
theorem sprN_lt (x p c : Nat) : sprN x p c < 18446744073709551616 := Nat.mod_lt _ (by decide)
theorem xor_lt {a b : Nat} (ha : a < 18446744073709551616) (hb : b < 18446744073709551616) : a ^^^ b < 18446744073709551616 := Nat.xor_lt_two_pow (n := 64) ha hb
theorem mixN_lt (st : Nat) : mixN st < 18446744073709551616 := xor_lt (sprN_lt _ _ _) (Nat.lt_of_le_of_lt (Nat.div_le_self _ _) (sprN_lt _ _ _))
/-- The number that a state makes, for a bound. -/
def genN (st m : Nat) : Int := ((mixN st / 4294967296 * (2 * m) / 4294967296 : Nat) : Int) - m
theorem gen_in (st m : Nat) (hm : m ≤ 131072) : mixN st / 4294967296 < 4294967296 ∧ mixN st / 4294967296 * (2 * m) ≤ 1125899906580480 ∧ mixN st / 4294967296 * (2 * m) / 4294967296 ≤ 2 * m := by
  have h := mixN_lt st
  have h1 : mixN st / 4294967296 ≤ 4294967295 := by omega
  have h2 : mixN st / 4294967296 * (2 * m) ≤ 4294967295 * 262144 := Nat.mul_le_mul h1 (by omega)
  have h3 : mixN st / 4294967296 * (2 * m) ≤ 4294967295 * (2 * m) := Nat.mul_le_mul_right _ h1
  exact ⟨by omega, h2, by omega⟩
theorem genN_bd (st m : Nat) (hm : m ≤ 131072) (h0 : 1 ≤ m) : -(m : Int) ≤ genN st m ∧ genN st m < m := by
  have h := mixN_lt st
  have h1 : mixN st / 4294967296 ≤ 4294967295 := by omega
  have h3 : mixN st / 4294967296 * (2 * m) ≤ 4294967295 * (2 * m) := Nat.mul_le_mul_right _ h1
  unfold genN
  omega
end Go.Proofs.YtcanjlofnpnhkaaGreatDoor

/- A model's source of numbers: the next number. -/
namespace Go.Proofs.YtcanjlofnpnhkaaGreatDoor
open Go.ChangeShapes Go.WideShapes Go.ChangeAt Go.RowKit
/-- The source lies in block g, at state st. -/
def SrcAt (w : World) (g st : Nat) : Prop := Blk w g 77 #[.int .u64 (st : Int)]
theorem xor_div (x p : Nat) (P : Int) (hP : P = (p : Int)) (hx : x < 18446744073709551616) : bits BinOp.xor IntKind.u64 (x : Int) ((x : Int) / P) = ((x ^^^ (x / p) : Nat) : Int) := by
  have e : ((x : Int) / (p : Int)) = ((x / p : Nat) : Int) := rfl
  rw [hP, e, bits_xor_u64_nat x (x / p) hx (Nat.lt_of_le_of_lt (Nat.div_le_self _ _) hx)]
theorem step_xor (x p c : Nat) (P C : Int) (hP : P = (p : Int)) (hC : C = (c : Int)) (hx : x < 18446744073709551616) : ∃ y : Nat, bits BinOp.xor IntKind.u64 (x : Int) ((x : Int) / P) = (y : Int) ∧ IntKind.u64.wrap ((y : Int) * C) = (sprN x p c : Int) := by
  refine ⟨_, xor_div x p P hP hx, ?_⟩
  rw [IntKind.wrap_u64, hC]
  unfold sprN
  omega
set_option maxHeartbeats 800000 in
theorem next_any (g st m : Nat) (w : World) (h : SrcAt w g st) (hm : m ≤ 131072) (h0 : 1 ≤ m) :
   Calls Tryz.prog 45 #[.pointer (some ⟨g, 0, none⟩), .int .u64 (m : Int)] w fun e w' => e = .returned (.int .i32 (genN ((st + 11400714819323198485) % 18446744073709551616) m)) ∧ w' = w.setCell ⟨g, 0, none⟩ (.int .u64 (((st + 11400714819323198485) % 18446744073709551616 : Nat) : Int)) := by
  have c0 : w.cell? ⟨g, 0, none⟩ = some (.int .u64 (st : Int)) := h.cell 0 rfl
  have f0 := h.frozen 0
  obtain ⟨s, hs⟩ : ∃ s, s = (st + 11400714819323198485) % 18446744073709551616 := ⟨_, rfl⟩
  have hsl : s < 18446744073709551616 := by omega
  rw [← hs]
  have h2 := Blk.set h 0 (.int .u64 (s : Int))
  have c2 : (w.setCell ⟨g, 0, none⟩ (.int .u64 (s : Int))).cell? ⟨g, 0, none⟩ = some (.int .u64 (s : Int)) := h2.cell 0 rfl
  clear h h2
  have e0 : IntKind.u64.wrap ((st : Int) + 11400714819323198485) = (s : Int) := by rw [IntKind.wrap_u64]; omega
  have st1 := step_xor s 1073741824 13787848793156543929 1073741824 13787848793156543929 rfl rfl hsl
  have st2 := step_xor (sprN s 1073741824 13787848793156543929) 134217728 10723151780598845931 134217728 10723151780598845931 rfl rfl (sprN_lt _ _ _)
  have st3 := xor_div (sprN (sprN s 1073741824 13787848793156543929) 134217728 10723151780598845931) 2147483648 2147483648 rfl (sprN_lt _ _ _)
  obtain ⟨y3, a1, a2⟩ := st1
  obtain ⟨y4, b1, b2⟩ := st2
  obtain ⟨g1, g2, g3⟩ := gen_in s m hm
  have gb := genN_bd s m hm h0
  have HG : Hid (genN s m = ((mixN s / 4294967296 * (2 * m) / 4294967296 : Nat) : Int) - m) := rfl
  have HZ : Hid (mixN s = sprN (sprN s 1073741824 13787848793156543929) 134217728 10723151780598845931 ^^^ (sprN (sprN s 1073741824 13787848793156543929) 134217728 10723151780598845931 / 2147483648)) := rfl
  rw [← HZ.out] at st3
  generalize mixN s = z at *
  generalize sprN (sprN s 1073741824 13787848793156543929) 134217728 10723151780598845931 = y2 at *
  generalize sprN s 1073741824 13787848793156543929 = y1 at *
  have e6 : ((z : Int) / 4294967296) * (2 * (m : Int)) = ((z / 4294967296 * (2 * m) : Nat) : Int) := by rw [Int.natCast_mul]; rfl
  generalize hq : z / 4294967296 * (2 * m) = q at *
  clear hq hs HZ
  go_enter Tryz.func45, Tryz.ntmps45
  go_wp2_with fail
  go_ret
  exact ⟨ret_int (by rw [HG.out]; go_num), rfl⟩
end Go.Proofs.YtcanjlofnpnhkaaGreatDoor

/- A model's source of numbers: rows and matrices of them. -/
namespace Go.Proofs.YtcanjlofnpnhkaaGreatDoor
open Go.ChangeShapes Go.WideShapes Go.ChangeAt Go.RowKit
/-- Of what was there, only block g may have turned. -/
structure But (g : Nat) (w w' : World) : Prop where
  os : w'.os = w.os
  tape : w'.tape = w.tape
  output : w'.output = w.output
  size : w.heap.size ≤ w'.heap.size
  block : ∀ k, k < w.heap.size → k ≠ g → w'.heap[k]? = w.heap[k]?
theorem But.refl (g : Nat) (w : World) : But g w w := ⟨rfl, rfl, rfl, Nat.le_refl _, fun _ _ _ => rfl⟩
theorem But.of_below {g : Nat} {w w' : World} (h : Below w.heap.size w w') : But g w w' := ⟨h.os, h.tape, h.output, h.size, fun k hk _ => h.block k hk⟩
theorem But.trans {g : Nat} {w w1 w2 : World} (h : But g w w1) (k : But g w1 w2) : But g w w2 :=
  ⟨k.os.trans h.os, k.tape.trans h.tape, k.output.trans h.output, Nat.le_trans h.size k.size, fun j hj hn => (k.block j (Nat.lt_of_lt_of_le hj h.size) hn).trans (h.block j hj hn)⟩
theorem But.set {g : Nat} {w w' : World} (h : But g w w') {a : Addr} (ha : a.block = g ∨ w.heap.size ≤ a.block) (v : Value) : But g w (w'.setCell a v) :=
  ⟨h.os, h.tape, h.output, by simpa [World.setCell] using h.size, fun k hk hn => by
    have hne : k ≠ a.block := by omega
    rw [Below.heap_setCell _ _ _ _ hne]; exact h.block k hk hn⟩
theorem But.alloc {g : Nat} {w w' : World} (h : But g w w') (o : Obj) : But g w (w'.alloc o) := h.trans (But.of_below ((Below.refl _ _).alloc (Nat.le_refl _) _))
theorem But.below {g : Nat} {w w' : World} (h : But g w w') {B : Nat} (hB : B ≤ w.heap.size) (hg : B ≤ g) : Below B w w' :=
  ⟨h.os, h.tape, h.output, h.size, fun k hk => h.block k (by omega) (by omega)⟩
theorem Fresh.but {w w' : World} {B g gd n cap : Nat} {A : List Int} (h : Fresh w B gd n cap A) (k : But g w w') (hg : g < B) : Fresh w' B gd n cap A := h.of_block (k.block gd h.lt (by have := h.base; omega))
theorem Blk.but {w w' : World} {g gb : Nat} {T : TypeId} {cs : Array Value} (h : Blk w gb T cs) (k : But g w w') (hg : gb ≠ g) : Blk w' gb T cs := h.of_block (k.block gb h.lt hg)
/-- Number k (from 0 on) of a seed, for a bound. -/
def numN (seed k m : Nat) : Int := genN (stN seed (k + 1)) m
theorem numN_bd (seed k m : Nat) (hm : m ≤ 131072) (h0 : 1 ≤ m) : -(m : Int) ≤ numN seed k m ∧ numN seed k m < m := genN_bd _ m hm h0
theorem SrcAt.next {w : World} {g st s : Nat} (h : SrcAt w g st) : SrcAt (w.setCell ⟨g, 0, none⟩ (.int .u64 (s : Int))) g s := Blk.set h 0 _
set_option maxHeartbeats 800000 in
theorem gains_any (g seed i n : Nat) (w : World) (hS : SrcAt w g (stN seed i)) (hn : n ≤ 128) :
   Calls Tryz.prog 25 #[.pointer (some ⟨g, 0, none⟩), .int .i64 n] w fun e w' => ∃ gd, e = .returned (.slice (some ⟨gd, 0, none⟩) n n) ∧ Fresh w' w.heap.size gd n n (tab n fun j => 65536 + numN seed (i + j) 16384) ∧ SrcAt w' g (stN seed (i + n)) ∧ But g w w' := by
  have hmk := run_make_row' (P := Tryz.prog) 35 106 (.int .i32 0) 4 Tryz.underlying35 Tryz.infoNum rfl .i64 .i64 n (by omega) (by omega)
  have F0 := fresh_made w n (by omega)
  have B0 : Below w.heap.size w (w.alloc (.cells (madeCells #[.int .i32 0] n) 106)) := (Below.refl _ _).alloc (Nat.le_refl _) _
  have hg := Blk.lt hS
  have S0 : SrcAt _ g (stN seed (i + 0)) := Blk.below hS B0
  have K0 : But g w _ := But.of_below B0
  go_enter Tryz.func25, Tryz.ntmps25
  go_wp2
  clear hmk hS
  generalize w.alloc (.cells (madeCells #[.int .i32 0] n) 106) = w0 at *
  go_loopg [11] n (fun r q wr => ∃ k : Nat, k ≤ n ∧ r = n - k ∧ q = .int .i64 k ∧ Fresh wr w.heap.size w.heap.size n n (tab n fun j => if j < k then 65536 + numN seed (i + j) 16384 else 0) ∧ SrcAt wr g (stN seed (i + k)) ∧ But g w wr)
  case atStart => exact ⟨0, by omega, by omega, rfl, by rw [tab_start]; exact F0, S0, K0⟩
  case round =>
    obtain ⟨k, hk, rfl, rfl, F1, S1, K1⟩ := hrel
    clear F0 B0 S0 K0
    by_cases hlt : k < n
    · have nb := numN_bd seed (i + k) 16384 (by omega) (by omega)
      have HN : Hid (genN ((stN seed (i + k) + 11400714819323198485) % 18446744073709551616) 16384 = numN seed (i + k) 16384) := by show _ = _; unfold numN; rw [stN_succ]
      have HT : Hid (∀ w' : World, w' = wr.setCell ⟨g, 0, none⟩ (.int .u64 (((stN seed (i + k) + 11400714819323198485) % 18446744073709551616 : Nat) : Int)) → SrcAt w' g (stN seed (i + (k + 1))) ∧ Fresh w' w.heap.size w.heap.size n n (tab n fun j => if j < k then 65536 + numN seed (i + j) 16384 else 0) ∧ But g w w') := by
        rintro w' rfl
        refine ⟨?_, F1.setOther (by show w.heap.size ≠ g; omega) _, K1.set (Or.inl rfl) _⟩
        rw [← Nat.add_assoc, stN_succ]
        exact SrcAt.next S1
      have C := next_any g (stN seed (i + k)) 16384 wr S1 (by omega) (by omega)
      rw [HN.out] at C
      generalize hz : numN seed (i + k) 16384 = z at *
      clear HN K1 S1 F1
      go_wp2_with (go_at_call 45; refine C.mono ?_; rintro e w2 ⟨rfl, hw2⟩; obtain ⟨S2, F2, K2⟩ := HT.out _ hw2; clear hw2; have f1 := F2.frozen k; have f2 := F2.cell hlt)
      go_roundg (n - (k + 1))
      case measure => omega
      case rel => exact ⟨k + 1, by omega, rfl, by go_num, F2.step (f := fun j => 65536 + numN seed (i + j) 16384) _ hlt (by rw [hz]) (by omega), Blk.other S2 (by show g ≠ w.heap.size; omega) _, K2.set (Or.inr (Nat.le_refl _)) _⟩
    · obtain rfl : k = n := by omega
      go_wp2
      go_ret
      exact ⟨_, rfl, by rw [← tab_done]; exact F1, S1, K1⟩
set_option maxHeartbeats 800000 in
theorem matrix_any (g seed i r c m : Nat) (w : World) (hS : SrcAt w g (stN seed i)) (h1 : r ≤ 128) (h2 : c ≤ 128) (hm : m ≤ 131072) (h0 : 1 ≤ m) :
   Calls Tryz.prog 23 #[.pointer (some ⟨g, 0, none⟩), .int .i64 r, .int .i64 c, .int .u64 m] w fun e w' => ∃ gd, e = .returned (matV r c (some ⟨gd, 0, none⟩) (r * c) (r * c)) ∧ Fresh w' w.heap.size gd (r * c) (r * c) (tab (r * c) fun j => numN seed (i + j) m) ∧ SrcAt w' g (stN seed (i + r * c)) ∧ But g w w' := by
  have h6 := size_le h1 h2
  have e1 : (r : Int) * (c : Int) = ((r * c : Nat) : Int) := by rw [Int.natCast_mul]
  generalize hrc : r * c = n at *
  have hmk := run_make_row' (P := Tryz.prog) 35 106 (.int .i32 0) 4 Tryz.underlying35 Tryz.infoNum rfl .i64 .i64 n (by omega) (by omega)
  have X0 := box_new w 0 0 none 0 0
  have B0 : Below w.heap.size w (w.alloc (.cells #[.int .i64 0, .int .i64 0, .slice none 0 0] 37)) := (Below.refl _ _).alloc (Nat.le_refl _) _
  have s0 : (w.alloc (.cells #[.int .i64 0, .int .i64 0, .slice none 0 0] 37)).heap.size = w.heap.size + 1 := by simp
  have hg := Blk.lt hS
  have S0 : SrcAt _ g (stN seed (i + 0)) := Blk.below hS B0
  generalize hw0 : w.alloc (.cells #[.int .i64 0, .int .i64 0, .slice none 0 0] 37) = w0 at *
  have F1 := fresh_made w0 n (by omega)
  have B1 : Below w0.heap.size w0 (w0.alloc (.cells (madeCells #[.int .i32 0] n) 106)) := (Below.refl _ _).alloc (Nat.le_refl _) _
  rw [s0] at F1
  replace S0 := Blk.below S0 B1
  replace X0 := X0.below B1
  have K1 : But g w _ := But.of_below (below_then B0 B1)
  go_enter Tryz.func23, Tryz.ntmps23
  go_wp2_with fail
  clear hmk hS hw0
  generalize w0.alloc (.cells (madeCells #[.int .i32 0] n) 106) = w1 at *
  go_loopg [17] n (fun q0 q wr => ∃ k : Nat, k ≤ n ∧ q0 = n - k ∧ q = .int .i64 k ∧ Fresh wr w.heap.size (w.heap.size + 1) n n (tab n fun j => if j < k then numN seed (i + j) m else 0) ∧ Box wr w.heap.size 0 0 none 0 0 ∧ SrcAt wr g (stN seed (i + k)) ∧ But g w wr)
  case atStart => exact ⟨0, by omega, by omega, rfl, by rw [tab_start]; exact F1.mono (by omega), X0, S0, K1⟩
  case round =>
    obtain ⟨k, hk, rfl, rfl, F2, X2, S2, K2⟩ := hrel
    clear F1 X0 S0 K1 B0 B1
    by_cases hlt : k < n
    · have nb := numN_bd seed (i + k) m hm h0
      have HN : Hid (genN ((stN seed (i + k) + 11400714819323198485) % 18446744073709551616) m = numN seed (i + k) m) := by show _ = _; unfold numN; rw [stN_succ]
      have HT : Hid (∀ w' : World, w' = wr.setCell ⟨g, 0, none⟩ (.int .u64 (((stN seed (i + k) + 11400714819323198485) % 18446744073709551616 : Nat) : Int)) → SrcAt w' g (stN seed (i + (k + 1))) ∧ Fresh w' w.heap.size (w.heap.size + 1) n n (tab n fun j => if j < k then numN seed (i + j) m else 0) ∧ Box w' w.heap.size 0 0 none 0 0 ∧ But g w w') := by
        rintro w' rfl
        refine ⟨?_, F2.setOther (by show w.heap.size + 1 ≠ g; omega) _, X2.block (Below.heap_setCell _ _ _ _ (by show w.heap.size ≠ g; omega)), K2.set (Or.inl rfl) _⟩
        rw [← Nat.add_assoc, stN_succ]
        exact SrcAt.next S2
      have C := next_any g (stN seed (i + k)) m wr S2 hm h0
      rw [HN.out] at C
      generalize hz : numN seed (i + k) m = z at *
      clear HN K2 S2 F2 X2
      go_wp2_with (go_at_call 45; refine C.mono ?_; rintro e w2 ⟨rfl, hw2⟩; obtain ⟨S3, F3, X3, K3⟩ := HT.out _ hw2; clear hw2; have f1 := F3.frozen k; have f2 := F3.cell hlt)
      go_roundg (n - (k + 1))
      case measure => omega
      case rel => exact ⟨k + 1, by omega, rfl, by go_num, F3.step (f := fun j => numN seed (i + j) m) _ hlt (by rw [hz]) (by omega), X3.block (Below.heap_setCell _ _ _ _ (by show w.heap.size ≠ w.heap.size + 1; omega)), Blk.other S3 (by show g ≠ w.heap.size + 1; omega) _, K3.set (Or.inr (by show w.heap.size ≤ w.heap.size + 1; omega)) _⟩
    · obtain rfl : k = n := by omega
      have u0 := X2.c0
      have u1 := X2.c1
      have u2 := X2.c2
      have f0 := X2.frozen 0
      have f1 := X2.frozen 1
      have f2 := X2.frozen 2
      go_wp2_with fail
      refine bodyPost_ret (results_cell_row rfl _ _ w.heap.size _ _ _ _ rfl (X2.put _ _ _ _ _) Tryz.underlying37 rfl (by kernel_rfl)) rfl ?_
      exact ⟨_, rfl, by rw [← tab_done]; exact F2.put (by omega) _ _ _, Blk.other (Blk.other (Blk.other S2 (by show g ≠ w.heap.size; omega) _) (by show g ≠ w.heap.size; omega) _) (by show g ≠ w.heap.size; omega) _, ((K2.set (a := ⟨w.heap.size, 0, none⟩) (Or.inr (Nat.le_refl _)) _).set (a := ⟨w.heap.size, 1, none⟩) (Or.inr (Nat.le_refl _)) _).set (a := ⟨w.heap.size, 2, none⟩) (Or.inr (Nat.le_refl _)) _⟩
end Go.Proofs.YtcanjlofnpnhkaaGreatDoor
