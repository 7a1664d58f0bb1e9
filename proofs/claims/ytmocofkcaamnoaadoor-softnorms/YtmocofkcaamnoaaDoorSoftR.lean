/- What the document's answers for layer 5 are: means, norms and weights. -/
import Derived.Test.YtmocofkcaamnoaaDoorSoftA
import Derived.Test.YtmocofkcaamnoaaDoorVecX
import Derived.Test.YtmocofkcaamnoaaDoorCRef
import Derived.Test.YtmocofkcaamnoaaDoorCStp
import Derived.Test.YtmocofkcaamnoaaDoorApp1
namespace Go.Proofs.YtmocofkcaamnoaaDoor
open Go.ChangeShapes Go.WideShapes Go.ChangeAt Go.RowKit
set_option maxHeartbeats 800000 in
theorem refMean_any (ao : Option Addr) (n ca : Nat) (A : List Int) (w : World) (hA : RowAt w ao n A) (h1 : 1 ≤ n) :
   Calls Tryd.prog 14 #[.slice ao n ca] w fun e w' => e = .returned (.int .i32 (meanN A n)) ∧ ∃ m, w' = w.drewN m := by
  have hn := hA.max
  go_enter Tryd.func14, Tryd.ntmps14
  go_wp2
  go_loopg [3, 4] n (fun r s i wr => ∃ k : Nat, k ≤ n ∧ r = n - k ∧ i = .int .i64 k ∧ s = .int .i64 (dsum A A k) ∧ ∃ m, wr = w.drewN m)
  case atStart => exact ⟨0, by omega, by omega, rfl, rfl, 0, rfl⟩
  case round =>
    obtain ⟨k, hk, rfl, rfl, rfl, m0, hw0⟩ := hrel
    replace hA : RowAt wr ao n A := hw0 ▸ hA.drewN m0
    have HW : Hid (wr = w.drewN m0) := hw0
    clear hw0
    by_cases hlt : k < n
    · obtain ⟨b, o, rfl, hc⟩ := hA.cells (by omega)
      have e1 : Hid (dsum A A (k + 1) = grow (dsum A A k) (el A k * el A k)) := dsum_succ A A k
      have b1 := dsum_bd A A k
      have b2 := hA.small.el k
      have c1 := hc k hlt
      have b4 := prod_bd (A := 2147483648) (B := 2147483648) (a := el A k) (b := el A k) b2.1 (by omega) b2.1 (by omega)
      generalize dsum A A k = s at *
      generalize el A k = x at *
      have w1 : IntKind.i64.wrap x = x := wrap_in (by omega)
      have w3 : IntKind.i64.wrap (x * x) = x * x := wrap_in (by omega)
      clear hA hc
      go_wp2_with fail
      go_quiet (first | (go_at_call 29; exact Calls.quiet_of_same (refGrow_any _ _ _ (by omega) (by omega) (by omega) (by omega))))
      go_wp2
      go_roundg (n - (k + 1))
      case measure => omega
      case rel => exact ⟨k + 1, by omega, rfl, by go_num, by rw [e1.out], m0 + nq, by rw [HW.out, World.drewN_drewN]⟩
    · obtain rfl : k = n := by omega
      have b1 := dsum_bd A A k
      have b2 := dsum_sq_nn A k
      have HM : Hid (meanN A k = sat (dsum A A k / k / 65536)) := rfl
      have b3 := Int.ediv_nonneg b2 (show (0 : Int) ≤ k by omega)
      have b4 := Int.ediv_le_self (k : Int) b2
      have b5 : dsum A A k / (k : Int) / 65536 ≤ dsum A A k / (k : Int) := Int.ediv_le_self _ b3
      have b6 : 0 ≤ dsum A A k / (k : Int) / 65536 := Int.ediv_nonneg b3 (by omega)
      have hk0 : (k : Int) ≠ 0 := by omega
      generalize dsum A A k = s at *
      clear hA
      go_wp2_with (go_at_call 30; refine (refSat_any _ _ (by omega) (by omega)).mono ?_; rintro e w' ⟨rfl, rfl⟩)
      go_ret
      exact ⟨by rw [HM.out]; rfl, m0, HW.out⟩
set_option maxHeartbeats 1600000 in
theorem refNorm_any (ao bo : Option Addr) (n ca cb : Nat) (A G : List Int) (w : World) (hA : RowAt w ao n A) (hG : RowAt w bo n G) (h1 : 1 ≤ n) (h5 : n ≤ 5000) :
   Calls Tryd.prog 16 #[.slice ao n ca, .slice bo n cb] w fun e w' => ∃ g cap, e = .returned (.slice (some ⟨g, 0, none⟩) n cap) ∧ Fresh w' w.heap.size g n cap (tab n (normN A G n)) ∧ Below w.heap.size w w' := by
  have mb := meanN_bd A n
  have HK : Hid (invN (sat (meanN A n + 1)) = normK A n) := rfl
  have sb := sat_bd (meanN A n + 1)
  have kb := normK_bd A n
  go_enter Tryd.func16, Tryd.ntmps16
  go_wp2_with fail
  refine (refMean_any _ _ _ _ _ hA h1).mono ?_
  rintro e w0 ⟨rfl, m0, hw0⟩
  have B0 : Below w.heap.size w w0 := hw0 ▸ below_drewN (Below.refl _ _) m0
  clear hw0
  have F0 := fresh_empty w0
  have B1 : Below w.heap.size w (w0.alloc (.cells #[] 24)) := B0.alloc B0.size _
  go_wp2_with (first | (go_at_call 30; refine (refSat_any _ _ (by omega) (by omega)).mono ?_; rintro e w0 ⟨rfl, rfl⟩) | (go_at_call 31; refine (refInv_any _ _ (by omega) (by omega)).mono ?_; rintro e w0 ⟨rfl, rfl⟩; rw [HK.out]))
  replace F0 := F0.mono B0.size
  generalize w0.alloc (.cells #[] 24) = w1 at *
  clear HK sb mb
  go_loopg [6, 7] n (fun r s i wr => ∃ (k g cap : Nat), k ≤ n ∧ r = n - k ∧ i = .int .i64 k ∧ s = .slice (some ⟨g, 0, none⟩) k cap ∧ Fresh wr w.heap.size g k cap (tab k (normN A G n)) ∧ Below w.heap.size w wr)
  case atStart => exact ⟨0, _, _, by omega, by omega, rfl, rfl, F0, B1⟩
  case round =>
    obtain ⟨k, g, cap, hk, rfl, rfl, rfl, F2, B2⟩ := hrel
    clear F0 B0 B1
    by_cases hlt : k < n
    · obtain ⟨b, o, rfl, hc⟩ := (hA.below B2).cells (by omega)
      obtain ⟨b', o', rfl, hc'⟩ := (hG.below B2).cells (by omega)
      have a1 := hA.small.el k
      have a2 := hG.small.el k
      have c1 := hc k hlt
      have c2 := hc' k hlt
      have O1 := F2.owns
      have s2 := B2.size
      have HS : Hid (tab (k + 1) (normN A G n) = tab k (normN A G n) ++ [normN A G n k]) := tab_snoc1 k _
      have m1 := mulN_bd (el A k) (normK A n)
      have m2 := normN_bd A G n k
      have HM1 : Hid (sat (rnd (el A k * normK A n) 65536) = mulN (el A k) (normK A n)) := rfl
      have HM2 : Hid (sat (rnd (mulN (el A k) (normK A n) * el G k) 65536) = normN A G n k) := rfl
      generalize normN A G n k = x at *
      generalize mulN (el A k) (normK A n) = z1 at *
      generalize normK A n = kk at *
      generalize el A k = xa at *
      generalize el G k = xg at *
      clear hA hG hc hc' F2
      go_wp2_with fail
      go_region_law (first
        | (refine step_append_one rfl (.tmp 21) (.tmp 33) rfl w.heap.size _ k cap (tab k (normN A G n)) (by first | rfl | simp [Act.eval, Act.put]) (by exact OO) w12.heap.size x (by first | rfl | simp [Act.eval, Act.put]) (by exact RR) (by omega) (by exact ss) ?_; intro g' cap' w13 O13 B13 hg13)
        | (go_simp; first
          | (go_at_call_of 32 z1; refine (refMul_any _ _ _ (by omega) (by omega) (by omega) (by omega)).mono ?_; rintro e w12 ⟨rfl, m12, hw12⟩; rw [HM2.out]; have B12 : Below wr.heap.size wr w12 := (by subst hw12; exact below_drewN (below_drewN (Below.refl _ _) _) _); clear hw12; have BL : Below w12.heap.size w12 (w12.alloc (.cells #[.int .i32 x] 24)) := (Below.refl _ _).alloc (Nat.le_refl _) _; have BA := below_then B12 BL; have OO := owns_below O1 BA; have RR := rowAt_one w12 x (by omega); have ss : w.heap.size ≤ (w12.alloc (.cells #[.int .i32 x] 24)).heap.size := by have := BA.size; omega)
          | (go_at_call 32; refine (refMul_any _ _ _ (by omega) (by omega) (by omega) (by omega)).mono ?_; rintro e w10 ⟨rfl, m10, rfl⟩; rw [HM1.out])))
      all_goals
        go_wp2
        go_roundg (n - (k + 1))
        case measure => omega
        case rel =>
          obtain ⟨g9, e9, F9⟩ := fresh_of_owns O13 (by rw [← HS.out]; exact small_tab fun q _ => by have := normN_bd A G n q; omega) (by simp)
          simp only [Option.some.injEq, Addr.mk.injEq, and_true] at e9
          subst e9
          exact ⟨k + 1, _, _, by omega, rfl, by go_num, rfl, by rw [HS.out]; exact F9, (below_then B2 BA).trans B13⟩
    · obtain rfl : k = n := by omega
      go_wp2
      go_ret
      exact ⟨_, _, rfl, F2, B2⟩
end Go.Proofs.YtmocofkcaamnoaaDoor
