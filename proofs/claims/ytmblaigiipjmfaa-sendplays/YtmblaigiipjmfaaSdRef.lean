/- The document's Cut and Left of send; rows that are the same. -/
import Derived.Test.YtmblaigiipjmfaaSdGot
namespace Go.Proofs.Ytmblaigiipjmfaa
open Go.ChangeShapes Go.WideShapes Go.ChangeAt Go.RowKit
set_option maxHeartbeats 8000000 in
theorem rleft_any (n m cc : Nat) (ac : Option Addr) (C : List Bool) (w : World) (hC : VArg w ac m cc (bools C)) (hn : n ≤ 8796093022208) :
   Calls Try.prog 14 #[.int .i64 (n : Int), .slice ac m cc] w fun e w' => ∃ a c, e = .returned (.slice a (leftL C n).length c) ∧ VOwn w' w.heap.size 3 (.slice a (leftL C n).length c) (leftL C n).length (ints (leftL C n)) ∧ Below w.heap.size w w' := by
  have hm := hC.max
  have hfm := hC.fit
  have hlC : C.length = m := by rw [← bools_len]; exact hC.len
  have O0 := vown_new w 3
  have B0 := belowA w (.cells #[] 3)
  have HC : Hid (VArg w ac m cc (bools C)) := hC
  generalize hw0 : w.alloc (.cells #[] 3) = w0 at *
  clear hC
  go_enter Try.func14, Try.ntmps14
  go_wp2_with fail
  go_loopg [5, 6] n (fun r s5 s6 wr => ∃ (t : Nat) (a : Option Addr) (c k : Nat), r = n - t ∧ t ≤ n ∧ k = (leftL C t).length ∧ s5 = .slice a k c ∧ s6 = .int .i64 (t : Int) ∧ VOwn wr w.heap.size 3 (.slice a k c) k (ints (leftL C t)) ∧ Below w.heap.size w wr)
  case atStart => exact ⟨0, _, 0, 0, rfl, by omega, rfl, rfl, rfl, O0, B0⟩
  case round =>
  obtain ⟨t, a, c, k, rfl, ht, hk, rfl, rfl, O, B⟩ := hrel
  have hkt := leftL_len C t
  rw [← hk] at hkt
  have HK : Hid (k = (leftL C t).length) := hk
  have AC := HC.out.below B
  have zr := B.size
  clear hw0 B0 hk O0
  by_cases d1 : t < n
  case neg =>
    obtain rfl : t = n := by omega
    go_wp2_with fail
    go_ret
    rw [← HK.out]
    exact ⟨a, c, rfl, O, B⟩
  have d1' : (t : Int) < (n : Int) := by omega
  have Bu := belowA wr (.cells #[.int .i64 (t : Int)] 3)
  have Ou := O.below Bu
  have BBu := below_then B Bu
  have X6 : (wr.alloc (.cells #[.int .i64 (t : Int)] 3)).cell? ⟨wr.heap.size, 0, none⟩ = some (.int .i64 (t : Int)) := (blk_new wr _ _).cell 0 rfl
  have zu : wr.heap.size ≤ (wr.alloc (.cells #[.int .i64 (t : Int)] 3)).heap.size := by simp
  have fin : ∀ (a7 : Option Addr) (c7 : Nat) (w7 : World), be C t = false → VOwn w7 w.heap.size 3 (.slice a7 (k + 1) c7) (k + 1) (ints (leftL C t) ++ [.int .i64 (t : Int)]) → k + 1 = (leftL C (t + 1)).length ∧ VOwn w7 w.heap.size 3 (.slice a7 (k + 1) c7) (k + 1) (ints (leftL C (t + 1))) := fun a7 c7 w7 hb O7 => by
    refine ⟨by rw [leftL_not hb, List.length_append, ← HK.out]; rfl, ?_⟩
    rw [leftL_not hb]
    have e9 : ints (leftL C t ++ [(t : Int)]) = ints (leftL C t) ++ [.int .i64 (t : Int)] := by simp [ints]
    rw [e9]
    exact O7
  by_cases d2 : t < m
  · have d2' : (t : Int) < (m : Int) := by omega
    obtain ⟨bc, oc, rfl, hcc⟩ := AC.cells (by omega)
    have cC := hcc t d2
    rw [bools_get (by omega)] at cC
    clear hcc
    cases hb : be C t with
    | true =>
      rw [hb] at cC
      clear Bu Ou BBu X6 zu
      go_wp2_with fail
      go_roundg (n - (t + 1))
      case measure => omega
      case rel => exact ⟨t + 1, a, c, k, rfl, by omega, by rw [leftL_come hb]; exact HK.out, rfl, by go_num, by rw [leftL_come hb]; exact O, B⟩
    | false =>
      rw [hb] at cC
      generalize hwu : wr.alloc (.cells #[.int .i64 (t : Int)] 3) = wu at *
      go_wp2_with (at_builtin; refine wpList_append_val rfl _ _ 3 22 (.int .i64 0) 8 Try.underlying22 Try.infoInt rfl rfl w.heap.size _ _ _ rfl Ou wr.heap.size (.int .i64 (t : Int)) rfl X6 rfl (by omega) (by omega) (by omega) ?_; intro v' w7 O7 B7 G7; obtain ⟨a7, c7, rfl, _⟩ := VOwn.arg O7)
      go_roundg (n - (t + 1))
      case measure => omega
      case rel => exact ⟨t + 1, a7, c7, k + 1, rfl, by omega, (fin a7 c7 w7 hb O7).1, rfl, by go_num, (fin a7 c7 w7 hb O7).2, BBu.trans B7⟩
  · have d2' : ¬ (t : Int) < (m : Int) := by omega
    have hb : be C t = false := be_over (by omega)
    generalize hwu : wr.alloc (.cells #[.int .i64 (t : Int)] 3) = wu at *
    clear AC
    go_wp2_with (at_builtin; refine wpList_append_val rfl _ _ 3 22 (.int .i64 0) 8 Try.underlying22 Try.infoInt rfl rfl w.heap.size _ _ _ rfl Ou wr.heap.size (.int .i64 (t : Int)) rfl X6 rfl (by omega) (by omega) (by omega) ?_; intro v' w7 O7 B7 G7; obtain ⟨a7, c7, rfl, _⟩ := VOwn.arg O7)
    go_roundg (n - (t + 1))
    case measure => omega
    case rel => exact ⟨t + 1, a7, c7, k + 1, rfl, by omega, (fin a7 c7 w7 hb O7).1, rfl, by go_num, (fin a7 c7 w7 hb O7).2, BBu.trans B7⟩
set_option maxHeartbeats 8000000 in
theorem same_yes (n c1 c2 : Nat) (a1 a2 : Option Addr) (A : List Int) (w : World) (h1 : VArg w a1 n c1 (ints A)) (h2 : VArg w a2 n c2 (ints A)) :
   Calls Try.prog 15 #[.slice a1 n c1, .slice a2 n c2] w fun e w' => e = .returned (.bool true) ∧ Below w.heap.size w w' := by
  have hl : A.length = n := by rw [← ints_len]; exact h1.len
  have hm := h1.max
  have hf := h1.fit
  have H1 : Hid (VArg w a1 n c1 (ints A)) := h1
  have H2 : Hid (VArg w a2 n c2 (ints A)) := h2
  clear h1 h2
  go_enter Try.func15, Try.ntmps15
  go_wp2_with fail
  go_loopg [13] n (fun r s13 wr => ∃ t : Nat, r = n - t ∧ t ≤ n ∧ s13 = .int .i64 (t : Int) ∧ Below w.heap.size w wr)
  case atStart => exact ⟨0, rfl, by omega, rfl, Below.refl _ _⟩
  case round =>
  obtain ⟨t, rfl, ht, rfl, B⟩ := hrel
  by_cases d1 : t < n
  case neg =>
    obtain rfl : t = n := by omega
    go_wp2_with fail
    go_ret
    exact ⟨rfl, B⟩
  have d1' : (t : Int) < (n : Int) := by omega
  have A1 := H1.out.below B
  have A2 := H2.out.below B
  obtain ⟨b1, o1, rfl, k1⟩ := A1.cells (by omega)
  obtain ⟨b2, o2, rfl, k2⟩ := A2.cells (by omega)
  have q1 := k1 t d1
  have q2 := k2 t d1
  rw [ints_get (by omega)] at q1 q2
  clear k1 k2 A1 A2
  generalize el A t = x at *
  go_upto_region 6 with fail
  go_quiet (fail)
  go_wp2_with fail
  go_roundg (n - (t + 1))
  case measure => omega
  case rel => exact ⟨t + 1, rfl, by omega, by go_num, below_drewN B _⟩
set_option maxHeartbeats 8000000 in
theorem texts_yes (n c1 c2 : Nat) (a1 a2 : Option Addr) (S : List ByteArray) (w : World) (h1 : VArg w a1 n c1 (strs S)) (h2 : VArg w a2 n c2 (strs S)) :
   Calls Try.prog 12 #[.slice a1 n c1, .slice a2 n c2] w fun e w' => e = .returned (.int .i64 0) ∧ Below w.heap.size w w' := by
  have hl : S.length = n := by rw [← strs_len]; exact h1.len
  have hm := h1.max
  have hf := h1.fit
  have H1 : Hid (VArg w a1 n c1 (strs S)) := h1
  have H2 : Hid (VArg w a2 n c2 (strs S)) := h2
  clear h1 h2
  go_enter Try.func12, Try.ntmps12
  go_wp2_with fail
  go_loopg [13] n (fun r s13 wr => ∃ t : Nat, r = n - t ∧ t ≤ n ∧ s13 = .int .i64 (t : Int) ∧ Below w.heap.size w wr)
  case atStart => exact ⟨0, rfl, by omega, rfl, Below.refl _ _⟩
  case round =>
  obtain ⟨t, rfl, ht, rfl, B⟩ := hrel
  by_cases d1 : t < n
  case neg =>
    obtain rfl : t = n := by omega
    go_wp2_with fail
    go_ret
    exact ⟨rfl, B⟩
  have d1' : (t : Int) < (n : Int) := by omega
  have A1 := H1.out.below B
  have A2 := H2.out.below B
  obtain ⟨b1, o1, rfl, k1⟩ := A1.cells (by omega)
  obtain ⟨b2, o2, rfl, k2⟩ := A2.cells (by omega)
  have q1 := k1 t d1
  have q2 := k2 t d1
  rw [strs_get (by omega)] at q1 q2
  clear k1 k2 A1 A2
  generalize se S t = x at *
  go_upto_region 6 with fail
  go_quiet (fail)
  go_wp2_with fail
  go_roundg (n - (t + 1))
  case measure => omega
  case rel => exact ⟨t + 1, rfl, by omega, by go_num, below_drewN B _⟩
end Go.Proofs.Ytmblaigiipjmfaa
