/- SendJoins. -/
import Derived.Test.YtmblaigiipjmfaaSdAwake
import Derived.Test.YtmblaigiipjmfaaSdMath
namespace Go.Proofs.Ytmblaigiipjmfaa
open Go.ChangeShapes Go.WideShapes Go.ChangeAt Go.RowKit
theorem cutN_parts {l : List UInt8} {I : Int} (h : cutN l I = 0) : 1 ≤ I ∧ I ≤ 4096 ∧ (l.length : Int) ≤ 512 * I := by
  unfold cutN at h
  by_cases d1 : I < 1
  · rw [if_pos d1] at h; omega
  rw [if_neg d1] at h
  by_cases d2 : 4096 < I ∨ 512 * I < (l.length : Int)
  · rw [if_pos d2] at h; omega
  · omega
set_option maxHeartbeats 16000000 in
theorem sendJoins_walk (s : ByteArray) (I : Int) (w : World) (_hI : -9223372036854775808 ≤ I ∧ I ≤ 9223372036854775807) :
    Calls Try.prog 5 #[.string s, .int .i64 I] w fun e w' => e = .returned (.bool true) ∧ Below w.heap.size w w' := by
  have CU := cut_any s.data.toList 3000 w
  rw [txt_of] at CU
  have hl : (s.data.toList.take 3000).length ≤ 3000 := by rw [List.length_take]; omega
  generalize s.data.toList.take 3000 = l at *
  have hT : ((txt l).size : Int) = (l.length : Int) := by rw [txt_size]
  have AW := sawake_any
  by_cases h : cutN l I = 0
  case neg =>
    have C := scut_bad l I w h
    obtain ⟨r, hr⟩ : ∃ r, r = cutN l I := ⟨_, rfl⟩
    rw [← hr] at C
    unfold cutN at hr h
    generalize txt l = T at *
    by_cases d1 : I < 1
    · rw [if_pos d1] at hr
      clear h
      subst hr
      go_enter Try.func5, Try.ntmps5
      go_wp2_with (first
        | (go_at_call 7; refine CU.mono ?_; rintro e w1 ⟨rfl, h9⟩; obtain rfl := h9.symm)
        | (go_at_call 8; refine C.mono ?_; rintro e w2 ⟨rfl, h9⟩; obtain rfl := h9.symm)
        | (go_at_call 11; refine (AW _).mono ?_; rintro e w3 ⟨rfl, B3⟩))
      go_ret
      exact ⟨rfl, B3⟩
    rw [if_neg d1] at hr h
    by_cases d2 : 4096 < I
    · rw [if_pos (Or.inl d2)] at hr
      clear h
      subst hr
      go_enter Try.func5, Try.ntmps5
      go_wp2_with (first
        | (go_at_call 7; refine CU.mono ?_; rintro e w1 ⟨rfl, h9⟩; obtain rfl := h9.symm)
        | (go_at_call 8; refine C.mono ?_; rintro e w2 ⟨rfl, h9⟩; obtain rfl := h9.symm)
        | (go_at_call 11; refine (AW _).mono ?_; rintro e w3 ⟨rfl, B3⟩))
      go_ret
      exact ⟨rfl, B3⟩
    by_cases d3 : 512 * I < (l.length : Int)
    · rw [if_pos (Or.inr d3)] at hr
      clear h
      subst hr
      go_enter Try.func5, Try.ntmps5
      go_wp2_with (first
        | (go_at_call 7; refine CU.mono ?_; rintro e w1 ⟨rfl, h9⟩; obtain rfl := h9.symm)
        | (go_at_call 8; refine C.mono ?_; rintro e w2 ⟨rfl, h9⟩; obtain rfl := h9.symm)
        | (go_at_call 11; refine (AW _).mono ?_; rintro e w3 ⟨rfl, B3⟩))
      go_ret
      exact ⟨rfl, B3⟩
    exact absurd (if_neg (by omega)) h
  obtain ⟨h1, h2, h3⟩ := cutN_parts h
  obtain ⟨z, rfl⟩ : ∃ z : Nat, I = (z : Int) := ⟨I.toNat, by omega⟩
  have C := scut_ok l z w h (by omega)
  have hp := cutS_pos l z
  have hm := cutS_most l z h3
  have hse := se_cut l z
  have hle := fun t => prt_le l z t (by omega)
  have hfu := prt_full l z
  have hso := fun t => prt_some l z t (by omega)
  have hj0 := joinT_zero l z
  have hjs := joinT_succ l z
  have hja := joinT_all l z
  have hlS : (cutS l z).length = (cutS l z).length := rfl
  generalize cutS l z = S at *
  generalize hn : S.length = n at *
  have HSE : Hid (∀ t, se S t = txt (prt l z t)) := hse
  have HLE : Hid (∀ t, t < n → (prt l z t).length ≤ z) := hle
  have HFU : Hid (∀ t, t + 1 < n → (prt l z t).length = z) := hfu
  have HSO : Hid (∀ t, t < n → l ≠ [] → prt l z t ≠ []) := hso
  have HJS : Hid (∀ t, t < n → joinT l z (t + 1) = joinT l z t ++ prt l z t) := hjs
  have HJA : Hid (joinT l z n = l) := hja
  have HJ0 : Hid (joinT l z 0 = []) := hj0
  have HN : Hid (S.length = n) := hn
  have hp' : (1 : Int) ≤ (n : Int) := by omega
  have hm' : (n : Int) ≤ 512 := by omega
  clear hse hle hfu hso hjs hja hj0 hlS h hn
  obtain ⟨T, hT2⟩ : ∃ T, T = txt l := ⟨_, rfl⟩
  have HT : Hid (T = txt l) := hT2
  have HTE : Hid (T.toList.isEmpty = decide (l = [])) := by show _ = _; rw [hT2]; exact isE l
  rw [← hT2] at hT CU C
  clear hT2
  go_enter Try.func5, Try.ntmps5
  go_wp2_with (first
    | (go_at_call 7; refine CU.mono ?_; rintro e w1 ⟨rfl, h9⟩; obtain rfl := h9.symm)
    | (go_at_call 8; refine C.mono ?_; rintro e w2 ⟨a, c, rfl, O2, B2⟩))
  have A2 := VOwn.varg O2
  have hf2 := A2.fit
  have hm2 := A2.max
  go_loopg [7, 43] n (fun r s7 s43 wr => ∃ t : Nat, r = n - t ∧ t ≤ n ∧ s7 = .string (txt (joinT l z t)) ∧ s43 = .int .i64 (t : Int) ∧ wr = w2)
  case atStart => exact ⟨0, rfl, by omega, by rw [HJ0.out]; rfl, rfl, rfl⟩
  case round =>
  obtain ⟨t, rfl, ht, rfl, rfl, h9⟩ := hrel
  obtain rfl := h9.symm
  by_cases d1 : t < n
  case neg =>
    obtain rfl : t = n := by omega
    rw [HJA.out, ← HT.out]
    go_wp2_with (go_at_call 11; refine (AW _).mono ?_; rintro e w3 ⟨rfl, B3⟩)
    go_ret
    exact ⟨rfl, below_then B2 B3⟩
  have d1' : (t : Int) < (n : Int) := by omega
  obtain ⟨b, o, rfl, kc⟩ := A2.cells (by omega)
  have kt := kc t d1
  rw [strs_get (by rw [HN.out]; exact d1), HSE.out t] at kt
  have e1 := txt_append (joinT l z t) (prt l z t)
  rw [← HJS.out t d1] at e1
  have sadd : ∀ w, (Op.stringOp .add (txt (joinT l z t)) (txt (prt l z t))).run Try.prog w = .ok (.string (txt (joinT l z (t + 1)))) w := fun w => by
    have h8 := joinT_len l z t
    have h9 := HLE.out t d1
    rw [run_string_add_sum w _ _ (by rw [txt_size, txt_size]; omega), e1]
  clear e1
  have hP : ((txt (prt l z t)).size : Int) = ((prt l z t).length : Int) := by rw [txt_size]
  have hPE := isE (prt l z t)
  have hle := HLE.out t d1
  have hle' : ¬ (z : Int) < ((prt l z t).length : Int) := by omega
  obtain ⟨J2, hJ2⟩ : ∃ J, J = txt (joinT l z (t + 1)) := ⟨_, rfl⟩
  have HJ2 : Hid (J2 = txt (joinT l z (t + 1))) := hJ2
  rw [← hJ2] at sadd
  clear kc hle hJ2
  generalize txt (joinT l z t) = J1 at *
  by_cases d2 : t + 1 < n
  · have d2' : (t : Int) + 1 < (n : Int) := by omega
    rw [HFU.out t d2] at hP hle'
    by_cases d3 : prt l z t = []
    · have d4 : l = [] := Classical.byContradiction (fun e => HSO.out t d1 e d3)
      rw [decide_eq_true d3] at hPE
      have hTE := HTE.out
      rw [decide_eq_true d4] at hTE
      clear d3 d4
      generalize txt (prt l z t) = P at *
      go_wp2_with fail
      go_roundg (n - (t + 1))
      case measure => omega
      case rel => exact ⟨t + 1, rfl, by omega, by rw [HJ2.out], by go_num, rfl⟩
    · rw [decide_eq_false d3] at hPE
      clear d3
      generalize txt (prt l z t) = P at *
      go_wp2_with fail
      go_roundg (n - (t + 1))
      case measure => omega
      case rel => exact ⟨t + 1, rfl, by omega, by rw [HJ2.out], by go_num, rfl⟩
  · have d2' : ¬ (t : Int) + 1 < (n : Int) := by omega
    by_cases d3 : prt l z t = []
    · have d4 : l = [] := Classical.byContradiction (fun e => HSO.out t d1 e d3)
      rw [decide_eq_true d3] at hPE
      have hTE := HTE.out
      rw [decide_eq_true d4] at hTE
      clear d3 d4
      generalize txt (prt l z t) = P at *
      go_wp2_with fail
      go_roundg (n - (t + 1))
      case measure => omega
      case rel => exact ⟨t + 1, rfl, by omega, by rw [HJ2.out], by go_num, rfl⟩
    · rw [decide_eq_false d3] at hPE
      clear d3
      generalize txt (prt l z t) = P at *
      go_wp2_with fail
      go_roundg (n - (t + 1))
      case measure => omega
      case rel => exact ⟨t + 1, rfl, by omega, by rw [HJ2.out], by go_num, rfl⟩
end Go.Proofs.Ytmblaigiipjmfaa
