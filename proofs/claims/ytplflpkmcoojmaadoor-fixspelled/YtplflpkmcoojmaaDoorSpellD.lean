/- The Go text of FixSpelled returns true at numbers of 0 to 99, at most three noughts ahead, not whole ones, where the table of powers of ten lies as its text lays it. -/
import Derived.Test.YtplflpkmcoojmaaDoorSpellBase
namespace Go.Proofs.YtplflpkmcoojmaaDoor
open Go.ChangeShapes Go.WideShapes Go.ChangeAt Go.RowKit
set_option linter.unusedVariables false
set_option maxRecDepth 100000 in
set_option maxHeartbeats 12800000 in
theorem spelled_inD (m n p : Nat) (front back : Int) (f1 : -9223372036854775808 ≤ front) (f2 : front ≤ 9223372036854775807) (b1 : -9223372036854775808 ≤ back) (b2 : back ≤ 9223372036854775807) (w : World) (hP : Pw w) (hm : m ≤ 6488064) (hfr : front ≤ 3) (hp0 : ¬ p = 0) (hmn : n * 65536 + p = m) (hn : n ≤ 99) (hp : p < 65536)
    (htx : textL (m : Int) = Lib.decDigits n ++ partL p) :
    Calls Tryd.prog 3 #[.int .i32 (m : Int), .int .i64 front, .int .i64 back] w fun e w' => e = .returned (.bool true) ∧ Below w.heap.size w w' := by
  have ct := text_any (m : Int) w (by omega) (by omega) hP
  rw [htx] at ct
  have hTl : (Lib.decDigits n ++ partL p).length ≤ 24 := by rw [← htx]; exact text_len24 _ (by omega) (by omega)
  have HMN : Hid (n * 65536 + p = m) := hmn
  have HP0 : Hid (¬ p = 0) := hp0
  clear htx hmn hp0
  go_enter Tryd.func3, Tryd.ntmps3
  go_wp2_with (go_at_call 4; refine ct.mono ?_; rintro e w1 ⟨rfl, hb1⟩)
  clear ct
  go_loop [7, 8] (fun sv iv => ∃ f : Nat, f ≤ 3 ∧ iv = .int .i64 (f : Int) ∧ sv = .string ⟨(List.replicate f 48 ++ (Lib.decDigits n ++ partL p)).toArray⟩) (fun _ iv => 3 - (intOf iv).toNat)
  case atStart => exact ⟨0, by omega, rfl, rfl⟩
  case round =>
    obtain ⟨f, hf, rfl, rfl⟩ := hrel
    by_cases hgo : (f : Int) < front ∧ f < 3
    · obtain ⟨g1, g2⟩ := hgo
      have hlen : (List.replicate f 48 ++ (Lib.decDigits n ++ partL p)).length ≤ 30 := by rw [List.length_append, List.length_replicate]; omega
      obtain ⟨L, hL⟩ : ∃ L, L = List.replicate f 48 ++ (Lib.decDigits n ++ partL p) := ⟨_, rfl⟩
      rw [← hL] at hlen
      rw [← hL]
      have HL : Hid (L = List.replicate f 48 ++ (Lib.decDigits n ++ partL p)) := hL
      clear hL
      go_wp2
      go_round
      case rel => exact ⟨f + 1, by omega, by go_num, congrArg Value.string (ba_of _ _ (by rw [List.replicate_succ]; simp [HL.out]))⟩
      case measure => simp [intOf]; omega
    · obtain ⟨L, hL⟩ : ∃ L, L = List.replicate f 48 ++ (Lib.decDigits n ++ partL p) := ⟨_, rfl⟩
      have hlen : L.length ≤ 30 := by rw [hL, List.length_append, List.length_replicate]; omega
      rw [← hL]
      have HL : Hid (L = List.replicate f 48 ++ (Lib.decDigits n ++ partL p)) := hL
      clear hL
      have hout : (f : Int) < front → ¬ f < 3 := fun h h' => hgo ⟨h, h'⟩
      obtain ⟨X, hX⟩ : ∃ X : ByteArray, X = ⟨L.toArray⟩ := ⟨_, rfl⟩
      have hXs : X.size ≤ 30 := by rw [hX, sz_mk]; exact hlen
      have HXL : Hid (X.data.toList = L) := by show _ = _; rw [hX]
      have HX : Hid (X = ⟨L.toArray⟩) := hX
      rw [← hX]
      clear hX hlen
      have hf1 : ¬ (f : Int) < front := by omega
      clear hout
      go_wp2
      go_loop [9, 10] (fun pv iv => ∃ k : Nat, k ≤ X.size ∧ iv = .int .i64 (k : Int) ∧ pv = .bool ((X.data.toList.take k).any (· == 46))) (fun _ iv => X.size - (intOf iv).toNat)
      case atStart => exact ⟨0, Nat.zero_le _, rfl, rfl⟩
      case round =>
        obtain ⟨k, hk, rfl, rfl⟩ := hrel
        by_cases hkl : k < X.size
        · have HS : Hid ((X.data.toList.take (k + 1)).any (· == 46) = ((X.data.toList.take k).any (· == 46) || (X[k] == 46))) := by
            show _ = _; rw [take_snoc X k hkl, List.any_append]; simp
          obtain ⟨b0, hb0⟩ : ∃ b0, b0 = (X.data.toList.take k).any (· == 46) := ⟨_, rfl⟩
          rw [← hb0]
          have HB0 : Hid (b0 = (X.data.toList.take k).any (· == 46)) := hb0
          clear hb0
          by_cases hc : X[k] = 46
          · have hci : ((X[k].toNat : Int) == 46) = true := by rw [hc]; rfl
            have HC : Hid ((X[k] == 46) = true) := by show _ = _; rw [hc]; rfl
            clear hc
            cases b0
            all_goals
              go_wp2
              go_round
              case rel => exact ⟨k + 1, by omega, by go_num, by rw [HS.out, ← HB0.out, HC.out]; rfl⟩
              case measure => simp [intOf]; omega
          · have hci : ((X[k].toNat : Int) == 46) = false := by
              rw [beq_eq_false_iff_ne]; intro h; apply hc; apply UInt8.toNat_inj.1; show X[k].toNat = 46; omega
            have HC : Hid ((X[k] == 46) = false) := by show _ = _; rw [beq_eq_false_iff_ne]; exact hc
            clear hc
            cases b0
            all_goals
              go_wp2
              go_round
              case rel => exact ⟨k + 1, by omega, by go_num, by rw [HS.out, ← HB0.out, HC.out]; rfl⟩
              case measure => simp [intOf]; omega
        · have hany : (X.data.toList.take k).any (· == 46) = decide (p ≠ 0) := by
            rw [show k = X.size by omega, take_size, HXL.out, HL.out, any_text]
          rw [hany]
          clear hany
          obtain ⟨Sx, hSxe⟩ : ∃ Sx : ByteArray, X = Sx := ⟨_, rfl⟩
          have hSx : Sx.data.toList = spell f n p 0 := by
            rw [← hSxe, spell_text, if_neg HP0.out, ← HL.out, ← HXL.out]; simp
          have hdec : decide (p ≠ 0) = true := by simp [HP0.out]
          rw [hdec]
          clear hdec
          subst hSxe
          have HSXX : Hid (X.data.toList = spell f n p 0) := hSx
          have hSs : X.size ≤ 60 := by rw [← len_size, hSx]; exact (spell_len f n p 0 hf hn (by omega)).2
          clear hSx
          go_wp2
          go_loop [11, 12] (fun lv iv => ∃ b : Nat, b ≤ 20 ∧ iv = .int .i64 (b : Int) ∧ lv = .string ⟨(spell f n p b).toArray⟩) (fun _ iv => 20 - (intOf iv).toNat)
          case atStart => exact ⟨0, by omega, rfl, congrArg Value.string (ba_of _ _ HSXX.out)⟩
          case round =>
            obtain ⟨b, hbb, rfl, rfl⟩ := hrel
            have hsl := spell_len f n p b hf hn hbb
            by_cases hgo2 : (b : Int) < back ∧ b < 20
            · obtain ⟨g1, g2⟩ := hgo2
              obtain ⟨M, hM⟩ : ∃ M, M = spell f n p b := ⟨_, rfl⟩
              have hMl : M.length ≤ 60 := by rw [hM]; exact hsl.2
              rw [← hM]
              have HM : Hid (M = spell f n p b) := hM
              clear hM hsl
              go_wp2
              go_round
              case rel => exact ⟨b + 1, by omega, by go_num, congrArg Value.string (ba_of _ _ (by rw [← spell_more, ← HM.out]; simp))⟩
              case measure => simp [intOf]; omega
            · have hout2 : (b : Int) < back → ¬ b < 20 := fun h h' => hgo2 ⟨h, h'⟩
              obtain ⟨Y, hY⟩ : ∃ Y : ByteArray, Y = ⟨(spell f n p b).toArray⟩ := ⟨_, rfl⟩
              have HYL : Hid (Y.data.toList = spell f n p b) := by show _ = _; rw [hY]
              have hYs : Y.size ≤ 60 := by rw [← len_size, HYL.out]; exact hsl.2
              obtain ⟨o, hoo⟩ : ∃ o, o = (List.replicate f 48 ++ Lib.decDigits n).length := ⟨_, rfl⟩
              obtain ⟨q, hq⟩ : ∃ q, q = (tailL p).length + b := ⟨_, rfl⟩
              have hYo : Y.size = o + 1 + q := by rw [← len_size, HYL.out, hsl.1, hoo, hq]
              have HYA : Hid (∀ k (hk : k < Y.size), Y[k] = 46 ↔ k = o) := fun k hk => by
                show _ ↔ _
                rw [hoo]
                subst hY
                exact spell_at f n p b k hp (by rw [sz_mk] at hk; exact hk)
              have htl := tail_len p
              rw [← hY]
              clear hY hsl hoo hgo2
              by_cases hb1x : (b : Int) < back
              · have hb20 := hout2 hb1x
                clear hout2
                have hqg : ¬ q ≤ 16 := by omega
                have hq16 : ¬ (tailL p).length + b ≤ 16 := by omega
                have cps := cp_ok X f n p 0 m HSXX.out HMN.out hf hn hp hSs (by omega)
                obtain ⟨Z, hZ⟩ : ∃ Z : ByteArray, Z = ⟨#[45]⟩ ++ X := ⟨_, rfl⟩
                have zadd : ∀ w, (Op.stringOp .add ⟨#[45]⟩ X).run Tryd.prog w = .ok (.string Z) w := fun w => by
                  rw [run_string_add_sum w _ _ (by show 1 + _ ≤ _; omega), hZ]
                have cpm := cp_minus X Z f n p m hZ HSXX.out HMN.out hf hn hp hSs
                clear hZ
                have cpl := cp_bad Y f n p b HYL.out hf hn hp hYs hq16
                go_wp2_with (first | (go_at_call_of 6 Y; refine (cpl _).mono ?_; rintro e w3 ⟨rfl, hb3⟩) | (go_at_call_of 6 Z; refine (cpm _).mono ?_; rintro e w4 ⟨rfl, hb4⟩) | (go_at_call_of 6 X; refine (cps _).mono ?_; rintro e w2 ⟨rfl, hb2⟩))
                clear cps cpm cpl
                go_loop [19, 20] (fun dv iv => ∃ k : Nat, k ≤ Y.size ∧ iv = .int .i64 (k : Int) ∧ dv = .int .i64 (if o < k then (q : Int) else 0)) (fun _ iv => Y.size - (intOf iv).toNat)
                case atStart => exact ⟨0, Nat.zero_le _, rfl, by rw [if_neg (by omega)]⟩
                case round =>
                  obtain ⟨k, hk, rfl, rfl⟩ := hrel
                  by_cases hkl : k < Y.size
                  · by_cases hko : k = o
                    · have hci : ((Y[k].toNat : Int) == 46) = true := by
                        rw [beq_iff_eq]; have := (HYA.out k hkl).2 hko; rw [this]; rfl
                      have HD : Hid ((if o < k + 1 then (q : Int) else 0) = (q : Int)) := by show _ = _; rw [if_pos (by omega)]
                      have hys : (Y.size : Int) - (k : Int) - 1 = (q : Int) := by omega
                      clear hko hYo hq
                      obtain ⟨dd, hdd⟩ : ∃ dd, dd = (if o < k then (q : Int) else 0) := ⟨_, rfl⟩
                      rw [← hdd]
                      clear hdd
                      go_wp2
                      go_round
                      case rel => exact ⟨k + 1, by omega, by go_num, by rw [HD.out]; first | done | rw [hys]⟩
                      case measure => simp [intOf]; omega
                    · have hci : ((Y[k].toNat : Int) == 46) = false := by
                        rw [beq_eq_false_iff_ne]; intro h; apply hko; apply (HYA.out k hkl).1; apply UInt8.toNat_inj.1; show Y[k].toNat = 46; omega
                      have HD : Hid ((if o < k + 1 then (q : Int) else 0) = (if o < k then (q : Int) else 0)) := by
                        show _ = _
                        by_cases h : o < k
                        · rw [if_pos h, if_pos (by omega)]
                        · rw [if_neg h, if_neg (by omega)]
                      obtain ⟨dd, hdd⟩ : ∃ dd, dd = (if o < k then (q : Int) else 0) := ⟨_, rfl⟩
                      rw [← hdd]
                      have HDD : Hid (dd = (if o < k then (q : Int) else 0)) := hdd
                      clear hdd
                      go_wp2
                      go_round
                      case rel => exact ⟨k + 1, by omega, by go_num, by rw [HD.out, ← HDD.out]⟩
                      case measure => simp [intOf]; omega
                  · have hko : o < k := by omega
                    rw [if_pos hko]
                    go_wp2_with (go_at_call 5; refine (awake_any _).mono ?_; rintro e w5 ⟨rfl, hb5⟩)
                    all_goals
                      go_ret
                      exact ⟨by first | rfl | exact ret_true (by omega), below_then (below_then (below_then (below_then hb1 hb2) hb3) hb4) hb5⟩
              · clear hout2
                by_cases hq16 : (tailL p).length + b ≤ 16
                · have hqg : q ≤ 16 := by omega
                  have cps := cp_ok X f n p 0 m HSXX.out HMN.out hf hn hp hSs (by omega)
                  obtain ⟨Z, hZ⟩ : ∃ Z : ByteArray, Z = ⟨#[45]⟩ ++ X := ⟨_, rfl⟩
                  have zadd : ∀ w, (Op.stringOp .add ⟨#[45]⟩ X).run Tryd.prog w = .ok (.string Z) w := fun w => by
                    rw [run_string_add_sum w _ _ (by show 1 + _ ≤ _; omega), hZ]
                  have cpm := cp_minus X Z f n p m hZ HSXX.out HMN.out hf hn hp hSs
                  clear hZ
                  have cpl := cp_ok Y f n p b m HYL.out HMN.out hf hn hp hYs hq16
                  go_wp2_with (first | (go_at_call_of 6 Y; refine (cpl _).mono ?_; rintro e w3 ⟨rfl, hb3⟩) | (go_at_call_of 6 Z; refine (cpm _).mono ?_; rintro e w4 ⟨rfl, hb4⟩) | (go_at_call_of 6 X; refine (cps _).mono ?_; rintro e w2 ⟨rfl, hb2⟩))
                  clear cps cpm cpl
                  go_loop [19, 20] (fun dv iv => ∃ k : Nat, k ≤ Y.size ∧ iv = .int .i64 (k : Int) ∧ dv = .int .i64 (if o < k then (q : Int) else 0)) (fun _ iv => Y.size - (intOf iv).toNat)
                  case atStart => exact ⟨0, Nat.zero_le _, rfl, by rw [if_neg (by omega)]⟩
                  case round =>
                    obtain ⟨k, hk, rfl, rfl⟩ := hrel
                    by_cases hkl : k < Y.size
                    · by_cases hko : k = o
                      · have hci : ((Y[k].toNat : Int) == 46) = true := by
                          rw [beq_iff_eq]; have := (HYA.out k hkl).2 hko; rw [this]; rfl
                        have HD : Hid ((if o < k + 1 then (q : Int) else 0) = (q : Int)) := by show _ = _; rw [if_pos (by omega)]
                        have hys : (Y.size : Int) - (k : Int) - 1 = (q : Int) := by omega
                        clear hko hYo hq
                        obtain ⟨dd, hdd⟩ : ∃ dd, dd = (if o < k then (q : Int) else 0) := ⟨_, rfl⟩
                        rw [← hdd]
                        clear hdd
                        go_wp2
                        go_round
                        case rel => exact ⟨k + 1, by omega, by go_num, by rw [HD.out]; first | done | rw [hys]⟩
                        case measure => simp [intOf]; omega
                      · have hci : ((Y[k].toNat : Int) == 46) = false := by
                          rw [beq_eq_false_iff_ne]; intro h; apply hko; apply (HYA.out k hkl).1; apply UInt8.toNat_inj.1; show Y[k].toNat = 46; omega
                        have HD : Hid ((if o < k + 1 then (q : Int) else 0) = (if o < k then (q : Int) else 0)) := by
                          show _ = _
                          by_cases h : o < k
                          · rw [if_pos h, if_pos (by omega)]
                          · rw [if_neg h, if_neg (by omega)]
                        obtain ⟨dd, hdd⟩ : ∃ dd, dd = (if o < k then (q : Int) else 0) := ⟨_, rfl⟩
                        rw [← hdd]
                        have HDD : Hid (dd = (if o < k then (q : Int) else 0)) := hdd
                        clear hdd
                        go_wp2
                        go_round
                        case rel => exact ⟨k + 1, by omega, by go_num, by rw [HD.out, ← HDD.out]⟩
                        case measure => simp [intOf]; omega
                    · have hko : o < k := by omega
                      rw [if_pos hko]
                      go_wp2_with (go_at_call 5; refine (awake_any _).mono ?_; rintro e w5 ⟨rfl, hb5⟩)
                      all_goals
                        go_ret
                        exact ⟨by first | rfl | exact ret_true (by omega), below_then (below_then (below_then (below_then hb1 hb2) hb3) hb4) hb5⟩
                · have hqg : ¬ q ≤ 16 := by omega
                  have cps := cp_ok X f n p 0 m HSXX.out HMN.out hf hn hp hSs (by omega)
                  obtain ⟨Z, hZ⟩ : ∃ Z : ByteArray, Z = ⟨#[45]⟩ ++ X := ⟨_, rfl⟩
                  have zadd : ∀ w, (Op.stringOp .add ⟨#[45]⟩ X).run Tryd.prog w = .ok (.string Z) w := fun w => by
                    rw [run_string_add_sum w _ _ (by show 1 + _ ≤ _; omega), hZ]
                  have cpm := cp_minus X Z f n p m hZ HSXX.out HMN.out hf hn hp hSs
                  clear hZ
                  have cpl := cp_bad Y f n p b HYL.out hf hn hp hYs hq16
                  go_wp2_with (first | (go_at_call_of 6 Y; refine (cpl _).mono ?_; rintro e w3 ⟨rfl, hb3⟩) | (go_at_call_of 6 Z; refine (cpm _).mono ?_; rintro e w4 ⟨rfl, hb4⟩) | (go_at_call_of 6 X; refine (cps _).mono ?_; rintro e w2 ⟨rfl, hb2⟩))
                  clear cps cpm cpl
                  go_loop [19, 20] (fun dv iv => ∃ k : Nat, k ≤ Y.size ∧ iv = .int .i64 (k : Int) ∧ dv = .int .i64 (if o < k then (q : Int) else 0)) (fun _ iv => Y.size - (intOf iv).toNat)
                  case atStart => exact ⟨0, Nat.zero_le _, rfl, by rw [if_neg (by omega)]⟩
                  case round =>
                    obtain ⟨k, hk, rfl, rfl⟩ := hrel
                    by_cases hkl : k < Y.size
                    · by_cases hko : k = o
                      · have hci : ((Y[k].toNat : Int) == 46) = true := by
                          rw [beq_iff_eq]; have := (HYA.out k hkl).2 hko; rw [this]; rfl
                        have HD : Hid ((if o < k + 1 then (q : Int) else 0) = (q : Int)) := by show _ = _; rw [if_pos (by omega)]
                        have hys : (Y.size : Int) - (k : Int) - 1 = (q : Int) := by omega
                        clear hko hYo hq
                        obtain ⟨dd, hdd⟩ : ∃ dd, dd = (if o < k then (q : Int) else 0) := ⟨_, rfl⟩
                        rw [← hdd]
                        clear hdd
                        go_wp2
                        go_round
                        case rel => exact ⟨k + 1, by omega, by go_num, by rw [HD.out]; first | done | rw [hys]⟩
                        case measure => simp [intOf]; omega
                      · have hci : ((Y[k].toNat : Int) == 46) = false := by
                          rw [beq_eq_false_iff_ne]; intro h; apply hko; apply (HYA.out k hkl).1; apply UInt8.toNat_inj.1; show Y[k].toNat = 46; omega
                        have HD : Hid ((if o < k + 1 then (q : Int) else 0) = (if o < k then (q : Int) else 0)) := by
                          show _ = _
                          by_cases h : o < k
                          · rw [if_pos h, if_pos (by omega)]
                          · rw [if_neg h, if_neg (by omega)]
                        obtain ⟨dd, hdd⟩ : ∃ dd, dd = (if o < k then (q : Int) else 0) := ⟨_, rfl⟩
                        rw [← hdd]
                        have HDD : Hid (dd = (if o < k then (q : Int) else 0)) := hdd
                        clear hdd
                        go_wp2
                        go_round
                        case rel => exact ⟨k + 1, by omega, by go_num, by rw [HD.out, ← HDD.out]⟩
                        case measure => simp [intOf]; omega
                    · have hko : o < k := by omega
                      rw [if_pos hko]
                      go_wp2_with (go_at_call 5; refine (awake_any _).mono ?_; rintro e w5 ⟨rfl, hb5⟩)
                      all_goals
                        go_ret
                        exact ⟨by first | rfl | exact ret_true (by omega), below_then (below_then (below_then (below_then hb1 hb2) hb3) hb4) hb5⟩
end Go.Proofs.YtplflpkmcoojmaaDoor
