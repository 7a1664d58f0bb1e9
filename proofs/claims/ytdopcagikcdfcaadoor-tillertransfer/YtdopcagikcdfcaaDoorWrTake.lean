/- Package wire's takeNumber and takeBytes, where what is there can be taken. Condition: a text of at most 2^40 bytes. -/
import Derived.Test.YtdopcagikcdfcaaDoorWrWrite
import Derived.Test.YtdopcagikcdfcaaDoorKUnpack
namespace Go.Proofs.YtdopcagikcdfcaaDoor
open Go.ChangeShapes Go.WideShapes Go.ChangeAt Go.RowKit
theorem slice_from (s : ByteArray) (n : Nat) (I : Int) (hI : I = (n : Int)) (h : n ≤ s.size) (W : World) :
    (Instr.slice 9 (.string s) (some (.int .i64 I)) none none).run Tryd.prog W = .ok (.string (txt (s.data.toList.drop n))) W := by
  subst hI
  rw [run_slice_string_from_if W _ _ _ _ Tryd.underlying9, if_pos ⟨by omega, by omega⟩]
  conv => lhs; rw [← txt_of s, extract_txt]
  have hl : s.data.toList.length = s.size := rfl
  simp only [Int.toNat_natCast, txt_size]
  rw [List.take_of_length_le (by rw [List.length_drop]; omega)]
theorem bits_and127b (a : Nat) (ha : a < 256) : bits .and .u8 (a : Int) 127 = ((a % 128 : Nat) : Int) := by
  have h1 : (BitVec.ofInt 8 (a : Int)).toNat = a := by
    rw [BitVec.ofInt_natCast, BitVec.toNat_ofNat]; exact Nat.mod_eq_of_lt (by omega)
  show IntKind.u8.wrap ((BitVec.ofInt 8 (a : Int) &&& BitVec.ofInt 8 127).toNat : Int) = _
  have h2 : (BitVec.ofInt 8 127).toNat = 2 ^ 7 - 1 := by decide
  rw [BitVec.toNat_and, h1, h2, Nat.and_two_pow_sub_one_eq_mod]
  simp [IntKind.wrap, IntKind.bits, IntKind.signed]
  omega
theorem or_group (a x : Nat) (ha : a < 35184372088832) (hx : x < 128) : bits .or .i64 ((a : Int) * 128) (x : Int) = ((128 * a + x : Nat) : Int) := by
  have := bits_or_i64_nat (a * 2 ^ 7) x (by omega) (by omega)
  rw [show ((a * 2 ^ 7 : Nat) : Int) = (a : Int) * 128 by simp] at this
  rw [this, Nat.or_comm, or_add x a 7 (by omega)]
  congr 1; omega
theorem takeG_step {b : UInt8} {t : List UInt8} {i a n m : Nat} (h : takeG (b :: t) i a = (n, m, 0)) :
    (i = 0 → b.toNat ≠ 128) ∧ (i = 6 → b.toNat < 128) ∧ (b.toNat < 128 → 128 * a + b.toNat % 128 = n ∧ n ≤ 1099511627776 ∧ m = i + 1) ∧ (128 ≤ b.toNat → takeG t (i + 1) (128 * a + b.toNat % 128) = (n, m, 0)) := by
  unfold takeG at h
  by_cases c : i = 0 ∧ b.toNat = 128 ∨ i = 6 ∧ 127 < b.toNat
  · rw [if_pos c] at h; cases h
  rw [if_neg c] at h
  by_cases d : b.toNat < 128
  · rw [if_pos d] at h
    by_cases e : 1099511627776 < 128 * a + b.toNat % 128
    · rw [if_pos e] at h; cases h
    · rw [if_neg e] at h
      obtain ⟨rfl, h2⟩ := Prod.mk.inj h
      obtain ⟨rfl, _⟩ := Prod.mk.inj h2
      exact ⟨by omega, by omega, fun _ => ⟨rfl, by omega, rfl⟩, by omega⟩
  · rw [if_neg d] at h
    exact ⟨by omega, by omega, by omega, fun _ => h⟩
set_option maxRecDepth 20000 in
set_option maxHeartbeats 2000000 in
theorem takeW_ok (s : ByteArray) (n m : Nat) (w : World) (hs : s.size ≤ 1099511627776) (h : takeG s.data.toList 0 0 = (n, m, 0)) :
   Calls Tryd.prog 34 #[.string s] w fun e w' => e = .returned (.tuple #[.int .i64 (n : Int), .string (txt (s.data.toList.drop m)), .int .i64 0]) ∧ ∃ d, w' = w.drewN d := by
  have hl : s.data.toList.length = s.size := rfl
  go_enter Tryd.func34, Tryd.ntmps34
  go_wp2_with fail
  go_loop [5, 10] (fun a i => ∃ k c : Nat, k ≤ 6 ∧ c < 128 ^ k ∧ takeG (s.data.toList.drop k) k c = (n, m, 0) ∧ i = .int .i64 (k : Int) ∧ a = .int .i64 (c : Int)) (fun _ i => 7 - (intOf i).toNat)
  case atStart => exact ⟨0, 0, by omega, by decide, h, rfl, rfl⟩
  case round =>
    obtain ⟨k, c, hk, hc, hT, rfl, rfl⟩ := hrel
    by_cases hks : k < s.size
    rotate_left
    · rw [List.drop_of_length_le (by omega)] at hT; cases hT
    have IX : Hid (∀ I : Int, I = (k : Int) → ∀ W : World, (Instr.index 9 (.string s) (.int .i64 I)).run Tryd.prog W = .ok (.int .u8 ((s.data.toList.getD k 0).toNat : Int)) W) := fun I hI W => index_at s k hks I hI W
    have hd : s.data.toList.drop k = s.data.toList.getD k 0 :: s.data.toList.drop (k + 1) := by
      rw [List.drop_eq_getElem_cons (by omega), List.getD_eq_getElem?_getD, List.getElem?_eq_getElem (by omega)]; rfl
    rw [hd] at hT
    obtain ⟨q0, q6, qs, qg⟩ := takeG_step hT
    have hb := (s.data.toList.getD k 0).toNat_lt
    have HQ : Hid (128 ≤ (s.data.toList.getD k 0).toNat → takeG (s.data.toList.drop (k + 1)) (k + 1) (128 * c + (s.data.toList.getD k 0).toNat % 128) = (n, m, 0)) := qg
    clear hT hd qg h
    generalize (s.data.toList.getD k 0).toNat = b at *
    have hc2 : c < 4398046511104 := Nat.lt_of_lt_of_le hc (show 128 ^ k ≤ 4398046511104 from Nat.le_trans (Nat.pow_le_pow_right (by decide) hk) (by decide))
    have a1 := bits_and127b b hb
    have hx : b % 128 < 128 := Nat.mod_lt _ (by decide)
    have HX : Hid (b < 128 → 128 * c + b % 128 = n ∧ n ≤ 1099511627776 ∧ m = k + 1) := qs
    have HC : Hid (128 * c + b % 128 < 128 ^ (k + 1)) := by show _ < _; rw [Nat.pow_succ]; omega
    clear qs
    generalize b % 128 = x at *
    have o1 := or_group c x (by omega) hx
    have hcx : 128 * c + x < 1000000000000000 := by omega
    generalize hz : 128 * c + x = z at *
    have HZ : Hid (128 * c + x = z) := hz
    clear hz hc
    have SFH : Hid (∀ I : Int, I = ((k + 1 : Nat) : Int) → ∀ W : World, (Instr.slice 9 (.string s) (some (.int .i64 I)) none none).run Tryd.prog W = .ok (.string (txt (s.data.toList.drop (k + 1)))) W) := fun I hI W => slice_from s (k + 1) I hI (by omega) W
    by_cases hs1 : b < 128
    · obtain ⟨h1, h2, h3⟩ := HX.out hs1
      have HN : Hid (z = n ∧ m = k + 1) := ⟨h1, h3⟩
      have hz40 : ¬ (1099511627776 : Int) < (z : Int) := by omega
      have nb : ¬ (b : Int) = 128 := by omega
      have ng : ¬ (128 : Int) ≤ (b : Int) := by omega
      have HY : Hid (txt (s.data.toList.drop (k + 1)) = txt (s.data.toList.drop m)) := by show _ = _; rw [h3]
      clear HQ HC HX h1 h2 h3 q0 q6 HZ
      generalize txt (s.data.toList.drop (k + 1)) = Y at SFH HY
      rcases Nat.lt_or_ge k 1 with k0 | k0
      · obtain rfl : k = 0 := by omega
        have ix := IX.out 0 rfl
        have SF := SFH.out 1 rfl
        go_wp2_with fail
        go_quiet (fail)
        go_wp2_with fail
        go_ret3
        rw [← HN.out.1, ← HY.out]
        exact ⟨rfl, _, rfl⟩
      · have n0 : ¬ (k : Int) = 0 := by omega
        rcases Nat.lt_or_ge k 6 with k6 | k6
        · have n7 : ¬ (k : Int) + 1 = 7 := by omega
          have ix := IX.out (k : Int) rfl
          have SF := SFH.out ((k : Int) + 1) (by omega)
          go_wp2_with fail
          go_quiet (fail)
          go_wp2_with fail
          go_ret3
          rw [← HN.out.1, ← HY.out]
          exact ⟨rfl, _, rfl⟩
        · obtain rfl : k = 6 := by omega
          have ix := IX.out 6 rfl
          have SF := SFH.out 7 rfl
          go_wp2_with fail
          go_quiet (fail)
          go_wp2_with fail
          go_ret3
          rw [← HN.out.1, ← HY.out]
          exact ⟨rfl, _, rfl⟩
    · have hT2 := HQ.out (by omega)
      have HT : Hid (takeG (s.data.toList.drop (k + 1)) (k + 1) z = (n, m, 0)) := hT2
      have k6 : k < 6 := by
        rcases Nat.lt_or_ge k 6 with h | h
        · exact h
        · have := q6 (by omega); omega
      have gb : (128 : Int) ≤ (b : Int) := by omega
      clear hT2 HQ HX HZ SFH
      rcases Nat.lt_or_ge k 1 with k0 | k0
      · obtain rfl : k = 0 := by omega
        have nb : ¬ (b : Int) = 128 := by have := q0 rfl; omega
        clear q0 q6
        have ix := IX.out 0 rfl
        go_wp2_with fail
        go_round
        case rel => exact ⟨0 + 1, z, by omega, HC.out, HT.out, by go_num, rfl⟩
        case measure => simp [intOf]
      · have n0 : ¬ (k : Int) = 0 := by omega
        have n7 : ¬ (k : Int) + 1 = 7 := by omega
        clear q0 q6
        have ix := IX.out (k : Int) rfl
        go_wp2_with fail
        go_round
        case rel => exact ⟨k + 1, z, by omega, HC.out, HT.out, by go_num, rfl⟩
        case measure => simp [intOf]; omega
end Go.Proofs.YtdopcagikcdfcaaDoor
