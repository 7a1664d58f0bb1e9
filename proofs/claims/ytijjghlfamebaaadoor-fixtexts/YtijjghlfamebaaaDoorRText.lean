/- What the document's Text answers of every number: the same text; no condition. -/
import Derived.Test.YtijjghlfamebaaaDoorRound
import Derived.Test.YtijjghlfamebaaaDoorParse
import Derived.Laws.DeepStrings4
namespace Go.Proofs.YtijjghlfamebaaaDoor
open Go.ChangeShapes Go.WideShapes Go.ChangeAt Go.RowKit
set_option linter.unusedVariables false
def tenD : ByteArray := ⟨#[48, 49, 50, 51, 52, 53, 54, 55, 56, 57]⟩
theorem ten_ext : ∀ i, i < 10 → (tenD.data.toList.drop i).take 1 = [UInt8.ofNat (48 + i)] := by decide
theorem ten_at (i : Nat) (h : i < 10) : (⟨#[48, 49, 50, 51, 52, 53, 54, 55, 56, 57]⟩ : ByteArray).extract i (i + 1) = ⟨#[UInt8.ofNat (48 + i)]⟩ := by
  have := ba_of (tenD.extract i (i + 1)) [UInt8.ofNat (48 + i)] (by rw [Lib.extract_data, show i + 1 - i = 1 by omega]; exact ten_ext i h)
  exact this
theorem ten_slice (d : Nat) (h : d < 10) (w : World) : (Instr.slice 9 (.string ⟨#[48, 49, 50, 51, 52, 53, 54, 55, 56, 57]⟩) (some (.int .i64 (d : Int))) (some (.int .i64 ((d : Int) + 1))) none).run Tryd.prog w = .ok (.string ⟨#[UInt8.ofNat (48 + d)]⟩) w := by
  have hs : (⟨#[48, 49, 50, 51, 52, 53, 54, 55, 56, 57]⟩ : ByteArray).size = 10 := rfl
  rw [run_slice_string_if (t := 9) (k := .i64) (k' := .i64) (i := (d : Int)) (j := (d : Int) + 1) (h := Tryd.underlying9), if_pos (by rw [hs]; omega), if_pos (by omega)]
  rw [show ((d : Int)).toNat = d by omega, show ((d : Int) + 1).toNat = d + 1 by omega, ten_at d h]
theorem add_front (c : UInt8) (r : List UInt8) : (⟨#[c]⟩ : ByteArray) ++ ⟨r.toArray⟩ = ⟨(c :: r).toArray⟩ := ba_of _ _ (by simp)
theorem add_back (c : UInt8) (r : List UInt8) : (⟨r.toArray⟩ : ByteArray) ++ ⟨#[c]⟩ = ⟨(r ++ [c]).toArray⟩ := ba_of _ _ (by simp)
theorem add_ba (a b : List UInt8) : (⟨a.toArray⟩ : ByteArray) ++ ⟨b.toArray⟩ = ⟨(a ++ b).toArray⟩ := ba_of _ _ (by simp)
theorem dec_small (n : Nat) (h : n < 10) : Lib.decDigits n = [UInt8.ofNat (48 + n)] := by rw [Lib.decDigits, dif_pos h]
theorem dec_big (n : Nat) (h : ¬ n < 10) : Lib.decDigits n = Lib.decDigits (n / 10) ++ [UInt8.ofNat (48 + n % 10)] := by rw [Lib.decDigits, dif_neg h]
def strLen : Value → Nat | .string s => s.size | _ => 0
set_option maxHeartbeats 3200000 in
theorem refText_neg (m : Nat) (w : World) (h0 : 0 < m) (h1 : m ≤ 2147483648) :
    Calls Tryd.prog 25 #[.int .i32 (-(m : Int))] w fun e w' => e = .returned (.string ⟨([45] ++ Lib.decDigits (m / 65536) ++ partL (m % 65536)).toArray⟩) ∧ w' = w := by
  have hlen := dec_len 6 (m / 65536) (by omega) (by decide)
  go_enter Tryd.func25, Tryd.ntmps25
  go_wp2
  go_loop [5, 6] (fun u t => ∃ (v : Nat) (r : List UInt8), u = .int .i64 (v : Int) ∧ t = .string ⟨r.toArray⟩ ∧ v ≤ 32768 ∧ Lib.decDigits v ++ r = Lib.decDigits (m / 65536)) (fun u _ => (intOf u).toNat)
  case atStart => exact ⟨m / 65536, [], by go_num, rfl, by omega, by simp⟩
  case round =>
    obtain ⟨v, r, rfl, rfl, hv, hr⟩ := hrel
    have hrl : r.length ≤ 6 := by
      have := congrArg List.length hr; rw [List.length_append] at this; omega
    obtain ⟨c, hc⟩ : ∃ c, c = UInt8.ofNat (48 + v % 10) := ⟨_, rfl⟩
    have te : ∀ w, (Instr.slice 9 (.string ⟨#[48, 49, 50, 51, 52, 53, 54, 55, 56, 57]⟩) (some (.int .i64 ((v : Int) % 10))) (some (.int .i64 ((v : Int) % 10 + 1))) none).run Tryd.prog w = .ok (.string ⟨#[c]⟩) w := fun w => by rw [hc]; exact ten_slice (v % 10) (by omega) w
    by_cases hv10 : v < 10
    · have hF : c :: r = Lib.decDigits (m / 65536) := by rw [← hr, dec_small v hv10, hc, Nat.mod_eq_of_lt hv10]; rfl
      have HF : Hid (c :: r = Lib.decDigits (m / 65536)) := hF
      have HM : Hid (m % 65536 * 10 ^ 16 % 65536 = 0) := by
        show _ = _; rw [show (10 : Nat) ^ 16 = 65536 * 152587890625 by decide, Nat.mul_left_comm]; exact Nat.mul_mod_right _ _
      clear hF hr hc
      by_cases hf : m % 65536 = 0
      · have HP : Hid (partL (m % 65536) = []) := by show _ = _; rw [hf]; rfl
        have hfi : (m : Int) % 65536 = 0 := by omega
        go_wp2
        refine wp_loop_rounds 1 ?_
        rw [rounds_succ]
        go_wp2
        go_ret
        refine ⟨?_, rfl⟩
        rw [HP.out, List.append_nil, ← HF.out]
        refine congrArg Ending.returned ?_
        exact congrArg Value.string (ba_of _ _ (by simp))
      · have HP : Hid (partL (m % 65536) = 46 :: fd 16 (m % 65536)) := by show _ = _; unfold partL; rw [if_neg hf]
        have hfi : (0 : Int) < (m : Int) % 65536 := by omega
        go_wp2
        go_loop [4, 7] (fun sv fv => ∃ (f k : Nat) (L : List UInt8), sv = .string ⟨L.toArray⟩ ∧ fv = .int .i64 (f : Int) ∧ f < 65536 ∧ f * 10 ^ k % 65536 = 0 ∧ L.length + k ≤ 25 ∧ L ++ fd k f = [45] ++ (c :: r) ++ [46] ++ fd 16 (m % 65536)) (fun sv _ => 25 - strLen sv)
        case atStart => exact ⟨m % 65536, 16, [45] ++ (c :: r) ++ [46], by exact congrArg Value.string (ba_of _ _ (by simp)), by go_num, by omega, HM.out, by simp; omega, rfl⟩
        case round =>
          clear te
          obtain ⟨f, k, L, rfl, rfl, hf1, hf2, hL, hLL⟩ := hrel
          by_cases hf0 : f = 0
          · subst hf0
            rw [fd_zero, List.append_nil] at hLL
            have HL : Hid (L = [45] ++ (c :: r) ++ [46] ++ fd 16 (m % 65536)) := hLL
            clear hLL
            go_wp2
            go_ret
            refine ⟨?_, rfl⟩
            rw [HP.out, HL.out, ← HF.out]
            refine congrArg Ending.returned ?_
            exact congrArg Value.string (ba_of _ _ (by simp))
          · obtain ⟨k, rfl⟩ : ∃ k', k = k' + 1 := by
              cases k with
              | zero => simp at hf2; omega
              | succ k' => exact ⟨k', rfl⟩
            rw [fd_succ k f hf0] at hLL
            obtain ⟨g, hg⟩ : ∃ g, g = UInt8.ofNat (48 + f * 10 / 65536) := ⟨_, rfl⟩
            rw [← hg] at hLL
            have HN : Hid (f * 10 % 65536 * 10 ^ k % 65536 = 0) := fd_next f k hf2
            have HL : Hid (L ++ g :: fd k (f * 10 % 65536) = [45] ++ (c :: r) ++ [46] ++ fd 16 (m % 65536)) := hLL
            have te2 : ∀ w, (Instr.slice 9 (.string ⟨#[48, 49, 50, 51, 52, 53, 54, 55, 56, 57]⟩) (some (.int .i64 ((f : Int) * 10 / 65536))) (some (.int .i64 ((f : Int) * 10 / 65536 + 1))) none).run Tryd.prog w = .ok (.string ⟨#[g]⟩) w := fun w => by rw [hg]; exact ten_slice (f * 10 / 65536) (by omega) w
            clear hLL hf2 hg
            go_wp2
            go_round
            case rel => exact ⟨f * 10 % 65536, k, L ++ [g], by exact congrArg Value.string (ba_of _ _ (by simp)), by go_num, by omega, HN.out, by simp; omega, by rw [List.append_assoc]; exact HL.out⟩
            case measure => simp [strLen, ByteArray.size]; omega
    · have HF : Hid (Lib.decDigits (v / 10) ++ (c :: r) = Lib.decDigits (m / 65536)) := by
        show _ = _; rw [← hr, dec_big v hv10, List.append_assoc, hc]; rfl
      have hv0 : ((v : Int) / 10 == 0) = false := by rw [beq_eq_false_iff_ne]; omega
      clear hr hc
      go_wp2
      go_round
      case rel => exact ⟨v / 10, c :: r, by go_num, by exact congrArg Value.string (ba_of _ _ (by simp)), by omega, HF.out⟩
      case measure => simp [intOf]; omega
set_option maxHeartbeats 3200000 in
theorem refText_pos (m : Nat) (w : World) (h0 : m ≤ 2147483647) (h1 : m ≤ 2147483648) :
    Calls Tryd.prog 25 #[.int .i32 (m : Int)] w fun e w' => e = .returned (.string ⟨([] ++ Lib.decDigits (m / 65536) ++ partL (m % 65536)).toArray⟩) ∧ w' = w := by
  have hlen := dec_len 6 (m / 65536) (by omega) (by decide)
  go_enter Tryd.func25, Tryd.ntmps25
  go_wp2
  go_loop [5, 6] (fun u t => ∃ (v : Nat) (r : List UInt8), u = .int .i64 (v : Int) ∧ t = .string ⟨r.toArray⟩ ∧ v ≤ 32768 ∧ Lib.decDigits v ++ r = Lib.decDigits (m / 65536)) (fun u _ => (intOf u).toNat)
  case atStart => exact ⟨m / 65536, [], by go_num, rfl, by omega, by simp⟩
  case round =>
    obtain ⟨v, r, rfl, rfl, hv, hr⟩ := hrel
    have hrl : r.length ≤ 6 := by
      have := congrArg List.length hr; rw [List.length_append] at this; omega
    obtain ⟨c, hc⟩ : ∃ c, c = UInt8.ofNat (48 + v % 10) := ⟨_, rfl⟩
    have te : ∀ w, (Instr.slice 9 (.string ⟨#[48, 49, 50, 51, 52, 53, 54, 55, 56, 57]⟩) (some (.int .i64 ((v : Int) % 10))) (some (.int .i64 ((v : Int) % 10 + 1))) none).run Tryd.prog w = .ok (.string ⟨#[c]⟩) w := fun w => by rw [hc]; exact ten_slice (v % 10) (by omega) w
    by_cases hv10 : v < 10
    · have hF : c :: r = Lib.decDigits (m / 65536) := by rw [← hr, dec_small v hv10, hc, Nat.mod_eq_of_lt hv10]; rfl
      have HF : Hid (c :: r = Lib.decDigits (m / 65536)) := hF
      have HM : Hid (m % 65536 * 10 ^ 16 % 65536 = 0) := by
        show _ = _; rw [show (10 : Nat) ^ 16 = 65536 * 152587890625 by decide, Nat.mul_left_comm]; exact Nat.mul_mod_right _ _
      clear hF hr hc
      by_cases hf : m % 65536 = 0
      · have HP : Hid (partL (m % 65536) = []) := by show _ = _; rw [hf]; rfl
        have hfi : (m : Int) % 65536 = 0 := by omega
        go_wp2
        refine wp_loop_rounds 1 ?_
        rw [rounds_succ]
        go_wp2
        go_ret
        refine ⟨?_, rfl⟩
        rw [HP.out, List.append_nil, ← HF.out]
        refine congrArg Ending.returned ?_
        exact congrArg Value.string (ba_of _ _ (by simp))
      · have HP : Hid (partL (m % 65536) = 46 :: fd 16 (m % 65536)) := by show _ = _; unfold partL; rw [if_neg hf]
        have hfi : (0 : Int) < (m : Int) % 65536 := by omega
        go_wp2
        go_loop [4, 7] (fun sv fv => ∃ (f k : Nat) (L : List UInt8), sv = .string ⟨L.toArray⟩ ∧ fv = .int .i64 (f : Int) ∧ f < 65536 ∧ f * 10 ^ k % 65536 = 0 ∧ L.length + k ≤ 25 ∧ L ++ fd k f = [] ++ (c :: r) ++ [46] ++ fd 16 (m % 65536)) (fun sv _ => 25 - strLen sv)
        case atStart => exact ⟨m % 65536, 16, [] ++ (c :: r) ++ [46], by exact congrArg Value.string (ba_of _ _ (by simp)), by go_num, by omega, HM.out, by simp; omega, rfl⟩
        case round =>
          clear te
          obtain ⟨f, k, L, rfl, rfl, hf1, hf2, hL, hLL⟩ := hrel
          by_cases hf0 : f = 0
          · subst hf0
            rw [fd_zero, List.append_nil] at hLL
            have HL : Hid (L = [] ++ (c :: r) ++ [46] ++ fd 16 (m % 65536)) := hLL
            clear hLL
            go_wp2
            go_ret
            refine ⟨?_, rfl⟩
            rw [HP.out, HL.out, ← HF.out]
            refine congrArg Ending.returned ?_
            exact congrArg Value.string (ba_of _ _ (by simp))
          · obtain ⟨k, rfl⟩ : ∃ k', k = k' + 1 := by
              cases k with
              | zero => simp at hf2; omega
              | succ k' => exact ⟨k', rfl⟩
            rw [fd_succ k f hf0] at hLL
            obtain ⟨g, hg⟩ : ∃ g, g = UInt8.ofNat (48 + f * 10 / 65536) := ⟨_, rfl⟩
            rw [← hg] at hLL
            have HN : Hid (f * 10 % 65536 * 10 ^ k % 65536 = 0) := fd_next f k hf2
            have HL : Hid (L ++ g :: fd k (f * 10 % 65536) = [] ++ (c :: r) ++ [46] ++ fd 16 (m % 65536)) := hLL
            have te2 : ∀ w, (Instr.slice 9 (.string ⟨#[48, 49, 50, 51, 52, 53, 54, 55, 56, 57]⟩) (some (.int .i64 ((f : Int) * 10 / 65536))) (some (.int .i64 ((f : Int) * 10 / 65536 + 1))) none).run Tryd.prog w = .ok (.string ⟨#[g]⟩) w := fun w => by rw [hg]; exact ten_slice (f * 10 / 65536) (by omega) w
            clear hLL hf2 hg
            go_wp2
            go_round
            case rel => exact ⟨f * 10 % 65536, k, L ++ [g], by exact congrArg Value.string (ba_of _ _ (by simp)), by go_num, by omega, HN.out, by simp; omega, by rw [List.append_assoc]; exact HL.out⟩
            case measure => simp [strLen, ByteArray.size]; omega
    · have HF : Hid (Lib.decDigits (v / 10) ++ (c :: r) = Lib.decDigits (m / 65536)) := by
        show _ = _; rw [← hr, dec_big v hv10, List.append_assoc, hc]; rfl
      have hv0 : ((v : Int) / 10 == 0) = false := by rw [beq_eq_false_iff_ne]; omega
      clear hr hc
      go_wp2
      go_round
      case rel => exact ⟨v / 10, c :: r, by go_num, by exact congrArg Value.string (ba_of _ _ (by simp)), by omega, HF.out⟩
      case measure => simp [intOf]; omega
theorem refText_any (x : Int) (w : World) (h1 : -2147483648 ≤ x) (h2 : x ≤ 2147483647) :
    Calls Tryd.prog 25 #[.int .i32 x] w fun e w' => e = .returned (.string ⟨(textL x).toArray⟩) ∧ w' = w := by
  by_cases hx : x < 0
  · obtain ⟨m, rfl⟩ : ∃ m : Nat, x = -(m : Int) := ⟨x.natAbs, by omega⟩
    have e : textL (-(m : Int)) = [45] ++ Lib.decDigits (m / 65536) ++ partL (m % 65536) := by
      unfold textL; rw [if_pos hx, Lib.itoa_nonneg, show (-(m : Int)).natAbs = m by omega]
    rw [e]; exact refText_neg m w (by omega) (by omega)
  · obtain ⟨m, rfl⟩ : ∃ m : Nat, x = (m : Int) := ⟨x.natAbs, by omega⟩
    have e : textL (m : Int) = [] ++ Lib.decDigits (m / 65536) ++ partL (m % 65536) := by
      unfold textL; rw [if_neg hx, Lib.itoa_nonneg, show ((m : Int)).natAbs = m by omega]
    rw [e]; exact refText_pos m w (by omega) (by omega)
end Go.Proofs.YtijjghlfamebaaaDoor
