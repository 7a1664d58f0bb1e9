/- What fix.digits, fix.value, strings.Cut at a point and fix.Parse answer of texts of at most 1000 bytes. -/
import Derived.Test.YtplflpkmcoojmaaDoorPNum
import Derived.Test.YtplflpkmcoojmaaDoorFix
import Derived.Test.YtplflpkmcoojmaaDoorShelf
import Derived.Lib.IndexBytes
import Derived.Deep.RegionWith
namespace Go.Proofs.YtplflpkmcoojmaaDoor
open Go.ChangeShapes Go.WideShapes Go.ChangeAt Go.RowKit
theorem take_snoc (s : ByteArray) (k : Nat) (h : k < s.size) : s.data.toList.take (k + 1) = s.data.toList.take k ++ [s[k]] := by
  rw [List.take_succ_eq_append_getElem (by simpa using h)]; rfl
theorem take_size (s : ByteArray) : s.data.toList.take s.size = s.data.toList := List.take_of_length_le (by simp)
theorem len_size (s : ByteArray) : s.data.toList.length = s.size := by simp
set_option maxHeartbeats 1600000 in
theorem digits_any (s : ByteArray) (most : Nat) (w : World) (hs : s.size ≤ 1000) (hm : most ≤ 1000) :
    Calls Tryd.prog 14 #[.string s, .int .i64 (most : Int)] w fun e w' => e = .returned (.bool (digB s.data.toList most)) ∧ w' = w := by
  by_cases h1 : s.size < 1
  · have HD : Hid (digB s.data.toList most = false) := by
      show _ = _; rw [Bool.eq_false_iff]; intro h; have := (digB_iff _ _).1 h; rw [len_size] at this; omega
    go_enter Tryd.func14, Tryd.ntmps14
    go_wp2
    go_ret
    exact ⟨by rw [HD.out]; rfl, rfl⟩
  · by_cases h2 : most < s.size
    · have HD : Hid (digB s.data.toList most = false) := by
        show _ = _; rw [Bool.eq_false_iff]; intro h; have := (digB_iff _ _).1 h; rw [len_size] at this; omega
      go_enter Tryd.func14, Tryd.ntmps14
      go_wp2
      go_ret
      exact ⟨by rw [HD.out]; rfl, rfl⟩
    · have HD : Hid (digB s.data.toList most = s.data.toList.all isD) := by
        show _ = _; unfold digB; rw [len_size, decide_eq_true (by omega), decide_eq_true (by omega)]; rfl
      go_enter Tryd.func14, Tryd.ntmps14
      go_wp2
      go_loop [17] (fun i => ∃ k : Nat, k ≤ s.size ∧ i = .int .i64 k ∧ (s.data.toList.take k).all isD = true) (fun i => s.size - (intOf i).toNat)
      case atStart => exact ⟨0, Nat.zero_le _, rfl, rfl⟩
      case round =>
        obtain ⟨k, hk, rfl, hall⟩ := hrel
        have HA : Hid ((s.data.toList.take k).all isD = true) := hall
        clear hall
        by_cases hlt : k < s.size
        · have hts := take_snoc s k hlt
          have HS : Hid (s.data.toList.take (k + 1) = s.data.toList.take k ++ [s[k]]) := hts
          clear hts
          by_cases hd : (48 : Int) ≤ (s[k].toNat : Int) ∧ (s[k].toNat : Int) ≤ 57
          · obtain ⟨hd1, hd2⟩ := hd
            have HI : Hid (isD s[k] = true) := by show _ = _; unfold isD; rw [decide_eq_true (by omega), decide_eq_true (by omega)]; rfl
            go_wp2
            go_round
            case rel => exact ⟨k + 1, by omega, by go_num, by rw [HS.out, List.all_append, HA.out]; simp [HI.out]⟩
            case measure => simp [intOf]; omega
          · have HI : Hid (isD s[k] = false) := by
              show _ = _; rw [Bool.eq_false_iff]; intro h; unfold isD at h; simp at h; omega
            have HF : Hid (s.data.toList.all isD = false) := by
              show _ = _
              have hmem : s[k] ∈ s.data.toList := by
                have : s[k] ∈ s.data.toList.take (k + 1) := by rw [HS.out]; simp
                exact List.mem_of_mem_take this
              rw [List.all_eq_false]; exact ⟨s[k], hmem, by rw [HI.out]; simp⟩
            rcases (show ((s[k].toNat : Int) < 48) ∨ (57 < (s[k].toNat : Int)) by omega) with hd' | hd'
            all_goals
              go_wp2
              go_ret
              exact ⟨by rw [HD.out, HF.out]; rfl, rfl⟩
        · have HF : Hid (s.data.toList.all isD = true) := by
            show _ = _; have := HA.out; rwa [show k = s.size by omega, take_size] at this
          go_wp2
          go_ret
          exact ⟨by rw [HD.out, HF.out]; rfl, rfl⟩
theorem val_take_le (s : ByteArray) (k : Nat) (hs : s.size ≤ 16) (hk : k < s.size) (hall : s.data.toList.all isD = true) : valN (s.data.toList.take k) ≤ 1000000000000000 := by
  have h1 : (s.data.toList.take k).all isD = true := by
    rw [List.all_eq_true] at hall ⊢; exact fun c hc => hall c (List.mem_of_mem_take hc)
  have h2 := val_lt _ h1
  have h3 : (s.data.toList.take k).length ≤ 15 := by rw [List.length_take, len_size]; omega
  have h4 : 10 ^ (s.data.toList.take k).length ≤ 10 ^ 15 := Nat.pow_le_pow_right (by decide) h3
  omega
set_option maxHeartbeats 1600000 in
theorem value_any (s : ByteArray) (w : World) (hs : s.size ≤ 16) (hall : s.data.toList.all isD = true) :
    Calls Tryd.prog 16 #[.string s] w fun e w' => e = .returned (.int .i64 (valN s.data.toList : Int)) ∧ w' = w := by
  have HALL : Hid (s.data.toList.all isD = true) := hall
  clear hall
  go_enter Tryd.func16, Tryd.ntmps16
  go_wp2
  go_loop [3, 7] (fun v i => ∃ k : Nat, k ≤ s.size ∧ i = .int .i64 k ∧ v = .int .i64 (valN (s.data.toList.take k) : Int)) (fun _ i => s.size - (intOf i).toNat)
  case atStart => exact ⟨0, Nat.zero_le _, rfl, rfl⟩
  case round =>
    obtain ⟨k, hk, rfl, rfl⟩ := hrel
    by_cases hlt : k < s.size
    · have hb := val_take_le s k hs hlt HALL.out
      have HS : Hid (valN (s.data.toList.take (k + 1)) = valN (s.data.toList.take k) * 10 + (s[k].toNat - 48)) := by
        show _ = _; rw [take_snoc s k hlt, val_snoc]
      have hd : isD s[k] = true := by
        have hmem : s[k] ∈ s.data.toList := by
          have : s[k] ∈ s.data.toList.take (k + 1) := by rw [take_snoc s k hlt]; simp
          exact List.mem_of_mem_take this
        exact List.all_eq_true.1 HALL.out _ hmem
      obtain ⟨d1, d2⟩ : (48 : Int) ≤ (s[k].toNat : Int) ∧ (s[k].toNat : Int) ≤ 57 := by unfold isD at hd; simp at hd; omega
      clear hd
      obtain ⟨v, hv⟩ : ∃ v, v = valN (s.data.toList.take k) := ⟨_, rfl⟩
      rw [← hv] at hb
      rw [← hv]
      have HV : Hid (v = valN (s.data.toList.take k)) := hv
      clear hv
      go_wp2
      go_round
      case rel => exact ⟨k + 1, by omega, by go_num, by rw [HS.out, ← HV.out]; congr 1; omega⟩
      case measure => simp [intOf]; omega
    · have HF : Hid (s.data.toList.take k = s.data.toList) := by show _ = _; rw [show k = s.size by omega, take_size]
      rw [HF.out]
      go_wp2
      go_ret
      exact ⟨rfl, rfl⟩
theorem ba_of (s : ByteArray) (l : List UInt8) (h : s.data.toList = l) : s = ⟨l.toArray⟩ := by
  cases s; subst h; simp
theorem ba_self (s : ByteArray) : (⟨s.data.toList.toArray⟩ : ByteArray) = s := (ba_of s _ rfl).symm
theorem ext_take (s : ByteArray) (o : Nat) : s.extract 0 o = ⟨(s.data.toList.take o).toArray⟩ :=
  ba_of _ _ (by rw [Lib.extract_data]; simp)
theorem ext_drop (s : ByteArray) (o : Nat) : s.extract o s.size = ⟨(s.data.toList.drop o).toArray⟩ :=
  ba_of _ _ (by rw [Lib.extract_data, List.take_of_length_le (by rw [List.length_drop, len_size]; omega)])
set_option maxHeartbeats 1600000 in
theorem cut_in (s : ByteArray) (w : World) (hs : s.size ≤ 1000) :
    Calls Tryd.prog 21 #[.string s, .string ⟨#[46]⟩] w fun e w' => e = .returned (.tuple #[.string ⟨(cutL s.data.toList).1.toArray⟩, .string ⟨(cutL s.data.toList).2.1.toArray⟩, .bool (cutL s.data.toList).2.2]) ∧ ∃ n, w' = w.drewN n := by
  have hs1 : (⟨#[46]⟩ : ByteArray).size = 1 := rfl
  by_cases h : Lib.indexByte s.data.toList 46 = -1
  · have HC : Hid (cutL s.data.toList = (s.data.toList, [], false)) := cut_none _ h
    go_enter Tryd.func21, Tryd.ntmps21
    go_wp2_with (go_at_call 33; refine (Tryd.stringslite_Index_one _ _ _).mono ?_; rintro e w' ⟨rfl, rfl⟩)
    go_ret3
    exact ⟨by rw [HC.out, ba_self]; rfl, 0, rfl⟩
  · obtain ⟨o, ho⟩ : ∃ o : Nat, Lib.indexByte s.data.toList 46 = o := ⟨(Lib.indexByte s.data.toList 46).toNat, by have := Lib.indexByte_ge s.data.toList 46; omega⟩
    obtain ⟨hc, hlt⟩ := cut_some _ o ho
    rw [len_size] at hlt
    have HC : Hid (cutL s.data.toList = (s.data.toList.take o, s.data.toList.drop (o + 1), true)) := hc
    clear hc h
    go_enter Tryd.func21, Tryd.ntmps21
    go_wp2_with (go_at_call 33; refine (Tryd.stringslite_Index_one _ _ _).mono ?_; rintro e w' ⟨rfl, rfl⟩)
    go_quiet (fail)
    go_wp2
    go_ret3
    exact ⟨by rw [HC.out, ← ext_take, ← ext_drop]; rfl, _, rfl⟩
set_option maxHeartbeats 1600000 in
theorem cut_any (s : ByteArray) (w : World) (hs : s.size ≤ 1000) :
    Calls Tryd.prog 13 #[.string s, .string ⟨#[46]⟩] w fun e w' => e = .returned (.tuple #[.string ⟨(cutL s.data.toList).1.toArray⟩, .string ⟨(cutL s.data.toList).2.1.toArray⟩, .bool (cutL s.data.toList).2.2]) ∧ ∃ n, w' = w.drewN n := by
  go_enter Tryd.func13, Tryd.ntmps13
  go_wp2_with (go_at_call 21; refine (cut_in _ _ hs).mono ?_; rintro e w' ⟨rfl, n, rfl⟩)
  go_ret3
  exact ⟨rfl, _, rfl⟩
theorem minus_eq (l : List UInt8) : Lib.trimPrefix l [45] = (minusL l).1 ∧ Lib.hasPrefix l [45] = (minusL l).2 := by
  cases l with
  | nil => exact ⟨by decide, by decide⟩
  | cons c r =>
    by_cases hc : c = 45
    · subst hc; simp [Lib.trimPrefix, Lib.hasPrefix, minusL]
    · have h1 : ¬ (45 : UInt8) = c := fun h => hc h.symm
      have h2 : [45].isPrefixOf (c :: r) = false := by simp [List.isPrefixOf, h1]
      simp [Lib.trimPrefix, Lib.hasPrefix, minusL, hc, h2]
theorem pre_any (s : ByteArray) (w : World) :
    Calls Tryd.prog 12 #[.string s, .string ⟨#[45]⟩] w fun e w' => e = .returned (.tuple #[.string ⟨(minusL s.data.toList).1.toArray⟩, .bool (minusL s.data.toList).2]) ∧ w' = w := by
  have h := Tryd.strings_CutPrefix s ⟨#[45]⟩ w
  rw [show (⟨#[45]⟩ : ByteArray).data.toList = [45] from rfl, (minus_eq _).1, (minus_eq _).2] at h
  exact h
theorem minus_len (l : List UInt8) : (minusL l).1.length ≤ l.length := by
  cases l with
  | nil => simp [minusL]
  | cons c r => by_cases hc : c = 45 <;> simp [minusL, hc]
theorem cut_len (l : List UInt8) : (cutL l).1.length ≤ l.length ∧ (cutL l).2.1.length ≤ l.length := by
  induction l with
  | nil => simp [cutL]
  | cons c r ih => unfold cutL; split <;> simp; omega
theorem sz_mk (l : List UInt8) : (⟨l.toArray⟩ : ByteArray).size = l.length := by simp [ByteArray.size]
theorem rep_any (n : Nat) (w : World) (hn : n ≤ 16) :
    Calls Tryd.prog 15 #[.string ⟨#[48]⟩, .int .i64 (n : Int)] w fun e w' => e = .returned (.string ⟨(List.replicate n 48).toArray⟩) ∧ Below w.heap.size w w' := by
  have h := Tryd.strings_Repeat ⟨#[48]⟩ n w (by omega) (by have : (⟨#[48]⟩ : ByteArray).size = 1 := rfl; rw [this]; omega)
  have e : ∀ k, Lib.repeatL [48] k = List.replicate k 48 := by
    intro k
    induction k with
    | zero => rfl
    | succ k ih => simp [Lib.repeatL, ih, List.replicate_succ]
  rw [show (⟨#[48]⟩ : ByteArray).data.toList = [48] from rfl, e] at h
  exact h
theorem pads (P : List UInt8) : (⟨P.toArray⟩ : ByteArray) ++ ⟨(List.replicate (16 - P.length) 48).toArray⟩ = ⟨(padL P).toArray⟩ := by
  refine ba_of _ _ ?_
  simp [padL]
/-- The walk of Parse, all that is called taken as given. -/
theorem parse_bad (s T W P : ByteArray) (b pt dw dp : Bool) (w : World)
    (cpre : ∀ w, Calls Tryd.prog 12 #[.string s, .string ⟨#[45]⟩] w fun e w' => e = .returned (.tuple #[.string T, .bool b]) ∧ w' = w)
    (ccut : ∀ w, Calls Tryd.prog 13 #[.string T, .string ⟨#[46]⟩] w fun e w' => e = .returned (.tuple #[.string W, .string P, .bool pt]) ∧ ∃ n, w' = w.drewN n)
    (cdw : ∀ w, Calls Tryd.prog 14 #[.string W, .int .i64 6] w fun e w' => e = .returned (.bool dw) ∧ w' = w)
    (cdp : ∀ w, Calls Tryd.prog 14 #[.string P, .int .i64 16] w fun e w' => e = .returned (.bool dp) ∧ w' = w)
    (hbad : dw = false ∨ (dw = true ∧ pt = true ∧ dp = false)) :
    Calls Tryd.prog 6 #[.string s] w fun e w' => e = .returned (.tuple #[.int .i32 0, .int .i64 3]) ∧ Below w.heap.size w w' := by
  rcases hbad with rfl | ⟨rfl, rfl, rfl⟩
  all_goals
    go_enter Tryd.func6, Tryd.ntmps6
    go_wp2_with (first | (go_at_call 12; refine (cpre _).mono ?_; rintro e w1 ⟨rfl, rfl⟩) | (go_at_call 13; refine (ccut _).mono ?_; rintro e w1 ⟨rfl, n, rfl⟩) | (go_at_call_of 14 W; refine (cdw _).mono ?_; rintro e w1 ⟨rfl, rfl⟩) | (go_at_call_of 14 P; refine (cdp _).mono ?_; rintro e w1 ⟨rfl, rfl⟩))
    go_ret2
    exact ⟨rfl, below_drewN (Below.refl _ _) _⟩
set_option maxHeartbeats 3200000 in
theorem parse_good (s T W P Z : ByteArray) (b pt : Bool) (vw vz : Nat) (w : World)
    (cpre : ∀ w, Calls Tryd.prog 12 #[.string s, .string ⟨#[45]⟩] w fun e w' => e = .returned (.tuple #[.string T, .bool b]) ∧ w' = w)
    (ccut : ∀ w, Calls Tryd.prog 13 #[.string T, .string ⟨#[46]⟩] w fun e w' => e = .returned (.tuple #[.string W, .string P, .bool pt]) ∧ ∃ n, w' = w.drewN n)
    (cdw : ∀ w, Calls Tryd.prog 14 #[.string W, .int .i64 6] w fun e w' => e = .returned (.bool true) ∧ w' = w)
    (cdp : pt = true → ∀ w, Calls Tryd.prog 14 #[.string P, .int .i64 16] w fun e w' => e = .returned (.bool true) ∧ w' = w)
    (hP : P.size ≤ 16)
    (crep : ∀ w, Calls Tryd.prog 15 #[.string ⟨#[48]⟩, .int .i64 (16 - (P.size : Int))] w fun e w' => e = .returned (.string Z) ∧ Below w.heap.size w w')
    (hZ : Z.size ≤ 16)
    (cvw : ∀ w, Calls Tryd.prog 16 #[.string W] w fun e w' => e = .returned (.int .i64 (vw : Int)) ∧ w' = w)
    (cvz : ∀ w, Calls Tryd.prog 16 #[.string (P ++ Z)] w fun e w' => e = .returned (.int .i64 (vz : Int)) ∧ w' = w)
    (hvw : vw < 1000000) (hvz : vz < 10000000000000000) :
    Calls Tryd.prog 6 #[.string s] w fun e w' => e = .returned (.tuple #[.int .i32 (if 2147483647 < (vw : Int) * 65536 + rnd (vz : Int) 152587890625 then 0 else if b = true then -((vw : Int) * 65536 + rnd (vz : Int) 152587890625) else (vw : Int) * 65536 + rnd (vz : Int) 152587890625), .int .i64 (if 2147483647 < (vw : Int) * 65536 + rnd (vz : Int) 152587890625 then 2 else 0)]) ∧ Below w.heap.size w w' := by
  have hr := rnd_bd (vz : Int) 152587890625 65536 (by omega) (by omega) (by omega)
  have hr0 : 0 ≤ rnd (vz : Int) 152587890625 := by have := rnd_mono 0 (vz : Int) 152587890625 (by omega) (by omega); have h0 : rnd 0 152587890625 = 0 := (by decide); omega
  have sadd : ∀ w, (Op.stringOp .add P Z).run Tryd.prog w = .ok (.string (P ++ Z)) w := fun w => run_string_add_sum w _ _ (by omega)
  obtain ⟨r, hrr⟩ : ∃ r, rnd (vz : Int) 152587890625 = r := ⟨_, rfl⟩
  rw [hrr] at hr hr0
  rw [hrr]
  cases pt with
  | false =>
    clear cdp
    by_cases hbig : 2147483647 < (vw : Int) * 65536 + r
    · rw [if_pos hbig, if_pos hbig]
      go_enter Tryd.func6, Tryd.ntmps6
      go_wp2_with (first | (go_at_call 12; refine (cpre _).mono ?_; rintro e w1 ⟨rfl, rfl⟩) | (go_at_call 13; refine (ccut _).mono ?_; rintro e w1 ⟨rfl, n, rfl⟩) | (go_at_call_of 14 W; refine (cdw _).mono ?_; rintro e w1 ⟨rfl, rfl⟩) | (go_at_call 15; refine (crep _).mono ?_; rintro e w1 ⟨rfl, hb⟩) | (go_at_call_of 16 W; refine (cvw _).mono ?_; rintro e w1 ⟨rfl, rfl⟩) | (go_at_call_of 16 Z; refine (cvz _).mono ?_; rintro e w1 ⟨rfl, rfl⟩) | (go_at_call 17; refine (round_any _ _ _ (by omega) (by omega) (by omega) (by omega)).mono ?_; rintro e w1 ⟨rfl, n, rfl⟩))
      go_ret2
      exact ⟨rfl, below_drewN (below_then (below_drewN (Below.refl _ _) _) (by assumption)) _⟩
    · rw [if_neg hbig, if_neg hbig]
      cases b
      all_goals
        go_enter Tryd.func6, Tryd.ntmps6
        go_wp2_with (first | (go_at_call 12; refine (cpre _).mono ?_; rintro e w1 ⟨rfl, rfl⟩) | (go_at_call 13; refine (ccut _).mono ?_; rintro e w1 ⟨rfl, n, rfl⟩) | (go_at_call_of 14 W; refine (cdw _).mono ?_; rintro e w1 ⟨rfl, rfl⟩) | (go_at_call 15; refine (crep _).mono ?_; rintro e w1 ⟨rfl, hb⟩) | (go_at_call_of 16 W; refine (cvw _).mono ?_; rintro e w1 ⟨rfl, rfl⟩) | (go_at_call_of 16 Z; refine (cvz _).mono ?_; rintro e w1 ⟨rfl, rfl⟩) | (go_at_call 17; refine (round_any _ _ _ (by omega) (by omega) (by omega) (by omega)).mono ?_; rintro e w1 ⟨rfl, n, rfl⟩))
        go_ret2
        exact ⟨rfl, below_drewN (below_then (below_drewN (Below.refl _ _) _) (by assumption)) _⟩
  | true =>
    have cdp' := cdp rfl
    clear cdp
    by_cases hbig : 2147483647 < (vw : Int) * 65536 + r
    · rw [if_pos hbig, if_pos hbig]
      go_enter Tryd.func6, Tryd.ntmps6
      go_wp2_with (first | (go_at_call 12; refine (cpre _).mono ?_; rintro e w1 ⟨rfl, rfl⟩) | (go_at_call 13; refine (ccut _).mono ?_; rintro e w1 ⟨rfl, n, rfl⟩) | (go_at_call_of 14 W; refine (cdw _).mono ?_; rintro e w1 ⟨rfl, rfl⟩) | (go_at_call_of 14 P; refine (cdp' _).mono ?_; rintro e w1 ⟨rfl, rfl⟩) | (go_at_call 15; refine (crep _).mono ?_; rintro e w1 ⟨rfl, hb⟩) | (go_at_call_of 16 W; refine (cvw _).mono ?_; rintro e w1 ⟨rfl, rfl⟩) | (go_at_call_of 16 Z; refine (cvz _).mono ?_; rintro e w1 ⟨rfl, rfl⟩) | (go_at_call 17; refine (round_any _ _ _ (by omega) (by omega) (by omega) (by omega)).mono ?_; rintro e w1 ⟨rfl, n, rfl⟩))
      go_ret2
      exact ⟨rfl, below_drewN (below_then (below_drewN (Below.refl _ _) _) (by assumption)) _⟩
    · rw [if_neg hbig, if_neg hbig]
      cases b
      all_goals
        go_enter Tryd.func6, Tryd.ntmps6
        go_wp2_with (first | (go_at_call 12; refine (cpre _).mono ?_; rintro e w1 ⟨rfl, rfl⟩) | (go_at_call 13; refine (ccut _).mono ?_; rintro e w1 ⟨rfl, n, rfl⟩) | (go_at_call_of 14 W; refine (cdw _).mono ?_; rintro e w1 ⟨rfl, rfl⟩) | (go_at_call_of 14 P; refine (cdp' _).mono ?_; rintro e w1 ⟨rfl, rfl⟩) | (go_at_call 15; refine (crep _).mono ?_; rintro e w1 ⟨rfl, hb⟩) | (go_at_call_of 16 W; refine (cvw _).mono ?_; rintro e w1 ⟨rfl, rfl⟩) | (go_at_call_of 16 Z; refine (cvz _).mono ?_; rintro e w1 ⟨rfl, rfl⟩) | (go_at_call 17; refine (round_any _ _ _ (by omega) (by omega) (by omega) (by omega)).mono ?_; rintro e w1 ⟨rfl, n, rfl⟩))
        go_ret2
        exact ⟨rfl, below_drewN (below_then (below_drewN (Below.refl _ _) _) (by assumption)) _⟩
theorem parse_any (s : ByteArray) (w : World) (hs : s.size ≤ 1000) :
    Calls Tryd.prog 6 #[.string s] w fun e w' => e = .returned (.tuple #[.int .i32 (parN s.data.toList).1, .int .i64 (parN s.data.toList).2]) ∧ Below w.heap.size w w' := by
  have l0 := len_size s
  generalize hl : s.data.toList = l at l0
  have l1 := minus_len l
  have l2 := cut_len (minusL l).1
  have cpre : ∀ w, Calls Tryd.prog 12 #[.string s, .string ⟨#[45]⟩] w fun e w' => e = .returned (.tuple #[.string ⟨(minusL l).1.toArray⟩, .bool (minusL l).2]) ∧ w' = w := fun w => by
    have := pre_any s w; rwa [hl] at this
  have ccut : ∀ w, Calls Tryd.prog 13 #[.string ⟨(minusL l).1.toArray⟩, .string ⟨#[46]⟩] w fun e w' => e = .returned (.tuple #[.string ⟨(cutL (minusL l).1).1.toArray⟩, .string ⟨(cutL (minusL l).1).2.1.toArray⟩, .bool (cutL (minusL l).1).2.2]) ∧ ∃ n, w' = w.drewN n := fun w =>
    cut_any ⟨(minusL l).1.toArray⟩ w (by rw [sz_mk]; omega)
  have cdw : ∀ w, Calls Tryd.prog 14 #[.string ⟨(cutL (minusL l).1).1.toArray⟩, .int .i64 6] w fun e w' => e = .returned (.bool (digB (cutL (minusL l).1).1 6)) ∧ w' = w := fun w =>
    digits_any ⟨(cutL (minusL l).1).1.toArray⟩ 6 w (by rw [sz_mk]; omega) (by omega)
  have cdp : ∀ w, Calls Tryd.prog 14 #[.string ⟨(cutL (minusL l).1).2.1.toArray⟩, .int .i64 16] w fun e w' => e = .returned (.bool (digB (cutL (minusL l).1).2.1 16)) ∧ w' = w := fun w =>
    digits_any ⟨(cutL (minusL l).1).2.1.toArray⟩ 16 w (by rw [sz_mk]; omega) (by omega)
  by_cases hok : digB (cutL (minusL l).1).1 6 = true ∧ ((cutL (minusL l).1).2.2 = false ∨ digB (cutL (minusL l).1).2.1 16 = true)
  · have hpar : parN l = (if 2147483647 < sizeN (cutL (minusL l).1).1 (cutL (minusL l).1).2.1 then (0, 2) else (if (minusL l).2 = true then -(sizeN (cutL (minusL l).1).1 (cutL (minusL l).1).2.1) else sizeN (cutL (minusL l).1).1 (cutL (minusL l).1).2.1, 0)) := by
      unfold parN; rw [if_pos hok]
    obtain ⟨hw, hp⟩ := hok
    have dw := (digB_iff _ _).1 hw
    have hpl : (cutL (minusL l).1).2.1.length ≤ 16 ∧ (cutL (minusL l).1).2.1.all isD = true := by
      rcases hp with hp | hp
      · rw [cut_no_part _ hp]; exact ⟨by simp, rfl⟩
      · have := (digB_iff _ _).1 hp; exact ⟨this.1.2, this.2⟩
    have vw := val_lt _ dw.2
    have vw' : valN (cutL (minusL l).1).1 < 1000000 := Nat.lt_of_lt_of_le vw (show _ ≤ 10 ^ 6 from Nat.pow_le_pow_right (by decide) dw.1.2)
    have vz := val_lt _ (pad_all _ hpl.2)
    rw [pad_len _ hpl.1] at vz
    have g := parse_good s ⟨(minusL l).1.toArray⟩ ⟨(cutL (minusL l).1).1.toArray⟩ ⟨(cutL (minusL l).1).2.1.toArray⟩ ⟨(List.replicate (16 - (cutL (minusL l).1).2.1.length) 48).toArray⟩ (minusL l).2 (cutL (minusL l).1).2.2 (valN (cutL (minusL l).1).1) (valN (padL (cutL (minusL l).1).2.1)) w
      cpre ccut (fun w => by have := cdw w; rwa [hw] at this) (fun h w => by
        have := cdp w
        rcases hp with hp | hp
        · rw [hp] at h; cases h
        · rwa [hp] at this)
      (by rw [sz_mk]; exact hpl.1)
      (fun w => by
        rw [sz_mk, show (16 : Int) - ((cutL (minusL l).1).2.1.length : Int) = ((16 - (cutL (minusL l).1).2.1.length : Nat) : Int) by have := hpl.1; omega]
        exact rep_any _ w (by omega))
      (by rw [sz_mk, List.length_replicate]; omega)
      (fun w => value_any ⟨(cutL (minusL l).1).1.toArray⟩ w (by rw [sz_mk]; have := dw.1.2; omega) dw.2)
      (fun w => by
        rw [pads]
        exact value_any ⟨(padL (cutL (minusL l).1).2.1).toArray⟩ w (by rw [sz_mk, pad_len _ hpl.1]; omega) (pad_all _ hpl.2))
      vw' (by simpa using vz)
    refine g.mono fun e w' ⟨he, hb⟩ => ⟨?_, hb⟩
    rw [he, hpar]
    unfold sizeN
    split <;> rfl
  · have hpar : parN l = (0, 3) := by unfold parN; rw [if_neg hok]
    rw [hpar]
    refine parse_bad s _ _ _ _ _ _ _ w cpre ccut cdw cdp ?_
    cases h1 : digB (cutL (minusL l).1).1 6
    · exact .inl rfl
    · refine .inr ⟨rfl, ?_⟩
      rw [h1] at hok
      cases h2 : (cutL (minusL l).1).2.2
      · exact absurd ⟨rfl, .inl h2⟩ hok
      · cases h3 : digB (cutL (minusL l).1).2.1 16
        · exact ⟨rfl, rfl⟩
        · exact absurd ⟨rfl, .inr h3⟩ hok
end Go.Proofs.YtplflpkmcoojmaaDoor
