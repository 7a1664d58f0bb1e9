/- The document's clocks: how often a number stands in a row, and the greatest difference over all stretches. -/
import Derived.Test.YtjffbfcgghgkiaaCkCopy
import Derived.Test.YtjffbfcgghgkiaaRowA
namespace Go.Proofs.Ytjffbfcgghgkiaa
open Go.ChangeShapes Go.WideShapes Go.ChangeAt Go.RowKit
/-- The ticks as they stand in a row. -/
def sL (H : List Nat) : List Int := H.reverse.map Int.ofNat
/-- How far clock i is ahead behind the first k ticks. -/
def pre (H : List Nat) (i k : Nat) : Int := cnt (H.reverse.take k) i - cnt (H.reverse.take k) 0
theorem cnt_app (A B : List Nat) (i : Nat) : cnt (A ++ B) i = cnt A i + cnt B i := by
  unfold cnt; rw [List.count_append]; simp
theorem cnt_rev (A : List Nat) (i : Nat) : cnt A.reverse i = cnt A i := by
  unfold cnt; rw [List.count_reverse]
theorem cnt_one (t i : Nat) : cnt [t] i = if i = t then 1 else 0 := by rw [cnt_cons]; simp [cnt]
theorem pre_last (H : List Nat) (i : Nat) : pre H i H.length = ahd H i := by
  unfold pre ahd
  rw [List.take_of_length_le (by simp), cnt_rev, cnt_rev]
theorem pre_cons (t : Nat) (H : List Nat) (i k : Nat) (h : k ≤ H.length) : pre (t :: H) i k = pre H i k := by
  unfold pre
  rw [List.reverse_cons, List.take_append_of_le_length (by simpa using h)]
theorem pre_bd (i : Nat) : ∀ (H : List Nat) (k : Nat), k ≤ H.length → low H i ≤ pre H i k ∧ pre H i k ≤ hig H i
  | [], k, h => by
    simp at h; subst h; simp [pre, low, hig, cnt]
  | t :: H, k, h => by
    rcases Nat.lt_or_ge k (H.length + 1) with hk | hk
    · rw [pre_cons t H i k (by omega)]
      have := pre_bd i H k (by omega)
      simp only [low, hig]
      omega
    · obtain rfl : k = (t :: H).length := by simp at h ⊢; omega
      rw [pre_last]
      simp only [low, hig]
      omega
theorem hig_at (i : Nat) : ∀ H : List Nat, ∃ k, k ≤ H.length ∧ pre H i k = hig H i
  | [] => ⟨0, by simp, by simp [pre, hig, cnt]⟩
  | t :: H => by
    obtain ⟨k, h1, h2⟩ := hig_at i H
    by_cases e : hig H i < ahd (t :: H) i
    · exact ⟨(t :: H).length, Nat.le_refl _, by rw [pre_last]; simp only [hig]; omega⟩
    · exact ⟨k, by simp; omega, by rw [pre_cons t H i k h1, h2]; simp only [hig]; omega⟩
theorem low_at (i : Nat) : ∀ H : List Nat, ∃ k, k ≤ H.length ∧ pre H i k = low H i
  | [] => ⟨0, by simp, by simp [pre, low, cnt]⟩
  | t :: H => by
    obtain ⟨k, h1, h2⟩ := low_at i H
    by_cases e : ahd (t :: H) i < low H i
    · exact ⟨(t :: H).length, Nat.le_refl _, by rw [pre_last]; simp only [low]; omega⟩
    · exact ⟨k, by simp; omega, by rw [pre_cons t H i k h1, h2]; simp only [low]; omega⟩
theorem pre_step (H : List Nat) (i k : Nat) (h : k < H.length) : ∃ t : Nat, el (sL H) k = (t : Int) ∧ t ∈ H ∧ pre H i (k + 1) = pre H i k + (if i = t then 1 else 0) - (if 0 = t then 1 else 0) ∧ ∀ j, cnt (H.reverse.take (k + 1)) j = cnt (H.reverse.take k) j + if j = t then 1 else 0 := by
  have hk : k < H.reverse.length := by simpa using h
  have e : H.reverse.take (k + 1) = H.reverse.take k ++ [H.reverse[k]] := List.take_succ_eq_append_getElem hk
  have hc : ∀ j, cnt (H.reverse.take (k + 1)) j = cnt (H.reverse.take k) j + if j = H.reverse[k] then 1 else 0 := fun j => by rw [e, cnt_app, cnt_one]
  refine ⟨H.reverse[k], ?_, List.mem_reverse.1 (List.getElem_mem hk), ?_, hc⟩
  · unfold el sL
    rw [List.getD_eq_getElem?_getD, List.getElem?_map, List.getElem?_eq_getElem hk]
    rfl
  · unfold pre
    rw [hc i, hc 0]
    omega
theorem sL_len (H : List Nat) : (sL H).length = H.length := by unfold sL; simp
theorem pre_small (H : List Nat) (i k : Nat) : -(H.length : Int) ≤ pre H i k ∧ pre H i k ≤ (H.length : Int) := by
  have h1 := cnt_bd (H.reverse.take k) i
  have h2 := cnt_bd (H.reverse.take k) 0
  have h3 : (H.reverse.take k).length ≤ H.length := by rw [List.length_take]; simp; omega
  unfold pre
  omega
set_option maxHeartbeats 1000000 in
theorem rcount_any (ao : Option Addr) (m ca : Nat) (H : List Nat) (i : Nat) (w : World) (hA : IArg w ao m ca (sL H)) (hm : m ≤ 200) :
   Calls Try.prog 13 #[.slice ao m ca, .int .i64 (i : Int)] w fun e w' => e = .returned (.int .i64 (cnt H i)) ∧ w' = w := by
  have hl := hA.row.len
  rw [sL_len] at hl
  have HL : Hid (H.length = m) := hl
  have hf := hA.fit
  clear hl
  go_enter Try.func13, Try.ntmps13
  go_wp2_with fail
  go_loopg [5, 10] m (fun gg s5 s10 wr => ∃ j : Nat, j ≤ m ∧ gg = m - j ∧ s5 = .int .i64 (cnt (H.reverse.take j) i) ∧ s10 = .int .i64 (j : Int) ∧ wr = w)
  case atStart => exact ⟨0, by omega, by omega, rfl, rfl, rfl⟩
  case round =>
  obtain ⟨j, hj, rfl, rfl, rfl, rfl⟩ := hrel
  rcases Nat.lt_or_ge j m with hlt | hge
  · have d1 : (j : Int) < (m : Int) := by omega
    obtain ⟨ba, oa, rfl, hc⟩ := hA.row.cells (by omega)
    have c1 := hc j hlt
    obtain ⟨t, e1, _, _, e2⟩ := pre_step H i j (by rw [HL.out]; exact hlt)
    have e3 := e2 i
    have e4 := cnt_bd (H.reverse.take j) i
    have e5 : (H.reverse.take j).length ≤ 200 := by rw [List.length_take]; omega
    rw [e1] at c1
    clear e1 e2 hc
    have q : wrap64 (cnt (H.reverse.take j) i + 1) = cnt (H.reverse.take j) i + 1 := by unfold wrap64; omega
    by_cases hti : i = t
    · subst hti
      have E : Hid (cnt (H.reverse.take j) i + 1 = cnt (H.reverse.take (j + 1)) i) := by show _ = _; rw [e3, if_pos rfl]
      clear e3 e4 e5
      generalize cnt (H.reverse.take j) i = x at *
      go_wp2_with fail
      go_roundg (m - (j + 1))
      case measure => omega
      case rel => exact ⟨j + 1, by omega, rfl, by rw [← E.out], by go_num, rfl⟩
    · have E : Hid (cnt (H.reverse.take j) i = cnt (H.reverse.take (j + 1)) i) := by show _ = _; rw [e3, if_neg hti]; omega
      have hti2 : ¬ (t : Int) = (i : Int) := fun h => hti (by omega)
      have hti3 : ¬ t = i := fun h => hti h.symm
      clear e3 e4 e5 q hti
      generalize cnt (H.reverse.take j) i = x at *
      go_wp2_with fail
      go_roundg (m - (j + 1))
      case measure => omega
      case rel => exact ⟨j + 1, by omega, rfl, by rw [← E.out], by go_num, rfl⟩
  · obtain rfl : j = m := by omega
    rw [List.take_of_length_le (by simp [HL.out]), cnt_rev]
    go_wp2_with fail
    go_ret
    exact ⟨rfl, rfl⟩
set_option maxHeartbeats 4000000 in
theorem rdrift_any (ao : Option Addr) (m ca : Nat) (H : List Nat) (i : Nat) (w : World) (hA : IArg w ao m ca (sL H)) (hm : m ≤ 200) :
   Calls Try.prog 11 #[.slice ao m ca, .int .i64 (i : Int)] w fun e w' => e = .returned (.int .i64 (hig H i - low H i)) ∧ w' = w := by
  have hl := hA.row.len
  rw [sL_len] at hl
  have HL : Hid (H.length = m) := hl
  have hf := hA.fit
  have HB : Hid (∀ k, k ≤ m → low H i ≤ pre H i k ∧ pre H i k ≤ hig H i) := fun k hk => pre_bd i H k (by rw [hl]; exact hk)
  have HS : Hid (∀ k, -(m : Int) ≤ pre H i k ∧ pre H i k ≤ (m : Int)) := fun k => by rw [← hl]; exact pre_small H i k
  clear hl
  go_enter Try.func11, Try.ntmps11
  go_wp2_with fail
  go_loopg [5, 12] m (fun gg s5 s12 wr => ∃ (a : Nat) (W : Int), a ≤ m ∧ gg = m - a ∧ s5 = .int .i64 W ∧ s12 = .int .i64 (a : Int) ∧ wr = w ∧ 0 ≤ W ∧ W ≤ 1000 ∧ Hid (W ≤ hig H i - low H i ∧ ∀ x y, x < a → x ≤ y → y ≤ m → pre H i y - pre H i x ≤ W ∧ pre H i x - pre H i y ≤ W))
  case atStart => exact ⟨0, 0, by omega, by omega, rfl, rfl, rfl, by omega, by omega, by have := HB.out 0 (by omega); omega, fun x y hx => by omega⟩
  case round =>
  obtain ⟨a, W, ha, rfl, rfl, rfl, rfl, w0, w1, HW⟩ := hrel
  rcases Nat.lt_or_ge a m with hlt | hge
  · have d1 : (a : Int) < (m : Int) := by omega
    have d2 : ¬ ca = a := by omega
    have d3 : (a : Int) ≤ (ca : Int) := by omega
    have d4 : (a : Int) ≤ (m : Int) := by omega
    obtain ⟨ba, oa, rfl, hc⟩ := hA.row.cells (by omega)
    go_wp2_with fail
    have zz : (m : Int) - (a : Int) = ((m - a : Nat) : Int) := by omega
    go_loopg [5, 7, 19] (m - a) (fun gg s5 s7 s19 wx => ∃ (j : Nat) (V : Int), j ≤ m - a ∧ gg = m - a - j ∧ s5 = .int .i64 V ∧ s7 = .int .i64 (pre H i (a + j) - pre H i a) ∧ s19 = .int .i64 (j : Int) ∧ wx = wr ∧ W ≤ V ∧ V ≤ 1000 ∧ Hid (V ≤ hig H i - low H i ∧ ∀ y, y ≤ j → pre H i (a + y) - pre H i a ≤ V ∧ pre H i a - pre H i (a + y) ≤ V))
    case atStart => exact ⟨0, W, by omega, by omega, rfl, by simp, rfl, rfl, by omega, by omega, HW.out.1, fun y hy => by (have e : y = 0 := by omega); subst e; simp; omega⟩
    case round =>
    obtain ⟨j, V, hj, rfl, rfl, rfl, rfl, rfl, v0, v1, HV⟩ := hrel
    rcases Nat.lt_or_ge j (m - a) with hlt2 | hge2
    · have d7 : (j : Int) < ((m - a : Nat) : Int) := by omega
      have d8 : ¬ (m : Int) ≤ (j : Int) + (a : Int) := by omega
      have c1 := hc (a + j) (by omega)
      obtain ⟨t, e1, _, e2, _⟩ := pre_step H i (a + j) (by rw [HL.out]; omega)
      rw [e1] at c1
      rw [← Nat.add_assoc] at c1
      have p1 := HS.out (a + j)
      have p2 := HS.out a
      have p3 := HS.out (a + (j + 1))
      have p4 := HB.out (a + (j + 1)) (by omega)
      have p5 := HB.out a (by omega)
      rw [show a + j + 1 = a + (j + 1) by omega] at e2
      have HV2 : Hid (∀ V', V ≤ V' → pre H i (a + (j + 1)) - pre H i a ≤ V' → pre H i a - pre H i (a + (j + 1)) ≤ V' → (V' = V ∨ V' = pre H i (a + (j + 1)) - pre H i a ∨ V' = pre H i a - pre H i (a + (j + 1))) → V' ≤ hig H i - low H i ∧ ∀ y, y ≤ j + 1 → pre H i (a + y) - pre H i a ≤ V' ∧ pre H i a - pre H i (a + y) ≤ V') := fun V' h1 h2 h3 h4 => by
        obtain ⟨u1, u2⟩ := HV.out
        refine ⟨by omega, fun y hy => ?_⟩
        rcases Nat.lt_or_ge y (j + 1) with hy2 | hy2
        · have := u2 y (by omega); omega
        · obtain rfl : y = j + 1 := by omega
          omega
      clear e1 hc p4 p5 HV
      obtain ⟨x, hx⟩ : ∃ x, x = pre H i (a + j) - pre H i a := ⟨_, rfl⟩
      rw [← hx]
      have q0 : wrap64 x = x := by unfold wrap64; omega
      have q1 : wrap64 (x + 1) = x + 1 := by unfold wrap64; omega
      have q2 : wrap64 (x - 1) = x - 1 := by unfold wrap64; omega
      have q3 : wrap64 (x + 1 - 1) = x := by unfold wrap64; omega
      have q4 : wrap64 (-x) = -x := by unfold wrap64; omega
      have q5 : wrap64 (-(x + 1)) = -(x + 1) := by unfold wrap64; omega
      have q6 : wrap64 (-(x - 1)) = -(x - 1) := by unfold wrap64; omega
      have x1 : x ≤ 400 := by omega
      have x2 : -400 ≤ x := by omega
      by_cases hti : i = t
      · subst hti
        by_cases h0 : i = 0
        · subst h0
          have HE : Hid (x = pre H 0 (a + j) - pre H 0 a ∧ pre H 0 (a + (j + 1)) - pre H 0 a = x) := ⟨hx, by rw [e2]; simp; omega⟩
          clear e2 hx p1 p2 p3
          go_wp2_with fail
          all_goals
            go_roundg (m - a - (j + 1))
            case measure => omega
            case rel =>
              have hE := HE.out.2
              refine ⟨j + 1, _, by omega, rfl, rfl, by rw [hE], by go_num, rfl, by omega, by omega, HV2.out _ (by omega) (by omega) (by omega) (by omega)⟩
        · have h0' : ¬ (i : Int) = 0 := by omega
          have h0'' : ¬ 0 = i := fun h => h0 h.symm
          have HE : Hid (x = pre H i (a + j) - pre H i a ∧ pre H i (a + (j + 1)) - pre H i a = x + 1) := ⟨hx, by rw [e2, if_pos rfl, if_neg h0'']; omega⟩
          clear e2 hx p1 p2 p3
          go_wp2_with fail
          all_goals
            go_roundg (m - a - (j + 1))
            case measure => omega
            case rel =>
              have hE := HE.out.2
              refine ⟨j + 1, _, by omega, rfl, rfl, by rw [hE], by go_num, rfl, by omega, by omega, HV2.out _ (by omega) (by omega) (by omega) (by omega)⟩
      · have hti2 : ¬ (t : Int) = (i : Int) := fun h => hti (by omega)
        have hti3 : ¬ t = i := fun h => hti h.symm
        by_cases h0 : t = 0
        · subst h0
          have HE : Hid (x = pre H i (a + j) - pre H i a ∧ pre H i (a + (j + 1)) - pre H i a = x - 1) := ⟨hx, by rw [e2, if_neg hti, if_pos rfl]; omega⟩
          clear e2 hx p1 p2 p3
          go_wp2_with fail
          all_goals
            go_roundg (m - a - (j + 1))
            case measure => omega
            case rel =>
              have hE := HE.out.2
              refine ⟨j + 1, _, by omega, rfl, rfl, by rw [hE], by go_num, rfl, by omega, by omega, HV2.out _ (by omega) (by omega) (by omega) (by omega)⟩
        · have h0' : ¬ (t : Int) = 0 := by omega
          have h0'' : ¬ 0 = t := fun h => h0 h.symm
          have HE : Hid (x = pre H i (a + j) - pre H i a ∧ pre H i (a + (j + 1)) - pre H i a = x) := ⟨hx, by rw [e2, if_neg hti, if_neg h0'']; omega⟩
          clear e2 hx p1 p2 p3
          go_wp2_with fail
          all_goals
            go_roundg (m - a - (j + 1))
            case measure => omega
            case rel =>
              have hE := HE.out.2
              refine ⟨j + 1, _, by omega, rfl, rfl, by rw [hE], by go_num, rfl, by omega, by omega, HV2.out _ (by omega) (by omega) (by omega) (by omega)⟩
    · obtain rfl : j = m - a := by omega
      rw [show a + (m - a) = m by omega]
      go_wp2_with fail
      go_roundg (m - (a + 1))
      case measure => omega
      case rel =>
        refine ⟨a + 1, V, by omega, rfl, rfl, by go_num, rfl, by omega, by omega, HV.out.1, fun x y hx hxy hy => ?_⟩
        rcases Nat.lt_or_ge x a with h | h
        · have := HW.out.2 x y h hxy hy; omega
        · obtain rfl : x = a := by omega
          have := HV.out.2 (y - x) (by omega)
          rw [show x + (y - x) = y by omega] at this
          omega
  · obtain rfl : a = m := by omega
    have E : Hid (W = hig H i - low H i) := by
      obtain ⟨u1, u2⟩ := HW.out
      obtain ⟨k1, r1, r2⟩ := hig_at i H
      obtain ⟨k2, r3, r4⟩ := low_at i H
      rw [HL.out] at r1 r3
      have : hig H i - low H i ≤ W := by
        rw [← r2, ← r4]
        rcases Nat.lt_or_ge k1 k2 with h | h
        · have := u2 k1 k2 (by omega) (by omega) r3; omega
        · rcases Nat.lt_or_ge k2 k1 with h' | h'
          · have := u2 k2 k1 (by omega) (by omega) r1; omega
          · obtain rfl : k1 = k2 := by omega
            omega
      show _ = _
      omega
    go_wp2_with fail
    go_ret
    exact ⟨ret_int E.out, rfl⟩
end Go.Proofs.Ytjffbfcgghgkiaa
