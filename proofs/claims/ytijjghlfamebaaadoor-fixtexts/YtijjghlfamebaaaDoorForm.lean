/- What the document's Form answers of texts of at most 1000 bytes: whether a text is a number's, and its parts. -/
import Derived.Test.YtijjghlfamebaaaDoorRText
import Derived.Lib.Hide
namespace Go.Proofs.YtijjghlfamebaaaDoor
open Go.ChangeShapes Go.WideShapes Go.ChangeAt Go.RowKit
set_option linter.unusedVariables false
/-- Where the first point stands; else the length. -/
def dotN : List UInt8 → Nat
  | [] => 0
  | c :: r => if c = 46 then 0 else dotN r + 1
theorem dot_le : ∀ l : List UInt8, dotN l ≤ l.length
  | [] => Nat.le_refl _
  | c :: r => by have := dot_le r; unfold dotN; split <;> simp; omega
theorem cut_dot : ∀ l : List UInt8, cutL l = (l.take (dotN l), l.drop (dotN l + 1), decide (dotN l < l.length))
  | [] => rfl
  | c :: r => by
    have ih := cut_dot r
    unfold dotN
    rw [cut_cons]
    by_cases hc : c = 46
    · rw [if_pos hc, if_pos hc]; simp
    · rw [if_neg hc, if_neg hc, ih]; simp
theorem drop_at (s : ByteArray) (j : Nat) (h : j < s.size) : s.data.toList.drop j = s[j] :: s.data.toList.drop (j + 1) := by
  rw [List.drop_eq_getElem_cons (by simpa using h)]; rfl
def okN (l : List UInt8) : Prop := digB (cutL (minusL l).1).1 6 = true ∧ ((cutL (minusL l).1).2.2 = false ∨ digB (cutL (minusL l).1).2.1 16 = true)
def FormSays (l : List UInt8) (e : Ending) : Prop := ∃ (a : Bool) (b c : ByteArray) (ok : Bool), e = .returned (.tuple #[.bool a, .string b, .string c, .bool ok]) ∧
  ((ok = true ∧ okN l ∧ a = (minusL l).2 ∧ b = ⟨(cutL (minusL l).1).1.toArray⟩ ∧ c = ⟨(cutL (minusL l).1).2.1.toArray⟩) ∨ (ok = false ∧ ¬ okN l))
theorem bytes_conv (X : ByteArray) (w : World) : ∃ (cap : Nat) (W1 : World), (convert 9 55 (.string X)).run Tryd.prog w = .ok (.slice (some ⟨w.heap.size, 0, none⟩) X.size cap) W1 ∧ Below w.heap.size w W1 ∧
    ∀ j (hj : j < X.size), W1.cell? ⟨w.heap.size, j, none⟩ = some (.int .u8 (X[j].toNat : Int)) := by
  refine ⟨_, _, run_bytes_of_string w 9 55 5 X Tryd.underlying9 Tryd.underlying55 Tryd.underlying5, (Below.refl _ _).drew.alloc (Nat.le_refl _) _, fun j hj => ?_⟩
  have hh : (w.drew.alloc (.cells (bytesRow X (grownCap w X.size 0 5)) 5 ((bytesRow X (grownCap w X.size 0 5)).size, (bytesRow X (grownCap w X.size 0 5)).size + 1))).heap[w.heap.size]? = some (.cells (bytesRow X (grownCap w X.size 0 5)) 5 ((bytesRow X (grownCap w X.size 0 5)).size, (bytesRow X (grownCap w X.size 0 5)).size + 1)) := heap_alloc_new _ _
  simp only [World.cell?, hh]
  exact bytesRow_at X _ j hj
/-- What is said of the parts A, B of a text whose digits are looked at. -/
theorem ok_of (l whole part : List UInt8) (pt : Bool) (hc : cutL (minusL l).1 = (whole, part, pt)) (hpl : pt = true → 1 ≤ part.length ∧ part.length ≤ 16) (hp0 : pt = false → part = []) :
    okN l ↔ ((whole ++ part).all isD = true ∧ 1 ≤ whole.length ∧ whole.length ≤ 6) := by
  unfold okN
  rw [hc, digB_iff, List.all_append, Bool.and_eq_true]
  constructor
  · rintro ⟨⟨h1, h2⟩, h3⟩
    refine ⟨⟨h2, ?_⟩, h1⟩
    rcases h3 with h3 | h3
    · rw [hp0 h3]; rfl
    · exact ((digB_iff _ _).1 h3).2
  · rintro ⟨⟨h1, h2⟩, h3⟩
    refine ⟨⟨h3, h1⟩, ?_⟩
    cases pt with
    | false => exact .inl rfl
    | true => exact .inr ((digB_iff _ _).2 ⟨hpl rfl, h2⟩)
set_option maxHeartbeats 1600000 in
theorem form_nil (w : World) : Calls Tryd.prog 33 #[.string ⟨#[]⟩] w fun e w' => FormSays [] e ∧ Below w.heap.size w w' := by
  obtain ⟨cap, W1, hcv, hb1, -⟩ := bytes_conv ⟨#[]⟩ w
  have hs0 : (⟨#[]⟩ : ByteArray).size = 0 := rfl
  go_enter Tryd.func33, Tryd.ntmps33
  go_wp2
  refine wp_loop_rounds 1 ?_
  rw [rounds_succ]
  go_wp2
  refine wp_loop_rounds 1 ?_
  rw [rounds_succ]
  go_wp2
  exact bodyPost_ret (v := .tuple #[.bool false, .string ⟨#[]⟩, .string ⟨#[]⟩, .bool false]) (by simp [results, Tryd.results33, go_sem] <;> first | rfl | omega) rfl ⟨⟨_, _, _, _, rfl, .inr ⟨rfl, by unfold okN; decide⟩⟩, hb1⟩
set_option maxRecDepth 100000 in
set_option maxHeartbeats 12800000 in
theorem form_plain (s : ByteArray) (w : World) (hs : s.size ≤ 1000) (hm1 : (minusL s.data.toList).1 = s.data.toList) (hm2 : (minusL s.data.toList).2 = false) (h0 : 0 < s.size) (hc0 : ((s[0].toNat : Int) == 45) = false) : Calls Tryd.prog 33 #[.string s] w fun e w' => FormSays s.data.toList e ∧ Below w.heap.size w w' := by
  have HTL : Hid ((minusL s.data.toList).1 = s.data.toList) := hm1
  have HMI : Hid ((minusL s.data.toList).2 = false) := hm2
  clear hm1 hm2
  go_enter Tryd.func33, Tryd.ntmps33
  go_wp2
  go_loop [7, 8] (fun av iv => ∃ j : Nat, j ≤ s.size ∧ iv = .int .i64 ((j : Int) - 1) ∧ av = .int .i64 ((j + dotN (s.data.toList.drop j) : Nat) : Int)) (fun _ iv => (intOf iv + 1).toNat)
  case atStart =>
    refine ⟨s.size, Nat.le_refl _, by go_num, ?_⟩
    rw [List.drop_of_length_le (by simp)]; rfl
  case round =>
    obtain ⟨j, hj, rfl, rfl⟩ := hrel
    cases j with
    | succ j =>
      have HDR : Hid (s.data.toList.drop j = s[j] :: s.data.toList.drop (j + 1)) := drop_at s j (by omega)
      obtain ⟨o, ho⟩ : ∃ o, o = j + 1 + dotN (s.data.toList.drop (j + 1)) := ⟨_, rfl⟩
      rw [← ho]
      have HO : Hid (o = j + 1 + dotN (s.data.toList.drop (j + 1))) := ho
      clear ho
      have hjs : j < s.size := by omega
      by_cases hc : s[j] = 46
      · have hci : ((s[j].toNat : Int) == 46) = true := by rw [hc]; rfl
        have HD : Hid (j + dotN (s.data.toList.drop j) = j) := by show _ = _; rw [HDR.out]; unfold dotN; rw [if_pos hc]; rfl
        clear hc
        go_wp2
        go_round
        case rel => exact ⟨j, by omega, by first | rfl | go_num, by rw [HD.out] <;> try go_num⟩
        case measure => simp [intOf] <;> omega
      · have hci : ((s[j].toNat : Int) == 46) = false := by
          rw [beq_eq_false_iff_ne]; intro h; apply hc; apply UInt8.toNat_inj.1; show s[j].toNat = 46; omega
        have HD : Hid (j + dotN (s.data.toList.drop j) = o) := by show _ = _; rw [HDR.out, HO.out]; conv => lhs; unfold dotN; rw [if_neg hc]
                                                                  omega
        clear hc
        go_wp2
        go_round
        case rel => exact ⟨j, by omega, by first | rfl | go_num, by rw [HD.out] <;> try go_num⟩
        case measure => simp [intOf] <;> omega
    | zero =>
      obtain ⟨o, ho⟩ : ∃ o, o = dotN s.data.toList := ⟨_, rfl⟩
      have hol : o ≤ s.size := by rw [ho, ← len_size]; exact dot_le _
      have hcut : cutL (minusL s.data.toList).1 = (s.data.toList.take o, s.data.toList.drop (o + 1), decide (o < s.size)) := by
        rw [HTL.out, cut_dot, ← ho, len_size]
      rw [List.drop_zero, Nat.zero_add, ← ho]
      have HCUT : Hid (cutL (minusL s.data.toList).1 = (s.data.toList.take o, s.data.toList.drop (o + 1), decide (o < s.size))) := hcut
      clear hcut ho
      obtain ⟨A, hA⟩ : ∃ A, s.extract 0 o = A := ⟨_, rfl⟩
      have HAl : Hid (A.data.toList = s.data.toList.take o) := by show _ = _; rw [← hA, ext_take]
      have hAs : A.size ≤ 1000 := by rw [← len_size, HAl.out, List.length_take, len_size]; omega
      have HW : Hid (A = ⟨(cutL (minusL s.data.toList).1).1.toArray⟩) := by show _ = _; rw [HCUT.out, ← hA, ext_take]
      by_cases hlt : o < s.size
      · obtain ⟨B, hB⟩ : ∃ B, s.extract (o + 1) s.size = B := ⟨_, rfl⟩
        have HBl : Hid (B.data.toList = s.data.toList.drop (o + 1)) := by show _ = _; rw [← hB, ext_drop]
        have hBs : B.size ≤ 1000 := by rw [← len_size, HBl.out, List.length_drop, len_size]; omega
        have HPT : Hid (B = ⟨(cutL (minusL s.data.toList).1).2.1.toArray⟩) := by show _ = _; rw [HCUT.out, ← hB, ext_drop]
        by_cases hb1 : B.size < 1
        · have HG : Hid (¬ okN s.data.toList) := by
            show ¬ _; unfold okN; rw [HCUT.out, ← HBl.out]; rintro ⟨-, h | h⟩
            · simp [hlt] at h
            · have := ((digB_iff _ _).1 h).1; rw [len_size] at this; omega
          go_wp2
          exact bodyPost_ret (v := .tuple #[.bool false, .string ⟨#[]⟩, .string ⟨#[]⟩, .bool false]) (by simp [results, Tryd.results33, go_sem] <;> first | rfl | omega) rfl ⟨⟨_, _, _, _, rfl, .inr ⟨rfl, HG.out⟩⟩, Below.refl _ _⟩
        · by_cases hb2 : 16 < B.size
          · have HG : Hid (¬ okN s.data.toList) := by
              show ¬ _; unfold okN; rw [HCUT.out, ← HBl.out]; rintro ⟨-, h | h⟩
              · simp [hlt] at h
              · have := ((digB_iff _ _).1 h).1; rw [len_size] at this; omega
            go_wp2
            exact bodyPost_ret (v := .tuple #[.bool false, .string ⟨#[]⟩, .string ⟨#[]⟩, .bool false]) (by simp [results, Tryd.results33, go_sem] <;> first | rfl | omega) rfl ⟨⟨_, _, _, _, rfl, .inr ⟨rfl, HG.out⟩⟩, Below.refl _ _⟩
          · have HOK : Hid (okN s.data.toList ↔ ((A.data.toList ++ B.data.toList).all isD = true ∧ 1 ≤ A.data.toList.length ∧ A.data.toList.length ≤ 6)) := by
              show _ ↔ _
              rw [HAl.out, HBl.out]
              exact ok_of _ _ _ true (by rw [HCUT.out, decide_eq_true hlt]) (fun _ => by rw [← HBl.out, len_size]; omega) (fun h => by cases h)
            obtain ⟨X, hX⟩ : ∃ X, A ++ B = X := ⟨_, rfl⟩
            have hXl : X.data.toList = A.data.toList ++ B.data.toList := by rw [← hX]; simp
            have hXs : X.size ≤ 2000 := by rw [← hX, ByteArray.size_append]; omega
            obtain ⟨cap, W1, hcv, hb1, hcell⟩ := bytes_conv X w
            have HXl : Hid (X.data.toList = A.data.toList ++ B.data.toList) := hXl
            have HCE : Hid (∀ j (hj : j < X.size), W1.cell? ⟨w.heap.size, j, none⟩ = some (.int .u8 (X[j].toNat : Int))) := hcell
            clear hXl hcell
            have sadd : ∀ w, (Op.stringOp .add A B).run Tryd.prog w = .ok (.string X) w := fun w => by rw [run_string_add_sum w _ _ (by omega), hX]
            clear hX
            go_wp2
            go_loop [62] (fun i => ∃ k : Nat, k ≤ X.size ∧ i = .int .i64 k ∧ (X.data.toList.take k).all isD = true) (fun i => X.size - (intOf i).toNat)
            case atStart => exact ⟨0, Nat.zero_le _, rfl, rfl⟩
            case round =>
              clear hcv sadd
              obtain ⟨k, hk, rfl, hall⟩ := hrel
              have HA : Hid ((X.data.toList.take k).all isD = true) := hall
              clear hall
              by_cases hlt : k < X.size
              · have hcx := HCE.out k hlt
                have HS : Hid (X.data.toList.take (k + 1) = X.data.toList.take k ++ [X[k]]) := take_snoc X k hlt
                by_cases hd : (48 : Int) ≤ (X[k].toNat : Int) ∧ (X[k].toNat : Int) ≤ 57
                · obtain ⟨hd1, hd2⟩ := hd
                  have HI : Hid (isD X[k] = true) := by show _ = _; unfold isD; rw [decide_eq_true (by omega), decide_eq_true (by omega)]; rfl
                  go_wp2
                  go_round
                  case rel => exact ⟨k + 1, by omega, by go_num, by rw [HS.out, List.all_append, HA.out]; simp [HI.out]⟩
                  case measure => simp [intOf]; omega
                · have HI : Hid (isD X[k] = false) := by
                    show _ = _; rw [Bool.eq_false_iff]; intro h; unfold isD at h; simp at h; omega
                  have HF : Hid (¬ okN s.data.toList) := by
                    show ¬ _
                    intro hh
                    have h1 := (HOK.out.1 hh).1
                    rw [← HXl.out] at h1
                    have hmem : X[k] ∈ X.data.toList := by
                      have : X[k] ∈ X.data.toList.take (k + 1) := by rw [HS.out]; simp
                      exact List.mem_of_mem_take this
                    have := List.all_eq_true.1 h1 _ hmem
                    rw [HI.out] at this; cases this
                  rcases (show ((X[k].toNat : Int) < 48) ∨ (57 < (X[k].toNat : Int)) by omega) with hd' | hd'
                  all_goals
                    go_wp2
                    exact bodyPost_ret (v := .tuple #[.bool false, .string ⟨#[]⟩, .string ⟨#[]⟩, .bool false]) (by simp [results, Tryd.results33, go_sem] <;> first | rfl | omega) rfl ⟨⟨_, _, _, _, rfl, .inr ⟨rfl, HF.out⟩⟩, hb1⟩
              · have HF : Hid ((A.data.toList ++ B.data.toList).all isD = true) := by
                  show _ = _; have := HA.out; rwa [show k = X.size by omega, take_size, HXl.out] at this
                by_cases hw1 : 1 ≤ A.size
                · by_cases hw2 : A.size ≤ 6
                  · have HG : Hid (okN s.data.toList) := HOK.out.2 ⟨HF.out, by rw [len_size]; exact hw1, by rw [len_size]; exact hw2⟩
                    go_wp2
                    exact bodyPost_ret (v := .tuple #[.bool false, .string A, .string B, .bool true]) (by simp [results, Tryd.results33, go_sem] <;> first | rfl | omega) rfl ⟨⟨_, _, _, _, rfl, .inl ⟨rfl, HG.out, HMI.out.symm, HW.out, HPT.out⟩⟩, hb1⟩
                  · have HG : Hid (¬ okN s.data.toList) := fun hh => hw2 (by have := (HOK.out.1 hh).2.2; rwa [len_size] at this)
                    go_wp2
                    exact bodyPost_ret (v := .tuple #[.bool false, .string A, .string B, .bool false]) (by simp [results, Tryd.results33, go_sem] <;> first | rfl | omega) rfl ⟨⟨_, _, _, _, rfl, .inr ⟨rfl, HG.out⟩⟩, hb1⟩
                · have HG : Hid (¬ okN s.data.toList) := fun hh => hw1 (by have := (HOK.out.1 hh).2.1; rwa [len_size] at this)
                  go_wp2
                  exact bodyPost_ret (v := .tuple #[.bool false, .string A, .string B, .bool false]) (by simp [results, Tryd.results33, go_sem] <;> first | rfl | omega) rfl ⟨⟨_, _, _, _, rfl, .inr ⟨rfl, HG.out⟩⟩, hb1⟩
      · have HPT : Hid ((⟨#[]⟩ : ByteArray) = ⟨(cutL (minusL s.data.toList).1).2.1.toArray⟩) := by
          show _ = _; rw [HCUT.out, List.drop_of_length_le (by rw [len_size]; omega)]
        have HOK : Hid (okN s.data.toList ↔ ((A.data.toList ++ ([] : List UInt8)).all isD = true ∧ 1 ≤ A.data.toList.length ∧ A.data.toList.length ≤ 6)) := by
          show _ ↔ _
          have := ok_of s.data.toList (s.data.toList.take o) [] false (by rw [HCUT.out, decide_eq_false hlt, List.drop_of_length_le (by rw [len_size]; omega)]) (fun h => by cases h) (fun _ => rfl)
          rw [HAl.out]
          exact this
        obtain ⟨cap, W1, hcv, hb1, hcell⟩ := bytes_conv A w
        have HXl : Hid (A.data.toList = A.data.toList ++ ([] : List UInt8)) := (List.append_nil _).symm
        have HCE : Hid (∀ j (hj : j < A.size), W1.cell? ⟨w.heap.size, j, none⟩ = some (.int .u8 (A[j].toNat : Int))) := hcell
        clear hcell
        have sadd : ∀ w, (Op.stringOp .add A ⟨#[]⟩).run Tryd.prog w = .ok (.string A) w := fun w => by
          rw [run_string_add_sum w _ _ (by have : (⟨#[]⟩ : ByteArray).size = 0 := rfl; omega)]
          exact congrArg (fun b => Result.ok (Value.string b) w) ((ba_of _ _ (by simp)).trans (ba_self A))
        go_wp2
        go_loop [62] (fun i => ∃ k : Nat, k ≤ A.size ∧ i = .int .i64 k ∧ (A.data.toList.take k).all isD = true) (fun i => A.size - (intOf i).toNat)
        case atStart => exact ⟨0, Nat.zero_le _, rfl, rfl⟩
        case round =>
          clear hcv sadd
          obtain ⟨k, hk, rfl, hall⟩ := hrel
          have HA : Hid ((A.data.toList.take k).all isD = true) := hall
          clear hall
          by_cases hlt : k < A.size
          · have hcx := HCE.out k hlt
            have HS : Hid (A.data.toList.take (k + 1) = A.data.toList.take k ++ [A[k]]) := take_snoc A k hlt
            by_cases hd : (48 : Int) ≤ (A[k].toNat : Int) ∧ (A[k].toNat : Int) ≤ 57
            · obtain ⟨hd1, hd2⟩ := hd
              have HI : Hid (isD A[k] = true) := by show _ = _; unfold isD; rw [decide_eq_true (by omega), decide_eq_true (by omega)]; rfl
              go_wp2
              go_round
              case rel => exact ⟨k + 1, by omega, by go_num, by rw [HS.out, List.all_append, HA.out]; simp [HI.out]⟩
              case measure => simp [intOf]; omega
            · have HI : Hid (isD A[k] = false) := by
                show _ = _; rw [Bool.eq_false_iff]; intro h; unfold isD at h; simp at h; omega
              have HF : Hid (¬ okN s.data.toList) := by
                show ¬ _
                intro hh
                have h1 := (HOK.out.1 hh).1
                rw [← HXl.out] at h1
                have hmem : A[k] ∈ A.data.toList := by
                  have : A[k] ∈ A.data.toList.take (k + 1) := by rw [HS.out]; simp
                  exact List.mem_of_mem_take this
                have := List.all_eq_true.1 h1 _ hmem
                rw [HI.out] at this; cases this
              rcases (show ((A[k].toNat : Int) < 48) ∨ (57 < (A[k].toNat : Int)) by omega) with hd' | hd'
              all_goals
                go_wp2
                exact bodyPost_ret (v := .tuple #[.bool false, .string ⟨#[]⟩, .string ⟨#[]⟩, .bool false]) (by simp [results, Tryd.results33, go_sem] <;> first | rfl | omega) rfl ⟨⟨_, _, _, _, rfl, .inr ⟨rfl, HF.out⟩⟩, hb1⟩
          · have HF : Hid ((A.data.toList ++ ([] : List UInt8)).all isD = true) := by
              show _ = _; have := HA.out; rwa [show k = A.size by omega, take_size, HXl.out] at this
            by_cases hw1 : 1 ≤ A.size
            · by_cases hw2 : A.size ≤ 6
              · have HG : Hid (okN s.data.toList) := HOK.out.2 ⟨HF.out, by rw [len_size]; exact hw1, by rw [len_size]; exact hw2⟩
                go_wp2
                exact bodyPost_ret (v := .tuple #[.bool false, .string A, .string ⟨#[]⟩, .bool true]) (by simp [results, Tryd.results33, go_sem] <;> first | rfl | omega) rfl ⟨⟨_, _, _, _, rfl, .inl ⟨rfl, HG.out, HMI.out.symm, HW.out, HPT.out⟩⟩, hb1⟩
              · have HG : Hid (¬ okN s.data.toList) := fun hh => hw2 (by have := (HOK.out.1 hh).2.2; rwa [len_size] at this)
                go_wp2
                exact bodyPost_ret (v := .tuple #[.bool false, .string A, .string ⟨#[]⟩, .bool false]) (by simp [results, Tryd.results33, go_sem] <;> first | rfl | omega) rfl ⟨⟨_, _, _, _, rfl, .inr ⟨rfl, HG.out⟩⟩, hb1⟩
            · have HG : Hid (¬ okN s.data.toList) := fun hh => hw1 (by have := (HOK.out.1 hh).2.1; rwa [len_size] at this)
              go_wp2
              exact bodyPost_ret (v := .tuple #[.bool false, .string A, .string ⟨#[]⟩, .bool false]) (by simp [results, Tryd.results33, go_sem] <;> first | rfl | omega) rfl ⟨⟨_, _, _, _, rfl, .inr ⟨rfl, HG.out⟩⟩, hb1⟩
set_option maxRecDepth 100000 in
set_option maxHeartbeats 12800000 in
theorem form_minus (s : ByteArray) (w : World) (hs : s.size ≤ 1000) (h0 : 0 < s.size) (hc0 : ((s[0].toNat : Int) == 45) = true) (T : ByteArray) (hT : s.extract 1 s.size = T) (hm1 : (minusL s.data.toList).1 = T.data.toList) (hm2 : (minusL s.data.toList).2 = true) (hTs : T.size ≤ 1000) : Calls Tryd.prog 33 #[.string s] w fun e w' => FormSays s.data.toList e ∧ Below w.heap.size w w' := by
  have HTL : Hid ((minusL s.data.toList).1 = T.data.toList) := hm1
  have HMI : Hid ((minusL s.data.toList).2 = true) := hm2
  clear hm1 hm2
  go_enter Tryd.func33, Tryd.ntmps33
  go_wp2
  go_loop [7, 8] (fun av iv => ∃ j : Nat, j ≤ T.size ∧ iv = .int .i64 ((j : Int) - 1) ∧ av = .int .i64 ((j + dotN (T.data.toList.drop j) : Nat) : Int)) (fun _ iv => (intOf iv + 1).toNat)
  case atStart =>
    refine ⟨T.size, Nat.le_refl _, by go_num, ?_⟩
    rw [List.drop_of_length_le (by simp)]; rfl
  case round =>
    obtain ⟨j, hj, rfl, rfl⟩ := hrel
    cases j with
    | succ j =>
      have HDR : Hid (T.data.toList.drop j = T[j] :: T.data.toList.drop (j + 1)) := drop_at T j (by omega)
      obtain ⟨o, ho⟩ : ∃ o, o = j + 1 + dotN (T.data.toList.drop (j + 1)) := ⟨_, rfl⟩
      rw [← ho]
      have HO : Hid (o = j + 1 + dotN (T.data.toList.drop (j + 1))) := ho
      clear ho
      have hjs : j < T.size := by omega
      by_cases hc : T[j] = 46
      · have hci : ((T[j].toNat : Int) == 46) = true := by rw [hc]; rfl
        have HD : Hid (j + dotN (T.data.toList.drop j) = j) := by show _ = _; rw [HDR.out]; unfold dotN; rw [if_pos hc]; rfl
        clear hc
        go_wp2
        go_round
        case rel => exact ⟨j, by omega, by first | rfl | go_num, by rw [HD.out] <;> try go_num⟩
        case measure => simp [intOf] <;> omega
      · have hci : ((T[j].toNat : Int) == 46) = false := by
          rw [beq_eq_false_iff_ne]; intro h; apply hc; apply UInt8.toNat_inj.1; show T[j].toNat = 46; omega
        have HD : Hid (j + dotN (T.data.toList.drop j) = o) := by show _ = _; rw [HDR.out, HO.out]; conv => lhs; unfold dotN; rw [if_neg hc]
                                                                  omega
        clear hc
        go_wp2
        go_round
        case rel => exact ⟨j, by omega, by first | rfl | go_num, by rw [HD.out] <;> try go_num⟩
        case measure => simp [intOf] <;> omega
    | zero =>
      obtain ⟨o, ho⟩ : ∃ o, o = dotN T.data.toList := ⟨_, rfl⟩
      have hol : o ≤ T.size := by rw [ho, ← len_size]; exact dot_le _
      have hcut : cutL (minusL s.data.toList).1 = (T.data.toList.take o, T.data.toList.drop (o + 1), decide (o < T.size)) := by
        rw [HTL.out, cut_dot, ← ho, len_size]
      rw [List.drop_zero, Nat.zero_add, ← ho]
      have HCUT : Hid (cutL (minusL s.data.toList).1 = (T.data.toList.take o, T.data.toList.drop (o + 1), decide (o < T.size))) := hcut
      clear hcut ho
      obtain ⟨A, hA⟩ : ∃ A, T.extract 0 o = A := ⟨_, rfl⟩
      have HAl : Hid (A.data.toList = T.data.toList.take o) := by show _ = _; rw [← hA, ext_take]
      have hAs : A.size ≤ 1000 := by rw [← len_size, HAl.out, List.length_take, len_size]; omega
      have HW : Hid (A = ⟨(cutL (minusL s.data.toList).1).1.toArray⟩) := by show _ = _; rw [HCUT.out, ← hA, ext_take]
      by_cases hlt : o < T.size
      · obtain ⟨B, hB⟩ : ∃ B, T.extract (o + 1) T.size = B := ⟨_, rfl⟩
        have HBl : Hid (B.data.toList = T.data.toList.drop (o + 1)) := by show _ = _; rw [← hB, ext_drop]
        have hBs : B.size ≤ 1000 := by rw [← len_size, HBl.out, List.length_drop, len_size]; omega
        have HPT : Hid (B = ⟨(cutL (minusL s.data.toList).1).2.1.toArray⟩) := by show _ = _; rw [HCUT.out, ← hB, ext_drop]
        by_cases hb1 : B.size < 1
        · have HG : Hid (¬ okN s.data.toList) := by
            show ¬ _; unfold okN; rw [HCUT.out, ← HBl.out]; rintro ⟨-, h | h⟩
            · simp [hlt] at h
            · have := ((digB_iff _ _).1 h).1; rw [len_size] at this; omega
          go_wp2
          exact bodyPost_ret (v := .tuple #[.bool false, .string ⟨#[]⟩, .string ⟨#[]⟩, .bool false]) (by simp [results, Tryd.results33, go_sem] <;> first | rfl | omega) rfl ⟨⟨_, _, _, _, rfl, .inr ⟨rfl, HG.out⟩⟩, Below.refl _ _⟩
        · by_cases hb2 : 16 < B.size
          · have HG : Hid (¬ okN s.data.toList) := by
              show ¬ _; unfold okN; rw [HCUT.out, ← HBl.out]; rintro ⟨-, h | h⟩
              · simp [hlt] at h
              · have := ((digB_iff _ _).1 h).1; rw [len_size] at this; omega
            go_wp2
            exact bodyPost_ret (v := .tuple #[.bool false, .string ⟨#[]⟩, .string ⟨#[]⟩, .bool false]) (by simp [results, Tryd.results33, go_sem] <;> first | rfl | omega) rfl ⟨⟨_, _, _, _, rfl, .inr ⟨rfl, HG.out⟩⟩, Below.refl _ _⟩
          · have HOK : Hid (okN s.data.toList ↔ ((A.data.toList ++ B.data.toList).all isD = true ∧ 1 ≤ A.data.toList.length ∧ A.data.toList.length ≤ 6)) := by
              show _ ↔ _
              rw [HAl.out, HBl.out]
              exact ok_of _ _ _ true (by rw [HCUT.out, decide_eq_true hlt]) (fun _ => by rw [← HBl.out, len_size]; omega) (fun h => by cases h)
            obtain ⟨X, hX⟩ : ∃ X, A ++ B = X := ⟨_, rfl⟩
            have hXl : X.data.toList = A.data.toList ++ B.data.toList := by rw [← hX]; simp
            have hXs : X.size ≤ 2000 := by rw [← hX, ByteArray.size_append]; omega
            obtain ⟨cap, W1, hcv, hb1, hcell⟩ := bytes_conv X w
            have HXl : Hid (X.data.toList = A.data.toList ++ B.data.toList) := hXl
            have HCE : Hid (∀ j (hj : j < X.size), W1.cell? ⟨w.heap.size, j, none⟩ = some (.int .u8 (X[j].toNat : Int))) := hcell
            clear hXl hcell
            have sadd : ∀ w, (Op.stringOp .add A B).run Tryd.prog w = .ok (.string X) w := fun w => by rw [run_string_add_sum w _ _ (by omega), hX]
            clear hX
            go_wp2
            go_loop [62] (fun i => ∃ k : Nat, k ≤ X.size ∧ i = .int .i64 k ∧ (X.data.toList.take k).all isD = true) (fun i => X.size - (intOf i).toNat)
            case atStart => exact ⟨0, Nat.zero_le _, rfl, rfl⟩
            case round =>
              clear hcv sadd
              obtain ⟨k, hk, rfl, hall⟩ := hrel
              have HA : Hid ((X.data.toList.take k).all isD = true) := hall
              clear hall
              by_cases hlt : k < X.size
              · have hcx := HCE.out k hlt
                have HS : Hid (X.data.toList.take (k + 1) = X.data.toList.take k ++ [X[k]]) := take_snoc X k hlt
                by_cases hd : (48 : Int) ≤ (X[k].toNat : Int) ∧ (X[k].toNat : Int) ≤ 57
                · obtain ⟨hd1, hd2⟩ := hd
                  have HI : Hid (isD X[k] = true) := by show _ = _; unfold isD; rw [decide_eq_true (by omega), decide_eq_true (by omega)]; rfl
                  go_wp2
                  go_round
                  case rel => exact ⟨k + 1, by omega, by go_num, by rw [HS.out, List.all_append, HA.out]; simp [HI.out]⟩
                  case measure => simp [intOf]; omega
                · have HI : Hid (isD X[k] = false) := by
                    show _ = _; rw [Bool.eq_false_iff]; intro h; unfold isD at h; simp at h; omega
                  have HF : Hid (¬ okN s.data.toList) := by
                    show ¬ _
                    intro hh
                    have h1 := (HOK.out.1 hh).1
                    rw [← HXl.out] at h1
                    have hmem : X[k] ∈ X.data.toList := by
                      have : X[k] ∈ X.data.toList.take (k + 1) := by rw [HS.out]; simp
                      exact List.mem_of_mem_take this
                    have := List.all_eq_true.1 h1 _ hmem
                    rw [HI.out] at this; cases this
                  rcases (show ((X[k].toNat : Int) < 48) ∨ (57 < (X[k].toNat : Int)) by omega) with hd' | hd'
                  all_goals
                    go_wp2
                    exact bodyPost_ret (v := .tuple #[.bool false, .string ⟨#[]⟩, .string ⟨#[]⟩, .bool false]) (by simp [results, Tryd.results33, go_sem] <;> first | rfl | omega) rfl ⟨⟨_, _, _, _, rfl, .inr ⟨rfl, HF.out⟩⟩, hb1⟩
              · have HF : Hid ((A.data.toList ++ B.data.toList).all isD = true) := by
                  show _ = _; have := HA.out; rwa [show k = X.size by omega, take_size, HXl.out] at this
                by_cases hw1 : 1 ≤ A.size
                · by_cases hw2 : A.size ≤ 6
                  · have HG : Hid (okN s.data.toList) := HOK.out.2 ⟨HF.out, by rw [len_size]; exact hw1, by rw [len_size]; exact hw2⟩
                    go_wp2
                    exact bodyPost_ret (v := .tuple #[.bool true, .string A, .string B, .bool true]) (by simp [results, Tryd.results33, go_sem] <;> first | rfl | omega) rfl ⟨⟨_, _, _, _, rfl, .inl ⟨rfl, HG.out, HMI.out.symm, HW.out, HPT.out⟩⟩, hb1⟩
                  · have HG : Hid (¬ okN s.data.toList) := fun hh => hw2 (by have := (HOK.out.1 hh).2.2; rwa [len_size] at this)
                    go_wp2
                    exact bodyPost_ret (v := .tuple #[.bool true, .string A, .string B, .bool false]) (by simp [results, Tryd.results33, go_sem] <;> first | rfl | omega) rfl ⟨⟨_, _, _, _, rfl, .inr ⟨rfl, HG.out⟩⟩, hb1⟩
                · have HG : Hid (¬ okN s.data.toList) := fun hh => hw1 (by have := (HOK.out.1 hh).2.1; rwa [len_size] at this)
                  go_wp2
                  exact bodyPost_ret (v := .tuple #[.bool true, .string A, .string B, .bool false]) (by simp [results, Tryd.results33, go_sem] <;> first | rfl | omega) rfl ⟨⟨_, _, _, _, rfl, .inr ⟨rfl, HG.out⟩⟩, hb1⟩
      · have HPT : Hid ((⟨#[]⟩ : ByteArray) = ⟨(cutL (minusL s.data.toList).1).2.1.toArray⟩) := by
          show _ = _; rw [HCUT.out, List.drop_of_length_le (by rw [len_size]; omega)]
        have HOK : Hid (okN s.data.toList ↔ ((A.data.toList ++ ([] : List UInt8)).all isD = true ∧ 1 ≤ A.data.toList.length ∧ A.data.toList.length ≤ 6)) := by
          show _ ↔ _
          have := ok_of s.data.toList (T.data.toList.take o) [] false (by rw [HCUT.out, decide_eq_false hlt, List.drop_of_length_le (by rw [len_size]; omega)]) (fun h => by cases h) (fun _ => rfl)
          rw [HAl.out]
          exact this
        obtain ⟨cap, W1, hcv, hb1, hcell⟩ := bytes_conv A w
        have HXl : Hid (A.data.toList = A.data.toList ++ ([] : List UInt8)) := (List.append_nil _).symm
        have HCE : Hid (∀ j (hj : j < A.size), W1.cell? ⟨w.heap.size, j, none⟩ = some (.int .u8 (A[j].toNat : Int))) := hcell
        clear hcell
        have sadd : ∀ w, (Op.stringOp .add A ⟨#[]⟩).run Tryd.prog w = .ok (.string A) w := fun w => by
          rw [run_string_add_sum w _ _ (by have : (⟨#[]⟩ : ByteArray).size = 0 := rfl; omega)]
          exact congrArg (fun b => Result.ok (Value.string b) w) ((ba_of _ _ (by simp)).trans (ba_self A))
        go_wp2
        go_loop [62] (fun i => ∃ k : Nat, k ≤ A.size ∧ i = .int .i64 k ∧ (A.data.toList.take k).all isD = true) (fun i => A.size - (intOf i).toNat)
        case atStart => exact ⟨0, Nat.zero_le _, rfl, rfl⟩
        case round =>
          clear hcv sadd
          obtain ⟨k, hk, rfl, hall⟩ := hrel
          have HA : Hid ((A.data.toList.take k).all isD = true) := hall
          clear hall
          by_cases hlt : k < A.size
          · have hcx := HCE.out k hlt
            have HS : Hid (A.data.toList.take (k + 1) = A.data.toList.take k ++ [A[k]]) := take_snoc A k hlt
            by_cases hd : (48 : Int) ≤ (A[k].toNat : Int) ∧ (A[k].toNat : Int) ≤ 57
            · obtain ⟨hd1, hd2⟩ := hd
              have HI : Hid (isD A[k] = true) := by show _ = _; unfold isD; rw [decide_eq_true (by omega), decide_eq_true (by omega)]; rfl
              go_wp2
              go_round
              case rel => exact ⟨k + 1, by omega, by go_num, by rw [HS.out, List.all_append, HA.out]; simp [HI.out]⟩
              case measure => simp [intOf]; omega
            · have HI : Hid (isD A[k] = false) := by
                show _ = _; rw [Bool.eq_false_iff]; intro h; unfold isD at h; simp at h; omega
              have HF : Hid (¬ okN s.data.toList) := by
                show ¬ _
                intro hh
                have h1 := (HOK.out.1 hh).1
                rw [← HXl.out] at h1
                have hmem : A[k] ∈ A.data.toList := by
                  have : A[k] ∈ A.data.toList.take (k + 1) := by rw [HS.out]; simp
                  exact List.mem_of_mem_take this
                have := List.all_eq_true.1 h1 _ hmem
                rw [HI.out] at this; cases this
              rcases (show ((A[k].toNat : Int) < 48) ∨ (57 < (A[k].toNat : Int)) by omega) with hd' | hd'
              all_goals
                go_wp2
                exact bodyPost_ret (v := .tuple #[.bool false, .string ⟨#[]⟩, .string ⟨#[]⟩, .bool false]) (by simp [results, Tryd.results33, go_sem] <;> first | rfl | omega) rfl ⟨⟨_, _, _, _, rfl, .inr ⟨rfl, HF.out⟩⟩, hb1⟩
          · have HF : Hid ((A.data.toList ++ ([] : List UInt8)).all isD = true) := by
              show _ = _; have := HA.out; rwa [show k = A.size by omega, take_size, HXl.out] at this
            by_cases hw1 : 1 ≤ A.size
            · by_cases hw2 : A.size ≤ 6
              · have HG : Hid (okN s.data.toList) := HOK.out.2 ⟨HF.out, by rw [len_size]; exact hw1, by rw [len_size]; exact hw2⟩
                go_wp2
                exact bodyPost_ret (v := .tuple #[.bool true, .string A, .string ⟨#[]⟩, .bool true]) (by simp [results, Tryd.results33, go_sem] <;> first | rfl | omega) rfl ⟨⟨_, _, _, _, rfl, .inl ⟨rfl, HG.out, HMI.out.symm, HW.out, HPT.out⟩⟩, hb1⟩
              · have HG : Hid (¬ okN s.data.toList) := fun hh => hw2 (by have := (HOK.out.1 hh).2.2; rwa [len_size] at this)
                go_wp2
                exact bodyPost_ret (v := .tuple #[.bool true, .string A, .string ⟨#[]⟩, .bool false]) (by simp [results, Tryd.results33, go_sem] <;> first | rfl | omega) rfl ⟨⟨_, _, _, _, rfl, .inr ⟨rfl, HG.out⟩⟩, hb1⟩
            · have HG : Hid (¬ okN s.data.toList) := fun hh => hw1 (by have := (HOK.out.1 hh).2.1; rwa [len_size] at this)
              go_wp2
              exact bodyPost_ret (v := .tuple #[.bool true, .string A, .string ⟨#[]⟩, .bool false]) (by simp [results, Tryd.results33, go_sem] <;> first | rfl | omega) rfl ⟨⟨_, _, _, _, rfl, .inr ⟨rfl, HG.out⟩⟩, hb1⟩
theorem form_any (s : ByteArray) (w : World) (hs : s.size ≤ 1000) : Calls Tryd.prog 33 #[.string s] w fun e w' => FormSays s.data.toList e ∧ Below w.heap.size w w' := by
  by_cases h0 : s.size = 0
  · have hn : s.data.toList = [] := List.length_eq_zero_iff.1 (by rw [len_size]; exact h0)
    have e : s = ⟨#[]⟩ := ba_of s _ hn
    rw [hn, e]; exact form_nil w
  · have hd := drop_at s 0 (by omega)
    rw [List.drop_zero] at hd
    by_cases hc : s[0] = 45
    · have hm : minusL s.data.toList = (s.data.toList.drop 1, true) := by
        rw [hd, minus_cons, if_pos hc]; rfl
      refine form_minus s w hs (by omega) (by rw [hc]; rfl) (s.extract 1 s.size) rfl (by rw [hm, ext_drop]) (by rw [hm]) (by rw [ext_drop, sz_mk, List.length_drop, len_size]; omega)
    · have hm : minusL s.data.toList = (s.data.toList, false) := by
        conv => lhs; rw [hd, minus_cons, if_neg hc]
        rw [← hd]
      exact form_plain s w hs (by rw [hm]) (by rw [hm]) (by omega) (by rw [beq_eq_false_iff_ne]; intro h; apply hc; apply UInt8.toNat_inj.1; show s[0].toNat = 45; omega)
end Go.Proofs.YtijjghlfamebaaaDoor
