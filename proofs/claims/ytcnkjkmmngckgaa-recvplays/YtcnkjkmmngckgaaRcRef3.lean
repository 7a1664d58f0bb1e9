/- The document's Whole; both states beside one another. -/
import Derived.Test.YtcnkjkmmngckgaaRcRef2
namespace Go.Proofs.Ytcnkjkmmngckgaa
open Go.ChangeShapes Go.WideShapes Go.ChangeAt Go.RowKit
theorem rf_run (S : List ByteArray) (j : Nat) (hj : j < S.length) (hs : (catS S).length ≤ 100000000) (W : World) : (Op.stringOp .add (txt (catS (S.take j))) (se S j)).run Try.prog W = .ok (.string (txt (catS (S.take (j + 1))))) W := by
  have h1 := catS_snoc S j hj
  have h2 := catS_le S (j + 1)
  have e1 := txt_append (catS (S.take j)) (se S j).data.toList
  rw [txt_of, ← h1] at e1
  rw [h1, List.length_append] at h2
  rw [run_string_add_sum W _ _ (by rw [txt_size]; have : (se S j).size = (se S j).data.toList.length := by rw [← txt_size, txt_of]
                                   omega), e1]
set_option maxRecDepth 100000 in
set_option maxHeartbeats 16000000 in
theorem rwhole_any (num : Int) (of m : Nat) (ao : Option Addr) (n c : Nat) (R : List (Int × ByteArray)) (S : List ByteArray) (w : World) (hR : CArg w ao n c R) (hl : n ≤ 100000) (hS : S.length = of) (hs : (catS S).length ≤ 100000000) (ho : of ≤ 100000) (hm : m ≤ of) (hall : ∀ i, i < m → findC R (i : Int) = some (se S i)) (hend : m = of ∨ findC R (m : Int) = none) :
   Calls Try.prog 10 #[rfV num of (.slice ao n c)] w fun e w' => e = .returned (.tuple #[.string (if m = of then txt (catS S) else ⟨#[]⟩), .bool (decide (m = of))]) ∧ Below w.heap.size w w' := by
  have X0 := blk_new w 33 #[.int .i64 num, .int .i64 of, .slice ao n c]
  have B0 := belowA w (.cells #[.int .i64 num, .int .i64 of, .slice ao n c] 33)
  unfold rfV
  generalize hw0 : w.alloc (.cells #[.int .i64 num, .int .i64 of, .slice ao n c] 33) = w0 at *
  have HR : Hid (CArg w ao n c R) := hR
  have HA : Hid (∀ i, i < m → findC R (i : Int) = some (se S i)) := hall
  have HE : Hid (m = of ∨ findC R (m : Int) = none) := hend
  have hz : txt (catS (S.take 0)) = ⟨#[]⟩ := rfl
  obtain ⟨TT, hTT⟩ : ∃ T, T = (if m = of then txt (catS S) else ⟨#[]⟩) := ⟨_, rfl⟩
  obtain ⟨bb, hbb⟩ : ∃ b, b = decide (m = of) := ⟨_, rfl⟩
  rw [← hTT, ← hbb]
  have HTT : Hid (TT = (if m = of then txt (catS S) else ⟨#[]⟩)) := hTT
  have HBB : Hid (bb = decide (m = of)) := hbb
  clear hTT hbb
  have HS : Hid (S.length = of) := hS
  clear hR hall hend hS
  go_enter Try.func10, Try.ntmps10
  go_wp2_with fail
  go_loopg [4, 5] of (fun gg s4 s5 wr => ∃ j : Nat, j ≤ m ∧ gg = of - j ∧ s4 = .string (txt (catS (S.take j))) ∧ s5 = .int .i64 (j : Int) ∧ Below w0.heap.size w0 wr)
  case atStart => exact ⟨0, by omega, by omega, by rw [hz], rfl, Below.refl _ _⟩
  case round =>
  obtain ⟨j, hj, rfl, rfl, rfl, BX⟩ := hrel
  have X1 := X0.below BX
  have c1 : wr.cell? ⟨w.heap.size, 1, none⟩ = some (.int .i64 (of : Int)) := X1.cell 1 rfl
  have FD := rfind_any num of j ao n c R wr (HR.out.below (below_then B0 BX)) hl
  unfold rfV at FD
  clear hz
  rcases Nat.lt_or_ge j of with hlt | hge
  · have d5 : (j : Int) < (of : Int) := by omega
    rcases Nat.lt_or_ge j m with hlm | hgm
    · rw [HA.out j hlm] at FD
      simp only [Option.getD_some, Option.isSome_some] at FD
      have sadd := fun W => rf_run S j (by rw [HS.out]; exact hlt) hs W
      obtain ⟨J2, hJ2⟩ : ∃ J, J = txt (catS (S.take (j + 1))) := ⟨_, rfl⟩
      have HJ2 : Hid (J2 = txt (catS (S.take (j + 1)))) := hJ2
      rw [← hJ2] at sadd
      clear hJ2
      generalize txt (catS (S.take j)) = J1 at *
      generalize se S j = x at *
      go_wp2_with (first
        | (go_at_call 15; refine FD.mono ?_; rintro e w2 ⟨rfl, B2⟩)
        | (refine wpList_load_row rfl 33 _ rfl w.heap.size rfl 33 _ (0, 0) _ X1 Try.underlying33 rfl Try.infoRf ?_))
      go_roundg (of - (j + 1))
      case measure => omega
      case rel => exact ⟨j + 1, by omega, rfl, by rw [HJ2.out], by go_num, below_then BX B2⟩
    · obtain rfl : j = m := by omega
      have hno : findC R (j : Int) = none := HE.out.resolve_left (by omega)
      rw [hno] at FD
      simp only [Option.getD_none, Option.isSome_none] at FD
      have HD : Hid (¬ j = of) := (by unfold Hid; omega)
      clear hno
      generalize txt (catS (S.take j)) = J1 at *
      go_wp2_with (first
        | (go_at_call 15; refine FD.mono ?_; rintro e w2 ⟨rfl, B2⟩)
        | (refine wpList_load_row rfl 33 _ rfl w.heap.size rfl 33 _ (0, 0) _ X1 Try.underlying33 rfl Try.infoRf ?_))
      go_ret2
      have e1 := HTT.out
      have e2 := HBB.out
      rw [if_neg HD.out] at e1
      rw [decide_eq_false HD.out] at e2
      subst e1 e2
      exact ⟨rfl, below_then B0 (below_then BX B2)⟩
  · obtain rfl : j = of := by omega
    obtain rfl : m = j := by omega
    rw [List.take_of_length_le (by rw [HS.out]; omega)]
    clear FD
    obtain ⟨J1, hJ1⟩ : ∃ J, J = txt (catS S) := ⟨_, rfl⟩
    have HJ1 : Hid (J1 = txt (catS S)) := hJ1
    rw [← hJ1]
    clear hJ1
    go_wp2_with fail
    go_ret2
    have e1 := HTT.out
    have e2 := HBB.out
    simp only [if_true, decide_true, ← HJ1.out] at e1 e2
    subst e1 e2
    exact ⟨rfl, below_then B0 BX⟩
/-- Up to the first part that hasn't come. -/
theorem first_not (C : List Bool) : ∀ n, ∃ m, m ≤ n ∧ (∀ i, i < m → be C i = true) ∧ (m = n ∨ be C m = false)
  | 0 => ⟨0, by omega, fun i hi => by omega, Or.inl rfl⟩
  | n + 1 => by
    obtain ⟨m, h1, h2, h3⟩ := first_not C n
    rcases h3 with h3 | h3
    · subst h3
      cases hb : be C m with
      | false => exact ⟨m, by omega, h2, Or.inr hb⟩
      | true =>
        refine ⟨m + 1, by omega, fun i hi => ?_, Or.inl rfl⟩
        rcases Nat.lt_succ_iff_lt_or_eq.1 hi with h | h
        · exact h2 i h
        · rw [h]; exact hb
    · exact ⟨m, by omega, h2, Or.inr h3⟩
theorem leftL_some {C : List Bool} : ∀ n k, k < n → be C k = false → 0 < (leftL C n).length := fun n k hk hb => by
  refine Nat.pos_of_ne_zero (fun h => ?_)
  have := leftL_nil n h k hk
  rw [hb] at this
  cases this
/-- What the program's state and the document's say is the same. -/
structure Both (S : List ByteArray) (C : List Bool) (n : Nat) (R : List (Int × ByteArray)) : Prop where
  lenS : S.length = n
  lenC : C.length = n
  find : ∀ i, i < n → findC R (i : Int) = if be C i = true then some (se S i) else none
  cnt : R.length + (leftL C n).length = n
  small : ∀ s ∈ S, s.size ≤ 4096
theorem both_new (n : Nat) : Both (List.replicate n ⟨#[]⟩) (List.replicate n false) n [] := by
  refine ⟨by simp, by simp, fun i _ => by rw [be_none]; rfl, by rw [leftL_none]; simp, fun s hs => ?_⟩
  rw [(List.mem_replicate.1 hs).2]
  show (0 : Nat) ≤ 4096
  omega
theorem Both.new {S : List ByteArray} {C : List Bool} {n k : Nat} {R : List (Int × ByteArray)} (h : Both S C n R) (hk : k < n) (hb : be C k = false) (pt : ByteArray) (hp : pt.size ≤ 4096) : Both (S.set k pt) (C.set k true) n (R ++ [((k : Int), pt)]) := by
  refine ⟨by rw [List.length_set]; exact h.lenS, by rw [List.length_set]; exact h.lenC, fun i hi => ?_, ?_, fun s hs => ?_⟩
  · rw [findC_snoc, h.find i hi, be_set C k i (by rw [h.lenC]; exact hk), se_set S k i pt (by rw [h.lenS]; exact hk)]
    by_cases e : i = k
    · subst e; rw [hb]; simp
    · have e2 : ¬ (k : Int) = (i : Int) := by omega
      cases hbi : be C i <;> simp [e, e2]
  · have hl := leftL_less C n k hb n (Nat.le_refl _)
    rw [if_pos hk] at hl
    have e : gotB C n k = C.set k true := by unfold gotB fillB; rw [List.take_of_length_le (by rw [h.lenC]; omega), h.lenC]; simp
    rw [e] at hl
    have := h.cnt
    rw [List.length_append, List.length_singleton]
    omega
  · rcases List.mem_or_eq_of_mem_set hs with h1 | h1
    · exact h.small s h1
    · rw [h1]; exact hp
theorem catS_small : ∀ (S : List ByteArray), (∀ s ∈ S, s.size ≤ 4096) → (catS S).length ≤ S.length * 4096
  | [], _ => by simp [catS]
  | s :: S, h => by
    have ih := catS_small S (fun x hx => h x (List.mem_cons_of_mem _ hx))
    have h1 := h s List.mem_cons_self
    have h2 : s.data.toList.length = s.size := by rw [← txt_size, txt_of]
    unfold catS at *
    rw [List.map_cons, List.flatten_cons, List.length_append, List.length_cons, h2, Nat.succ_mul]
    omega
theorem both_code {S : List ByteArray} {C : List Bool} {n : Nat} {R : List (Int × ByteArray)} (h : Both S C n R) (h0 : 0 < n) (num pn pa po : Int) (pt : ByteArray) : rtakeN num n R pn pa po pt = takeN num n n S C pn pa po pt := by
  unfold rtakeN takeN
  rw [if_neg (show ¬ ¬ (0 < n ∧ n = n) from not_not_intro ⟨h0, rfl⟩)]
  by_cases q1 : pn ≠ num
  · rw [if_pos q1, if_pos q1]
  rw [if_neg q1, if_neg q1]
  by_cases q2 : po ≠ (n : Int) ∨ pa < 0 ∨ (n : Int) ≤ pa
  · rw [if_pos q2, if_pos q2]
  rw [if_neg q2, if_neg q2]
  by_cases q3 : 4096 < pt.size
  · rw [if_pos q3, if_pos q3]
  rw [if_neg q3, if_neg q3]
  have hpa : 0 ≤ pa ∧ pa < n := by
    refine ⟨?_, ?_⟩
    · exact Int.not_lt.1 (fun e => q2 (Or.inr (Or.inl e)))
    · exact Int.not_le.1 (fun e => q2 (Or.inr (Or.inr e)))
  obtain ⟨k, rfl⟩ : ∃ k : Nat, pa = (k : Int) := ⟨pa.toNat, by omega⟩
  rw [h.find k (by omega), Int.toNat_natCast]
  cases hb : be C k with
  | false => simp
  | true =>
    by_cases e : se S k = pt
    · simp [e]
    · simp [e]
end Go.Proofs.Ytcnkjkmmngckgaa
