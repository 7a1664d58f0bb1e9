/- The document's Cut of send. Written by tools/gensdref2.py. -/
import Derived.Test.YtmblaigiipjmfaaSdRef
namespace Go.Proofs.Ytmblaigiipjmfaa
open Go.ChangeShapes Go.WideShapes Go.ChangeAt Go.RowKit
set_option maxHeartbeats 4000000 in
theorem rcut_bad (l : List UInt8) (I : Int) (w : World) (h : cutN l I ≠ 0) :
   Calls Try.prog 10 #[.string (txt l), .int .i64 I] w fun e w' => e = .returned (.tuple #[.slice none 0 0, .int .i64 (cutN l I)]) ∧ w' = w := by
  have hz : ((txt l).size : Int) = (l.length : Int) := by rw [txt_size]
  generalize txt l = Y at *
  unfold cutN at *
  by_cases d1 : I < 1
  · rw [if_pos d1]
    go_enter Try.func10, Try.ntmps10
    go_wp2_with fail
    go_ret2
    exact ⟨rfl, rfl⟩
  rw [if_neg d1] at *
  by_cases d2 : 4096 < I
  · rw [if_pos (Or.inl d2)]
    go_enter Try.func10, Try.ntmps10
    go_wp2_with fail
    go_ret2
    exact ⟨rfl, rfl⟩
  by_cases d3 : 512 * I < (l.length : Int)
  · rw [if_pos (Or.inr d3)]
    clear h
    go_enter Try.func10, Try.ntmps10
    go_wp2_with fail
    go_ret2
    exact ⟨rfl, rfl⟩
  · exact absurd (if_neg (by omega)) h
set_option maxHeartbeats 16000000 in
theorem rcut_ok (l : List UInt8) (z : Nat) (w : World) (h : cutN l z = 0) (hl : l.length ≤ 100000) :
   Calls Try.prog 10 #[.string (txt l), .int .i64 (z : Int)] w fun e w' => ∃ a c, e = .returned (.tuple #[.slice a (cutS l z).length c, .int .i64 0]) ∧ VOwn w' w.heap.size 9 (.slice a (cutS l z).length c) (cutS l z).length (strs (cutS l z)) ∧ Below w.heap.size w w' := by
  have d1 : ¬ (z : Int) < 1 := by intro d; unfold cutN at h; rw [if_pos d] at h; omega
  have d2 : ¬ 4096 < (z : Int) := by intro d; unfold cutN at h; rw [if_neg d1, if_pos (Or.inl d)] at h; omega
  have d3 : ¬ 512 * (z : Int) < (l.length : Int) := by intro d; unfold cutN at h; rw [if_neg d1, if_pos (Or.inr d)] at h; omega
  have hz0 : ((txt l).size : Int) = (l.length : Int) := by rw [txt_size]
  obtain ⟨Y, hY⟩ : ∃ Y, Y = txt l := ⟨_, rfl⟩
  have HY : Hid (Y = txt l) := hY
  rw [← hY] at hz0 ⊢
  clear h hY
  have O0 := vown_new w 9
  have B0 := belowA w (.cells #[] 9)
  generalize hw0 : w.alloc (.cells #[] 9) = w0 at *
  go_enter Try.func10, Try.ntmps10
  go_wp2_with fail
  go_loopg [0, 6] (l.length + 1) (fun r s0 s6 wr => ∃ (f : Nat) (t : List UInt8) (P : List ByteArray) (a : Option Addr) (c k : Nat), k = P.length ∧ r = t.length + (1 - k) ∧ t.length ≤ f ∧ k + t.length ≤ l.length + 1 ∧ s0 = .string (txt t) ∧ s6 = .slice a k c ∧ P ++ (if 0 < k ∧ t = [] then [] else (cutL z f t).map txt) = cutS l z ∧ VOwn wr w.heap.size 9 (.slice a k c) k (strs P) ∧ Below w.heap.size w wr)
  case atStart => exact ⟨l.length, l, [], _, 0, 0, rfl, rfl, Nat.le_refl _, by omega, by rw [HY.out], rfl, by simp [cutS], O0, B0⟩
  case round =>
  obtain ⟨f, t, P, a, c, k, hk, rfl, ht, hP, rfl, rfl, hc, O, B⟩ := hrel
  have HK : Hid (k = P.length) := hk
  have zt : ((txt t).size : Int) = (t.length : Int) := by rw [txt_size]
  have zB := B.size
  clear hw0 O0 B0 hk hz0 HY
  by_cases d0 : 0 < k ∧ t = []
  · rw [if_pos d0, List.append_nil] at hc
    obtain ⟨d0, rfl⟩ := d0
    have d0' : ¬ (k : Int) = 0 := by omega
    have es : (txt []).toList.isEmpty = true := by rw [ByteArray.toList_eq, txt_list]; rfl
    clear zt
    generalize txt [] = T at *
    go_wp2_with fail
    go_ret2
    have e8 : (cutS l z).length = k := by rw [← hc, HK.out]
    rw [e8, ← hc]
    exact ⟨a, c, rfl, O, B⟩
  rw [if_neg d0] at hc
  by_cases d7 : k = 0
  · subst d7
    by_cases d4 : z < t.length
    · have d4' : ¬ (t.length : Int) < (z : Int) := by omega
      obtain ⟨g, rfl, e1, h1⟩ := cutL_more (by omega) d4 ht
      rw [e1] at hc
      have hc' := snoc_assoc (F := cutL z l.length l) hc
      clear e1 hc d0
      have SL := slice_to t z (z : Int) rfl (by omega)
      have SF := slice_fr t z (z : Int) rfl (by omega)
      have hdl : (t.drop z).length = t.length - z := List.length_drop
      obtain ⟨x, hx⟩ : ∃ x, x = txt (t.take z) := ⟨_, rfl⟩
      obtain ⟨y, hy⟩ : ∃ y, y = txt (t.drop z) := ⟨_, rfl⟩
      have Hy : Hid (y = txt (t.drop z)) := hy
      rw [← hx] at SL hc'
      rw [← hy] at SF
      clear hx hy
      generalize txt t = T at *
      have O2 := O.below (belowA wr (.cells #[.string x] 9))
      have X6 : (wr.alloc (.cells #[.string x] 9)).cell? ⟨wr.heap.size, 0, none⟩ = some (.string x) := (blk_new wr _ _).cell 0 rfl
      have B3 := below_then B (belowA wr (.cells #[.string x] 9))
      have z3 := B3.size
      generalize hw3 : wr.alloc (.cells #[.string x] 9) = w3 at *
      go_wp2_with (first
        | (at_builtin; refine wpList_append_val rfl _ _ 9 24 (.string ⟨#[]⟩) 16 Try.underlying24 Try.infoStr rfl rfl w.heap.size _ _ _ rfl O2 wr.heap.size (.string x) rfl X6 rfl (by omega) (by omega) (by omega) ?_; intro v' w7 O7 B7 G7; obtain ⟨a7, c7, rfl, _⟩ := VOwn.arg O7))
      rw [Nat.zero_add] at O7
      go_roundg ((t.drop z).length + (1 - 1))
      case measure => rw [hdl]; omega
      case rel =>
        have e9 : strs (P ++ [x]) = strs P ++ [.string x] := by simp [strs]
        refine ⟨g, t.drop z, P ++ [x], a7, c7, 0 + 1, by rw [List.length_append, List.length_singleton, ← HK.out], rfl, h1, by rw [hdl]; omega, by rw [Hy.out], rfl, ?_, by rw [e9]; exact O7, B3.trans B7⟩
        rw [if_neg (fun e => by have := congrArg List.length e.2; simp at this; omega)]
        exact hc'
    · rw [cutL_end d4] at hc
      have hc' : P ++ [txt t] = cutS l z := by rw [← hc]; simp
      clear hc d0
      have SL := slice_to t t.length (t.length : Int) rfl (Nat.le_refl _)
      have SF := slice_fr t t.length (t.length : Int) rfl (Nat.le_refl _)
      rw [List.take_of_length_le (Nat.le_refl _)] at SL
      rw [List.drop_of_length_le (Nat.le_refl _)] at SF
      obtain ⟨y, hy⟩ : ∃ y, y = txt ([] : List UInt8) := ⟨_, rfl⟩
      have Hy : Hid (y = txt []) := hy
      rw [← hy] at SF
      clear hy
      have rel : ∀ (a7 : Option Addr) (c7 : Nat) (w7 : World) (T : ByteArray), P ++ [T] = cutS l z → VOwn w7 w.heap.size 9 (.slice a7 1 c7) 1 (strs P ++ [.string T]) → Below w.heap.size w w7 → ∃ (f : Nat) (t' : List UInt8) (P : List ByteArray) (a : Option Addr) (c k' : Nat), k' = P.length ∧ 0 = t'.length + (1 - k') ∧ t'.length ≤ f ∧ k' + t'.length ≤ l.length + 1 ∧ Value.string y = .string (txt t') ∧ Value.slice a7 1 c7 = .slice a k' c ∧ P ++ (if 0 < k' ∧ t' = [] then [] else (cutL z f t').map txt) = cutS l z ∧ VOwn w7 w.heap.size 9 (.slice a k' c) k' (strs P) ∧ Below w.heap.size w w7 := fun a7 c7 w7 T hT O7 B7 => by
        have e9 : strs (P ++ [T]) = strs P ++ [.string T] := by simp [strs]
        refine ⟨0, [], P ++ [T], a7, c7, 0 + 1, by rw [List.length_append, List.length_singleton, ← HK.out], by simp, by simp, by rw [List.length_nil]; omega, by rw [Hy.out], rfl, ?_, by rw [e9]; exact O7, B7⟩
        rw [if_pos ⟨by omega, rfl⟩, List.append_nil]
        exact hT
      generalize txt t = T at *
      have REL : Hid (_ : Prop) := rel
      clear rel
      by_cases d5 : t.length < z
      · have d5' : (t.length : Int) < (z : Int) := by omega
        have O2 := O.below (belowA wr (.cells #[.string T] 9))
        have X6 : (wr.alloc (.cells #[.string T] 9)).cell? ⟨wr.heap.size, 0, none⟩ = some (.string T) := (blk_new wr _ _).cell 0 rfl
        have B3 := below_then B (belowA wr (.cells #[.string T] 9))
        have z3 := B3.size
        generalize hw3 : wr.alloc (.cells #[.string T] 9) = w3 at *
        go_wp2_with (first
          | (at_builtin; refine wpList_append_val rfl _ _ 9 24 (.string ⟨#[]⟩) 16 Try.underlying24 Try.infoStr rfl rfl w.heap.size _ _ _ rfl O2 wr.heap.size (.string T) rfl X6 rfl (by omega) (by omega) (by omega) ?_; intro v' w7 O7 B7 G7; obtain ⟨a7, c7, rfl, _⟩ := VOwn.arg O7))
        rw [Nat.zero_add] at O7
        go_roundg 0
        case measure => omega
        case rel => exact REL.out a7 c7 w7 T hc' O7 (B3.trans B7)
      · have d5' : ¬ (t.length : Int) < (z : Int) := by omega
        have d6 : (z : Int) = (t.length : Int) := by omega
        rw [← d6] at SL SF zt
        clear d6 d5'
        have O2 := O.below (belowA wr (.cells #[.string T] 9))
        have X6 : (wr.alloc (.cells #[.string T] 9)).cell? ⟨wr.heap.size, 0, none⟩ = some (.string T) := (blk_new wr _ _).cell 0 rfl
        have B3 := below_then B (belowA wr (.cells #[.string T] 9))
        have z3 := B3.size
        generalize hw3 : wr.alloc (.cells #[.string T] 9) = w3 at *
        go_wp2_with (first
          | (at_builtin; refine wpList_append_val rfl _ _ 9 24 (.string ⟨#[]⟩) 16 Try.underlying24 Try.infoStr rfl rfl w.heap.size _ _ _ rfl O2 wr.heap.size (.string T) rfl X6 rfl (by omega) (by omega) (by omega) ?_; intro v' w7 O7 B7 G7; obtain ⟨a7, c7, rfl, _⟩ := VOwn.arg O7))
        rw [Nat.zero_add] at O7
        go_roundg 0
        case measure => omega
        case rel => exact REL.out a7 c7 w7 T hc' O7 (B3.trans B7)
  · have d7' : ¬ (k : Int) = 0 := by omega
    have htn : t ≠ [] := fun e => d0 ⟨by omega, e⟩
    have es : (txt t).toList.isEmpty = false := by rw [ByteArray.toList_eq, txt_list]; simpa using htn
    have htl : 0 < t.length := List.length_pos_iff.2 htn
    clear htn
    by_cases d4 : z < t.length
    · have d4' : ¬ (t.length : Int) < (z : Int) := by omega
      obtain ⟨g, rfl, e1, h1⟩ := cutL_more (by omega) d4 ht
      rw [e1] at hc
      have hc' := snoc_assoc (F := cutL z l.length l) hc
      clear e1 hc d0
      have SL := slice_to t z (z : Int) rfl (by omega)
      have SF := slice_fr t z (z : Int) rfl (by omega)
      have hdl : (t.drop z).length = t.length - z := List.length_drop
      obtain ⟨x, hx⟩ : ∃ x, x = txt (t.take z) := ⟨_, rfl⟩
      obtain ⟨y, hy⟩ : ∃ y, y = txt (t.drop z) := ⟨_, rfl⟩
      have Hy : Hid (y = txt (t.drop z)) := hy
      rw [← hx] at SL hc'
      rw [← hy] at SF
      clear hx hy
      generalize txt t = T at *
      have O2 := O.below (belowA wr (.cells #[.string x] 9))
      have X6 : (wr.alloc (.cells #[.string x] 9)).cell? ⟨wr.heap.size, 0, none⟩ = some (.string x) := (blk_new wr _ _).cell 0 rfl
      have B3 := below_then B (belowA wr (.cells #[.string x] 9))
      have z3 := B3.size
      generalize hw3 : wr.alloc (.cells #[.string x] 9) = w3 at *
      go_wp2_with (first
        | (at_builtin; refine wpList_append_val rfl _ _ 9 24 (.string ⟨#[]⟩) 16 Try.underlying24 Try.infoStr rfl rfl w.heap.size _ _ _ rfl O2 wr.heap.size (.string x) rfl X6 rfl (by omega) (by omega) (by omega) ?_; intro v' w7 O7 B7 G7; obtain ⟨a7, c7, rfl, _⟩ := VOwn.arg O7))
      go_roundg ((t.drop z).length + (1 - (k + 1)))
      case measure => rw [hdl]; omega
      case rel =>
        have e9 : strs (P ++ [x]) = strs P ++ [.string x] := by simp [strs]
        refine ⟨g, t.drop z, P ++ [x], a7, c7, k + 1, by rw [List.length_append, List.length_singleton, HK.out], rfl, h1, by rw [hdl]; omega, by rw [Hy.out], rfl, ?_, by rw [e9]; exact O7, B3.trans B7⟩
        rw [if_neg (fun e => by have := congrArg List.length e.2; simp at this; omega)]
        exact hc'
    · rw [cutL_end d4] at hc
      have hc' : P ++ [txt t] = cutS l z := by rw [← hc]; simp
      clear hc d0
      have SL := slice_to t t.length (t.length : Int) rfl (Nat.le_refl _)
      have SF := slice_fr t t.length (t.length : Int) rfl (Nat.le_refl _)
      rw [List.take_of_length_le (Nat.le_refl _)] at SL
      rw [List.drop_of_length_le (Nat.le_refl _)] at SF
      obtain ⟨y, hy⟩ : ∃ y, y = txt ([] : List UInt8) := ⟨_, rfl⟩
      have Hy : Hid (y = txt []) := hy
      rw [← hy] at SF
      clear hy
      have rel : ∀ (a7 : Option Addr) (c7 : Nat) (w7 : World) (T : ByteArray), P ++ [T] = cutS l z → VOwn w7 w.heap.size 9 (.slice a7 (k + 1) c7) (k + 1) (strs P ++ [.string T]) → Below w.heap.size w w7 → ∃ (f : Nat) (t' : List UInt8) (P : List ByteArray) (a : Option Addr) (c k' : Nat), k' = P.length ∧ 0 = t'.length + (1 - k') ∧ t'.length ≤ f ∧ k' + t'.length ≤ l.length + 1 ∧ Value.string y = .string (txt t') ∧ Value.slice a7 (k + 1) c7 = .slice a k' c ∧ P ++ (if 0 < k' ∧ t' = [] then [] else (cutL z f t').map txt) = cutS l z ∧ VOwn w7 w.heap.size 9 (.slice a k' c) k' (strs P) ∧ Below w.heap.size w w7 := fun a7 c7 w7 T hT O7 B7 => by
        have e9 : strs (P ++ [T]) = strs P ++ [.string T] := by simp [strs]
        refine ⟨0, [], P ++ [T], a7, c7, k + 1, by rw [List.length_append, List.length_singleton, HK.out], by simp, by simp, by rw [List.length_nil]; omega, by rw [Hy.out], rfl, ?_, by rw [e9]; exact O7, B7⟩
        rw [if_pos ⟨by omega, rfl⟩, List.append_nil]
        exact hT
      generalize txt t = T at *
      have REL : Hid (_ : Prop) := rel
      clear rel
      by_cases d5 : t.length < z
      · have d5' : (t.length : Int) < (z : Int) := by omega
        have O2 := O.below (belowA wr (.cells #[.string T] 9))
        have X6 : (wr.alloc (.cells #[.string T] 9)).cell? ⟨wr.heap.size, 0, none⟩ = some (.string T) := (blk_new wr _ _).cell 0 rfl
        have B3 := below_then B (belowA wr (.cells #[.string T] 9))
        have z3 := B3.size
        generalize hw3 : wr.alloc (.cells #[.string T] 9) = w3 at *
        go_wp2_with (first
          | (at_builtin; refine wpList_append_val rfl _ _ 9 24 (.string ⟨#[]⟩) 16 Try.underlying24 Try.infoStr rfl rfl w.heap.size _ _ _ rfl O2 wr.heap.size (.string T) rfl X6 rfl (by omega) (by omega) (by omega) ?_; intro v' w7 O7 B7 G7; obtain ⟨a7, c7, rfl, _⟩ := VOwn.arg O7))
        go_roundg 0
        case measure => omega
        case rel => exact REL.out a7 c7 w7 T hc' O7 (B3.trans B7)
      · have d5' : ¬ (t.length : Int) < (z : Int) := by omega
        have d6 : (z : Int) = (t.length : Int) := by omega
        rw [← d6] at SL SF zt
        clear d6 d5'
        have O2 := O.below (belowA wr (.cells #[.string T] 9))
        have X6 : (wr.alloc (.cells #[.string T] 9)).cell? ⟨wr.heap.size, 0, none⟩ = some (.string T) := (blk_new wr _ _).cell 0 rfl
        have B3 := below_then B (belowA wr (.cells #[.string T] 9))
        have z3 := B3.size
        generalize hw3 : wr.alloc (.cells #[.string T] 9) = w3 at *
        go_wp2_with (first
          | (at_builtin; refine wpList_append_val rfl _ _ 9 24 (.string ⟨#[]⟩) 16 Try.underlying24 Try.infoStr rfl rfl w.heap.size _ _ _ rfl O2 wr.heap.size (.string T) rfl X6 rfl (by omega) (by omega) (by omega) ?_; intro v' w7 O7 B7 G7; obtain ⟨a7, c7, rfl, _⟩ := VOwn.arg O7))
        go_roundg 0
        case measure => omega
        case rel => exact REL.out a7 c7 w7 T hc' O7 (B3.trans B7)
end Go.Proofs.Ytmblaigiipjmfaa
