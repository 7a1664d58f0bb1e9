/- Texts are at most 24 long; the Go text of FixSpelled returns true outside of 0 to 99, where the library's table of powers of ten lies as its text lays it. -/
import Derived.Test.YtplflpkmcoojmaaDoorSNum
import Derived.Test.YtplflpkmcoojmaaDoorParse
namespace Go.Proofs.YtplflpkmcoojmaaDoor
open Go.ChangeShapes Go.WideShapes Go.ChangeAt Go.RowKit
set_option linter.unusedVariables false
theorem text_len24 (x : Int) (h1 : -2147483648 ≤ x) (h2 : x ≤ 2147483647) : (textL x).length ≤ 24 := by
  unfold textL
  rw [List.length_append, List.length_append, Lib.itoa_nonneg]
  have a := dec_len 5 (x.natAbs / 65536) (by omega) (by decide)
  have b := partL_len (x.natAbs % 65536)
  split <;> simp <;> omega
theorem get_mk (l : List UInt8) (k : Nat) (h : k < (⟨l.toArray⟩ : ByteArray).size) : (⟨l.toArray⟩ : ByteArray)[k] = l[k]'(by rwa [sz_mk] at h) := rfl
set_option maxRecDepth 100000 in
set_option maxHeartbeats 6400000 in
theorem spelled_out (a front back : Int) (a1 : -2147483648 ≤ a) (a2 : a ≤ 2147483647) (f1 : -9223372036854775808 ≤ front) (f2 : front ≤ 9223372036854775807) (b1 : -9223372036854775808 ≤ back) (b2 : back ≤ 9223372036854775807) (w : World) (hP : Pw w) (ho : a < 0 ∨ 6488064 < a) :
    Calls Tryd.prog 3 #[.int .i32 a, .int .i64 front, .int .i64 back] w fun e w' => e = .returned (.bool true) ∧ Below w.heap.size w w' := by
  obtain ⟨S, hS⟩ : ∃ S : ByteArray, S = ⟨(textL a).toArray⟩ := ⟨_, rfl⟩
  have hl : S.size ≤ 24 := by rw [hS, sz_mk]; exact text_len24 a a1 a2
  have ct := text_any a w a1 a2 hP
  rw [← hS] at ct
  clear hS
  rcases ho with ho | ho
  all_goals
    go_enter Tryd.func3, Tryd.ntmps3
    go_wp2_with (first | (go_at_call 4; refine ct.mono ?_; rintro e w1 ⟨rfl, hb1⟩) | (go_at_call 5; refine (awake_any _).mono ?_; rintro e w2 ⟨rfl, hb2⟩))
    all_goals
      go_ret
      exact ⟨by first | rfl | exact ret_true (by omega), below_then hb1 hb2⟩
theorem cp_ok (S : ByteArray) (f n p b m : Nat) (hS : S.data.toList = spell f n p b) (hmn : n * 65536 + p = m) (hf : f ≤ 3) (hn : n ≤ 99) (hp : p < 65536) (hs : S.size ≤ 60) (hq : (tailL p).length + b ≤ 16) (w : World) :
    Calls Tryd.prog 6 #[.string S] w fun e w' => e = .returned (.tuple #[.int .i32 (m : Int), .int .i64 0]) ∧ Below w.heap.size w w' := by
  have h := parse_any S w (by omega)
  have e : parN (spell f n p b) = ((m : Int), 0) := by
    have e := spell_par false f n p b hf hn hp
    rw [if_pos hq, hmn] at e
    exact e
  rw [hS, e] at h
  exact h
theorem cp_bad (S : ByteArray) (f n p b : Nat) (hS : S.data.toList = spell f n p b) (hf : f ≤ 3) (hn : n ≤ 99) (hp : p < 65536) (hs : S.size ≤ 60) (hq : ¬ (tailL p).length + b ≤ 16) (w : World) :
    Calls Tryd.prog 6 #[.string S] w fun e w' => e = .returned (.tuple #[.int .i32 0, .int .i64 3]) ∧ Below w.heap.size w w' := by
  have h := parse_any S w (by omega)
  have e : parN (spell f n p b) = (0, 3) := by
    have e := spell_par false f n p b hf hn hp
    rw [if_neg hq] at e
    exact e
  rw [hS, e] at h
  exact h
theorem cp_minus (S Z : ByteArray) (f n p m : Nat) (hZ : Z = ⟨#[45]⟩ ++ S) (hS : S.data.toList = spell f n p 0) (hmn : n * 65536 + p = m) (hf : f ≤ 3) (hn : n ≤ 99) (hp : p < 65536) (hs : S.size ≤ 60) (w : World) :
    Calls Tryd.prog 6 #[.string Z] w fun e w' => e = .returned (.tuple #[.int .i32 (-(m : Int)), .int .i64 0]) ∧ Below w.heap.size w w' := by
  have h := parse_any Z w (by rw [hZ, ByteArray.size_append]; show 1 + _ ≤ _; omega)
  have htl := tail_len p
  have e : parN (45 :: spell f n p 0) = (-(m : Int), 0) := by
    have e := spell_par true f n p 0 hf hn hp
    rw [if_pos (show (tailL p).length + 0 ≤ 16 by omega), hmn] at e
    exact e
  have hd : Z.data.toList = 45 :: spell f n p 0 := by rw [hZ, ← hS]; simp
  rw [hd, e] at h
  exact h
end Go.Proofs.YtplflpkmcoojmaaDoor
