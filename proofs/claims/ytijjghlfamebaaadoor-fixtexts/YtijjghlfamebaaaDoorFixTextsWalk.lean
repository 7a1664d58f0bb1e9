/- The Go text of FixTexts returns true at every number and every text, where the library's table of powers of ten lies as its text lays it. -/
import Derived.Test.YtijjghlfamebaaaDoorRParse
import Derived.Test.YtijjghlfamebaaaDoorFixN
namespace Go.Proofs.YtijjghlfamebaaaDoor
open Go.ChangeShapes Go.WideShapes Go.ChangeAt Go.RowKit
set_option linter.unusedVariables false
theorem text_len (x : Int) (h1 : -2147483648 ≤ x) (h2 : x ≤ 2147483647) : (textL x).length ≤ 100 := by
  unfold textL
  rw [List.length_append, List.length_append, Lib.itoa_nonneg]
  have a := dec_len 6 (x.natAbs / 65536) (by omega) (by decide)
  have b := partL_len (x.natAbs % 65536)
  split <;> simp <;> omega
theorem par_err (l : List UInt8) : 0 ≤ (parN l).2 ∧ (parN l).2 ≤ 3 := by
  unfold parN
  split
  · split <;> simp
  · simp
set_option maxRecDepth 100000 in
set_option maxHeartbeats 6400000 in
theorem texts_short (a : Int) (s : ByteArray) (a1 : -2147483648 ≤ a) (a2 : a ≤ 2147483647) (hs : s.size ≤ 100) (w : World) (hp : Pw w) (s0 : ByteArray) (hs0 : (s0 = s) ∨ (100 < s0.size ∧ s0.extract 0 100 = s)) (hm : s0.size ≤ maxLen) :
    Calls Tryd.prog 5 #[.int .i32 a, .string s0] w fun e w' => e = .returned (.bool true) ∧ Below w.heap.size w w' := by
  unfold maxLen at hm
  have ct : ∀ w, Pw w → Calls Tryd.prog 22 #[.int .i32 a] w fun e w' => e = .returned (.string ⟨(textL a).toArray⟩) ∧ Below w.heap.size w w' := fun w h => text_any a w a1 a2 h
  have crt : ∀ w, Calls Tryd.prog 25 #[.int .i32 a] w fun e w' => e = .returned (.string ⟨(textL a).toArray⟩) ∧ w' = w := fun w => refText_any a w a1 a2
  have cps : ∀ w, Calls Tryd.prog 23 #[.string s] w fun e w' => e = .returned (.tuple #[.int .i32 (parN s.data.toList).1, .int .i64 (parN s.data.toList).2]) ∧ Below w.heap.size w w' := fun w => parse_any s w (by omega)
  have crp : ∀ w, Calls Tryd.prog 24 #[.string s] w fun e w' => e = .returned (.tuple #[.int .i32 (parN s.data.toList).1, .int .i64 (parN s.data.toList).2]) ∧ Below w.heap.size w w' := fun w => refParse_any s w (by omega)
  have cpt : ∀ w, Calls Tryd.prog 23 #[.string ⟨(textL a).toArray⟩] w fun e w' => e = .returned (.tuple #[.int .i32 (parN (textL a)).1, .int .i64 (parN (textL a)).2]) ∧ Below w.heap.size w w' := fun w =>
    parse_any ⟨(textL a).toArray⟩ w (by rw [sz_mk]; have := text_len a a1 a2; omega)
  obtain ⟨t, ht⟩ : ∃ t : ByteArray, t = ⟨(textL a).toArray⟩ := ⟨_, rfl⟩
  rw [← ht] at ct crt cpt
  obtain ⟨p1, hp1⟩ : ∃ p1, p1 = (parN s.data.toList).1 := ⟨_, rfl⟩
  obtain ⟨p2, hp2⟩ : ∃ p2, p2 = (parN s.data.toList).2 := ⟨_, rfl⟩
  rw [← hp1, ← hp2] at cps crp
  have hp3 : 0 ≤ p2 ∧ p2 ≤ 3 := by rw [hp2]; exact par_err _
  have hpt := par_text a a1 a2
  clear ht hp1 hp2
  by_cases ha : a < -2147483647
  · rw [hpt, if_pos ha] at cpt
    clear hpt
    rcases hs0 with rfl | ⟨h100, hex⟩
    all_goals
      go_enter Tryd.func5, Tryd.ntmps5
      go_wp2_with (first | (go_at_call 22; refine (ct _ hp).mono ?_; rintro e w1 ⟨rfl, hb1⟩) | (go_at_call_of 23 t; refine (cpt _).mono ?_; rintro e w1 ⟨rfl, hb5⟩) | (go_at_call 23; refine (cps _).mono ?_; rintro e w1 ⟨rfl, hb2⟩) | (go_at_call 24; refine (crp _).mono ?_; rintro e w1 ⟨rfl, hb3⟩) | (go_at_call 9; refine (awake_any _).mono ?_; rintro e w1 ⟨rfl, hb4⟩) | (go_at_call 25; refine (crt _).mono ?_; rintro e w1 ⟨rfl, rfl⟩))
      all_goals
        go_ret
        exact ⟨by first | rfl | simp, below_then (below_then (below_then (below_then (by assumption) (by assumption)) (by assumption)) (by assumption)) (by assumption)⟩
  · rw [hpt, if_neg ha] at cpt
    clear hpt
    rcases hs0 with rfl | ⟨h100, hex⟩
    all_goals
      go_enter Tryd.func5, Tryd.ntmps5
      go_wp2_with (first | (go_at_call 22; refine (ct _ hp).mono ?_; rintro e w1 ⟨rfl, hb1⟩) | (go_at_call_of 23 t; refine (cpt _).mono ?_; rintro e w1 ⟨rfl, hb5⟩) | (go_at_call 23; refine (cps _).mono ?_; rintro e w1 ⟨rfl, hb2⟩) | (go_at_call 24; refine (crp _).mono ?_; rintro e w1 ⟨rfl, hb3⟩) | (go_at_call 9; refine (awake_any _).mono ?_; rintro e w1 ⟨rfl, hb4⟩) | (go_at_call 25; refine (crt _).mono ?_; rintro e w1 ⟨rfl, rfl⟩))
      all_goals
        go_ret
        exact ⟨by first | rfl | simp, below_then (below_then (below_then (below_then (by assumption) (by assumption)) (by assumption)) (by assumption)) (by assumption)⟩
theorem fixTexts_walk (a : Int) (s : ByteArray) (a1 : -2147483648 ≤ a) (a2 : a ≤ 2147483647) (hm : s.size ≤ maxLen) (w : World) (hp : Pw w) :
    Calls Tryd.prog 5 #[.int .i32 a, .string s] w fun e w' => e = .returned (.bool true) ∧ Below w.heap.size w w' := by
  by_cases h : s.size ≤ 100
  · exact texts_short a s a1 a2 h w hp s (.inl rfl) hm
  · exact texts_short a (s.extract 0 100) a1 a2 (by rw [ext_take, sz_mk, List.length_take]; omega) w hp s (.inr ⟨by omega, rfl⟩) hm
end Go.Proofs.YtijjghlfamebaaaDoor
