/- Any call on a net and on the document's: both go on alike. -/
import Derived.Test.YtgbljkbiigcofaaNDoes7
import Derived.Test.YtgbljkbiigcofaaNDoes8
import Derived.Test.YtgbljkbiigcofaaNDoes6
import Derived.Test.YtgbljkbiigcofaaNView
namespace Go.Proofs.Ytgbljkbiigcofaa
open Go.ChangeShapes Go.WideShapes Go.ChangeAt Go.RowKit
theorem does_any (b : Nat) (ao : Option Addr) (c : Nat) (L : List Pc) (lost : Int) (a : Act5) (w : World) (h : PI b w ao c L lost) (hq : 0 ≤ lost ∧ lost < 1000000) (hl : L.length ≤ 60) (ha : a.ok) :
   Calls Try.prog 9 #[.pointer (some ⟨b, 0, none⟩), .agg #[.slice ao L.length c, .int .i64 lost], .agg #[.int .i64 a.kind, .int .i64 a.i, .int .i64 a.at_, .string a.fr, .int .u32 a.bits]] w (DR b w L lost) := by
  obtain ⟨K, I, T, F, X⟩ := a
  obtain ⟨_, _, hT, hX⟩ := ha
  simp only at hT hX ⊢
  by_cases k1 : K = 1
  · subst k1
    by_cases hi : 0 ≤ I ∧ I < 8
    · exact does_send_ok b I T X ao c L lost F w h hq.1 hi.1 hi.2 hl
    · exact does_send_arg b I T X ao c L lost F w h hq.1 (by omega)
  by_cases hi : I < 0 ∨ (L.length : Int) ≤ I
  · by_cases k2 : K = 2
    · subst k2; exact does_take_none b I T X ao c L lost F w h hq.1 hi
    by_cases k3 : K = 3
    · subst k3; exact does_lose_none b ao c L lost I T F X w h hq.1 hi
    by_cases k4 : K = 4
    · subst k4; exact does_move_none b ao c L lost I T F X w h hq.1 hi
    by_cases k5 : K = 5
    · subst k5; exact does_turn_none b I T X ao c L lost F w h hq.1 hi
    by_cases k6 : K = 6
    · subst k6; exact does_cut b I T X ao c L lost F w h hq hl
    · exact does_other b ao c L lost K I T F X w h hq.1 k1 k2 k3 k4 k5 k6
  · obtain ⟨j, rfl⟩ : ∃ j : Nat, I = j := ⟨I.toNat, by omega⟩
    have hj : j < L.length := by omega
    by_cases k2 : K = 2
    · subst k2; exact does_take_ok b j T X ao c L lost F w h hq.1 hj hl
    by_cases k3 : K = 3
    · subst k3; exact does_lose_ok b j ao c L lost T F X w h hq hj hl
    by_cases k4 : K = 4
    · subst k4; exact does_move_ok b j ao c L lost T F X w h hq.1 hj hl
    by_cases k5 : K = 5
    · subst k5
      by_cases ht : T < 0 ∨ 8 * ((pc L j).fr.size : Int) ≤ T
      · exact does_turn_arg b j T X ao c L lost F w h hq.1 hj ht hT.2
      · obtain ⟨t, rfl⟩ : ∃ t : Nat, T = t := ⟨T.toNat, by omega⟩
        obtain ⟨x, rfl⟩ : ∃ x : Nat, X = x := ⟨X.toNat, by omega⟩
        cases htn : (pc L j).tn with
        | true => exact does_turn_there b j t x ao c L lost F w h hq.1 hj (by omega) htn
        | false => exact does_turn_ok b j t x ao c L lost F w h hq.1 hj hl (by omega) htn (by omega)
    by_cases k6 : K = 6
    · subst k6; exact does_cut b j T X ao c L lost F w h hq hl
    · exact does_other b ao c L lost K j T F X w h hq.1 k1 k2 k3 k4 k5 k6
end Go.Proofs.Ytgbljkbiigcofaa
