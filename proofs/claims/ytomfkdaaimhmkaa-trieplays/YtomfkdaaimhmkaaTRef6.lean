/- The document's Put: rows that aren't taken, and a row that is there. -/
import Derived.Test.YtomfkdaaimhmkaaTRef2
import Derived.Test.YtomfkdaaimhmkaaTApp54
namespace Go.Proofs.Ytomfkdaaimhmkaa
open Go.ChangeShapes Go.WideShapes Go.ChangeAt Go.RowKit Go.Maps
set_option maxRecDepth 100000 in
theorem put13_none (lv : Value) (at' : Option Addr) (ca : Nat) (v : Int) (w : World) :
   Calls Try.prog 10 #[lv, .slice at' 0 ca, .int .i64 v] w fun e w' => e = .returned (.tuple #[lv, .bool false, .int .i64 8]) ∧ w' = w := by
  go_enter Try.func10, Try.ntmps10
  go_wp2_with fail
  go_ret3
  exact ⟨rfl, rfl⟩
set_option maxRecDepth 100000 in
theorem put13_big (lv : Value) (at' : Option Addr) (n ca : Nat) (v : Int) (w : World) (h1 : 128 < n) (h2 : n ≤ 1000000) :
   Calls Try.prog 10 #[lv, .slice at' n ca, .int .i64 v] w fun e w' => e = .returned (.tuple #[lv, .bool false, .int .i64 2]) ∧ w' = w := by
  go_enter Try.func10, Try.ntmps10
  go_wp2_with fail
  go_ret3
  exact ⟨rfl, rfl⟩
theorem flatE_one (E : List RE) (h : ∀ e ∈ E, e.1.oneCell' = true) : ∀ u ∈ flatE E, u.oneCell' = true := fun u hu => by
  obtain ⟨e, he, hx⟩ := List.mem_flatMap.1 hu
  simp only [List.mem_cons, List.not_mem_nil, or_false] at hx
  rcases hx with rfl | rfl
  · exact h e he
  · rfl
theorem flatE_len (E : List RE) : (flatE E).length = E.length * 2 := by
  induction E with
  | nil => rfl
  | cons e E ih =>
    have e1 : flatE (e :: E) = e.1 :: .int .i64 e.2.2 :: flatE E := rfl
    rw [e1, List.length_cons, List.length_cons, ih, List.length_cons]; omega
theorem flatE_set : ∀ (E : List RE) (k : Nat) (e : RE), k < E.length → ((flatE E).set (k * 2) e.1).set (k * 2 + 1) (.int .i64 e.2.2) = flatE (E.set k e)
  | [], k, e, h => absurd h (by simp)
  | x :: E, 0, e, _ => rfl
  | x :: E, k + 1, e, h => by
    have := flatE_set E k e (by simpa using h)
    have e1 : flatE (x :: E) = x.1 :: .int .i64 x.2.2 :: flatE E := rfl
    have e2 : flatE ((x :: E).set (k + 1) e) = x.1 :: .int .i64 x.2.2 :: flatE (E.set k e) := rfl
    rw [e1, e2, show (k + 1) * 2 = k * 2 + 1 + 1 by omega, ← this]
    rfl
/-- An entry of a row of one's own is written over. -/
theorem ownsRow_set2 {w : World} {B : Nat} {T : TypeId} {g c : Nat} {E : List RE} (h : w.ownsRow B T 2 (.slice (some ⟨g, 0, none⟩) E.length c) E.length (flatE E)) {k : Nat} (hk : k < E.length) (e : RE) :
    ((w.setCell ⟨g, k * 2, none⟩ e.1).setCell ⟨g, k * 2 + 1, none⟩ (.int .i64 e.2.2)).ownsRow B T 2 (.slice (some ⟨g, 0, none⟩) E.length c) E.length (flatE (E.set k e)) := by
  refine ⟨by rw [flatE_len, List.length_set], ?_⟩
  rcases h.2 with ⟨h0, _⟩ | ⟨g', cap, cur, hv, hb, hh, h5, h6, h7, h8⟩
  · cases h0
  · injection hv with e1 _ e3
    injection e1 with e1
    injection e1 with e1 _ _
    subst e1 e3
    refine Or.inr ⟨g, c, (cur.setIfInBounds (k * 2) e.1).setIfInBounds (k * 2 + 1) (.int .i64 e.2.2), rfl, hb, ?_, h5, h6, by simpa using h7, ?_⟩
    · simp [World.setCell, Array.getElem?_modify, hh]
    · rw [Array.toList_setIfInBounds, Array.toList_setIfInBounds, List.take_set, List.take_set, h8, flatE_set E k e hk]
end Go.Proofs.Ytomfkdaaimhmkaa
