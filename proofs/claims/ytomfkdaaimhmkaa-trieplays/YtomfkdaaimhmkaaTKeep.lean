/- Two tries side by side; rows of one's own that are written over. -/
import Derived.Test.YtomfkdaaimhmkaaTSame
namespace Go.Proofs.Ytomfkdaaimhmkaa
open Go.ChangeShapes Go.WideShapes Go.ChangeAt Go.RowKit Go.Maps
/-- What Put tells of a row of n numbers where there is room. -/
def putE (n : Nat) : Int := if n = 0 then 8 else if 128 < n then 2 else 0
/-- What is kept behind Put where there is room. -/
def putV (vl : List Int → Option Int) (A : List Int) (v : Int) : List Int → Option Int := if A.length = 0 then vl else if 128 < A.length then vl else upd vl A (some v)
/-- Put of any row of at most 140 numbers where there is room. -/
theorem put_some (ca b n : Nat) (A : List Int) (v : Int) (w : World) (B tb NB cnt : Nat) (S : TS) (vl : List Int → Option Int) (h : TA w B tb S vl NB cnt) (hA : Tk w (some ⟨b, 0, none⟩) n A) (hf : 1 ≤ n → ∀ b' o, (some ⟨b, 0, none⟩ : Option Addr) = some ⟨b', o, none⟩ → w.cell? ⟨b', 0, none⟩ = some (.int .i64 (A.getD 0 0)))
    (hn : n ≤ 140) (hc : cnt < 1000) (hN : NB ≤ 1000000) :
   Calls Try.prog 9 #[.pointer (some ⟨tb, 0, none⟩), .slice (some ⟨b, 0, none⟩) n ca, .int .i64 v] w fun e w' => (∃ x, e = .returned (.tuple #[.bool x, .int .i64 (putE n)])) ∧ (∃ c' S', c' ≤ cnt + 1 ∧ TA w' B tb S' (putV vl A v) (NB + 140) c' ∧ Own S w S' w' 128) ∧ Below B w w' := by
  have hl := hA.len
  unfold putE putV
  rw [hl]
  by_cases h0 : n = 0
  · subst h0
    rw [if_pos rfl, if_pos rfl]
    exact (put_none ca _ v tb w).mono fun e w' ⟨he, hw⟩ => ⟨⟨_, he⟩, ⟨cnt, S, by omega, by rw [hw]; exact h.wider (by omega), by rw [hw]; exact Own.refl _ _ _⟩, by rw [hw]; exact Below.refl _ _⟩
  rw [if_neg h0, if_neg h0]
  by_cases h1 : 128 < n
  · rw [if_pos h1, if_pos h1]
    exact (put_big n ca _ v tb w h1 (by omega)).mono fun e w' ⟨he, hw⟩ => ⟨⟨_, he⟩, ⟨cnt, S, by omega, by rw [hw]; exact h.wider (by omega), by rw [hw]; exact Own.refl _ _ _⟩, by rw [hw]; exact Below.refl _ _⟩
  rw [if_neg h1, if_neg h1]
  rcases hx : vl A with _ | x
  · exact (put_new _ n ca A v w B tb NB cnt S vl h hA (hf (by omega)) (by omega) (by omega) hx hc (by omega)).mono fun e w' ⟨he, ⟨S', T, O⟩, hb⟩ => ⟨⟨_, he⟩, ⟨cnt + 1, S', by omega, T.wider (by omega), O⟩, hb⟩
  · exact (put_there _ n ca A v x w B tb NB cnt S vl h hA (by omega) (by omega) hx).mono fun e w' ⟨he, ⟨S', T, O⟩, hb⟩ => ⟨⟨_, he⟩, ⟨cnt, S', by omega, T.wider (by omega), O⟩, hb⟩
theorem same_yes2 (w : World) (B1 B2 c1 c2 : Nat) (a b : Option Addr) (E E2 : List RE) (hA : EO 54 w B1 (.slice a E.length c1) E) (hB : EO 54 w B2 (.slice b E2.length c2) E2) (he : E.map (·.2) = E2.map (·.2)) (hl : E.length ≤ 1000) (hq : ∀ e ∈ E, e.2.1.length ≤ 1000000) :
   Calls Try.prog 18 #[.slice a E.length c1, .slice b E2.length c2] w fun e w' => e = .returned (.bool true) ∧ ∃ m, w' = w.drewN m := by
  have hl2 : E2.length = E.length := by have := congrArg List.length he; simpa using this.symm
  rw [hl2] at hB ⊢
  exact same_yes w B1 B2 c1 c2 a b E E2 hA hB he hl hq
theorem TA.has_lt {w : World} {B tb NB cnt : Nat} {S : TS} {vl : List Int → Option Int} (h : TA w B tb S vl NB cnt) {x : Nat} (hx : S.has x) : x < w.heap.size := h.ti.has_lt hx
/-- Another trie stays behind a Put. -/
theorem TA.beside {w w' : World} {B tb NB cnt n : Nat} {S T T' : TS} {vl : List Int → Option Int} (h : TA w B tb S vl NB cnt) (hd : ∀ x, T.has x → ¬ S.has x) (k : Own T w T' w' n) : TA w' B tb S vl NB cnt ∧ ∀ x, T'.has x → ¬ S.has x :=
  ⟨h.keep (fun x hx => k.kept x (h.has_lt hx) (fun e => hd x e hx)), fun x h1 h2 => by
    rcases k.mine x h1 with a | a
    · exact hd x a h2
    · have := h.has_lt h2; omega⟩
theorem IOwn.beside {w w' : World} {B n k : Nat} {S S' : TS} {v : Value} {A : List Int} (h : IOwn w B v n A) (hd : ∀ x, v.ownBlock = some x → ¬ S.has x) (o : Own S w S' w' k) : IOwn w' B v n A ∧ ∀ x, v.ownBlock = some x → ¬ S'.has x :=
  ⟨h.keep (fun x hx => o.kept x (World.ownsRow.lt h x hx).2 (hd x hx)), fun x h1 h2 => by
    rcases o.mine x h2 with a | a
    · exact hd x h1 a
    · have := (World.ownsRow.lt h x h1).2; omega⟩
theorem sm_set {A : List Int} {k : Nat} {v : Int} (h : Sm A) (hv : -9223372036854775808 ≤ v ∧ v ≤ 9223372036854775807) : Sm (A.set k v) := fun j => by
  have e : el (A.set k v) j = if k = j ∧ j < A.length then v else el A j := by
    unfold el
    rw [List.getD_eq_getElem?_getD, List.getD_eq_getElem?_getD, List.getElem?_set]
    by_cases h1 : k = j
    · subst h1
      by_cases h2 : k < A.length
      · simp [h2]
      · simp [h2]
    · simp [h1]
  rw [e]
  split
  · exact hv
  · exact h j
/-- A number is written into a row of one's own: all rows of one's own are such rows still. -/
theorem IOwn.write {w : World} {B B' g n m c k : Nat} {v : Value} {A Z : List Int} {x : Int} (h : IOwn w B v n A) (hs : Sm A) (_hg : IOwn w B' (.slice (some ⟨g, 0, none⟩) m c) m Z) (hx : -9223372036854775808 ≤ x ∧ x ≤ 9223372036854775807) :
    ∃ A', IOwn (w.setCell ⟨g, k, none⟩ (.int .i64 x)) B v n A' ∧ Sm A' := by
  by_cases e : v.ownBlock = some g
  · refine ⟨A.set k x, ⟨?_, ?_⟩, sm_set hs hx⟩
    · have := h.1; simpa using this
    · rcases h.2 with ⟨rfl, _⟩ | ⟨g', cap, cur, rfl, hb, hh, h5, h6, h7, h8⟩
      · cases e
      · obtain rfl : g' = g := by injection e
        refine Or.inr ⟨g', cap, cur.setIfInBounds k (.int .i64 x), rfl, hb, ?_, h5, h6, by simpa using h7, ?_⟩
        · have hl : g' < w.heap.size := (World.ownsRow.lt h g' rfl).2
          simp [World.setCell, Array.getElem?_modify, hh]
        · rw [Array.toList_setIfInBounds, List.take_set, h8, List.map_set]
  · exact ⟨A, h.keep (fun y hy => Below.heap_setCell _ _ _ y (fun e2 => e (by rw [hy]; exact congrArg some e2))), hs⟩
theorem IOwn.cell {w : World} {B g n c k : Nat} {A : List Int} (h : IOwn w B (.slice (some ⟨g, 0, none⟩) n c) n A) (hs : Sm A) (hk : k < n) : w.cell? ⟨g, k, none⟩ = some (.int .i64 (el A k)) ∧ w.frozen? ⟨g, k, none⟩ = false ∧ n ≤ c ∧ c ≤ 9223372036854775807 ∧ -9223372036854775808 ≤ el A k ∧ el A k ≤ 9223372036854775807 := by
  obtain ⟨ao, c', e, R⟩ := h.arg hs
  injection e with e1 e2 e3
  subst e1 e3
  obtain ⟨b, o, e4, hc⟩ := R.row.cells (by omega)
  injection e4 with e4
  injection e4 with e5 e6 _
  subst e5 e6
  have := hc k hk
  rw [Nat.zero_add] at this
  refine ⟨this, ?_, R.fit, R.max, hs k⟩
  rcases h.2 with ⟨h0, _⟩ | ⟨g', cap, cur, hv, hb, hh, _⟩
  · cases h0
  · injection hv with e1 _ _
    injection e1 with e1
    injection e1 with e1 _ _
    subst e1
    simp [World.frozen?, hh]
end Go.Proofs.Ytomfkdaaimhmkaa
