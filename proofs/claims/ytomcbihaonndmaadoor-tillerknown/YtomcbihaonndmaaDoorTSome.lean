/- Put of any row where there is room. -/
import Derived.Test.YtomcbihaonndmaaDoorTFew
namespace Go.Proofs.YtomcbihaonndmaaDoor
open Go.ChangeShapes Go.WideShapes Go.ChangeAt Go.RowKit Go.Maps
/-- What Put tells of a row of n numbers where there is room. -/
def putE (n : Nat) : Int := if n = 0 then 8 else if 128 < n then 2 else 0
/-- What is kept behind Put where there is room. -/
def putV (vl : List Int → Option Int) (A : List Int) (v : Int) : List Int → Option Int := if A.length = 0 then vl else if 128 < A.length then vl else upd vl A (some v)
/-- Put of any row of at most 140 numbers where there is room. -/
theorem put_some (ca b n : Nat) (A : List Int) (v : Int) (w : World) (B tb NB cnt : Nat) (vl : List Int → Option Int) (h : TA w B tb vl NB cnt) (hA : Tk w (some ⟨b, 0, none⟩) n A) (hf : 1 ≤ n → ∀ b' o, (some ⟨b, 0, none⟩ : Option Addr) = some ⟨b', o, none⟩ → w.cell? ⟨b', 0, none⟩ = some (.int .i64 (A.getD 0 0)))
    (hn : n ≤ 140) (hc : cnt < 1000) (hN : NB ≤ 1000000) :
   Calls Tryd.prog 7 #[.pointer (some ⟨tb, 0, none⟩), .slice (some ⟨b, 0, none⟩) n ca, .int .i64 v] w fun e w' => (∃ x, e = .returned (.tuple #[.bool x, .int .i64 (putE n)])) ∧ (∃ c', c' ≤ cnt + 1 ∧ TA w' B tb (putV vl A v) (NB + 140) c') ∧ Below B w w' := by
  have hl := hA.len
  unfold putE putV
  rw [hl]
  by_cases h0 : n = 0
  · subst h0
    rw [if_pos rfl, if_pos rfl]
    exact (put_none ca _ v tb w).mono fun e w' ⟨he, hw⟩ => ⟨⟨_, he⟩, ⟨cnt, by omega, by rw [hw]; exact h.wider (by omega)⟩, by rw [hw]; exact Below.refl _ _⟩
  rw [if_neg h0, if_neg h0]
  by_cases h1 : 128 < n
  · rw [if_pos h1, if_pos h1]
    exact (put_big n ca _ v tb w h1 (by omega)).mono fun e w' ⟨he, hw⟩ => ⟨⟨_, he⟩, ⟨cnt, by omega, by rw [hw]; exact h.wider (by omega)⟩, by rw [hw]; exact Below.refl _ _⟩
  rw [if_neg h1, if_neg h1]
  rcases hx : vl A with _ | x
  · exact (put_new _ n ca A v w B tb NB cnt vl h hA (hf (by omega)) (by omega) (by omega) hx hc (by omega)).mono fun e w' ⟨he, T, hb⟩ => ⟨⟨_, he⟩, ⟨cnt + 1, by omega, T.wider (by omega)⟩, hb⟩
  · exact (put_there _ n ca A v x w B tb NB cnt vl h hA (by omega) (by omega) hx).mono fun e w' ⟨he, T, hb⟩ => ⟨⟨_, he⟩, ⟨cnt, by omega, T.wider (by omega)⟩, hb⟩
end Go.Proofs.YtomcbihaonndmaaDoor
