/- What mat.Apply, mat.blank and mat.Turn answer. -/
import Derived.Test.YtklgaokhillinaaMat
import Derived.Laws.ResultCell
namespace Go.Proofs.Ytklgaokhillinaa
open Go.ChangeShapes Go.WideShapes Go.ChangeAt Go.RowKit
theorem heap_setCell_at {w : World} {g k : Nat} {t : TypeId} {fr : Nat × Nat} {cs : Array Value} {v : Value} (h : w.heap[g]? = some (.cells cs t fr)) : (w.setCell ⟨g, k, none⟩ v).heap[g]? = some (.cells (cs.setIfInBounds k v) t fr) := by
  simp [World.setCell, Array.getElem?_modify, h]
theorem Box.put {w : World} {g : Nat} {r c : Int} {ao : Option Addr} {n ca : Nat} (h : Box w g r c ao n ca) (r' c' : Int) (ao' : Option Addr) (n' ca' : Nat) :
    Box (((w.setCell ⟨g, 0, none⟩ (.int .i64 r')).setCell ⟨g, 1, none⟩ (.int .i64 c')).setCell ⟨g, 2, none⟩ (.slice ao' n' ca')) g r' c' ao' n' ca' := by
  unfold Box at *
  rw [heap_setCell_at (heap_setCell_at (heap_setCell_at h))]
  rfl
theorem Below.put {B : Nat} {a w : World} (h : Below B a w) {g : Nat} (hg : B ≤ g) (u v x : Value) : Below B a (((w.setCell ⟨g, 0, none⟩ u).setCell ⟨g, 1, none⟩ v).setCell ⟨g, 2, none⟩ x) :=
  ((h.setCell (p := ⟨g, 0, none⟩) hg u).setCell (p := ⟨g, 1, none⟩) hg v).setCell (p := ⟨g, 2, none⟩) hg x
theorem Fresh.put {w : World} {B g n cap : Nat} {A : List Int} (h : Fresh w B g n cap A) {k : Nat} (hg : g ≠ k) (u v x : Value) : Fresh (((w.setCell ⟨k, 0, none⟩ u).setCell ⟨k, 1, none⟩ v).setCell ⟨k, 2, none⟩ x) B g n cap A :=
  ((h.setOther (a := ⟨k, 0, none⟩) hg u).setOther (a := ⟨k, 1, none⟩) hg v).setOther (a := ⟨k, 2, none⟩) hg x
theorem results_mat {fn : Func} {p u : Tmp} (h : fn.results = #[.cell p 26, .tmp u]) (tmps : Array Value) (w : World) (g : Nat) (r c : Int) (ao : Option Addr) (n ca : Nat)
    (hp : tmps.getD p undef = .pointer (some ⟨g, 0, none⟩)) (hb : Box w g r c ao n ca) : (results fn tmps).run Try.prog w = .ok (.tuple #[matV r c ao n ca, tmps.getD u undef]) w := by
  rw [results_cell_tmp h, hp]
  simp only [asAddr, Result.andThen]
  have hl := run_loadVar_row (P := Try.prog) w g 26 26 _ _ _ hb Try.underlying26 rfl (by kernel_rfl)
  simp [hl, matV]
/-- The turned matrix' numbers. -/
def turnN (D : List Int) (r c : Nat) : List Int := tab (c * r) fun q => el D ((q % r) * c + q / r)
theorem place_eq {r j k q : Nat} (hk : k < r) : q = j * r + k ↔ (q % r = k ∧ q / r = j) := by
  constructor
  · rintro rfl
    constructor
    · rw [Nat.add_comm, Nat.add_mul_mod_self_right, Nat.mod_eq_of_lt hk]
    · rw [Nat.add_comm, Nat.add_mul_div_right _ _ (by omega), Nat.div_eq_of_lt hk, Nat.zero_add]
  · rintro ⟨h1, h2⟩
    have := Nat.div_add_mod q r
    rw [h1, h2, Nat.mul_comm] at this
    omega
/-- What is there when k rows and j places of the next are done. -/
def turnK (D : List Int) (r c k j : Nat) : List Int := tab (c * r) fun q => if q % r < k ∨ (q % r = k ∧ q / r < j) then el D ((q % r) * c + q / r) else 0
theorem turnK_start (D : List Int) (r c : Nat) : turnK D r c 0 0 = tab (c * r) fun _ => 0 := tab_congr fun q _ => by
  generalize q % r = x
  generalize q / r = y
  rw [if_neg (by omega)]
theorem turnK_next (D : List Int) (r c k : Nat) (hk : k < r) : turnK D r c k c = turnK D r c (k + 1) 0 := tab_congr fun q hq => by
  have h1 : q / r < c := (Nat.div_lt_iff_lt_mul (by omega)).2 hq
  generalize q % r = x at *
  generalize q / r = y at *
  by_cases h : x < k ∨ x = k
  · rw [if_pos (by omega), if_pos (by omega)]
  · rw [if_neg (by omega), if_neg (by omega)]
theorem turnK_end (D : List Int) (r c : Nat) (hr : 1 ≤ r) : turnK D r c r 0 = turnN D r c := tab_congr fun q _ => by
  have := Nat.mod_lt q (show 0 < r by omega)
  rw [if_pos (by omega)]
theorem turnK_step (D : List Int) (r c k j : Nat) (hk : k < r) (hj : j < c) : (turnK D r c k j).set (j * r + k) (el D (k * c + j)) = turnK D r c k (j + 1) := by
  unfold turnK
  have hq : j * r + k < c * r := by have := row_in (c := r) hj; omega
  rw [tab_set hq]
  refine tab_congr fun q _ => ?_
  by_cases h : q = j * r + k
  · rw [if_pos h]
    obtain ⟨h1, h2⟩ := (place_eq hk).1 h
    rw [if_pos (by omega), h1, h2]
  · rw [if_neg h]
    have h' : ¬ (q % r = k ∧ q / r = j) := fun x => h ((place_eq hk).2 x)
    by_cases h3 : q % r < k ∨ (q % r = k ∧ q / r < j)
    · rw [if_pos h3, if_pos (by omega)]
    · rw [if_neg h3, if_neg (by omega)]
end Go.Proofs.Ytklgaokhillinaa
