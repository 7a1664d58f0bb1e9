/- An argument that is a row of rows of fixed numbers, opened once. -/
import Derived.Test.YtjcacejkiaepnaaDoorGrid
import Derived.Test.YtjcacejkiaepnaaDoorView
import Derived.Deep.Matrix
namespace Go.Proofs.YtjcacejkiaepnaaDoor
open Go.ChangeShapes Go.WideShapes Go.ChangeAt Go.RowKit Go.Deep
theorem Tryd.cellsRow : Tryd.prog.cellsOf 22 = 1 := by kernel_rfl
theorem viewGrid {H : Type} {enc : TypeId × Value → H} {W : World} {b0 : Nat} {v : Value} {d : DataW H} {p : List MemPlace} (hv : Value.okWide Tryd.prog W .any b0 23 v)
    (h : DataW.Trod enc Tryd.prog W 0 (fun _ => true) true 23 v d p) : ∃ (a0 : Option Addr) (len cap : Nat) (Z : List (List Int)), v = .slice a0 len cap ∧ GridAt W a0 len Z := by
  obtain ⟨a0, la, ca, rfl⟩ := okWide_slice Tryd.underlying23 hv
  obtain ⟨f, hf⟩ := h
  rcases open_int_rows Tryd.underlying23 Tryd.underlying22 Tryd.underlying35 Tryd.cellsRow Tryd.cellsNum hf with ⟨hcs, hx⟩ | ⟨a, len', cap', A, L, C, Z, hcs, _, hl, hm, hx, hr⟩
  · simp [Value.cells] at hcs
    obtain ⟨rfl, rfl, rfl⟩ := hcs
    exact ⟨_, _, _, [], rfl, GridAt.nil _ _⟩
  · simp [Value.cells] at hcs
    obtain ⟨rfl, rfl, rfl⟩ := hcs
    unfold maxLen at hm
    refine ⟨_, _, _, (List.range la).map fun r => (Z r).take (L r), rfl, by simp, by omega, fun hn => ?_⟩
    obtain ⟨b, o, s⟩ := a
    have h0 := (hr 0 (by omega)).1
    have hs : s = none := by simpa [Addr.add] using World.cell?_spot h0
    subst hs
    refine ⟨b, o, rfl, fun t ht => ?_⟩
    obtain ⟨r1, r2, r3, r4, r5, r6, r7⟩ := hr t (by omega)
    unfold maxLen at r3
    have e : (Addr.mk b o none).add t = ⟨b, o + t, none⟩ := by simp [Addr.add]
    have er : rowOf ((List.range la).map fun r => (Z r).take (L r)) t = (Z t).take (L t) := by unfold rowOf; simp [List.getD_eq_getElem?_getD, ht]
    rw [er]
    refine ⟨A t, L t, C t, by rw [← e]; exact r1, ⟨⟨by simp; omega, by omega, fun y hy => bounds_i32 (r5 y (List.mem_of_mem_take hy)), fun hn => ?_⟩, r2, by omega, r6⟩⟩
    cases hA : A t with
    | none => have := r6 hA; omega
    | some a' =>
      obtain ⟨_, hcell⟩ := r7 a' hA
      obtain ⟨b', o', s'⟩ := a'
      have h0 := hcell 0 (by omega)
      have hs : s' = none := by simpa [Addr.add] using World.cell?_spot h0
      subst hs
      refine ⟨b', o', rfl, fun q hq => ?_⟩
      have e : (Addr.mk b' o' none).add q = ⟨b', o' + q, none⟩ := by simp [Addr.add]
      rw [← e, hcell q (by omega), el_take hq]
      rfl
end Go.Proofs.YtjcacejkiaepnaaDoor
