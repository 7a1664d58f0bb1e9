/- An argument that is a plan, opened once; beside rows of numbers. -/
import Derived.Test.YthboinknjhgpfaaRView
import Derived.ProofKit
import Derived.Carry
import Derived.OpenShut
import Derived.Deep.Slices
import Derived.Deep.Matrix
import Derived.Lib.SmallJoins
namespace Go.Proofs.Ythboinknjhgpfaa
open Go.ChangeShapes Go.WideShapes Go.ChangeAt Go.RowKit
theorem array2 {α : Type} {cs : Array α} (h : cs.size = 2) : ∃ c0 c1, cs = #[c0, c1] := by
  obtain ⟨l⟩ := cs
  match l, h with
  | [c0, c1], _ => exact ⟨c0, c1, rfl⟩
structure Plan where
  te : Int
  ma : Int
def Plan.val (p : Plan) : Value := .agg #[.int .i64 p.te, .int .i64 p.ma]
structure Plan.Ok (p : Plan) : Prop where
  te : -9223372036854775808 ≤ p.te ∧ p.te ≤ 9223372036854775807
  ma : -9223372036854775808 ≤ p.ma ∧ p.ma ≤ 9223372036854775807
set_option maxRecDepth 100000 in
theorem viewPlan {H : Type} {enc : TypeId × Value → H} {W : World} {b0 : Nat} {v : Value} {d : DataW H} {p : List MemPlace} (hv : Value.okWide Try.prog W .any b0 23 v)
    (h : DataW.Trod enc Try.prog W 0 (fun _ => true) true 23 v d p) : ∃ C : Plan, v = C.val ∧ C.Ok := by
  obtain ⟨cs, rfl, hsz⟩ := okWide_struct Try.underlying23 hv
  obtain ⟨c0, c1, rfl⟩ := array2 (hsz.trans (by kernel_rfl))
  obtain ⟨fuel, hf⟩ := h
  obtain ⟨xs, n, _, _, hl, hlen, hf⟩ := DataW.trod_struct Try.underlying23 hf
  have ci : Try.prog.cellsOf 3 = 1 := by kernel_rfl
  have t0 := hf 0 _ rfl
  have t1 := hf 1 _ rfl
  have g : ∀ (j : Nat), j < 2 → ∃ y, xs[j]? = some y := fun j hj => ⟨_, List.getElem?_eq_getElem (by rw [hlen]; exact hj)⟩
  obtain ⟨y0, h0⟩ := g 0 (by omega)
  obtain ⟨y1, h1⟩ := g 1 (by omega)
  simp only [Value.cells, h0, h1] at t0 t1
  obtain ⟨x0, e0, _, w0⟩ := DataW.trod_int Try.underlying3 t0
  obtain ⟨x1, e1, _, w1⟩ := DataW.trod_int Try.underlying3 t1
  simp [ci] at e0 e1
  subst e0 e1
  exact ⟨⟨x0, x1⟩, rfl, bounds_i64 w0, bounds_i64 w1⟩
end Go.Proofs.Ythboinknjhgpfaa
