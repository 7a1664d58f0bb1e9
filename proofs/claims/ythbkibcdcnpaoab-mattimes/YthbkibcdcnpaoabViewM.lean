/- An argument that is a matrix, opened once. -/
import Derived.Test.YthbkibcdcnpaoabView
import Derived.Test.YthbkibcdcnpaoabMat
import Derived.Lib.SmallJoins
namespace Go.Proofs.Ythbkibcdcnpaoab
open Go.ChangeShapes Go.WideShapes Go.ChangeAt Go.RowKit
theorem viewMat {H : Type} {enc : TypeId × Value → H} {W : World} {b0 : Nat} {v : Value} {d : DataW H} {p : List MemPlace} (hv : Value.okWide Try.prog W .any b0 24 v)
    (h : DataW.Trod enc Try.prog W 0 (fun _ => true) true 24 v d p) :
    ∃ (r c : Int) (a0 : Option Addr) (len cap : Nat) (Z : List Int), v = matV r c a0 len cap ∧ (-9223372036854775808 ≤ r ∧ r ≤ 9223372036854775807) ∧ (-9223372036854775808 ≤ c ∧ c ≤ 9223372036854775807) ∧ Arg W a0 len cap Z := by
  obtain ⟨v0, v1, v2, y0, y1, y2, n, rfl, _, _, t0, t1, t2⟩ := Joins.open_agg3 Try.underlying24 (by kernel_rfl) (by kernel_rfl) hv h
  obtain ⟨r, e0, _, w0⟩ := DataW.trod_int Try.underlying3 t0
  obtain ⟨c, e1, _, w1⟩ := DataW.trod_int Try.underlying3 t1
  obtain ⟨a, l, cp, Z, e2, hA⟩ := view_cells t2
  simp only [List.cons.injEq, and_true] at e0 e1 e2
  subst e0 e1 e2
  exact ⟨r, c, a, l, cp, Z, rfl, bounds_i64 w0, bounds_i64 w1, hA⟩
end Go.Proofs.Ythbkibcdcnpaoab
