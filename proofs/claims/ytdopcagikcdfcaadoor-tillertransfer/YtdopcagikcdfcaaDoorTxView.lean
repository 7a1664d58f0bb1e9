/- This program as the given rows see it; arguments that are rows of what goes wrong, opened once. -/
import Derived.Test.YtdopcagikcdfcaaDoorRcMath
import Derived.Test.YtdopcagikcdfcaaDoorWrBur
import Derived.ProofKit
import Derived.Carry
import Derived.OpenShut
import Derived.Deep.Slices
import Derived.Deep.Matrix
import Derived.Lib.SmallJoins
namespace Go.Proofs.YtdopcagikcdfcaaDoor
open Go.ChangeShapes Go.WideShapes Go.ChangeAt Go.RowKit
theorem Tryd.own : ownKnob Tryd.prog.godebug = none := by kernel_rfl
theorem Tryd.laidOut : laidOutB Tryd.prog = true := by kernel_rfl
theorem Tryd.cellsInt : Tryd.prog.cellsOf 3 = 1 := by kernel_rfl
theorem add_plain' (b o k : Nat) : (⟨b, o, none⟩ : Addr).add k = ⟨b, o + k, none⟩ := by simp [Addr.add]
theorem Tryd.cellsU32 : Tryd.prog.cellsOf 41 = 1 := by kernel_rfl
theorem Tryd.cellsCAct : Tryd.prog.cellsOf 43 = 4 := by kernel_rfl
theorem range_below {w w' : World} {b o : Nat} {cs : List Value} (h : w.rangeAt b o cs) (B : Below w.heap.size w w') : w'.rangeAt b o cs := fun j v hv => by
  have := h j v hv
  exact (B.cell (World.block_lt_of_cell? w _ this)).trans this
/-- Something that a net does. -/
structure Act4 where
  kind : Int
  i : Int
  at_ : Int
  bits : Int
instance : Inhabited Act4 := ⟨⟨0, 0, 0, 0⟩⟩
structure Act4.ok (a : Act4) : Prop where
  k : -9223372036854775808 ≤ a.kind ∧ a.kind ≤ 9223372036854775807
  i : -9223372036854775808 ≤ a.i ∧ a.i ≤ 9223372036854775807
  t : -9223372036854775808 ≤ a.at_ ∧ a.at_ ≤ 9223372036854775807
  b : 0 ≤ a.bits ∧ a.bits ≤ 4294967295
abbrev Act4.cs (a : Act4) : List Value := [.int .i64 a.kind, .int .i64 a.i, .int .i64 a.at_, .int .u32 a.bits]
structure CActsAt (w : World) (ao : Option Addr) (n : Nat) (Z : Nat → Act4) : Prop where
  max : n ≤ 9223372036854775807
  cells : 0 < n → ∃ b o, ao = some ⟨b, o, none⟩ ∧ ∀ t, t < n → (Z t).ok ∧ w.rangeAt b (o + t * 4) (Z t).cs
theorem CActsAt.below {w w' : World} {ao : Option Addr} {n : Nat} {Z : Nat → Act4} (h : CActsAt w ao n Z) (B : Below w.heap.size w w') : CActsAt w' ao n Z :=
  ⟨h.max, fun hn => by
    obtain ⟨b, o, e, hc⟩ := h.cells hn
    exact ⟨b, o, e, fun t ht => ⟨(hc t ht).1, range_below (hc t ht).2 B⟩⟩⟩
theorem viewCActs_cells {H : Type} {enc : TypeId × Value → H} {W : World} {fuel : Nat} {cs : List Value} {x : DataW H × List MemPlace}
    (hf : DataW.trod enc Tryd.prog W 0 (fun _ => true) true fuel 22 cs = some x) :
    ∃ (a0 : Option Addr) (len cap : Nat) (Z : Nat → Act4), cs = [.slice a0 len cap] ∧ CActsAt W a0 len Z := by
  rcases Deep.open_slice Tryd.underlying22 hf with ⟨hcs, hx⟩ | ⟨a, len, cap, m, n, D, Pl, rfl, hb, hl, hm, hmm, rfl, hx⟩
  · exact ⟨none, 0, 0, fun _ => ⟨0, 0, 0, 0⟩, hcs, by omega, fun h => by omega⟩
  · simp only [if_true] at hmm
    subst hmm
    unfold maxLen at hm
    have each : ∀ i, i < m → ∃ z : Act4, (∀ j v, z.cs[j]? = some v → W.cell? (a.add (i * 4 + j)) = some v) ∧ z.ok := by
      intro i hi
      obtain ⟨cs', h1, h2⟩ := hx i hi
      rw [Tryd.cellsCAct] at h1
      obtain ⟨_, hlen, hcell⟩ := World.cells?_some h1
      obtain ⟨xs, k, hk, hxy, _, hxl, hff⟩ := DataW.trod_struct Tryd.underlying43 h2
      match xs, hxl, cs', hlen with
      | [y0, y1, y2, y3], _, [v0, v1, v2, v3], _ =>
        have g0 := hff 0 _ rfl
        have g1 := hff 1 _ rfl
        have g2 := hff 2 _ rfl
        have g3 := hff 3 _ rfl
        simp [Tryd.cellsInt, Tryd.cellsU32] at g0 g1 g2 g3
        obtain ⟨x0, e0, _, w0⟩ := DataW.trod_int Tryd.underlying3 g0
        obtain ⟨x1, e1, _, w1⟩ := DataW.trod_int Tryd.underlying3 g1
        obtain ⟨x2, e2, _, w2⟩ := DataW.trod_int Tryd.underlying3 g2
        obtain ⟨x3, e3, _, w3⟩ := DataW.trod_int Tryd.underlying41 g3
        simp only [List.cons.injEq, and_true] at e0 e1 e2 e3
        subst e0 e1 e2 e3
        refine ⟨⟨x0, x1, x2, x3⟩, fun j v hj => ?_, bounds_i64 w0, bounds_i64 w1, bounds_i64 w2, bounds_u32 w3⟩
        have hj2 : j < 4 := by have := (List.getElem?_eq_some_iff.1 hj).1; simpa using this
        have cj := hcell j (by omega)
        rw [Deep.add_add] at cj
        rw [cj]
        rw [← hj]
    obtain ⟨q, hq⟩ := Deep.choose_lt each
    refine ⟨some a, len, m, q, rfl, by omega, fun hn => ?_⟩
    obtain ⟨b, o, s⟩ := a
    have h0 := (hq 0 (by omega)).1 0 _ rfl
    have hs : s = none := by simpa [Addr.add] using World.cell?_spot h0
    subst hs
    refine ⟨b, o, rfl, fun t ht => ⟨(hq t (by omega)).2, fun j v hv => ?_⟩⟩
    have := (hq t (by omega)).1 j v hv
    rw [add_plain'] at this
    rw [Nat.add_assoc]
    exact this
set_option maxRecDepth 100000 in
theorem viewCActs {H : Type} {enc : TypeId × Value → H} {W : World} {b0 : Nat} {v : Value} {d : DataW H} {p : List MemPlace} (hv : Value.okWide Tryd.prog W .any b0 22 v)
    (h : DataW.Trod enc Tryd.prog W 0 (fun _ => true) true 22 v d p) : ∃ (a0 : Option Addr) (len cap : Nat) (Z : Nat → Act4), v = .slice a0 len cap ∧ CActsAt W a0 len Z := by
  obtain ⟨a0, la, ca, rfl⟩ := okWide_slice Tryd.underlying22 hv
  obtain ⟨f, hf⟩ := h
  obtain ⟨a1, l1, c1, Z, e, hA⟩ := viewCActs_cells hf
  simp [Value.cells] at e
  obtain ⟨rfl, rfl, rfl⟩ := e
  exact ⟨_, _, _, Z, rfl, hA⟩
end Go.Proofs.YtdopcagikcdfcaaDoor
