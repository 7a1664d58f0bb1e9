/- This program as the given rows see it; arguments that are rows of whole numbers, or messages, opened once. -/
import Derived.Test.YtmoohnpffohgeaaDoorWrRef2
import Derived.ProofKit
import Derived.Carry
import Derived.OpenShut
import Derived.Deep.Slices
import Derived.Deep.Matrix
import Derived.Lib.SmallJoins
namespace Go.Proofs.YtmoohnpffohgeaaDoor
open Go.ChangeShapes Go.WideShapes Go.ChangeAt Go.RowKit
theorem Tryd.own : ownKnob Tryd.prog.godebug = none := by kernel_rfl
theorem Tryd.laidOut : laidOutB Tryd.prog = true := by kernel_rfl
theorem el_mem' {A : List Int} {k : Nat} (h : k < A.length) : el A k ∈ A := by
  unfold el; rw [List.getD_eq_getElem?_getD, List.getElem?_eq_getElem h]; exact List.getElem_mem h
theorem Tryd.cellsInt : Tryd.prog.cellsOf 3 = 1 := by kernel_rfl
theorem viewI_cells {H : Type} {enc : TypeId × Value → H} {W : World} {fuel : Nat} {cs : List Value} {x : DataW H × List MemPlace}
    (hf : DataW.trod enc Tryd.prog W 0 (fun _ => true) true fuel 28 cs = some x) :
    ∃ (a0 : Option Addr) (len cap : Nat) (Z : List Int), cs = [.slice a0 len cap] ∧ IArg W a0 len cap Z := by
  rcases open_ints Tryd.underlying28 Tryd.underlying3 Tryd.cellsInt hf with ⟨hcs, hx⟩ | ⟨a, len', cap', zs, hcs, _, hl, hm, hz, hx, hcell, hwz⟩
  · exact ⟨none, 0, 0, [], hcs, iarg_nil _⟩
  · simp only [if_true] at hz
    unfold maxLen at hm
    refine ⟨some a, len', cap', zs.take len', hcs, ⟨by simp; omega, by omega, fun k => ?_, fun hn => ?_⟩, hl, by omega, fun h => by cases h⟩
    · rcases Nat.lt_or_ge k (zs.take len').length with hk | hk
      · exact bounds_i64 (hwz _ (List.mem_of_mem_take (el_mem' hk)))
      · rw [el_over hk]; omega
    · obtain ⟨b, o, s⟩ := a
      have h0 := hcell 0 (by omega)
      have hs : s = none := by simpa [Addr.add] using World.cell?_spot h0
      subst hs
      refine ⟨b, o, rfl, fun t ht => ?_⟩
      have e : (Addr.mk b o none).add t = ⟨b, o + t, none⟩ := by simp [Addr.add]
      rw [← e, hcell t (by omega), el_take ht]
      rfl
set_option maxRecDepth 100000 in
theorem viewPI {H : Type} {enc : TypeId × Value → H} {W : World} {b0 : Nat} {v : Value} {d : DataW H} {p : List MemPlace} (hv : Value.okWide Tryd.prog W .any b0 28 v)
    (h : DataW.Trod enc Tryd.prog W 0 (fun _ => true) true 28 v d p) : ∃ (a0 : Option Addr) (len cap : Nat) (Z : List Int), v = .slice a0 len cap ∧ IArg W a0 len cap Z := by
  obtain ⟨a0, la, ca, rfl⟩ := okWide_slice Tryd.underlying28 hv
  obtain ⟨f, hf⟩ := h
  obtain ⟨a1, l1, c1, Z, e, hA⟩ := viewI_cells hf
  simp [Value.cells] at e
  obtain ⟨rfl, rfl, rfl⟩ := e
  exact ⟨_, _, _, Z, rfl, hA⟩
theorem array12 {α : Type} {cs : Array α} (h : cs.size = 12) : ∃ c0 c1 c2 c3 c4 c5 c6 c7 c8 c9 ca cb, cs = #[c0, c1, c2, c3, c4, c5, c6, c7, c8, c9, ca, cb] := by
  obtain ⟨l⟩ := cs
  match l, h with
  | [c0, c1, c2, c3, c4, c5, c6, c7, c8, c9, ca, cb], _ => exact ⟨c0, c1, c2, c3, c4, c5, c6, c7, c8, c9, ca, cb, rfl⟩
/-- The numbers of a message, by their places. -/
def ten (l : List Int) : Nat → Int := fun i => l.getD i 0
set_option maxRecDepth 100000 in
set_option maxHeartbeats 1000000 in
theorem viewMsg {H : Type} {enc : TypeId × Value → H} {W : World} {b0 : Nat} {v : Value} {d : DataW H} {p : List MemPlace} (hv : Value.okWide Tryd.prog W .any b0 30 v)
    (h : DataW.Trod enc Tryd.prog W 0 (fun _ => true) true 30 v d p) : ∃ (g : Nat → Int) (ao : Option Addr) (n ca : Nat) (A : List Int) (t : ByteArray), v = msgV g (.slice ao n ca) t ∧ (∀ k, k < 10 → -9223372036854775808 ≤ g k ∧ g k ≤ 9223372036854775807) ∧ IArg W ao n ca A := by
  obtain ⟨cs, rfl, hsz⟩ := okWide_struct Tryd.underlying30 hv
  obtain ⟨c0, c1, c2, c3, c4, c5, c6, c7, c8, c9, ca, cb, rfl⟩ := array12 (hsz.trans (by kernel_rfl))
  obtain ⟨fuel, hf⟩ := h
  obtain ⟨xs, n, _, _, hl, hlen, hf⟩ := DataW.trod_struct Tryd.underlying30 hf
  have ci : Tryd.prog.cellsOf 3 = 1 := by kernel_rfl
  have cl : Tryd.prog.cellsOf 28 = 1 := by kernel_rfl
  have cz : Tryd.prog.cellsOf 9 = 1 := by kernel_rfl
  have g : ∀ (j : Nat), j < 12 → ∃ y, xs[j]? = some y := fun j hj => ⟨_, List.getElem?_eq_getElem (by rw [hlen]; exact hj)⟩
  have t0 := hf 0 _ rfl
  have t1 := hf 1 _ rfl
  have t2 := hf 2 _ rfl
  have t3 := hf 3 _ rfl
  have t4 := hf 4 _ rfl
  have t5 := hf 5 _ rfl
  have t6 := hf 6 _ rfl
  have t7 := hf 7 _ rfl
  have t8 := hf 8 _ rfl
  have t9 := hf 9 _ rfl
  have t10 := hf 10 _ rfl
  have t11 := hf 11 _ rfl
  obtain ⟨y0, h0⟩ := g 0 (by omega)
  obtain ⟨y1, h1⟩ := g 1 (by omega)
  obtain ⟨y2, h2⟩ := g 2 (by omega)
  obtain ⟨y3, h3⟩ := g 3 (by omega)
  obtain ⟨y4, h4⟩ := g 4 (by omega)
  obtain ⟨y5, h5⟩ := g 5 (by omega)
  obtain ⟨y6, h6⟩ := g 6 (by omega)
  obtain ⟨y7, h7⟩ := g 7 (by omega)
  obtain ⟨y8, h8⟩ := g 8 (by omega)
  obtain ⟨y9, h9⟩ := g 9 (by omega)
  obtain ⟨y10, h10⟩ := g 10 (by omega)
  obtain ⟨y11, h11⟩ := g 11 (by omega)
  simp only [Value.cells, h0, h1, h2, h3, h4, h5, h6, h7, h8, h9, h10, h11] at t0 t1 t2 t3 t4 t5 t6 t7 t8 t9 t10 t11
  obtain ⟨x0, e0, _, w0⟩ := DataW.trod_int Tryd.underlying3 t0
  obtain ⟨x1, e1, _, w1⟩ := DataW.trod_int Tryd.underlying3 t1
  obtain ⟨x2, e2, _, w2⟩ := DataW.trod_int Tryd.underlying3 t2
  obtain ⟨x3, e3, _, w3⟩ := DataW.trod_int Tryd.underlying3 t3
  obtain ⟨x4, e4, _, w4⟩ := DataW.trod_int Tryd.underlying3 t4
  obtain ⟨x5, e5, _, w5⟩ := DataW.trod_int Tryd.underlying3 t5
  obtain ⟨x6, e6, _, w6⟩ := DataW.trod_int Tryd.underlying3 t6
  obtain ⟨x7, e7, _, w7⟩ := DataW.trod_int Tryd.underlying3 t7
  obtain ⟨x8, e8, _, w8⟩ := DataW.trod_int Tryd.underlying3 t8
  obtain ⟨x9, e9, _, w9⟩ := DataW.trod_int Tryd.underlying3 t9
  obtain ⟨a, l, cp, Z, e10, hA⟩ := viewI_cells t10
  obtain ⟨x11, e11, _, _⟩ := DataW.trod_string Tryd.underlying9 t11
  simp [ci, cl, cz] at e0 e1 e2 e3 e4 e5 e6 e7 e8 e9 e10 e11
  subst e0 e1 e2 e3 e4 e5 e6 e7 e8 e9 e10 e11
  refine ⟨ten [x0, x1, x2, x3, x4, x5, x6, x7, x8, x9], a, l, cp, Z, x11, rfl, fun k hk => ?_, hA⟩
  match k, hk with
  | 0, _ => exact bounds_i64 w0
  | 1, _ => exact bounds_i64 w1
  | 2, _ => exact bounds_i64 w2
  | 3, _ => exact bounds_i64 w3
  | 4, _ => exact bounds_i64 w4
  | 5, _ => exact bounds_i64 w5
  | 6, _ => exact bounds_i64 w6
  | 7, _ => exact bounds_i64 w7
  | 8, _ => exact bounds_i64 w8
  | 9, _ => exact bounds_i64 w9
end Go.Proofs.YtmoohnpffohgeaaDoor
