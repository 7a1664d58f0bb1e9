/- An argument that is a row of bools, opened once. -/
import Derived.Test.YtjnegbjgkngkaaaHdPlan
import Derived.Test.YtjnegbjgkngkaaaRowA
namespace Go.Proofs.Ytjnegbjgkngkaaa
open Go.ChangeShapes Go.WideShapes Go.ChangeAt Go.RowKit
/-- A row of bools that came in. -/
structure BArg (w : World) (ao : Option Addr) (n ca : Nat) (Z : Nat → Bool) : Prop where
  fit : n ≤ ca
  max : ca ≤ 9223372036854775807
  cells : 0 < n → ∃ b o, ao = some ⟨b, o, none⟩ ∧ ∀ t, t < n → w.cell? ⟨b, o + t, none⟩ = some (.bool (Z t))
theorem BArg.below {w w' : World} {ao : Option Addr} {n ca : Nat} {Z : Nat → Bool} (h : BArg w ao n ca Z) (hb : Below w.heap.size w w') : BArg w' ao n ca Z := by
  refine ⟨h.fit, h.max, fun hn => ?_⟩
  obtain ⟨b, o, e, hc⟩ := h.cells hn
  refine ⟨b, o, e, fun t ht => ?_⟩
  have h1 := hc t ht
  have hlt : b < w.heap.size := by simpa using World.block_lt_of_cell? w _ h1
  rw [hb.cell (by exact hlt)]
  exact h1
set_option maxRecDepth 100000 in
theorem viewBools {H : Type} {enc : TypeId × Value → H} {W : World} {b0 : Nat} {v : Value} {d : DataW H} {p : List MemPlace} (hv : Value.okWide Try.prog W .any b0 70 v)
    (h : DataW.Trod enc Try.prog W 0 (fun _ => true) true 70 v d p) : ∃ (a0 : Option Addr) (len cap : Nat) (Z : Nat → Bool), v = .slice a0 len cap ∧ BArg W a0 len cap Z := by
  obtain ⟨a0, la, ca, rfl⟩ := okWide_slice Try.underlying70 hv
  obtain ⟨f, hf⟩ := h
  rcases Go.Deep.open_slice1 Try.underlying70 (by kernel_rfl) hf with ⟨hcs, _⟩ | ⟨a, len', cap', m, n, V, D, Pl, hcs, _, hl, hm, hmm, _, hx⟩
  · simp [Value.cells] at hcs
    obtain ⟨rfl, rfl, rfl⟩ := hcs
    exact ⟨none, 0, 0, fun _ => false, rfl, by omega, by omega, fun h => by omega⟩
  · simp [Value.cells] at hcs
    obtain ⟨rfl, rfl, rfl⟩ := hcs
    simp only [if_true] at hmm
    subst hmm
    unfold maxLen at hm
    refine ⟨some a, la, m, fun i => match V i with | .bool b => b | _ => false, rfl, by omega, by omega, fun hn => ?_⟩
    obtain ⟨b, o, s⟩ := a
    have h0 := (hx 0 (by omega)).1
    have hs : s = none := by simpa [Addr.add] using World.cell?_spot h0
    subst hs
    refine ⟨b, o, rfl, fun t ht => ?_⟩
    have e : (Addr.mk b o none).add t = ⟨b, o + t, none⟩ := by simp [Addr.add]
    obtain ⟨h1, h2⟩ := hx t (by omega)
    obtain ⟨c, hc, _⟩ := DataW.trod_bool Try.underlying4 h2
    simp only [List.cons.injEq, and_true] at hc
    rw [← e, h1, hc]
end Go.Proofs.Ytjnegbjgkngkaaa
