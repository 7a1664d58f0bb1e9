/- A row of texts that was handed in, opened once: nil, empty or not. -/
import Derived.Test.YtomcbihaonndmaaDoorTView2
import Derived.Test.YtomcbihaonndmaaDoorTKnown
import Derived.Deep.Slices
namespace Go.Proofs.YtomcbihaonndmaaDoor
open Go.ChangeShapes Go.WideShapes Go.ChangeAt Go.RowKit
theorem add_plain' (b o k : Nat) : (⟨b, o, none⟩ : Addr).add k = ⟨b, o + k, none⟩ := by simp [Addr.add]
theorem Tryd.cellsStr : Tryd.prog.cellsOf 9 = 1 := by kernel_rfl
theorem viewS_cells {H : Type} {enc : TypeId × Value → H} {W : World} {fuel : Nat} {cs : List Value} {x : DataW H × List MemPlace}
    (hf : DataW.trod enc Tryd.prog W 0 (fun _ => true) true fuel 23 cs = some x) :
    ∃ (a0 : Option Addr) (len cap : Nat) (Z : Nat → ByteArray), cs = [.slice a0 len cap] ∧ StrsAt W a0 len Z := by
  rcases Deep.open_slice Tryd.underlying23 hf with ⟨hcs, hx⟩ | ⟨a, len, cap, m, n, D, Pl, rfl, hb, hl, hm, hmm, rfl, hx⟩
  · exact ⟨none, 0, 0, fun _ => ⟨#[]⟩, hcs, by omega, fun h => by omega⟩
  · simp only [if_true] at hmm
    subst hmm
    unfold maxLen at hm
    have each : ∀ i, i < m → ∃ z : ByteArray, W.cell? (a.add i) = some (.string z) := by
      intro i hi
      obtain ⟨cs', h1, h2⟩ := hx i hi
      rw [Tryd.cellsStr] at h1
      obtain ⟨_, hlen, hcell⟩ := World.cells?_some h1
      obtain ⟨z, rfl, _, hz⟩ := DataW.trod_string Tryd.underlying9 h2
      have e0 := hcell 0 (by omega)
      rw [Deep.add_add] at e0
      exact ⟨z, by simpa using e0⟩
    obtain ⟨q, hq⟩ := Deep.choose_lt each
    refine ⟨some a, len, m, q, rfl, by omega, fun hn => ?_⟩
    obtain ⟨b, o, s⟩ := a
    have h0 := hq 0 (by omega)
    have hs : s = none := by simpa [Addr.add] using World.cell?_spot h0
    subst hs
    refine ⟨b, o, rfl, fun t ht => ?_⟩
    have h1 := hq t (by omega)
    rw [add_plain'] at h1
    exact h1
set_option maxRecDepth 100000 in
theorem viewStrs {H : Type} {enc : TypeId × Value → H} {W : World} {b0 : Nat} {v : Value} {d : DataW H} {p : List MemPlace} (hv : Value.okWide Tryd.prog W .any b0 23 v)
    (h : DataW.Trod enc Tryd.prog W 0 (fun _ => true) true 23 v d p) : ∃ (a0 : Option Addr) (len cap : Nat) (Z : Nat → ByteArray), v = .slice a0 len cap ∧ StrsAt W a0 len Z := by
  obtain ⟨a0, la, ca, rfl⟩ := okWide_slice Tryd.underlying23 hv
  obtain ⟨f, hf⟩ := h
  obtain ⟨a1, l1, c1, Z, e, hA⟩ := viewS_cells hf
  simp [Value.cells] at e
  obtain ⟨rfl, rfl, rfl⟩ := e
  exact ⟨_, _, _, Z, rfl, hA⟩
end Go.Proofs.YtomcbihaonndmaaDoor
