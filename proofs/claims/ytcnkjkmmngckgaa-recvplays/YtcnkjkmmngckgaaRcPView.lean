/- Arguments that are rows of structs, opened once. -/
import Derived.Test.YtcnkjkmmngckgaaRView
import Derived.ProofKit
import Derived.Carry
import Derived.OpenShut
import Derived.Deep.Slices
namespace Go.Proofs.Ytcnkjkmmngckgaa
open Go.ChangeShapes Go.WideShapes Go.ChangeAt Go.RowKit
theorem add_plV (b o k : Nat) : (⟨b, o, none⟩ : Addr).add k = ⟨b, o + k, none⟩ := by simp [Addr.add]
theorem Try.cellsVi64 : Try.prog.cellsOf 3 = 1 := by kernel_rfl
theorem Try.cellsVstr : Try.prog.cellsOf 9 = 1 := by kernel_rfl
structure Pt4 where
  num : Int
  at_ : Int
  of : Int
  tx : ByteArray
instance : Inhabited Pt4 := ⟨⟨0, 0, 0, ⟨#[]⟩⟩⟩
structure Pt4At (w : World) (ao : Option Addr) (n : Nat) (Z : Nat → Pt4) : Prop where
  max : n ≤ 9223372036854775807
  small : ∀ k, (-9223372036854775808 ≤ (Z k).num ∧ (Z k).num ≤ 9223372036854775807) ∧ (-9223372036854775808 ≤ (Z k).at_ ∧ (Z k).at_ ≤ 9223372036854775807) ∧ (-9223372036854775808 ≤ (Z k).of ∧ (Z k).of ≤ 9223372036854775807)
  cells : 0 < n → ∃ b o, ao = some ⟨b, o, none⟩ ∧ ∀ t, t < n → w.cell? ⟨b, o + t * 4, none⟩ = some (.int .i64 (Z t).num) ∧ w.cell? ⟨b, o + t * 4 + 1, none⟩ = some (.int .i64 (Z t).at_) ∧ w.cell? ⟨b, o + t * 4 + 2, none⟩ = some (.int .i64 (Z t).of) ∧ w.cell? ⟨b, o + t * 4 + 3, none⟩ = some (.string (Z t).tx)
theorem Pt4At.below {w w' : World} {ao : Option Addr} {n : Nat} {Z : Nat → Pt4} (h : Pt4At w ao n Z) (hb : Below w.heap.size w w') : Pt4At w' ao n Z := by
  refine ⟨h.max, h.small, fun hn => ?_⟩
  obtain ⟨b, o, e, hc⟩ := h.cells hn
  refine ⟨b, o, e, fun t ht => ?_⟩
  have h1 := hc t ht
  have hlt : b < w.heap.size := by simpa using World.block_lt_of_cell? w _ h1.1
  have e2 : ∀ k, w'.cell? ⟨b, k, none⟩ = w.cell? ⟨b, k, none⟩ := fun k => hb.cell (by exact hlt)
  simp only [e2]
  exact h1
theorem Try.cellsPt4 : Try.prog.cellsOf 35 = 4 := by kernel_rfl
theorem viewActs_cells {H : Type} {enc : TypeId × Value → H} {W : World} {fuel : Nat} {cs : List Value} {x : DataW H × List MemPlace}
    (hf : DataW.trod enc Try.prog W 0 (fun _ => true) true fuel 22 cs = some x) :
    ∃ (a0 : Option Addr) (len cap : Nat) (Z : Nat → Pt4), cs = [.slice a0 len cap] ∧ Pt4At W a0 len Z := by
  rcases Deep.open_slice Try.underlying22 hf with ⟨hcs, hx⟩ | ⟨a, len, cap, m, n, D, Pl, rfl, hb, hl, hm, hmm, rfl, hx⟩
  · exact ⟨none, 0, 0, fun _ => ⟨0, 0, 0, ⟨#[]⟩⟩, hcs, by omega, fun _ => by simp, fun h => by omega⟩
  · simp only [if_true] at hmm
    subst hmm
    unfold maxLen at hm
    have each : ∀ i, i < m → ∃ z : Pt4, W.cell? (a.add (i * 4)) = some (.int .i64 (z).num) ∧ W.cell? (a.add (i * 4 + 1)) = some (.int .i64 (z).at_) ∧ W.cell? (a.add (i * 4 + 2)) = some (.int .i64 (z).of) ∧ W.cell? (a.add (i * 4 + 3)) = some (.string (z).tx) ∧ (-9223372036854775808 ≤ (z).num ∧ (z).num ≤ 9223372036854775807) ∧ (-9223372036854775808 ≤ (z).at_ ∧ (z).at_ ≤ 9223372036854775807) ∧ (-9223372036854775808 ≤ (z).of ∧ (z).of ≤ 9223372036854775807) := by
      intro i hi
      obtain ⟨cs', h1, h2⟩ := hx i hi
      rw [Try.cellsPt4] at h1
      obtain ⟨_, hlen, hcell⟩ := World.cells?_some h1
      obtain ⟨xs, k, hk, hxy, _, hxl, hff⟩ := DataW.trod_struct Try.underlying35 h2
      match xs, hxl, cs', hlen with
      | [y0, y1, y2, y3], _, [v0, v1, v2, v3], _ =>
        have g0 := hff 0 _ rfl
        have g1 := hff 1 _ rfl
        have g2 := hff 2 _ rfl
        have g3 := hff 3 _ rfl
        simp [Try.cellsVi64, Try.cellsVstr] at g0 g1 g2 g3
        obtain ⟨x0, e0, _, w0⟩ := DataW.trod_int Try.underlying3 g0
        obtain ⟨x1, e1, _, w1⟩ := DataW.trod_int Try.underlying3 g1
        obtain ⟨x2, e2, _, w2⟩ := DataW.trod_int Try.underlying3 g2
        obtain ⟨x3, e3, _, _⟩ := DataW.trod_string Try.underlying9 g3
        simp only [List.cons.injEq, and_true] at e0 e1 e2 e3
        subst e0 e1 e2 e3
        have c0 := hcell 0 (by omega)
        have c1 := hcell 1 (by omega)
        have c2 := hcell 2 (by omega)
        have c3 := hcell 3 (by omega)
        rw [Deep.add_add] at c0 c1 c2 c3
        exact ⟨⟨x0, x1, x2, x3⟩, by simpa using c0, by simpa using c1, by simpa using c2, by simpa using c3, bounds_i64 w0, bounds_i64 w1, bounds_i64 w2⟩
    obtain ⟨q, hq⟩ := Deep.choose_lt each
    refine ⟨some a, len, m, fun i => if i < m then q i else ⟨0, 0, 0, ⟨#[]⟩⟩, rfl, by omega, fun k => ?_, fun hn => ?_⟩
    · by_cases hk : k < m
      · simp only [hk, if_true]; exact (hq k hk).2.2.2.2
      · simp only [hk, if_false]; omega
    · obtain ⟨b, o, s⟩ := a
      have h0 := (hq 0 (by omega)).1
      have hs : s = none := by simpa [Addr.add] using World.cell?_spot h0
      subst hs
      refine ⟨b, o, rfl, fun t ht => ?_⟩
      obtain ⟨h0, h1, h2, h3, _⟩ := hq t (by omega)
      rw [add_plV] at h0 h1 h2 h3
      rw [if_pos (by omega)]
      exact ⟨h0, by rw [Nat.add_assoc]; exact h1, by rw [Nat.add_assoc]; exact h2, by rw [Nat.add_assoc]; exact h3⟩
set_option maxRecDepth 100000 in
theorem viewActs {H : Type} {enc : TypeId × Value → H} {W : World} {b0 : Nat} {v : Value} {d : DataW H} {p : List MemPlace} (hv : Value.okWide Try.prog W .any b0 22 v)
    (h : DataW.Trod enc Try.prog W 0 (fun _ => true) true 22 v d p) : ∃ (a0 : Option Addr) (len cap : Nat) (Z : Nat → Pt4), v = .slice a0 len cap ∧ Pt4At W a0 len Z := by
  obtain ⟨a0, la, ca, rfl⟩ := okWide_slice Try.underlying22 hv
  obtain ⟨f, hf⟩ := h
  obtain ⟨a1, l1, c1, Z, e, hA⟩ := viewActs_cells hf
  simp [Value.cells] at e
  obtain ⟨rfl, rfl, rfl⟩ := e
  exact ⟨_, _, _, Z, rfl, hA⟩
end Go.Proofs.Ytcnkjkmmngckgaa
