/- This program as the given rows see it; arguments that are rows of whole numbers or of calls, opened once. -/
import Derived.Test.YtfkmmjfahdpfcaaPBase
import Derived.ProofKit
import Derived.Carry
import Derived.OpenShut
import Derived.Deep.Slices
namespace Go.Proofs.Ytfkmmjfahdpfcaa
open Go.ChangeShapes Go.WideShapes Go.ChangeAt Go.RowKit
theorem Try.own : ownKnob Try.prog.godebug = none := by kernel_rfl
theorem Try.laidOut : laidOutB Try.prog = true := by kernel_rfl
/-- In w the slice of whole numbers from ao on reads as Z. -/
structure PRow (w : World) (ao : Option Addr) (n : Nat) (Z : Nat → Int) : Prop where
  max : n ≤ 9223372036854775807
  small : ∀ k, -9223372036854775808 ≤ Z k ∧ Z k ≤ 9223372036854775807
  cells : 0 < n → ∃ b o, ao = some ⟨b, o, none⟩ ∧ ∀ t, t < n → w.cell? ⟨b, o + t, none⟩ = some (.int .i64 (Z t))
/-- A call: its kind, page and key. -/
structure Act3 where
  kind : Int
  i : Int
  key : Int
instance : Inhabited Act3 := ⟨⟨0, 0, 0⟩⟩
structure ActsAt (w : World) (ao : Option Addr) (n : Nat) (Z : Nat → Act3) : Prop where
  max : n ≤ 9223372036854775807
  small : ∀ k, (-9223372036854775808 ≤ (Z k).kind ∧ (Z k).kind ≤ 9223372036854775807) ∧ (-9223372036854775808 ≤ (Z k).i ∧ (Z k).i ≤ 9223372036854775807) ∧ (-9223372036854775808 ≤ (Z k).key ∧ (Z k).key ≤ 9223372036854775807)
  cells : 0 < n → ∃ b o, ao = some ⟨b, o, none⟩ ∧ ∀ t, t < n → w.cell? ⟨b, o + t * 3, none⟩ = some (.int .i64 (Z t).kind) ∧ w.cell? ⟨b, o + t * 3 + 1, none⟩ = some (.int .i64 (Z t).i) ∧ w.cell? ⟨b, o + t * 3 + 2, none⟩ = some (.int .i64 (Z t).key)
theorem add_plain' (b o k : Nat) : (⟨b, o, none⟩ : Addr).add k = ⟨b, o + k, none⟩ := by simp [Addr.add]
theorem Try.cellsInt : Try.prog.cellsOf 3 = 1 := by kernel_rfl
theorem Try.cellsAct : Try.prog.cellsOf 35 = 3 := by kernel_rfl
theorem viewPI_cells {H : Type} {enc : TypeId × Value → H} {W : World} {fuel : Nat} {cs : List Value} {x : DataW H × List MemPlace}
    (hf : DataW.trod enc Try.prog W 0 (fun _ => true) true fuel 29 cs = some x) :
    ∃ (a0 : Option Addr) (len cap : Nat) (Z : Nat → Int), cs = [.slice a0 len cap] ∧ PRow W a0 len Z := by
  rcases Deep.open_slice Try.underlying29 hf with ⟨hcs, hx⟩ | ⟨a, len, cap, m, n, D, Pl, rfl, hb, hl, hm, hmm, rfl, hx⟩
  · exact ⟨none, 0, 0, fun _ => 0, hcs, by omega, fun _ => by omega, fun h => by omega⟩
  · simp only [if_true] at hmm
    subst hmm
    unfold maxLen at hm
    have each : ∀ i, i < m → ∃ z : Int, W.cell? (a.add i) = some (.int .i64 z) ∧ -9223372036854775808 ≤ z ∧ z ≤ 9223372036854775807 := by
      intro i hi
      obtain ⟨cs', h1, h2⟩ := hx i hi
      rw [Try.cellsInt] at h1
      obtain ⟨_, hlen, hcell⟩ := World.cells?_some h1
      obtain ⟨z, rfl, _, hz⟩ := DataW.trod_int Try.underlying3 h2
      have e0 := hcell 0 (by omega)
      rw [Deep.add_add] at e0
      exact ⟨z, by simpa using e0, bounds_i64 hz⟩
    obtain ⟨q, hq⟩ := Deep.choose_lt each
    refine ⟨some a, len, m, fun i => if i < m then q i else 0, rfl, by omega, fun k => ?_, fun hn => ?_⟩
    · by_cases hk : k < m
      · simp only [hk, if_true]; exact (hq k hk).2
      · simp only [hk, if_false]; omega
    · obtain ⟨b, o, s⟩ := a
      have h0 := (hq 0 (by omega)).1
      have hs : s = none := by simpa [Addr.add] using World.cell?_spot h0
      subst hs
      refine ⟨b, o, rfl, fun t ht => ?_⟩
      have h1 := (hq t (by omega)).1
      rw [add_plain'] at h1
      rw [if_pos (by omega)]
      exact h1
set_option maxRecDepth 100000 in
theorem viewPI {H : Type} {enc : TypeId × Value → H} {W : World} {b0 : Nat} {v : Value} {d : DataW H} {p : List MemPlace} (hv : Value.okWide Try.prog W .any b0 29 v)
    (h : DataW.Trod enc Try.prog W 0 (fun _ => true) true 29 v d p) : ∃ (a0 : Option Addr) (len cap : Nat) (Z : Nat → Int), v = .slice a0 len cap ∧ PRow W a0 len Z := by
  obtain ⟨a0, la, ca, rfl⟩ := okWide_slice Try.underlying29 hv
  obtain ⟨f, hf⟩ := h
  obtain ⟨a1, l1, c1, Z, e, hA⟩ := viewPI_cells hf
  simp [Value.cells] at e
  obtain ⟨rfl, rfl, rfl⟩ := e
  exact ⟨_, _, _, Z, rfl, hA⟩
theorem viewActs_cells {H : Type} {enc : TypeId × Value → H} {W : World} {fuel : Nat} {cs : List Value} {x : DataW H × List MemPlace}
    (hf : DataW.trod enc Try.prog W 0 (fun _ => true) true fuel 22 cs = some x) :
    ∃ (a0 : Option Addr) (len cap : Nat) (Z : Nat → Act3), cs = [.slice a0 len cap] ∧ ActsAt W a0 len Z := by
  rcases Deep.open_slice Try.underlying22 hf with ⟨hcs, hx⟩ | ⟨a, len, cap, m, n, D, Pl, rfl, hb, hl, hm, hmm, rfl, hx⟩
  · exact ⟨none, 0, 0, fun _ => ⟨0, 0, 0⟩, hcs, by omega, fun _ => by simp, fun h => by omega⟩
  · simp only [if_true] at hmm
    subst hmm
    unfold maxLen at hm
    have each : ∀ i, i < m → ∃ z : Act3, W.cell? (a.add (i * 3)) = some (.int .i64 z.kind) ∧ W.cell? (a.add (i * 3 + 1)) = some (.int .i64 z.i) ∧ W.cell? (a.add (i * 3 + 2)) = some (.int .i64 z.key) ∧ (-9223372036854775808 ≤ z.kind ∧ z.kind ≤ 9223372036854775807) ∧ (-9223372036854775808 ≤ z.i ∧ z.i ≤ 9223372036854775807) ∧ (-9223372036854775808 ≤ z.key ∧ z.key ≤ 9223372036854775807) := by
      intro i hi
      obtain ⟨cs', h1, h2⟩ := hx i hi
      rw [Try.cellsAct] at h1
      obtain ⟨_, hlen, hcell⟩ := World.cells?_some h1
      obtain ⟨xs, k, hk, hxy, _, hxl, hff⟩ := DataW.trod_struct Try.underlying35 h2
      match xs, hxl, cs', hlen with
      | [y0, y1, y2], _, [v0, v1, v2], _ =>
        have g0 := hff 0 _ rfl
        have g1 := hff 1 _ rfl
        have g2 := hff 2 _ rfl
        simp [Try.cellsInt] at g0 g1 g2
        obtain ⟨x0, e0, _, w0⟩ := DataW.trod_int Try.underlying3 g0
        obtain ⟨x1, e1, _, w1⟩ := DataW.trod_int Try.underlying3 g1
        obtain ⟨x2, e2, _, w2⟩ := DataW.trod_int Try.underlying3 g2
        simp only [List.cons.injEq, and_true] at e0 e1 e2
        subst e0 e1 e2
        have c0 := hcell 0 (by omega)
        have c1 := hcell 1 (by omega)
        have c2 := hcell 2 (by omega)
        rw [Deep.add_add] at c0 c1 c2
        exact ⟨⟨x0, x1, x2⟩, by simpa using c0, by simpa using c1, by simpa using c2, bounds_i64 w0, bounds_i64 w1, bounds_i64 w2⟩
    obtain ⟨q, hq⟩ := Deep.choose_lt each
    refine ⟨some a, len, m, fun i => if i < m then q i else ⟨0, 0, 0⟩, rfl, by omega, fun k => ?_, fun hn => ?_⟩
    · by_cases hk : k < m
      · simp only [hk, if_true]; exact (hq k hk).2.2.2
      · simp only [hk, if_false]; omega
    · obtain ⟨b, o, s⟩ := a
      have h0 := (hq 0 (by omega)).1
      have hs : s = none := by simpa [Addr.add] using World.cell?_spot h0
      subst hs
      refine ⟨b, o, rfl, fun t ht => ?_⟩
      obtain ⟨h1, h2, h3, _⟩ := hq t (by omega)
      rw [add_plain'] at h1 h2 h3
      rw [if_pos (by omega)]
      exact ⟨h1, by rw [Nat.add_assoc]; exact h2, by rw [Nat.add_assoc]; exact h3⟩
set_option maxRecDepth 100000 in
theorem viewActs {H : Type} {enc : TypeId × Value → H} {W : World} {b0 : Nat} {v : Value} {d : DataW H} {p : List MemPlace} (hv : Value.okWide Try.prog W .any b0 22 v)
    (h : DataW.Trod enc Try.prog W 0 (fun _ => true) true 22 v d p) : ∃ (a0 : Option Addr) (len cap : Nat) (Z : Nat → Act3), v = .slice a0 len cap ∧ ActsAt W a0 len Z := by
  obtain ⟨a0, la, ca, rfl⟩ := okWide_slice Try.underlying22 hv
  obtain ⟨f, hf⟩ := h
  obtain ⟨a1, l1, c1, Z, e, hA⟩ := viewActs_cells hf
  simp [Value.cells] at e
  obtain ⟨rfl, rfl, rfl⟩ := e
  exact ⟨_, _, _, Z, rfl, hA⟩
end Go.Proofs.Ytfkmmjfahdpfcaa
