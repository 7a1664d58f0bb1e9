/- Arguments that are rows of structs of whole numbers, opened once. -/
import Derived.Test.YtacmphckmjangaaMpBase
import Derived.ProofKit
import Derived.Carry
import Derived.OpenShut
import Derived.Deep.Slices
namespace Go.Proofs.Ytacmphckmjangaa
open Go.ChangeShapes Go.WideShapes Go.ChangeAt Go.RowKit
theorem Try.own : ownKnob Try.prog.godebug = none := by kernel_rfl
theorem Try.laidOut : laidOutB Try.prog = true := by kernel_rfl
theorem add_plain' (b o k : Nat) : (⟨b, o, none⟩ : Addr).add k = ⟨b, o + k, none⟩ := by simp [Addr.add]
theorem Try.cellsInt : Try.prog.cellsOf 3 = 1 := by kernel_rfl
structure Rh where
  pla : Int
  hol : Int
  epo : Int
  unt : Int
instance : Inhabited Rh := ⟨⟨0, 0, 0, 0⟩⟩
structure RhAt (w : World) (ao : Option Addr) (n : Nat) (Z : Nat → Rh) : Prop where
  max : n ≤ 9223372036854775807
  small : ∀ k, (-9223372036854775808 ≤ (Z k).pla ∧ (Z k).pla ≤ 9223372036854775807) ∧ (-9223372036854775808 ≤ (Z k).hol ∧ (Z k).hol ≤ 9223372036854775807) ∧ (-9223372036854775808 ≤ (Z k).epo ∧ (Z k).epo ≤ 9223372036854775807) ∧ (-9223372036854775808 ≤ (Z k).unt ∧ (Z k).unt ≤ 9223372036854775807)
  cells : 0 < n → ∃ b o, ao = some ⟨b, o, none⟩ ∧ ∀ t, t < n → w.cell? ⟨b, o + t * 4, none⟩ = some (.int .i64 (Z t).pla) ∧ w.cell? ⟨b, o + t * 4 + 1, none⟩ = some (.int .i64 (Z t).hol) ∧ w.cell? ⟨b, o + t * 4 + 2, none⟩ = some (.int .i64 (Z t).epo) ∧ w.cell? ⟨b, o + t * 4 + 3, none⟩ = some (.int .i64 (Z t).unt)
theorem RhAt.below {w w' : World} {ao : Option Addr} {n : Nat} {Z : Nat → Rh} (h : RhAt w ao n Z) (hb : Below w.heap.size w w') : RhAt w' ao n Z := by
  refine ⟨h.max, h.small, fun hn => ?_⟩
  obtain ⟨b, o, e, hc⟩ := h.cells hn
  refine ⟨b, o, e, fun t ht => ?_⟩
  have h1 := hc t ht
  have hlt : b < w.heap.size := by simpa using World.block_lt_of_cell? w _ h1.1
  have e2 : ∀ k, w'.cell? ⟨b, k, none⟩ = w.cell? ⟨b, k, none⟩ := fun k => hb.cell (by exact hlt)
  simp only [e2]
  exact h1
theorem Try.cellsRh : Try.prog.cellsOf 33 = 4 := by kernel_rfl
theorem viewStrs_cells {H : Type} {enc : TypeId × Value → H} {W : World} {fuel : Nat} {cs : List Value} {x : DataW H × List MemPlace}
    (hf : DataW.trod enc Try.prog W 0 (fun _ => true) true fuel 22 cs = some x) :
    ∃ (a0 : Option Addr) (len cap : Nat) (Z : Nat → Rh), cs = [.slice a0 len cap] ∧ RhAt W a0 len Z := by
  rcases Deep.open_slice Try.underlying22 hf with ⟨hcs, hx⟩ | ⟨a, len, cap, m, n, D, Pl, rfl, hb, hl, hm, hmm, rfl, hx⟩
  · exact ⟨none, 0, 0, fun _ => ⟨0, 0, 0, 0⟩, hcs, by omega, fun _ => by simp, fun h => by omega⟩
  · simp only [if_true] at hmm
    subst hmm
    unfold maxLen at hm
    have each : ∀ i, i < m → ∃ z : Rh, W.cell? (a.add (i * 4)) = some (.int .i64 z.pla) ∧ W.cell? (a.add (i * 4 + 1)) = some (.int .i64 z.hol) ∧ W.cell? (a.add (i * 4 + 2)) = some (.int .i64 z.epo) ∧ W.cell? (a.add (i * 4 + 3)) = some (.int .i64 z.unt) ∧ (-9223372036854775808 ≤ (z).pla ∧ (z).pla ≤ 9223372036854775807) ∧ (-9223372036854775808 ≤ (z).hol ∧ (z).hol ≤ 9223372036854775807) ∧ (-9223372036854775808 ≤ (z).epo ∧ (z).epo ≤ 9223372036854775807) ∧ (-9223372036854775808 ≤ (z).unt ∧ (z).unt ≤ 9223372036854775807) := by
      intro i hi
      obtain ⟨cs', h1, h2⟩ := hx i hi
      rw [Try.cellsRh] at h1
      obtain ⟨_, hlen, hcell⟩ := World.cells?_some h1
      obtain ⟨xs, k, hk, hxy, _, hxl, hff⟩ := DataW.trod_struct Try.underlying33 h2
      match xs, hxl, cs', hlen with
      | [y0, y1, y2, y3], _, [v0, v1, v2, v3], _ =>
        have g0 := hff 0 _ rfl
        have g1 := hff 1 _ rfl
        have g2 := hff 2 _ rfl
        have g3 := hff 3 _ rfl
        simp [Try.cellsInt] at g0 g1 g2 g3
        obtain ⟨x0, e0, _, w0⟩ := DataW.trod_int Try.underlying3 g0
        obtain ⟨x1, e1, _, w1⟩ := DataW.trod_int Try.underlying3 g1
        obtain ⟨x2, e2, _, w2⟩ := DataW.trod_int Try.underlying3 g2
        obtain ⟨x3, e3, _, w3⟩ := DataW.trod_int Try.underlying3 g3
        simp only [List.cons.injEq, and_true] at e0 e1 e2 e3
        subst e0 e1 e2 e3
        have c0 := hcell 0 (by omega)
        have c1 := hcell 1 (by omega)
        have c2 := hcell 2 (by omega)
        have c3 := hcell 3 (by omega)
        rw [Deep.add_add] at c0 c1 c2 c3
        exact ⟨⟨x0, x1, x2, x3⟩, by simpa using c0, by simpa using c1, by simpa using c2, by simpa using c3, bounds_i64 w0, bounds_i64 w1, bounds_i64 w2, bounds_i64 w3⟩
    obtain ⟨q, hq⟩ := Deep.choose_lt each
    refine ⟨some a, len, m, fun i => if i < m then q i else ⟨0, 0, 0, 0⟩, rfl, by omega, fun k => ?_, fun hn => ?_⟩
    · by_cases hk : k < m
      · simp only [hk, if_true]; exact (hq k hk).2.2.2.2
      · simp only [hk, if_false]; omega
    · obtain ⟨b, o, s⟩ := a
      have h0 := (hq 0 (by omega)).1
      have hs : s = none := by simpa [Addr.add] using World.cell?_spot h0
      subst hs
      refine ⟨b, o, rfl, fun t ht => ?_⟩
      obtain ⟨h0, h1, h2, h3, _⟩ := hq t (by omega)
      rw [add_plain'] at h0 h1 h2 h3
      rw [if_pos (by omega)]
      exact ⟨h0, by rw [Nat.add_assoc]; exact h1, by rw [Nat.add_assoc]; exact h2, by rw [Nat.add_assoc]; exact h3⟩
set_option maxRecDepth 100000 in
theorem viewStrs {H : Type} {enc : TypeId × Value → H} {W : World} {b0 : Nat} {v : Value} {d : DataW H} {p : List MemPlace} (hv : Value.okWide Try.prog W .any b0 22 v)
    (h : DataW.Trod enc Try.prog W 0 (fun _ => true) true 22 v d p) : ∃ (a0 : Option Addr) (len cap : Nat) (Z : Nat → Rh), v = .slice a0 len cap ∧ RhAt W a0 len Z := by
  obtain ⟨a0, la, ca, rfl⟩ := okWide_slice Try.underlying22 hv
  obtain ⟨f, hf⟩ := h
  obtain ⟨a1, l1, c1, Z, e, hA⟩ := viewStrs_cells hf
  simp [Value.cells] at e
  obtain ⟨rfl, rfl, rfl⟩ := e
  exact ⟨_, _, _, Z, rfl, hA⟩
structure La where
  kind : Int
  now : Int
  term : Int
  place : Int
  holder : Int
  epoch : Int
instance : Inhabited La := ⟨⟨0, 0, 0, 0, 0, 0⟩⟩
structure LaAt (w : World) (ao : Option Addr) (n : Nat) (Z : Nat → La) : Prop where
  max : n ≤ 9223372036854775807
  small : ∀ k, (-9223372036854775808 ≤ (Z k).kind ∧ (Z k).kind ≤ 9223372036854775807) ∧ (-9223372036854775808 ≤ (Z k).now ∧ (Z k).now ≤ 9223372036854775807) ∧ (-9223372036854775808 ≤ (Z k).term ∧ (Z k).term ≤ 9223372036854775807) ∧ (-9223372036854775808 ≤ (Z k).place ∧ (Z k).place ≤ 9223372036854775807) ∧ (-9223372036854775808 ≤ (Z k).holder ∧ (Z k).holder ≤ 9223372036854775807) ∧ (-9223372036854775808 ≤ (Z k).epoch ∧ (Z k).epoch ≤ 9223372036854775807)
  cells : 0 < n → ∃ b o, ao = some ⟨b, o, none⟩ ∧ ∀ t, t < n → w.cell? ⟨b, o + t * 6, none⟩ = some (.int .i64 (Z t).kind) ∧ w.cell? ⟨b, o + t * 6 + 1, none⟩ = some (.int .i64 (Z t).now) ∧ w.cell? ⟨b, o + t * 6 + 2, none⟩ = some (.int .i64 (Z t).term) ∧ w.cell? ⟨b, o + t * 6 + 3, none⟩ = some (.int .i64 (Z t).place) ∧ w.cell? ⟨b, o + t * 6 + 4, none⟩ = some (.int .i64 (Z t).holder) ∧ w.cell? ⟨b, o + t * 6 + 5, none⟩ = some (.int .i64 (Z t).epoch)
theorem LaAt.below {w w' : World} {ao : Option Addr} {n : Nat} {Z : Nat → La} (h : LaAt w ao n Z) (hb : Below w.heap.size w w') : LaAt w' ao n Z := by
  refine ⟨h.max, h.small, fun hn => ?_⟩
  obtain ⟨b, o, e, hc⟩ := h.cells hn
  refine ⟨b, o, e, fun t ht => ?_⟩
  have h1 := hc t ht
  have hlt : b < w.heap.size := by simpa using World.block_lt_of_cell? w _ h1.1
  have e2 : ∀ k, w'.cell? ⟨b, k, none⟩ = w.cell? ⟨b, k, none⟩ := fun k => hb.cell (by exact hlt)
  simp only [e2]
  exact h1
theorem Try.cellsLa : Try.prog.cellsOf 36 = 6 := by kernel_rfl
theorem viewActs_cells {H : Type} {enc : TypeId × Value → H} {W : World} {fuel : Nat} {cs : List Value} {x : DataW H × List MemPlace}
    (hf : DataW.trod enc Try.prog W 0 (fun _ => true) true fuel 23 cs = some x) :
    ∃ (a0 : Option Addr) (len cap : Nat) (Z : Nat → La), cs = [.slice a0 len cap] ∧ LaAt W a0 len Z := by
  rcases Deep.open_slice Try.underlying23 hf with ⟨hcs, hx⟩ | ⟨a, len, cap, m, n, D, Pl, rfl, hb, hl, hm, hmm, rfl, hx⟩
  · exact ⟨none, 0, 0, fun _ => ⟨0, 0, 0, 0, 0, 0⟩, hcs, by omega, fun _ => by simp, fun h => by omega⟩
  · simp only [if_true] at hmm
    subst hmm
    unfold maxLen at hm
    have each : ∀ i, i < m → ∃ z : La, W.cell? (a.add (i * 6)) = some (.int .i64 z.kind) ∧ W.cell? (a.add (i * 6 + 1)) = some (.int .i64 z.now) ∧ W.cell? (a.add (i * 6 + 2)) = some (.int .i64 z.term) ∧ W.cell? (a.add (i * 6 + 3)) = some (.int .i64 z.place) ∧ W.cell? (a.add (i * 6 + 4)) = some (.int .i64 z.holder) ∧ W.cell? (a.add (i * 6 + 5)) = some (.int .i64 z.epoch) ∧ (-9223372036854775808 ≤ (z).kind ∧ (z).kind ≤ 9223372036854775807) ∧ (-9223372036854775808 ≤ (z).now ∧ (z).now ≤ 9223372036854775807) ∧ (-9223372036854775808 ≤ (z).term ∧ (z).term ≤ 9223372036854775807) ∧ (-9223372036854775808 ≤ (z).place ∧ (z).place ≤ 9223372036854775807) ∧ (-9223372036854775808 ≤ (z).holder ∧ (z).holder ≤ 9223372036854775807) ∧ (-9223372036854775808 ≤ (z).epoch ∧ (z).epoch ≤ 9223372036854775807) := by
      intro i hi
      obtain ⟨cs', h1, h2⟩ := hx i hi
      rw [Try.cellsLa] at h1
      obtain ⟨_, hlen, hcell⟩ := World.cells?_some h1
      obtain ⟨xs, k, hk, hxy, _, hxl, hff⟩ := DataW.trod_struct Try.underlying36 h2
      match xs, hxl, cs', hlen with
      | [y0, y1, y2, y3, y4, y5], _, [v0, v1, v2, v3, v4, v5], _ =>
        have g0 := hff 0 _ rfl
        have g1 := hff 1 _ rfl
        have g2 := hff 2 _ rfl
        have g3 := hff 3 _ rfl
        have g4 := hff 4 _ rfl
        have g5 := hff 5 _ rfl
        simp [Try.cellsInt] at g0 g1 g2 g3 g4 g5
        obtain ⟨x0, e0, _, w0⟩ := DataW.trod_int Try.underlying3 g0
        obtain ⟨x1, e1, _, w1⟩ := DataW.trod_int Try.underlying3 g1
        obtain ⟨x2, e2, _, w2⟩ := DataW.trod_int Try.underlying3 g2
        obtain ⟨x3, e3, _, w3⟩ := DataW.trod_int Try.underlying3 g3
        obtain ⟨x4, e4, _, w4⟩ := DataW.trod_int Try.underlying3 g4
        obtain ⟨x5, e5, _, w5⟩ := DataW.trod_int Try.underlying3 g5
        simp only [List.cons.injEq, and_true] at e0 e1 e2 e3 e4 e5
        subst e0 e1 e2 e3 e4 e5
        have c0 := hcell 0 (by omega)
        have c1 := hcell 1 (by omega)
        have c2 := hcell 2 (by omega)
        have c3 := hcell 3 (by omega)
        have c4 := hcell 4 (by omega)
        have c5 := hcell 5 (by omega)
        rw [Deep.add_add] at c0 c1 c2 c3 c4 c5
        exact ⟨⟨x0, x1, x2, x3, x4, x5⟩, by simpa using c0, by simpa using c1, by simpa using c2, by simpa using c3, by simpa using c4, by simpa using c5, bounds_i64 w0, bounds_i64 w1, bounds_i64 w2, bounds_i64 w3, bounds_i64 w4, bounds_i64 w5⟩
    obtain ⟨q, hq⟩ := Deep.choose_lt each
    refine ⟨some a, len, m, fun i => if i < m then q i else ⟨0, 0, 0, 0, 0, 0⟩, rfl, by omega, fun k => ?_, fun hn => ?_⟩
    · by_cases hk : k < m
      · simp only [hk, if_true]; exact (hq k hk).2.2.2.2.2.2
      · simp only [hk, if_false]; omega
    · obtain ⟨b, o, s⟩ := a
      have h0 := (hq 0 (by omega)).1
      have hs : s = none := by simpa [Addr.add] using World.cell?_spot h0
      subst hs
      refine ⟨b, o, rfl, fun t ht => ?_⟩
      obtain ⟨h0, h1, h2, h3, h4, h5, _⟩ := hq t (by omega)
      rw [add_plain'] at h0 h1 h2 h3 h4 h5
      rw [if_pos (by omega)]
      exact ⟨h0, by rw [Nat.add_assoc]; exact h1, by rw [Nat.add_assoc]; exact h2, by rw [Nat.add_assoc]; exact h3, by rw [Nat.add_assoc]; exact h4, by rw [Nat.add_assoc]; exact h5⟩
set_option maxRecDepth 100000 in
theorem viewActs {H : Type} {enc : TypeId × Value → H} {W : World} {b0 : Nat} {v : Value} {d : DataW H} {p : List MemPlace} (hv : Value.okWide Try.prog W .any b0 23 v)
    (h : DataW.Trod enc Try.prog W 0 (fun _ => true) true 23 v d p) : ∃ (a0 : Option Addr) (len cap : Nat) (Z : Nat → La), v = .slice a0 len cap ∧ LaAt W a0 len Z := by
  obtain ⟨a0, la, ca, rfl⟩ := okWide_slice Try.underlying23 hv
  obtain ⟨f, hf⟩ := h
  obtain ⟨a1, l1, c1, Z, e, hA⟩ := viewActs_cells hf
  simp [Value.cells] at e
  obtain ⟨rfl, rfl, rfl⟩ := e
  exact ⟨_, _, _, Z, rfl, hA⟩
end Go.Proofs.Ytacmphckmjangaa
