/- This program as the given rows see it; arguments that are rows of whole numbers or of calls, opened once. -/
import Derived.Test.YtgbljkbiigcofaaNBase
import Derived.ProofKit
import Derived.Carry
import Derived.OpenShut
import Derived.Deep.Slices
namespace Go.Proofs.Ytgbljkbiigcofaa
open Go.ChangeShapes Go.WideShapes Go.ChangeAt Go.RowKit
theorem Try.own : ownKnob Try.prog.godebug = none := by kernel_rfl
theorem Try.laidOut : laidOutB Try.prog = true := by kernel_rfl
/-- In w the slice of whole numbers from ao on reads as Z. -/
structure IRow (w : World) (ao : Option Addr) (n : Nat) (Z : Nat → Int) : Prop where
  max : n ≤ 9223372036854775807
  small : ∀ k, -9223372036854775808 ≤ Z k ∧ Z k ≤ 9223372036854775807
  cells : 0 < n → ∃ b o, ao = some ⟨b, o, none⟩ ∧ ∀ t, t < n → w.cell? ⟨b, o + t, none⟩ = some (.int .i64 (Z t))
structure StrsAt (w : World) (ao : Option Addr) (n : Nat) (S : Nat → ByteArray) : Prop where
  max : n ≤ 9223372036854775807
  cells : 0 < n → ∃ b o, ao = some ⟨b, o, none⟩ ∧ ∀ t, t < n → w.cell? ⟨b, o + t, none⟩ = some (.string (S t))
/-- A call: its kind, place, bit, frame and bits. -/
structure Act5 where
  kind : Int
  i : Int
  at_ : Int
  fr : ByteArray
  bits : Int
structure Act5.ok (a : Act5) : Prop where
  k : -9223372036854775808 ≤ a.kind ∧ a.kind ≤ 9223372036854775807
  i : -9223372036854775808 ≤ a.i ∧ a.i ≤ 9223372036854775807
  t : -9223372036854775808 ≤ a.at_ ∧ a.at_ ≤ 9223372036854775807
  b : 0 ≤ a.bits ∧ a.bits ≤ 4294967295
instance : Inhabited Act5 := ⟨⟨0, 0, 0, ⟨#[]⟩, 0⟩⟩
def zeroAct : Act5 := ⟨0, 0, 0, ⟨#[]⟩, 0⟩
theorem zeroAct_ok : zeroAct.ok := ⟨by decide, by decide, by decide, by decide⟩
structure ActsAt (w : World) (ao : Option Addr) (n : Nat) (Z : Nat → Act5) : Prop where
  max : n ≤ 9223372036854775807
  small : ∀ k, (Z k).ok
  cells : 0 < n → ∃ b o, ao = some ⟨b, o, none⟩ ∧ ∀ t, t < n → w.cell? ⟨b, o + t * 5, none⟩ = some (.int .i64 (Z t).kind) ∧ w.cell? ⟨b, o + t * 5 + 1, none⟩ = some (.int .i64 (Z t).i) ∧ w.cell? ⟨b, o + t * 5 + 2, none⟩ = some (.int .i64 (Z t).at_) ∧ w.cell? ⟨b, o + t * 5 + 3, none⟩ = some (.string (Z t).fr) ∧ w.cell? ⟨b, o + t * 5 + 4, none⟩ = some (.int .u32 (Z t).bits)
theorem add_plain' (b o k : Nat) : (⟨b, o, none⟩ : Addr).add k = ⟨b, o + k, none⟩ := by simp [Addr.add]
theorem Try.cellsInt : Try.prog.cellsOf 3 = 1 := by kernel_rfl
theorem Try.cellsU32 : Try.prog.cellsOf 33 = 1 := by kernel_rfl
theorem Try.cellsAct : Try.prog.cellsOf 35 = 5 := by kernel_rfl
theorem viewPI_cells {H : Type} {enc : TypeId × Value → H} {W : World} {fuel : Nat} {cs : List Value} {x : DataW H × List MemPlace}
    (hf : DataW.trod enc Try.prog W 0 (fun _ => true) true fuel 48 cs = some x) :
    ∃ (a0 : Option Addr) (len cap : Nat) (Z : Nat → Int), cs = [.slice a0 len cap] ∧ IRow W a0 len Z := by
  rcases Deep.open_slice Try.underlying48 hf with ⟨hcs, hx⟩ | ⟨a, len, cap, m, n, D, Pl, rfl, hb, hl, hm, hmm, rfl, hx⟩
  · exact ⟨none, 0, 0, fun _ => 0, hcs, by omega, fun _ => by omega, fun h => by omega⟩
  · simp only [if_true] at hmm
    subst hmm
    unfold maxLen at hm
    have each : ∀ i, i < m → ∃ z : Int, W.cell? (a.add i) = some (.int .i64 z) ∧ -9223372036854775808 ≤ z ∧ z ≤ 9223372036854775807 := by
      intro i hi
      obtain ⟨cs', h1, h2⟩ := hx i hi
      rw [Try.cellsInt] at h1
      obtain ⟨_, hlen, hcell⟩ := World.cells?_some h1
      obtain ⟨z, rfl, _, hz⟩ := DataW.trod_int Try.underlying3 h2
      have e0 := hcell 0 (by omega)
      rw [Deep.add_add] at e0
      exact ⟨z, by simpa using e0, bounds_i64 hz⟩
    obtain ⟨q, hq⟩ := Deep.choose_lt each
    refine ⟨some a, len, m, fun i => if i < m then q i else 0, rfl, by omega, fun k => ?_, fun hn => ?_⟩
    · by_cases hk : k < m
      · simp only [hk, if_true]; exact (hq k hk).2
      · simp only [hk, if_false]; omega
    · obtain ⟨b, o, s⟩ := a
      have h0 := (hq 0 (by omega)).1
      have hs : s = none := by simpa [Addr.add] using World.cell?_spot h0
      subst hs
      refine ⟨b, o, rfl, fun t ht => ?_⟩
      have h1 := (hq t (by omega)).1
      rw [add_plain'] at h1
      rw [if_pos (by omega)]
      exact h1
set_option maxRecDepth 100000 in
theorem viewPI {H : Type} {enc : TypeId × Value → H} {W : World} {b0 : Nat} {v : Value} {d : DataW H} {p : List MemPlace} (hv : Value.okWide Try.prog W .any b0 48 v)
    (h : DataW.Trod enc Try.prog W 0 (fun _ => true) true 48 v d p) : ∃ (a0 : Option Addr) (len cap : Nat) (Z : Nat → Int), v = .slice a0 len cap ∧ IRow W a0 len Z := by
  obtain ⟨a0, la, ca, rfl⟩ := okWide_slice Try.underlying48 hv
  obtain ⟨f, hf⟩ := h
  obtain ⟨a1, l1, c1, Z, e, hA⟩ := viewPI_cells hf
  simp [Value.cells] at e
  obtain ⟨rfl, rfl, rfl⟩ := e
  exact ⟨_, _, _, Z, rfl, hA⟩
theorem Try.cellsStr : Try.prog.cellsOf 9 = 1 := by kernel_rfl
theorem viewS_cells {H : Type} {enc : TypeId × Value → H} {W : World} {fuel : Nat} {cs : List Value} {x : DataW H × List MemPlace}
    (hf : DataW.trod enc Try.prog W 0 (fun _ => true) true fuel 47 cs = some x) :
    ∃ (a0 : Option Addr) (len cap : Nat) (Z : Nat → ByteArray), cs = [.slice a0 len cap] ∧ StrsAt W a0 len Z := by
  rcases Deep.open_slice Try.underlying47 hf with ⟨hcs, hx⟩ | ⟨a, len, cap, m, n, D, Pl, rfl, hb, hl, hm, hmm, rfl, hx⟩
  · exact ⟨none, 0, 0, fun _ => ⟨#[]⟩, hcs, by omega, fun h => by omega⟩
  · simp only [if_true] at hmm
    subst hmm
    unfold maxLen at hm
    have each : ∀ i, i < m → ∃ z : ByteArray, W.cell? (a.add i) = some (.string z) := by
      intro i hi
      obtain ⟨cs', h1, h2⟩ := hx i hi
      rw [Try.cellsStr] at h1
      obtain ⟨_, hlen, hcell⟩ := World.cells?_some h1
      obtain ⟨z, rfl, _, hz⟩ := DataW.trod_string Try.underlying9 h2
      have e0 := hcell 0 (by omega)
      rw [Deep.add_add] at e0
      exact ⟨z, by simpa using e0⟩
    obtain ⟨q, hq⟩ := Deep.choose_lt each
    refine ⟨some a, len, m, q, rfl, by omega, fun hn => ?_⟩
    obtain ⟨b, o, s⟩ := a
    have h0 := hq 0 (by omega)
    have hs : s = none := by simpa [Addr.add] using World.cell?_spot h0
    subst hs
    refine ⟨b, o, rfl, fun t ht => ?_⟩
    have h1 := hq t (by omega)
    rw [add_plain'] at h1
    exact h1
set_option maxRecDepth 100000 in
theorem viewStrs {H : Type} {enc : TypeId × Value → H} {W : World} {b0 : Nat} {v : Value} {d : DataW H} {p : List MemPlace} (hv : Value.okWide Try.prog W .any b0 47 v)
    (h : DataW.Trod enc Try.prog W 0 (fun _ => true) true 47 v d p) : ∃ (a0 : Option Addr) (len cap : Nat) (Z : Nat → ByteArray), v = .slice a0 len cap ∧ StrsAt W a0 len Z := by
  obtain ⟨a0, la, ca, rfl⟩ := okWide_slice Try.underlying47 hv
  obtain ⟨f, hf⟩ := h
  obtain ⟨a1, l1, c1, Z, e, hA⟩ := viewS_cells hf
  simp [Value.cells] at e
  obtain ⟨rfl, rfl, rfl⟩ := e
  exact ⟨_, _, _, Z, rfl, hA⟩
theorem viewActs_cells {H : Type} {enc : TypeId × Value → H} {W : World} {fuel : Nat} {cs : List Value} {x : DataW H × List MemPlace}
    (hf : DataW.trod enc Try.prog W 0 (fun _ => true) true fuel 22 cs = some x) :
    ∃ (a0 : Option Addr) (len cap : Nat) (Z : Nat → Act5), cs = [.slice a0 len cap] ∧ ActsAt W a0 len Z := by
  rcases Deep.open_slice Try.underlying22 hf with ⟨hcs, hx⟩ | ⟨a, len, cap, m, n, D, Pl, rfl, hb, hl, hm, hmm, rfl, hx⟩
  · exact ⟨none, 0, 0, fun _ => zeroAct, hcs, by omega, fun _ => zeroAct_ok, fun h => by omega⟩
  · simp only [if_true] at hmm
    subst hmm
    unfold maxLen at hm
    have each : ∀ i, i < m → ∃ z : Act5, W.cell? (a.add (i * 5)) = some (.int .i64 z.kind) ∧ W.cell? (a.add (i * 5 + 1)) = some (.int .i64 z.i) ∧ W.cell? (a.add (i * 5 + 2)) = some (.int .i64 z.at_) ∧ W.cell? (a.add (i * 5 + 3)) = some (.string z.fr) ∧ W.cell? (a.add (i * 5 + 4)) = some (.int .u32 z.bits) ∧ z.ok := by
      intro i hi
      obtain ⟨cs', h1, h2⟩ := hx i hi
      rw [Try.cellsAct] at h1
      obtain ⟨_, hlen, hcell⟩ := World.cells?_some h1
      obtain ⟨xs, k, hk, hxy, _, hxl, hff⟩ := DataW.trod_struct Try.underlying35 h2
      match xs, hxl, cs', hlen with
      | [y0, y1, y2, y3, y4], _, [v0, v1, v2, v3, v4], _ =>
        have g0 := hff 0 _ rfl
        have g1 := hff 1 _ rfl
        have g2 := hff 2 _ rfl
        have g3 := hff 3 _ rfl
        have g4 := hff 4 _ rfl
        simp [Try.cellsInt, Try.cellsStr, Try.cellsU32] at g0 g1 g2 g3 g4
        obtain ⟨x0, e0, _, w0⟩ := DataW.trod_int Try.underlying3 g0
        obtain ⟨x1, e1, _, w1⟩ := DataW.trod_int Try.underlying3 g1
        obtain ⟨x2, e2, _, w2⟩ := DataW.trod_int Try.underlying3 g2
        obtain ⟨x3, e3, _, _⟩ := DataW.trod_string Try.underlying9 g3
        obtain ⟨x4, e4, _, w4⟩ := DataW.trod_int Try.underlying33 g4
        simp only [List.cons.injEq, and_true] at e0 e1 e2 e3 e4
        subst e0 e1 e2 e3 e4
        have c0 := hcell 0 (by omega)
        have c1 := hcell 1 (by omega)
        have c2 := hcell 2 (by omega)
        have c3 := hcell 3 (by omega)
        have c4 := hcell 4 (by omega)
        rw [Deep.add_add] at c0 c1 c2 c3 c4
        exact ⟨⟨x0, x1, x2, x3, x4⟩, by simpa using c0, by simpa using c1, by simpa using c2, by simpa using c3, by simpa using c4, bounds_i64 w0, bounds_i64 w1, bounds_i64 w2, bounds_u32 w4⟩
    obtain ⟨q, hq⟩ := Deep.choose_lt each
    refine ⟨some a, len, m, fun i => if i < m then q i else zeroAct, rfl, by omega, fun k => ?_, fun hn => ?_⟩
    · by_cases hk : k < m
      · simp only [hk, if_true]; exact (hq k hk).2.2.2.2.2
      · simp only [hk, if_false]; exact zeroAct_ok
    · obtain ⟨b, o, s⟩ := a
      have h0 := (hq 0 (by omega)).1
      have hs : s = none := by simpa [Addr.add] using World.cell?_spot h0
      subst hs
      refine ⟨b, o, rfl, fun t ht => ?_⟩
      obtain ⟨h1, h2, h3, h4, h5, _⟩ := hq t (by omega)
      rw [add_plain'] at h1 h2 h3 h4 h5
      rw [if_pos (by omega)]
      exact ⟨h1, by rw [Nat.add_assoc]; exact h2, by rw [Nat.add_assoc]; exact h3, by rw [Nat.add_assoc]; exact h4, by rw [Nat.add_assoc]; exact h5⟩
set_option maxRecDepth 100000 in
theorem viewActs {H : Type} {enc : TypeId × Value → H} {W : World} {b0 : Nat} {v : Value} {d : DataW H} {p : List MemPlace} (hv : Value.okWide Try.prog W .any b0 22 v)
    (h : DataW.Trod enc Try.prog W 0 (fun _ => true) true 22 v d p) : ∃ (a0 : Option Addr) (len cap : Nat) (Z : Nat → Act5), v = .slice a0 len cap ∧ ActsAt W a0 len Z := by
  obtain ⟨a0, la, ca, rfl⟩ := okWide_slice Try.underlying22 hv
  obtain ⟨f, hf⟩ := h
  obtain ⟨a1, l1, c1, Z, e, hA⟩ := viewActs_cells hf
  simp [Value.cells] at e
  obtain ⟨rfl, rfl, rfl⟩ := e
  exact ⟨_, _, _, Z, rfl, hA⟩
end Go.Proofs.Ytgbljkbiigcofaa
