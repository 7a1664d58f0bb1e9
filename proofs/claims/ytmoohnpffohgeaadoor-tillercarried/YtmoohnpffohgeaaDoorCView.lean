/- Arguments that are rows of messages, or of what a net does, opened once. -/
import Derived.Test.YtmoohnpffohgeaaDoorCSent
import Derived.Test.YtmoohnpffohgeaaDoorWrView
namespace Go.Proofs.YtmoohnpffohgeaaDoor
open Go.ChangeShapes Go.WideShapes Go.ChangeAt Go.RowKit
theorem add_plain' (b o k : Nat) : (⟨b, o, none⟩ : Addr).add k = ⟨b, o + k, none⟩ := by simp [Addr.add]
theorem Tryd.cellsU32 : Tryd.prog.cellsOf 42 = 1 := by kernel_rfl
theorem Tryd.cellsStr : Tryd.prog.cellsOf 9 = 1 := by kernel_rfl
theorem Tryd.cellsInts : Tryd.prog.cellsOf 28 = 1 := by kernel_rfl
theorem Tryd.cellsMsg : Tryd.prog.cellsOf 30 = 12 := by kernel_rfl
theorem Tryd.cellsCAct : Tryd.prog.cellsOf 44 = 4 := by kernel_rfl
/-- A message that was handed in. -/
structure MZ where
  g : Nat → Int
  ao : Option Addr
  n : Nat
  ca : Nat
  A : List Int
  t : ByteArray
structure MZ.At (w : World) (z : MZ) : Prop where
  num : ∀ k, k < 10 → -9223372036854775808 ≤ z.g k ∧ z.g k ≤ 9223372036854775807
  tok : IArg w z.ao z.n z.ca z.A
def zeroMZ : MZ := ⟨fun _ => 0, none, 0, 0, [], ⟨#[]⟩⟩
instance : Inhabited MZ := ⟨zeroMZ⟩
structure MsgsAt (w : World) (ao : Option Addr) (n : Nat) (Z : Nat → MZ) : Prop where
  max : n ≤ 9223372036854775807
  cells : 0 < n → ∃ b o, ao = some ⟨b, o, none⟩ ∧ ∀ t, t < n → (Z t).At w ∧ w.rangeAt b (o + t * 12) (msgC (Z t).g (.slice (Z t).ao (Z t).n (Z t).ca) (Z t).t).toList
theorem range_below {w w' : World} {b o : Nat} {cs : List Value} (h : w.rangeAt b o cs) (B : Below w.heap.size w w') : w'.rangeAt b o cs := fun j v hv => by
  have := h j v hv
  exact (B.cell (World.block_lt_of_cell? w _ this)).trans this
theorem MsgsAt.below {w w' : World} {ao : Option Addr} {n : Nat} {Z : Nat → MZ} (h : MsgsAt w ao n Z) (B : Below w.heap.size w w') : MsgsAt w' ao n Z :=
  ⟨h.max, fun hn => by
    obtain ⟨b, o, e, hc⟩ := h.cells hn
    exact ⟨b, o, e, fun t ht => ⟨⟨(hc t ht).1.num, (hc t ht).1.tok.below B⟩, range_below (hc t ht).2 B⟩⟩⟩
/-- Something that a net does. -/
structure Act4 where
  kind : Int
  i : Int
  at_ : Int
  bits : Int
instance : Inhabited Act4 := ⟨⟨0, 0, 0, 0⟩⟩
structure Act4.ok (a : Act4) : Prop where
  k : -9223372036854775808 ≤ a.kind ∧ a.kind ≤ 9223372036854775807
  i : -9223372036854775808 ≤ a.i ∧ a.i ≤ 9223372036854775807
  t : -9223372036854775808 ≤ a.at_ ∧ a.at_ ≤ 9223372036854775807
  b : 0 ≤ a.bits ∧ a.bits ≤ 4294967295
abbrev Act4.cs (a : Act4) : List Value := [.int .i64 a.kind, .int .i64 a.i, .int .i64 a.at_, .int .u32 a.bits]
structure CActsAt (w : World) (ao : Option Addr) (n : Nat) (Z : Nat → Act4) : Prop where
  max : n ≤ 9223372036854775807
  cells : 0 < n → ∃ b o, ao = some ⟨b, o, none⟩ ∧ ∀ t, t < n → (Z t).ok ∧ w.rangeAt b (o + t * 4) (Z t).cs
theorem CActsAt.below {w w' : World} {ao : Option Addr} {n : Nat} {Z : Nat → Act4} (h : CActsAt w ao n Z) (B : Below w.heap.size w w') : CActsAt w' ao n Z :=
  ⟨h.max, fun hn => by
    obtain ⟨b, o, e, hc⟩ := h.cells hn
    exact ⟨b, o, e, fun t ht => ⟨(hc t ht).1, range_below (hc t ht).2 B⟩⟩⟩
theorem viewCActs_cells {H : Type} {enc : TypeId × Value → H} {W : World} {fuel : Nat} {cs : List Value} {x : DataW H × List MemPlace}
    (hf : DataW.trod enc Tryd.prog W 0 (fun _ => true) true fuel 23 cs = some x) :
    ∃ (a0 : Option Addr) (len cap : Nat) (Z : Nat → Act4), cs = [.slice a0 len cap] ∧ CActsAt W a0 len Z := by
  rcases Deep.open_slice Tryd.underlying23 hf with ⟨hcs, hx⟩ | ⟨a, len, cap, m, n, D, Pl, rfl, hb, hl, hm, hmm, rfl, hx⟩
  · exact ⟨none, 0, 0, fun _ => ⟨0, 0, 0, 0⟩, hcs, by omega, fun h => by omega⟩
  · simp only [if_true] at hmm
    subst hmm
    unfold maxLen at hm
    have each : ∀ i, i < m → ∃ z : Act4, (∀ j v, z.cs[j]? = some v → W.cell? (a.add (i * 4 + j)) = some v) ∧ z.ok := by
      intro i hi
      obtain ⟨cs', h1, h2⟩ := hx i hi
      rw [Tryd.cellsCAct] at h1
      obtain ⟨_, hlen, hcell⟩ := World.cells?_some h1
      obtain ⟨xs, k, hk, hxy, _, hxl, hff⟩ := DataW.trod_struct Tryd.underlying44 h2
      match xs, hxl, cs', hlen with
      | [y0, y1, y2, y3], _, [v0, v1, v2, v3], _ =>
        have g0 := hff 0 _ rfl
        have g1 := hff 1 _ rfl
        have g2 := hff 2 _ rfl
        have g3 := hff 3 _ rfl
        simp [Tryd.cellsInt, Tryd.cellsU32] at g0 g1 g2 g3
        obtain ⟨x0, e0, _, w0⟩ := DataW.trod_int Tryd.underlying3 g0
        obtain ⟨x1, e1, _, w1⟩ := DataW.trod_int Tryd.underlying3 g1
        obtain ⟨x2, e2, _, w2⟩ := DataW.trod_int Tryd.underlying3 g2
        obtain ⟨x3, e3, _, w3⟩ := DataW.trod_int Tryd.underlying42 g3
        simp only [List.cons.injEq, and_true] at e0 e1 e2 e3
        subst e0 e1 e2 e3
        refine ⟨⟨x0, x1, x2, x3⟩, fun j v hj => ?_, bounds_i64 w0, bounds_i64 w1, bounds_i64 w2, bounds_u32 w3⟩
        have hj2 : j < 4 := by have := (List.getElem?_eq_some_iff.1 hj).1; simpa using this
        have cj := hcell j (by omega)
        rw [Deep.add_add] at cj
        rw [cj]
        rw [← hj]
    obtain ⟨q, hq⟩ := Deep.choose_lt each
    refine ⟨some a, len, m, q, rfl, by omega, fun hn => ?_⟩
    obtain ⟨b, o, s⟩ := a
    have h0 := (hq 0 (by omega)).1 0 _ rfl
    have hs : s = none := by simpa [Addr.add] using World.cell?_spot h0
    subst hs
    refine ⟨b, o, rfl, fun t ht => ⟨(hq t (by omega)).2, fun j v hv => ?_⟩⟩
    have := (hq t (by omega)).1 j v hv
    rw [add_plain'] at this
    rw [Nat.add_assoc]
    exact this
set_option maxRecDepth 100000 in
theorem viewCActs {H : Type} {enc : TypeId × Value → H} {W : World} {b0 : Nat} {v : Value} {d : DataW H} {p : List MemPlace} (hv : Value.okWide Tryd.prog W .any b0 23 v)
    (h : DataW.Trod enc Tryd.prog W 0 (fun _ => true) true 23 v d p) : ∃ (a0 : Option Addr) (len cap : Nat) (Z : Nat → Act4), v = .slice a0 len cap ∧ CActsAt W a0 len Z := by
  obtain ⟨a0, la, ca, rfl⟩ := okWide_slice Tryd.underlying23 hv
  obtain ⟨f, hf⟩ := h
  obtain ⟨a1, l1, c1, Z, e, hA⟩ := viewCActs_cells hf
  simp [Value.cells] at e
  obtain ⟨rfl, rfl, rfl⟩ := e
  exact ⟨_, _, _, Z, rfl, hA⟩
set_option maxRecDepth 100000 in
set_option maxHeartbeats 1000000 in
theorem viewMsgs_cells {H : Type} {enc : TypeId × Value → H} {W : World} {fuel : Nat} {cs : List Value} {x : DataW H × List MemPlace}
    (hf : DataW.trod enc Tryd.prog W 0 (fun _ => true) true fuel 22 cs = some x) :
    ∃ (a0 : Option Addr) (len cap : Nat) (Z : Nat → MZ), cs = [.slice a0 len cap] ∧ MsgsAt W a0 len Z := by
  rcases Deep.open_slice Tryd.underlying22 hf with ⟨hcs, hx⟩ | ⟨a, len, cap, m, n, D, Pl, rfl, hb, hl, hm, hmm, rfl, hx⟩
  · exact ⟨none, 0, 0, fun _ => zeroMZ, hcs, by omega, fun h => by omega⟩
  · simp only [if_true] at hmm
    subst hmm
    unfold maxLen at hm
    have each : ∀ i, i < m → ∃ z : MZ, (∀ j v, (msgC z.g (.slice z.ao z.n z.ca) z.t).toList[j]? = some v → W.cell? (a.add (i * 12 + j)) = some v) ∧ z.At W := by
      intro i hi
      obtain ⟨cs', h1, h2⟩ := hx i hi
      rw [Tryd.cellsMsg] at h1
      obtain ⟨_, hlen, hcell⟩ := World.cells?_some h1
      obtain ⟨xs, k, hk, hxy, _, hxl, hff⟩ := DataW.trod_struct Tryd.underlying30 h2
      match xs, hxl, cs', hlen with
      | [y0, y1, y2, y3, y4, y5, y6, y7, y8, y9, ya, yb], _, [v0, v1, v2, v3, v4, v5, v6, v7, v8, v9, va, vb], _ =>
        have g0 := hff 0 _ rfl
        have g1 := hff 1 _ rfl
        have g2 := hff 2 _ rfl
        have g3 := hff 3 _ rfl
        have g4 := hff 4 _ rfl
        have g5 := hff 5 _ rfl
        have g6 := hff 6 _ rfl
        have g7 := hff 7 _ rfl
        have g8 := hff 8 _ rfl
        have g9 := hff 9 _ rfl
        have g10 := hff 10 _ rfl
        have g11 := hff 11 _ rfl
        simp [Tryd.cellsInt, Tryd.cellsInts, Tryd.cellsStr] at g0 g1 g2 g3 g4 g5 g6 g7 g8 g9 g10 g11
        obtain ⟨x0, e0, _, w0⟩ := DataW.trod_int Tryd.underlying3 g0
        obtain ⟨x1, e1, _, w1⟩ := DataW.trod_int Tryd.underlying3 g1
        obtain ⟨x2, e2, _, w2⟩ := DataW.trod_int Tryd.underlying3 g2
        obtain ⟨x3, e3, _, w3⟩ := DataW.trod_int Tryd.underlying3 g3
        obtain ⟨x4, e4, _, w4⟩ := DataW.trod_int Tryd.underlying3 g4
        obtain ⟨x5, e5, _, w5⟩ := DataW.trod_int Tryd.underlying3 g5
        obtain ⟨x6, e6, _, w6⟩ := DataW.trod_int Tryd.underlying3 g6
        obtain ⟨x7, e7, _, w7⟩ := DataW.trod_int Tryd.underlying3 g7
        obtain ⟨x8, e8, _, w8⟩ := DataW.trod_int Tryd.underlying3 g8
        obtain ⟨x9, e9, _, w9⟩ := DataW.trod_int Tryd.underlying3 g9
        obtain ⟨aa, la, cp, Z, e10, hA⟩ := viewI_cells g10
        obtain ⟨x11, e11, _, _⟩ := DataW.trod_string Tryd.underlying9 g11
        simp only [List.cons.injEq, and_true] at e0 e1 e2 e3 e4 e5 e6 e7 e8 e9 e10 e11
        subst e0 e1 e2 e3 e4 e5 e6 e7 e8 e9 e10 e11
        refine ⟨⟨ten [x0, x1, x2, x3, x4, x5, x6, x7, x8, x9], aa, la, cp, Z, x11⟩, fun j v hj => ?_, fun k hk => ?_, hA⟩
        · have hj2 : j < 12 := by have := (List.getElem?_eq_some_iff.1 hj).1; simpa using this
          have cj := hcell j (by omega)
          rw [Deep.add_add] at cj
          rw [cj]
          exact hj
        · match k, hk with
          | 0, _ => exact bounds_i64 w0
          | 1, _ => exact bounds_i64 w1
          | 2, _ => exact bounds_i64 w2
          | 3, _ => exact bounds_i64 w3
          | 4, _ => exact bounds_i64 w4
          | 5, _ => exact bounds_i64 w5
          | 6, _ => exact bounds_i64 w6
          | 7, _ => exact bounds_i64 w7
          | 8, _ => exact bounds_i64 w8
          | 9, _ => exact bounds_i64 w9
    obtain ⟨q, hq⟩ := Deep.choose_lt each
    refine ⟨some a, len, m, q, rfl, by omega, fun hn => ?_⟩
    obtain ⟨b, o, s⟩ := a
    have h0 := (hq 0 (by omega)).1 0 _ rfl
    have hs : s = none := by simpa [Addr.add] using World.cell?_spot h0
    subst hs
    refine ⟨b, o, rfl, fun t ht => ⟨(hq t (by omega)).2, fun j v hv => ?_⟩⟩
    have := (hq t (by omega)).1 j v hv
    rw [add_plain'] at this
    rw [Nat.add_assoc]
    exact this
set_option maxRecDepth 100000 in
theorem viewMsgs {H : Type} {enc : TypeId × Value → H} {W : World} {b0 : Nat} {v : Value} {d : DataW H} {p : List MemPlace} (hv : Value.okWide Tryd.prog W .any b0 22 v)
    (h : DataW.Trod enc Tryd.prog W 0 (fun _ => true) true 22 v d p) : ∃ (a0 : Option Addr) (len cap : Nat) (Z : Nat → MZ), v = .slice a0 len cap ∧ MsgsAt W a0 len Z := by
  obtain ⟨a0, la, ca, rfl⟩ := okWide_slice Tryd.underlying22 hv
  obtain ⟨f, hf⟩ := h
  obtain ⟨a1, l1, c1, Z, e, hA⟩ := viewMsgs_cells hf
  simp [Value.cells] at e
  obtain ⟨rfl, rfl, rfl⟩ := e
  exact ⟨_, _, _, Z, rfl, hA⟩
end Go.Proofs.YtmoohnpffohgeaaDoor
