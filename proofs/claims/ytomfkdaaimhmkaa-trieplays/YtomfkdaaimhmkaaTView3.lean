/- An argument that is a row of calls of tries: each a kind, a row of numbers and a value. -/
import Derived.Test.YtomfkdaaimhmkaaTView2
import Derived.Deep.Slices
namespace Go.Proofs.Ytomfkdaaimhmkaa
open Go.ChangeShapes Go.WideShapes Go.ChangeAt Go.RowKit
theorem add_plain3 (b o k : Nat) : (⟨b, o, none⟩ : Addr).add k = ⟨b, o + k, none⟩ := by simp [Addr.add]
theorem Try.cellsAct13 : Try.prog.cellsOf 33 = 3 := by kernel_rfl
/-- A call that was handed in. -/
structure AZ where
  kind : Int
  ao : Option Addr
  n : Nat
  ca : Nat
  A : List Int
  val : Int
instance : Inhabited AZ := ⟨⟨0, none, 0, 0, [], 0⟩⟩
structure AZ.At (w : World) (z : AZ) : Prop where
  k : -9223372036854775808 ≤ z.kind ∧ z.kind ≤ 9223372036854775807
  v : -9223372036854775808 ≤ z.val ∧ z.val ≤ 9223372036854775807
  tok : IArg w z.ao z.n z.ca z.A
structure AZsAt (w : World) (ao : Option Addr) (n : Nat) (Z : Nat → AZ) : Prop where
  max : n ≤ 9223372036854775807
  cells : 0 < n → ∃ b o, ao = some ⟨b, o, none⟩ ∧ ∀ t, t < n → (Z t).At w ∧ w.cell? ⟨b, o + t * 3, none⟩ = some (.int .i64 (Z t).kind) ∧ w.cell? ⟨b, o + t * 3 + 1, none⟩ = some (.slice (Z t).ao (Z t).n (Z t).ca) ∧ w.cell? ⟨b, o + t * 3 + 2, none⟩ = some (.int .i64 (Z t).val)
theorem viewA_cells {H : Type} {enc : TypeId × Value → H} {W : World} {fuel : Nat} {cs : List Value} {x : DataW H × List MemPlace}
    (hf : DataW.trod enc Try.prog W 0 (fun _ => true) true fuel 22 cs = some x) :
    ∃ (a0 : Option Addr) (len cap : Nat) (Z : Nat → AZ), cs = [.slice a0 len cap] ∧ AZsAt W a0 len Z := by
  rcases Deep.open_slice Try.underlying22 hf with ⟨hcs, hx⟩ | ⟨a, len, cap, m, n, D, Pl, rfl, hb, hl, hm, hmm, rfl, hx⟩
  · exact ⟨none, 0, 0, fun _ => default, hcs, by omega, fun h => by omega⟩
  · simp only [if_true] at hmm
    subst hmm
    unfold maxLen at hm
    have each : ∀ i, i < m → ∃ z : AZ, W.cell? (a.add (i * 3)) = some (.int .i64 z.kind) ∧ W.cell? (a.add (i * 3 + 1)) = some (.slice z.ao z.n z.ca) ∧ W.cell? (a.add (i * 3 + 2)) = some (.int .i64 z.val) ∧ z.At W := by
      intro i hi
      obtain ⟨cs', h1, h2⟩ := hx i hi
      rw [Try.cellsAct13] at h1
      obtain ⟨_, hlen, hcell⟩ := World.cells?_some h1
      obtain ⟨xs, k, hk, hxy, _, hxl, hff⟩ := DataW.trod_struct Try.underlying33 h2
      match xs, hxl, cs', hlen with
      | [y0, y1, y2], _, [v0, v1, v2], _ =>
        have g0 := hff 0 _ rfl
        have g1 := hff 1 _ rfl
        have g2 := hff 2 _ rfl
        simp [Try.cellsInt, Try.cellsInts] at g0 g1 g2
        obtain ⟨x0, e0, _, w0⟩ := DataW.trod_int Try.underlying3 g0
        obtain ⟨a1, l1, c1, Z1, e1, hA1⟩ := viewI_cells g1
        obtain ⟨x2, e2, _, w2⟩ := DataW.trod_int Try.underlying3 g2
        simp only [List.cons.injEq, and_true] at e0 e1 e2
        subst e0 e1 e2
        have c0 := hcell 0 (by omega)
        have c1' := hcell 1 (by omega)
        have c2 := hcell 2 (by omega)
        rw [Deep.add_add] at c0 c1' c2
        exact ⟨⟨x0, a1, l1, c1, Z1, x2⟩, by simpa using c0, by simpa using c1', by simpa using c2, ⟨bounds_i64 w0, bounds_i64 w2, hA1⟩⟩
    have hch : ∃ Z : Nat → AZ, ∀ i, i < m → W.cell? (a.add (i * 3)) = some (.int .i64 (Z i).kind) ∧ W.cell? (a.add (i * 3 + 1)) = some (.slice (Z i).ao (Z i).n (Z i).ca) ∧ W.cell? (a.add (i * 3 + 2)) = some (.int .i64 (Z i).val) ∧ (Z i).At W :=
      ⟨fun i => if h : i < m then (each i h).choose else default, fun i hi => by simp only [hi, dif_pos]; exact (each i hi).choose_spec⟩
    obtain ⟨Z, hZ⟩ := hch
    refine ⟨some a, len, m, Z, rfl, by omega, fun hn => ?_⟩
    obtain ⟨b, o, s⟩ := a
    have hs : s = none := by simpa [Addr.add] using World.cell?_spot (hZ 0 (by omega)).1
    subst hs
    refine ⟨b, o, rfl, fun t ht => ?_⟩
    obtain ⟨h1, h2, h3, h4⟩ := hZ t (by omega)
    rw [add_plain3] at h1 h2 h3
    exact ⟨h4, h1, by rw [Nat.add_assoc]; exact h2, by rw [Nat.add_assoc]; exact h3⟩
set_option maxRecDepth 100000 in
theorem viewStrs {H : Type} {enc : TypeId × Value → H} {W : World} {b0 : Nat} {v : Value} {d : DataW H} {p : List MemPlace} (hv : Value.okWide Try.prog W .any b0 22 v)
    (h : DataW.Trod enc Try.prog W 0 (fun _ => true) true 22 v d p) : ∃ (a0 : Option Addr) (len cap : Nat) (Z : Nat → AZ), v = .slice a0 len cap ∧ AZsAt W a0 len Z := by
  obtain ⟨a0, la, ca, rfl⟩ := okWide_slice Try.underlying22 hv
  obtain ⟨f, hf⟩ := h
  obtain ⟨a1, l1, c1, Z, e, hA⟩ := viewA_cells hf
  simp [Value.cells] at e
  obtain ⟨rfl, rfl, rfl⟩ := e
  exact ⟨_, _, _, Z, rfl, hA⟩
end Go.Proofs.Ytomfkdaaimhmkaa
