/- Arguments that are states, opened once, with what they weigh. -/
import Derived.Test.YtmblaigiipjmfaaSdMath
import Derived.Test.YtmblaigiipjmfaaRView
import Derived.SizedLaws
import Derived.SliceStrings
import Derived.Lib.SmallJoins
namespace Go.Proofs.Ytmblaigiipjmfaa
open Go.ChangeShapes Go.WideShapes Go.ChangeAt Go.RowKit
theorem Try.cellsStr : Try.prog.cellsOf 9 = 1 := by kernel_rfl
theorem Try.cellsBool : Try.prog.cellsOf 4 = 1 := by kernel_rfl
theorem Try.bytesStr : Try.prog.bytesOf 9 = 16 := by kernel_rfl
theorem Try.bytesBool : Try.prog.bytesOf 4 = 1 := by kernel_rfl
theorem add_pl (b o k : Nat) : (⟨b, o, none⟩ : Addr).add k = ⟨b, o + k, none⟩ := by simp [Addr.add]
theorem wAll_mem {H : Type} (ss : List ByteArray) (s : ByteArray) (h : s ∈ ss) : s.data.toList.length ∈ DataW.weightsAll (H := H) Try.prog 9 (ChangeShapes.strs ss) := by
  induction ss with
  | nil => cases h
  | cons x r ih =>
    unfold ChangeShapes.strs at *
    simp only [List.map_cons, DataW.weightsAll, List.mem_append]
    rcases List.mem_cons.1 h with rfl | h1
    · exact Or.inl (by simp [DataW.weights])
    · exact Or.inr (ih h1)
theorem viewS_cells {H : Type} {enc : TypeId × Value → H} {W : World} {fuel : Nat} {v : Value} {x : DataW H × List MemPlace}
    (hf : DataW.trod enc Try.prog W 0 (fun _ => true) true fuel 24 [v] = some x) (hw : ∀ k ∈ DataW.weights Try.prog 24 x.1, k ≤ reachBytes) :
    ∃ (a0 : Option Addr) (len cap : Nat) (S : List ByteArray), v = .slice a0 len cap ∧ VArg W a0 len cap (strs S) ∧ len * 16 ≤ reachBytes ∧ ∀ s ∈ S, s.size ≤ reachBytes := by
  rcases open_strings Try.underlying24 Try.underlying9 Try.cellsStr hf with ⟨hcs, _⟩ | ⟨a, len, cap, ss, hcs, _, hl, hm, hs, hx, hc, _⟩
  · simp only [List.cons.injEq, and_true] at hcs
    subst hcs
    exact ⟨none, 0, 0, [], rfl, varg_nil W, by unfold reachBytes; omega, by simp⟩
  · simp only [List.cons.injEq, and_true] at hcs
    subst hcs
    simp only [if_true] at hs
    unfold maxLen at hm
    rw [hx] at hw
    have hw1 := hw ((((ChangeShapes.strs (H := H) (ss.take len)).length) + (ChangeShapes.strs (H := H) (ss.drop len)).length) * 16) (by simp [DataW.weights, Try.underlying24, Try.bytesStr])
    have hlt : (ChangeShapes.strs (H := H) (ss.take len)).length = len := by unfold ChangeShapes.strs; rw [List.length_map, List.length_take]; omega
    rw [hlt] at hw1
    refine ⟨some a, len, cap, ss.take len, rfl, ⟨by rw [strs_len, List.length_take]; omega, hl, hm, fun h => (by cases h), fun hn => ?_⟩, by omega, fun s hs2 => ?_⟩
    · obtain ⟨b, o, sp⟩ := a
      have h0 := hc 0 (by omega)
      have hsp : sp = none := by simpa [Addr.add] using World.cell?_spot h0
      subst hsp
      refine ⟨b, o, rfl, fun t ht => ?_⟩
      have h1 := hc t (by omega)
      rw [add_pl] at h1
      rw [h1, strs_get (by rw [List.length_take]; omega)]
      unfold se
      rw [List.getD_eq_getElem?_getD, List.getD_eq_getElem?_getD, List.getElem?_take, if_pos ht]
      rfl
    · have := hw _ (by
        simp only [DataW.weights, Try.underlying24, List.mem_cons, List.mem_append]
        exact Or.inr (Or.inl (wAll_mem (ss.take len) s hs2)))
      exact this
theorem viewB_cells {H : Type} {enc : TypeId × Value → H} {W : World} {fuel : Nat} {v : Value} {x : DataW H × List MemPlace}
    (hf : DataW.trod enc Try.prog W 0 (fun _ => true) true fuel 28 [v] = some x) (hw : ∀ k ∈ DataW.weights Try.prog 28 x.1, k ≤ reachBytes) :
    ∃ (a0 : Option Addr) (len cap : Nat) (C : List Bool), v = .slice a0 len cap ∧ VArg W a0 len cap (bools C) ∧ len ≤ reachBytes := by
  rcases Go.Deep.open_slice1 Try.underlying28 (by kernel_rfl) hf with ⟨hcs, _⟩ | ⟨a, len, cap, m, n, V, D, Pl, hcs, _, hl, hm, hmm, hxx, hx⟩
  · simp only [List.cons.injEq, and_true] at hcs
    subst hcs
    exact ⟨none, 0, 0, [], rfl, varg_nil W, by unfold reachBytes; omega⟩
  · simp only [List.cons.injEq, and_true] at hcs
    subst hcs
    simp only [if_true] at hmm
    subst hmm
    unfold maxLen at hm
    rw [hxx] at hw
    have hw1 := hw ((((List.range len).map D).length + ((List.range (m - len)).map fun j => D (len + j)).length) * 1) (by simp [DataW.weights, Try.underlying28, Try.bytesBool])
    rw [List.length_map, List.length_range] at hw1
    refine ⟨some a, len, m, (List.range len).map (fun i => match V i with | .bool b => b | _ => false), rfl, ⟨by rw [bools_len]; simp, hl, hm, fun h => (by cases h), fun hn => ?_⟩, by omega⟩
    obtain ⟨b, o, s⟩ := a
    have h0 := (hx 0 (by omega)).1
    have hs : s = none := by simpa [Addr.add] using World.cell?_spot h0
    subst hs
    refine ⟨b, o, rfl, fun t ht => ?_⟩
    obtain ⟨h1, h2⟩ := hx t (by omega)
    obtain ⟨c, hc, _⟩ := DataW.trod_bool Try.underlying4 h2
    simp only [List.cons.injEq, and_true] at hc
    rw [add_pl] at h1
    rw [h1, hc]
    unfold bools
    simp [ht, hc]
set_option maxRecDepth 100000 in
theorem viewSst {H : Type} {enc : TypeId × Value → H} {W : World} {b0 : Nat} {v : Value} {d : DataW H} {p : List MemPlace} (hv : Value.okWide Try.prog W .any b0 30 v)
    (h : DataW.Trod enc Try.prog W 0 (fun _ => true) true 30 v d p) (hw : ∀ k ∈ DataW.weights Try.prog 30 d, k ≤ reachBytes) :
    ∃ (num : Int) (ap : Option Addr) (n cp : Nat) (ac : Option Addr) (m cc : Nat) (S : List ByteArray) (C : List Bool), v = stV num (.slice ap n cp) (.slice ac m cc) ∧ VArg W ap n cp (strs S) ∧ VArg W ac m cc (bools C) ∧ n * 16 ≤ 140737488351232 ∧ m ≤ 140737488351232 ∧ ∀ s ∈ S, s.size ≤ 140737488351232 := by
  obtain ⟨v0, v1, v2, y0, y1, y2, n, rfl, rfl, _, t0, t1, t2⟩ := Joins.open_agg3 Try.underlying30 (by kernel_rfl) (by kernel_rfl) hv h
  obtain ⟨r, e0, _, w0⟩ := DataW.trod_int Try.underlying3 t0
  have hw1 : ∀ k ∈ DataW.weights Try.prog 24 y1.1, k ≤ reachBytes := fun k hk => hw k (by
    simp only [DataW.weights, Try.underlying30]
    exact DataW.weights_mem_each (j := 1) rfl rfl k hk)
  have hw2 : ∀ k ∈ DataW.weights Try.prog 28 y2.1, k ≤ reachBytes := fun k hk => hw k (by
    simp only [DataW.weights, Try.underlying30]
    exact DataW.weights_mem_each (j := 2) rfl rfl k hk)
  obtain ⟨ap, ln, cp, S, e1, hS, hS2, hS3⟩ := viewS_cells t1 hw1
  obtain ⟨ac, lm, cc, C, e2, hC, hC2⟩ := viewB_cells t2 hw2
  simp only [List.cons.injEq, and_true] at e0
  subst e0 e1 e2
  unfold reachBytes at hS2 hS3 hC2
  exact ⟨r, ap, ln, cp, ac, lm, cc, S, C, rfl, hS, hC, hS2, hC2, hS3⟩
end Go.Proofs.Ytmblaigiipjmfaa
