/- Arguments that are rows of whole numbers, and rows of such rows, opened once: nil, empty or not. -/
import Derived.Test.YtomfkdaaimhmkaaTView
import Derived.Test.YtomfkdaaimhmkaaTFew
import Derived.Deep.Matrix
namespace Go.Proofs.Ytomfkdaaimhmkaa
open Go.ChangeShapes Go.WideShapes Go.ChangeAt Go.RowKit
theorem el_mem' {A : List Int} {k : Nat} (h : k < A.length) : el A k ∈ A := by
  unfold el; rw [List.getD_eq_getElem?_getD, List.getElem?_eq_getElem h]; exact List.getElem_mem h
theorem Try.cellsInt : Try.prog.cellsOf 3 = 1 := by kernel_rfl
theorem viewI_cells {H : Type} {enc : TypeId × Value → H} {W : World} {fuel : Nat} {cs : List Value} {x : DataW H × List MemPlace}
    (hf : DataW.trod enc Try.prog W 0 (fun _ => true) true fuel 23 cs = some x) :
    ∃ (a0 : Option Addr) (len cap : Nat) (Z : List Int), cs = [.slice a0 len cap] ∧ IArg W a0 len cap Z := by
  rcases open_ints Try.underlying23 Try.underlying3 Try.cellsInt hf with ⟨hcs, hx⟩ | ⟨a, len', cap', zs, hcs, _, hl, hm, hz, hx, hcell, hwz⟩
  · exact ⟨none, 0, 0, [], hcs, iarg_nil _⟩
  · simp only [if_true] at hz
    unfold maxLen at hm
    refine ⟨some a, len', cap', zs.take len', hcs, ⟨by simp; omega, by omega, fun k => ?_, fun hn => ?_⟩, hl, by omega, fun h => by cases h⟩
    · rcases Nat.lt_or_ge k (zs.take len').length with hk | hk
      · exact bounds_i64 (hwz _ (List.mem_of_mem_take (el_mem' hk)))
      · rw [el_over hk]; omega
    · obtain ⟨b, o, s⟩ := a
      have h0 := hcell 0 (by omega)
      have hs : s = none := by simpa [Addr.add] using World.cell?_spot h0
      subst hs
      refine ⟨b, o, rfl, fun t ht => ?_⟩
      have e : (Addr.mk b o none).add t = ⟨b, o + t, none⟩ := by simp [Addr.add]
      rw [← e, hcell t (by omega), el_take ht]
      rfl
set_option maxRecDepth 100000 in
theorem viewPI {H : Type} {enc : TypeId × Value → H} {W : World} {b0 : Nat} {v : Value} {d : DataW H} {p : List MemPlace} (hv : Value.okWide Try.prog W .any b0 23 v)
    (h : DataW.Trod enc Try.prog W 0 (fun _ => true) true 23 v d p) : ∃ (a0 : Option Addr) (len cap : Nat) (Z : List Int), v = .slice a0 len cap ∧ IArg W a0 len cap Z := by
  obtain ⟨a0, la, ca, rfl⟩ := okWide_slice Try.underlying23 hv
  obtain ⟨f, hf⟩ := h
  obtain ⟨a1, l1, c1, Z, e, hA⟩ := viewI_cells hf
  simp [Value.cells] at e
  obtain ⟨rfl, rfl, rfl⟩ := e
  exact ⟨_, _, _, Z, rfl, hA⟩
theorem Try.cellsInts : Try.prog.cellsOf 23 = 1 := by kernel_rfl
theorem viewG_cells {H : Type} {enc : TypeId × Value → H} {W : World} {fuel : Nat} {cs : List Value} {x : DataW H × List MemPlace}
    (hf : DataW.trod enc Try.prog W 0 (fun _ => true) true fuel 56 cs = some x) :
    ∃ (a0 : Option Addr) (len cap : Nat) (Z : GZ), cs = [.slice a0 len cap] ∧ GridI W a0 len Z.A Z.L Z.C Z.Z := by
  rcases Deep.open_int_rows Try.underlying56 Try.underlying23 Try.underlying3 Try.cellsInts Try.cellsInt hf with ⟨hcs, hx⟩ | ⟨a, len, cap, A, L, C, Z, hcs, _, hl, hm, _, hr⟩
  · exact ⟨none, 0, 0, ⟨fun _ => none, fun _ => 0, fun _ => 0, fun _ => []⟩, hcs, by omega, fun h => by omega⟩
  · unfold maxLen at hm
    refine ⟨some a, len, cap, ⟨A, L, C, fun r => (Z r).take (L r)⟩, hcs, by omega, fun hn => ?_⟩
    obtain ⟨b, o, s⟩ := a
    have hs : s = none := by simpa [Addr.add] using World.cell?_spot (hr 0 (by omega)).1
    subst hs
    refine ⟨b, o, rfl, fun t ht => ?_⟩
    obtain ⟨h1, h2, h3, h4, h5, h6, h7⟩ := hr t (by omega)
    unfold maxLen at h3
    have e : (Addr.mk b o none).add t = ⟨b, o + t, none⟩ := by simp [Addr.add]
    refine ⟨by rw [← e]; exact h1, ⟨by simp; omega, by show L t ≤ _; omega, fun k => ?_, fun hn => ?_⟩, h2, by show C t ≤ _; omega, h6⟩
    · show _ ≤ el ((Z t).take (L t)) k ∧ el ((Z t).take (L t)) k ≤ _
      rcases Nat.lt_or_ge k ((Z t).take (L t)).length with hk | hk
      · exact bounds_i64 (h5 _ (List.mem_of_mem_take (el_mem' hk)))
      · rw [el_over hk]; omega
    · have hn' : 0 < L t := hn
      rcases hA : A t with _ | ad
      · have := h6 hA; omega
      · obtain ⟨_, hc⟩ := h7 ad hA
        obtain ⟨b', o', s'⟩ := ad
        have hs : s' = none := by simpa [Addr.add] using World.cell?_spot (hc 0 (by omega))
        subst hs
        refine ⟨b', o', hA, fun u hu => ?_⟩
        have hu' : u < L t := hu
        have e : (Addr.mk b' o' none).add u = ⟨b', o' + u, none⟩ := by simp [Addr.add]
        show W.cell? _ = some (Value.int .i64 (el ((Z t).take (L t)) u))
        rw [← e, hc u (by omega), el_take hu']
        rfl
set_option maxRecDepth 100000 in
theorem viewActs {H : Type} {enc : TypeId × Value → H} {W : World} {b0 : Nat} {v : Value} {d : DataW H} {p : List MemPlace} (hv : Value.okWide Try.prog W .any b0 56 v)
    (h : DataW.Trod enc Try.prog W 0 (fun _ => true) true 56 v d p) : ∃ (a0 : Option Addr) (len cap : Nat) (Z : GZ), v = .slice a0 len cap ∧ GridI W a0 len Z.A Z.L Z.C Z.Z := by
  obtain ⟨a0, la, ca, rfl⟩ := okWide_slice Try.underlying56 hv
  obtain ⟨f, hf⟩ := h
  obtain ⟨a1, l1, c1, Z, e, hA⟩ := viewG_cells hf
  simp [Value.cells] at e
  obtain ⟨rfl, rfl, rfl⟩ := e
  exact ⟨_, _, _, Z, rfl, hA⟩
end Go.Proofs.Ytomfkdaaimhmkaa
