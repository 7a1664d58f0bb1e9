/- WireApart's walk: unlike messages have unlike frames. -/
import Derived.Test.YtmoohnpffohgeaaDoorWrView
import Derived.Test.YtmoohnpffohgeaaDoorLate
namespace Go.Proofs.YtmoohnpffohgeaaDoor
open Go.ChangeShapes Go.WideShapes Go.ChangeAt Go.RowKit
theorem mL_congr {g h : Nat → Int} (H : ∀ i, i < 10 → g i = h i) (A : List Int) (t : ByteArray) : mL g A t = mL h A t := by
  unfold mL nmL
  congr 1
  apply List.map_congr_left
  intro i hi
  rw [H i (by simpa using hi)]
theorem mL_inj {g h : Nat → Int} {A A' : List Int} {t t' : ByteArray} (hR : Rt g A t.size) (hR' : Rt h A' t'.size) (H : mL g A t = mL h A' t') : (∀ i, i < 10 → g i = h i) ∧ t = t' ∧ A = A' := by
  unfold mL at H
  have hn : ∀ (g : Nat → Int) (A : List Int) (tl : Nat), Rt g A tl → ∀ n ∈ nmL g, n ≤ 1099511627776 := fun g A tl hR n hn => by
    unfold nmL at hn
    obtain ⟨i, hi, rfl⟩ := List.mem_map.1 hn
    have := hR.num i (by simpa using hi)
    omega
  have ht : ∀ (g : Nat → Int) (A : List Int) (tl : Nat), Rt g A tl → ∀ n ∈ tokL A, n ≤ 255 := fun g A tl hR n hn => by
    unfold tokL at hn
    obtain ⟨x, hx, rfl⟩ := List.mem_map.1 hn
    obtain ⟨k, hk, rfl⟩ := List.getElem_of_mem hx
    have := hR.tok k
    unfold el at this
    rw [List.getD_eq_getElem?_getD, List.getElem?_eq_getElem hk] at this
    simp only [Option.getD_some] at this
    omega
  have l1 := hR.few
  have l2 := hR'.few
  have l3 := hR.len
  have l4 := hR'.len
  obtain ⟨e1, e2, e3⟩ := msgL_inj (by simp [nmL]) (hn g A _ hR) (hn h A' _ hR') (ht g A _ hR) (ht h A' _ hR') (by simp [tokL]; omega) (by simp [tokL]; omega) (by show t.size ≤ _; omega) (by show t'.size ≤ _; omega) H
  refine ⟨fun i hi => ?_, ?_, ?_⟩
  · have q := congrArg (fun l => l.getD i 0) e1
    unfold nmL at q
    simp only [List.getD_eq_getElem?_getD, List.getElem?_map, List.getElem?_range hi] at q
    simp only [Option.map_some, Option.getD_some] at q
    have a := hR.num i hi
    have b := hR'.num i hi
    omega
  · rw [← txt_of t, ← txt_of t', e3]
  · have back : ∀ (g : Nat → Int) (A : List Int) (tl : Nat), Rt g A tl → (tokL A).map (fun n : Nat => (n : Int)) = A := fun g A tl hR => by
      unfold tokL
      rw [List.map_map]
      conv => rhs; rw [← List.map_id A]
      apply List.map_congr_left
      intro x hx
      obtain ⟨k, hk, rfl⟩ := List.getElem_of_mem hx
      have := hR.tok k
      unfold el at this
      rw [List.getD_eq_getElem?_getD, List.getElem?_eq_getElem hk] at this
      simp only [Option.getD_some] at this
      simp only [Function.comp, id_eq]
      omega
    rw [← back g A _ hR, ← back h A' _ hR', e2]
theorem yields_row {ops : Array Oper} {S : World → Prop} {op : Oper} {a : Act} (hw : Region.wanted op (yielded ops a.tmps) = true) (ty : TypeId) (x : Operand) (ho : op.op = .load ty x)
    (g : Nat) (hx : a.eval x = .pointer (some ⟨g, 0, none⟩)) (T : TypeId) (cs : Array Value) (d : TypeDesc) (hS : ∀ w, S w → Blk w g T cs) (hu : Tryd.prog.underlying ty = some d) (hd : d.isRow = true) (hi : (Tryd.prog.info? ty).map (·.size) = some cs.size) :
    YieldsIf Tryd.prog ops S op (.agg cs) a := by
  have := yieldsIf_load_mid (P := Tryd.prog) (S := S) hw ty x ho g 0 hx cs.toList d (fun w h j v hv => by rw [Nat.zero_add]; exact (hS w h).cell j (by simpa using hv)) hu hd (by simpa using hi)
  simpa using this
end Go.Proofs.YtmoohnpffohgeaaDoor
