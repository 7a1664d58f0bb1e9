/- A net's Look, Take, Lose and Move; slices.Delete of one parcel. -/
import Derived.Test.YtmoohnpffohgeaaDoorNSend
namespace Go.Proofs.YtmoohnpffohgeaaDoor
open Go.ChangeShapes Go.WideShapes Go.ChangeAt Go.RowKit
theorem Tryd.zeroParcel : ∀ w, (zeroValue 48).run Tryd.prog w = .ok (.agg #[.int .i64 0, .string ⟨#[]⟩, .bool false]) w := fun w => by simp [go_sem]
def zero3 : List Value := [.int .i64 0, .string ⟨#[]⟩, .bool false]
def zeros3 : Nat → List Value
  | 0 => []
  | n + 1 => zero3 ++ zeros3 n
theorem zeros3_len : ∀ n, (zeros3 n).length = n * 3
  | 0 => rfl
  | n + 1 => by simp only [zeros3, List.length_append, zeros3_len n]; simp [zero3]; omega
theorem zeros3_one : ∀ n (u : Value), u ∈ zeros3 n → u.oneCell' = true
  | 0, u, h => by simp [zeros3] at h
  | n + 1, u, h => by
    simp only [zeros3, List.mem_append] at h
    rcases h with h | h
    · simp only [zero3, List.mem_cons, List.not_mem_nil, or_false] at h
      rcases h with rfl | rfl | rfl <;> rfl
    · exact zeros3_one n u h
theorem zeros3_get : ∀ (n i : Nat), i < n * 3 → (zeros3 n)[i]? = some ((#[Value.int .i64 0, .string ⟨#[]⟩, .bool false] : Array Value)[i % 3]!)
  | 0, i, h => by omega
  | n + 1, i, h => by
    simp only [zeros3]
    by_cases h3 : i < 3
    · match i, h3 with
      | 0, _ => rfl
      | 1, _ => rfl
      | 2, _ => rfl
    · rw [List.getElem?_append_right (by simp [zero3]; omega), show i - zero3.length = i - 3 from rfl, zeros3_get n (i - 3) (by omega), show (i - 3) % 3 = i % 3 by omega]
theorem zeroCells3 (n : Nat) : (Builtin.zeroCells #[Value.int .i64 0, .string ⟨#[]⟩, .bool false] n).toList = zeros3 n := by
  apply List.ext_getElem?
  intro i
  by_cases h : i < n * 3
  · rw [zeros3_get n i h]
    simp [Builtin.zeroCells, h]
  · rw [List.getElem?_eq_none (by simp [Builtin.zeroCells]; omega), List.getElem?_eq_none (by rw [zeros3_len]; omega)]
theorem run_clear3 (w : World) (ty : TypeId) (g p n c : Nat) (hn : 0 < n) (hc : ∀ j, j < n * 3 → (w.cell? ⟨g, p + j, none⟩).isSome = true) (hf : ∀ j, j < n * 3 → w.frozen? ⟨g, p + j, none⟩ = false) :
    (Builtin.clear_ #[31] ty #[.slice (some ⟨g, p, none⟩) n c]).run Tryd.prog w = .ok (.tuple #[]) (w.setCells g p (zeros3 n)) := by
  have hst := run_storeCells_cells (P := Tryd.prog) g p (zeros3 n) 0 w (by rw [zeros3_len]; simpa using hc) (by rw [zeros3_len]; simpa using hf) (zeros3_one n)
  simp only [Nat.add_zero] at hst
  have hzc : (Builtin.zeroCells (Value.agg #[.int .i64 0, .string ⟨#[]⟩, .bool false]).cells n).toList = zeros3 n := zeroCells3 n
  obtain ⟨m, rfl⟩ : ∃ m, n = m + 1 := ⟨n - 1, by omega⟩
  simp [Builtin.clear_, run_underlying Tryd.underlying31, hzc, hst]
set_option maxHeartbeats 2000000 in
set_option maxRecDepth 1000000 in
theorem delete_any (B g cap j : Nat) (L : List Pc) (w : World) (h : PRow 48 w B (.slice (some ⟨g, 0, none⟩) L.length cap) L) (hj : j < L.length) :
   Calls Tryd.prog 24 #[.slice (some ⟨g, 0, none⟩) L.length cap, .int .i64 (j : Int), .int .i64 ((j : Int) + 1)] w fun e w' => e = .returned (.slice (some ⟨g, 0, none⟩) (L.length - 1) cap) ∧ PRow 48 w' B (.slice (some ⟨g, 0, none⟩) (L.length - 1) cap) (L.eraseIdx j) ∧ w.grownBy w' (some g) := by
  obtain ⟨i0, hi0, hz0, hz1, hz2⟩ := info_parts Tryd.infoParcel
  rcases h.cases with ⟨e, _⟩ | ⟨g', cap', cs, e, q1, q2, q3, q4, q5, q6⟩
  · cases e
  simp only [Value.slice.injEq, Option.some.injEq, Addr.mk.injEq, and_true, true_and] at e
  obtain ⟨rfl, rfl⟩ := e
  have hm : cap ≤ 9223372036854775807 := by simpa [maxLen] using q4
  have nl : (flat (L.drop (j + 1))).length = (L.length - (j + 1)) * 3 := by rw [flat_len, List.length_drop]
  obtain ⟨A, hA, hnews⟩ : ∃ A : Addr, (if cap = j + 1 then some (⟨g, 0, none⟩ : Addr) else some ⟨g, (j + 1) * 3, none⟩) = some A ∧ Hid (∀ t u, (flat (L.drop (j + 1)))[t]? = some u → w.drew.cell? (A.add t) = some u) := by
    by_cases hc : cap = j + 1
    · refine ⟨⟨g, 0, none⟩, by simp [hc], fun t u hu => ?_⟩
      have h0 : (flat (L.drop (j + 1))).length = 0 := by rw [nl]; omega
      rw [List.length_eq_zero_iff.1 h0] at hu
      simp at hu
    · refine ⟨⟨g, (j + 1) * 3, none⟩, by simp [hc], fun t u hu => ?_⟩
      rw [Addr.add_lit]
      refine q2.cell (w := w.drew) _ ?_
      have ht : t < (L.length - (j + 1)) * 3 := by
        have := (List.getElem?_eq_some_iff.1 hu).1
        rwa [nl] at this
      rw [flat_drop, List.getElem?_drop, ← q6, List.getElem?_take, if_pos (by omega)] at hu
      simpa using hu
  have s1 : Hid ((flat (L.drop (j + 1))).length = (L.length - (j + 1)) * 3) := nl
  have s2 : Hid (∀ u ∈ flat (L.drop (j + 1)), u.oneCell' = true) := flat_one _
  have s3 : Hid (∀ t, t < (flat (L.drop (j + 1))).length → (w.drew.cell? ⟨g, 0 + j * 3 + t, none⟩).isSome = true ∧ w.drew.frozen? ⟨g, 0 + j * 3 + t, none⟩ = false) := by
    intro t ht
    rw [nl] at ht
    exact ⟨by rw [q2.cell (w := w.drew) _ (Array.getElem?_eq_getElem (by omega))]; rfl, q2.frozen (w := w.drew) _⟩
  have X1 := blk_setCells g _ (flat (L.drop (j + 1))) (0 + j * 3) w.drew cs q2 (by rw [nl]; omega)
  have Y1 : w.grownBy (w.drew.setCells g (0 + j * 3) (flat (L.drop (j + 1)))) (some g) := grownBy_setCells g _ _ _ ⟨rfl, rfl, rfl, Nat.le_refl _, fun _ _ _ => rfl⟩
  rw [nl] at X1
  generalize hds : (cs.toList.take (0 + j * 3) ++ flat (L.drop (j + 1)) ++ cs.toList.drop (0 + j * 3 + (L.length - (j + 1)) * 3)).toArray = ds at X1
  have D1 : ds.size = cap * 3 := by
    rw [← hds]
    simp [nl]
    omega
  have D2 : ds.toList.take ((L.length - 1) * 3) = flat (L.eraseIdx j) := by
    rw [← hds, flat_erase]
    have ea : (flat L).take (j * 3) = cs.toList.take (0 + j * 3) := by rw [← q6, List.take_take, Nat.min_eq_left (by omega), Nat.zero_add]
    rw [List.take_append_of_le_length (by simp [nl]; omega), List.take_of_length_le (by simp [nl]; omega), ea, ← flat_drop]
  clear hds
  generalize hw1 : w.drew.setCells g (0 + j * 3) (flat (L.drop (j + 1))) = w1 at X1 Y1
  have HW1 : Hid (w.drew.setCells g (0 + j * 3) (flat (L.drop (j + 1))) = w1) := hw1
  clear hw1
  have CC : ∀ ty, (Builtin.clear_ #[31] ty #[.slice (some ⟨g, (L.length - 1) * 3, none⟩) (L.length - (L.length - 1)) (cap - (L.length - 1))]).run Tryd.prog w1 = .ok (.tuple #[]) (w1.setCells g ((L.length - 1) * 3) (zeros3 1)) := fun ty => by
    rw [show L.length - (L.length - 1) = 1 by omega]
    exact run_clear3 w1 ty g _ 1 _ (by omega) (fun t ht => by rw [X1.cell _ (Array.getElem?_eq_getElem (by omega))]; rfl) (fun t _ => X1.frozen _)
  have X2 := blk_setCells g _ (zeros3 1) ((L.length - 1) * 3) _ _ X1 (by rw [zeros3_len]; omega)
  have Y2 := grownBy_setCells g (zeros3 1) ((L.length - 1) * 3) _ Y1
  generalize w1.setCells g ((L.length - 1) * 3) (zeros3 1) = w2 at CC X2 Y2
  have E1 : (L.eraseIdx j).length = L.length - 1 := List.length_eraseIdx_of_lt hj
  have FIN : Hid (PRow 48 w2 B (.slice (some ⟨g, 0, none⟩) (L.length - 1) cap) (L.eraseIdx j)) := by
    have := PRow.mk' (L := L.eraseIdx j) q1 X2 (by rw [E1]; omega) q4 (by simp [zeros3_len]; omega) (by
      rw [E1, ← D2, List.append_assoc, List.take_append_of_le_length (by simp; omega), List.take_take, Nat.min_self])
    rw [E1] at this
    exact this
  clear h q2 D2 X1 X2 E1 D1 q6 q5 nl
  have hic : j ≤ cap := by omega
  have hwr : IntKind.i64.wrap ((j : Int) + 1) = (j : Int) + 1 := by rw [IntKind.wrap_i64]; omega
  have hp0 : (0 : Int) ≤ (j : Int) + 1 := by omega
  have hp1 : (j : Int) + 1 ≤ (L.length : Int) := by omega
  have hp2 : ((j : Int) + 1).toNat = j + 1 := by omega
  have hp3 : (j : Int) ≤ (j : Int) + 1 := by omega
  have hp4 : (L.length : Int) ≤ (cap : Int) := by omega
  have hne : ((j : Int) == (j : Int) + 1) = false := beq_eq_false_iff_ne.2 (by omega)
  have HM : Hid (j + (L.length - (j + 1)) = L.length - 1) := by show _ = _; omega
  have hcm : ¬ cap = L.length - 1 := by omega
  have hnm1 : ((L.length - 1 : Nat) : Int) ≤ (L.length : Int) := by omega
  generalize hm1 : L.length - 1 = m at *
  have hnm2 : (L.length : Int) ≤ (m : Int) + 1 := by omega
  generalize L.length = n at *
  clear hm1
  go_enter Tryd.func24, Tryd.ntmps24
  go_wp2_with fail
  go_region_law (refine step_append_room rfl (.tmp 22) (.tmp 25) 31 rfl 48 i0 3 Tryd.underlying31 hi0 hz1 g 0 j cap (by simp [Act.eval, Act.put]) A (n - (j + 1)) (cap - (j + 1)) (flat (L.drop (j + 1))) (by simp [Act.eval, Act.put]) s1.out hnews.out s2.out (by omega) s3.out ?_; rw [HW1.out, HM.out])
  go_wp2
  go_ret
  exact ⟨rfl, FIN.out, Y2⟩
end Go.Proofs.YtmoohnpffohgeaaDoor
