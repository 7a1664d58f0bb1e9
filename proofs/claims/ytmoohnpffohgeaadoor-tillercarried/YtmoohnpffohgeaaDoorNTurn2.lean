/- A net's Turn, whole. -/
import Derived.Test.YtmoohnpffohgeaaDoorNTurn
namespace Go.Proofs.YtmoohnpffohgeaaDoor
open Go.ChangeShapes Go.WideShapes Go.ChangeAt Go.RowKit
theorem flat_set2 : ∀ (L : List Pc) (j : Nat) (f : ByteArray) (t : Bool), j < L.length → ((flat L).set (j * 3 + 1) (.string f)).set (j * 3 + 2) (.bool t) = flat (L.set j ⟨(pc L j).to, f, t⟩)
  | [], _, _, _, h => by simp at h
  | _ :: _, 0, _, _, _ => rfl
  | p :: L, j + 1, f, t, h => by
    have ih := flat_set2 L j f t (by simpa using h)
    have e : pc (p :: L) (j + 1) = pc L j := rfl
    rw [e, show (j + 1) * 3 + 1 = j * 3 + 1 + 3 by omega, show (j + 1) * 3 + 2 = j * 3 + 2 + 3 by omega]
    simp only [flat, List.set_cons_succ, ih]
theorem PRow.turn {T : TypeId} {w : World} {B g n cap j : Nat} {L : List Pc} (h : PRow T w B (.slice (some ⟨g, 0, none⟩) n cap) L) (hn : n = L.length) (hj : j < L.length) (f : ByteArray) (t : Bool) :
    PRow T ((w.setCell ⟨g, j * 3 + 1, none⟩ (.string f)).setCell ⟨g, j * 3 + 2, none⟩ (.bool t)) B (.slice (some ⟨g, 0, none⟩) n cap) (L.set j ⟨(pc L j).to, f, t⟩) := by
  subst hn
  rcases h.cases with ⟨e, _⟩ | ⟨g', cap', cs, e, q1, q2, q3, q4, q5, q6⟩
  · cases e
  simp only [Value.slice.injEq, Option.some.injEq, Addr.mk.injEq, and_true, true_and] at e
  obtain ⟨rfl, rfl⟩ := e
  have := PRow.mk' (L := L.set j ⟨(pc L j).to, f, t⟩) q1 ((q2.set (j * 3 + 1) (.string f)).set (j * 3 + 2) (.bool t)) (by simpa using q3) q4 (by simpa using q5) (by
    rw [List.length_set, ← flat_set2 L j f t hj, ← q6]
    simp [List.take_set])
  rw [List.length_set] at this
  exact this
theorem turn_none (b : Nat) (i : Int) (t : Int) (x : Int) (L : List Pc) (lost : Int) (w : World) (h : NetAt w b L lost) (hi : i < 0 ∨ (L.length : Int) ≤ i) :
   Calls Tryd.prog 10 #[.pointer (some ⟨b, 0, none⟩), .int .i64 i, .int .i64 t, .int .u32 x] w fun e w' => e = .returned (.int .i64 8) ∧ w' = w := by
  have C := has_no b i L lost w h hi
  clear h hi
  go_enter Tryd.func10, Tryd.ntmps10
  go_wp2_with (go_at_call 22; refine C.mono ?_; rintro e w2 ⟨rfl, rfl⟩)
  go_ret
  exact ⟨rfl, rfl⟩
theorem turn_arg (b j : Nat) (t : Int) (x : Int) (L : List Pc) (lost : Int) (w : World) (h : NetAt w b L lost) (hj : j < L.length) (hf : (pc L j).fr.size ≤ 65536) (ht : t < 0 ∨ 8 * ((pc L j).fr.size : Int) ≤ t) :
   Calls Tryd.prog 10 #[.pointer (some ⟨b, 0, none⟩), .int .i64 (j : Int), .int .i64 t, .int .u32 x] w fun e w' => e = .returned (.int .i64 1) ∧ w' = w := by
  have C := has_yes b j L lost w h hj
  obtain ⟨ao, c, k1, k2, k3⟩ := h.parts
  obtain ⟨g, cap, e, q1, q2, q3, q4, q5, q6, q7⟩ := k2.cells (by omega)
  simp only [Value.slice.injEq, true_and] at e
  obtain ⟨rfl, rfl⟩ := e
  obtain ⟨p0, p1, p2⟩ := q7 j hj
  have c0 := k1.cell 0 (v := .slice (some ⟨g, 0, none⟩) L.length c) rfl
  clear h k1 k2 k3 q5 q6 q7
  generalize L.length = n at *
  generalize pc L j = p at *
  obtain ⟨pt, pf, pn⟩ := p
  simp only at p0 p1 p2 ht hf
  by_cases h0 : t < 0
  · clear ht
    go_enter Tryd.func10, Tryd.ntmps10
    go_wp2_with (go_at_call 22; refine C.mono ?_; rintro e w2 ⟨rfl, rfl⟩)
    go_ret
    exact ⟨rfl, rfl⟩
  · have h1 : 8 * (pf.size : Int) ≤ t := by omega
    have h2 : decide (t < 0) = false := decide_eq_false h0
    clear ht h0
    go_enter Tryd.func10, Tryd.ntmps10
    go_wp2_with (go_at_call 22; refine C.mono ?_; rintro e w2 ⟨rfl, rfl⟩)
    go_ret
    exact ⟨rfl, rfl⟩
theorem turn_there (b j t : Nat) (x : Int) (L : List Pc) (lost : Int) (w : World) (h : NetAt w b L lost) (hj : j < L.length) (hf : (pc L j).fr.size ≤ 65536) (ht : t < 8 * (pc L j).fr.size) (hn : (pc L j).tn = true) :
   Calls Tryd.prog 10 #[.pointer (some ⟨b, 0, none⟩), .int .i64 (j : Int), .int .i64 (t : Int), .int .u32 x] w fun e w' => e = .returned (.int .i64 9) ∧ w' = w := by
  have C := has_yes b j L lost w h hj
  obtain ⟨ao, c, k1, k2, k3⟩ := h.parts
  obtain ⟨g, cap, e, q1, q2, q3, q4, q5, q6, q7⟩ := k2.cells (by omega)
  simp only [Value.slice.injEq, true_and] at e
  obtain ⟨rfl, rfl⟩ := e
  obtain ⟨p0, p1, p2⟩ := q7 j hj
  have c0 := k1.cell 0 (v := .slice (some ⟨g, 0, none⟩) L.length c) rfl
  clear h k1 k2 k3 q5 q6 q7
  generalize L.length = n at *
  generalize pc L j = p at *
  obtain ⟨pt, pf, pn⟩ := p
  simp only at p0 p1 p2 ht hf hn
  subst hn
  have h2 : decide ((t : Int) < 0) = false := decide_eq_false (by omega)
  have h1 : (t : Int) < 8 * (pf.size : Int) := by omega
  clear ht
  go_enter Tryd.func10, Tryd.ntmps10
  go_wp2_with (go_at_call 22; refine C.mono ?_; rintro e w2 ⟨rfl, rfl⟩)
  go_ret
  exact ⟨rfl, rfl⟩
/-- A frame of which bits are turned. -/
def turnF (f : ByteArray) (t x : Nat) : ByteArray := txt (turnK f.data.toList t x 32)
theorem turnF_size (f : ByteArray) (t x : Nat) : (turnF f t x).size = f.size := by
  unfold turnF
  rw [txt_size, turnK_length]; rfl
set_option maxHeartbeats 2000000 in
theorem turn_ok (b j t x : Nat) (L : List Pc) (lost : Int) (w : World) (h : NetAt w b L lost) (hj : j < L.length) (hf : (pc L j).fr.size ≤ 65536) (ht : t < 8 * (pc L j).fr.size) (hn : (pc L j).tn = false) (hx : x ≤ 4294967295) :
   Calls Tryd.prog 10 #[.pointer (some ⟨b, 0, none⟩), .int .i64 (j : Int), .int .i64 (t : Int), .int .u32 (x : Int)] w fun e w' => e = .returned (.int .i64 0) ∧ NetAt w' b (L.set j ⟨(pc L j).to, turnF (pc L j).fr t x, true⟩) lost ∧ Turns b w w' := by
  have C := has_yes b j L lost w h hj
  have D := turned_any (pc L j).fr.data.toList t x w (by exact hf) (by exact ht) hx
  rw [txt_of] at D
  have hb := h.lt
  have HR : Hid _ := h.row_lt
  obtain ⟨ao, c, k1, k2, k3⟩ := h.parts
  obtain ⟨g, cap, e, q1, q2, q3, q4, q5, q6, q7⟩ := k2.cells (by omega)
  simp only [Value.slice.injEq, true_and] at e
  obtain ⟨rfl, rfl⟩ := e
  obtain ⟨p0, p1, p2⟩ := q7 j hj
  have c0 := k1.cell 0 (v := .slice (some ⟨g, 0, none⟩) L.length c) rfl
  have HT : Hid (∀ W (f : ByteArray) (u : Bool), Below w.heap.size w W → W.frozen? ⟨g, j * 3 + 1, none⟩ = false ∧ W.frozen? ⟨g, j * 3 + 2, none⟩ = false ∧ W.cell? ⟨g, j * 3 + 1, none⟩ = some (.string (pc L j).fr) ∧ W.cell? ⟨g, j * 3 + 2, none⟩ = some (.bool (pc L j).tn) ∧ NetAt ((W.setCell ⟨g, j * 3 + 1, none⟩ (.string f)).setCell ⟨g, j * 3 + 2, none⟩ (.bool u)) b (L.set j ⟨(pc L j).to, f, u⟩) lost ∧ Turns b w ((W.setCell ⟨g, j * 3 + 1, none⟩ (.string f)).setCell ⟨g, j * 3 + 2, none⟩ (.bool u))) := fun W f u hW => by
    have hg := HR.out g k3
    have K1 := k1.below hW hb
    have K2 := k2.below hW
    obtain ⟨g', cap', e, _, _, _, _, r5, _, r7⟩ := K2.cells (by omega)
    simp only [Value.slice.injEq, Option.some.injEq, Addr.mk.injEq, and_true, true_and] at e
    obtain ⟨rfl, rfl⟩ := e
    obtain ⟨y0, y1, y2⟩ := r7 j hj
    refine ⟨r5 _, r5 _, y1, y2, ⟨_, (K1.other (by show b ≠ g; omega) _).other (by show b ≠ g; omega) _, ?_⟩, ?_⟩
    · exact K2.turn rfl hj f u
    · refine ⟨((hW.mono (by omega)).setCell (p := ⟨g, j * 3 + 1, none⟩) (by show b ≤ g; omega) _).setCell (p := ⟨g, j * 3 + 2, none⟩) (by show b ≤ g; omega) _, fun q hq h1 h2 => ?_, Or.inl ?_⟩
      · have hqg : q ≠ g := by rintro rfl; exact h2 k3
        rw [Below.heap_setCell _ _ _ _ hqg, Below.heap_setCell _ _ _ _ hqg]
        exact hW.block q hq
      · rw [k3]
        exact rowBlk_of (((K1.other (a := ⟨g, j * 3 + 1, none⟩) (by show b ≠ g; omega) _).other (a := ⟨g, j * 3 + 2, none⟩) (by show b ≠ g; omega) _).cell 0 rfl)
  clear h k1 k2 k3 q5 q6 q7
  have HTF : Hid (txt (turnK (pc L j).fr.data.toList t x 32) = turnF (pc L j).fr t x) := rfl
  rw [HTF.out] at D
  generalize turnF (pc L j).fr t x = F at *
  clear HTF
  generalize L.length = n at *
  generalize pc L j = p at *
  obtain ⟨pt, pf, pn⟩ := p
  simp only at p0 p1 p2 ht hf hn HT
  subst hn
  have h2 : decide ((t : Int) < 0) = false := decide_eq_false (by omega)
  have h1 : (t : Int) < 8 * (pf.size : Int) := by omega
  clear ht
  go_enter Tryd.func10, Tryd.ntmps10
  go_wp2_with (first
    | (go_at_call 22; refine C.mono ?_; rintro e w2 ⟨rfl, rfl⟩)
    | (go_at_call 23; refine D.mono ?_; rintro e w3 ⟨rfl, B3⟩; obtain ⟨f1, f2, y1, y2, N4, T4⟩ := HT.out w3 F true B3))
  go_ret
  exact ⟨rfl, N4, T4⟩
end Go.Proofs.YtmoohnpffohgeaaDoor
