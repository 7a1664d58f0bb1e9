/- A net's Look, Take, Lose and Move. -/
import Derived.Test.YtmoohnpffohgeaaDoorNTake
namespace Go.Proofs.YtmoohnpffohgeaaDoor
open Go.ChangeShapes Go.WideShapes Go.ChangeAt Go.RowKit
theorem Tryd.infoParcelS : (Tryd.prog.info? 48).map (·.size) = some 3 := by kernel_rfl
theorem load_p {w : World} {g : Nat} {cs : Array Value} (h : Blk w g 48 cs) (hs : cs.size = 3) : (loadVar 48 ⟨g, 0, none⟩).run Tryd.prog w = .ok (.agg cs) w :=
  run_loadVar_row w g _ _ cs _ _ h Tryd.underlying48 rfl (by rw [hs]; exact Tryd.infoParcelS)
def zpc : Array Value := #[.int .i64 0, .string ⟨#[]⟩, .bool false]
theorem put_p {w : World} {g : Nat} {x y z a b c : Value} (h : Blk w g 48 #[x, y, z]) : Blk (((w.setCell ⟨g, 0, none⟩ a).setCell ⟨g, 1, none⟩ b).setCell ⟨g, 2, none⟩ c) g 48 #[a, b, c] := ((h.set 0 a).set 1 b).set 2 c
theorem below_put_p {B g : Nat} {w w' : World} (h : Below B w w') (hg : B ≤ g) (a b c : Value) : Below B w (((w'.setCell ⟨g, 0, none⟩ a).setCell ⟨g, 1, none⟩ b).setCell ⟨g, 2, none⟩ c) := ((h.setCell hg a).setCell hg b).setCell hg c
theorem Turns.late {b : Nat} {w w' : World} (t : Turns b w w') (hb : b < w.heap.size) {a : Addr} (ha : w.heap.size ≤ a.block) (v : Value) : Turns b w (w'.setCell a v) := by
  refine ⟨t.below.setCell (by omega) _, fun k hk h1 h2 => ?_, ?_⟩
  · rw [Below.heap_setCell _ _ _ _ (by omega)]; exact t.block k hk h1 h2
  · rw [rowBlk_same (w := w') (Below.heap_setCell _ _ _ _ (by omega))]; exact t.row
theorem NetAt.late {b : Nat} {w : World} {L : List Pc} {lost : Int} (h : NetAt w b L lost) {a : Addr} (h1 : a.block ≠ b) (h2 : rowBlk w b ≠ some a.block) (v : Value) : NetAt (w.setCell a v) b L lost :=
  h.of_blocks (Below.heap_setCell _ _ _ _ (Ne.symm h1)) fun g hg => Below.heap_setCell _ _ _ _ (by rintro rfl; exact h2 hg)
theorem NetAt.put3 {b n : Nat} {w : World} {L : List Pc} {lost : Int} (h : NetAt w b L lost) (h1 : n ≠ b) (h2 : rowBlk w b ≠ some n) (x y z : Value) : NetAt (((w.setCell ⟨n, 0, none⟩ x).setCell ⟨n, 1, none⟩ y).setCell ⟨n, 2, none⟩ z) b L lost := by
  have e1 : rowBlk (w.setCell ⟨n, 0, none⟩ x) b = rowBlk w b := rowBlk_same (Below.heap_setCell _ _ _ _ (Ne.symm h1))
  have e2 : rowBlk ((w.setCell ⟨n, 0, none⟩ x).setCell ⟨n, 1, none⟩ y) b = rowBlk w b := (rowBlk_same (Below.heap_setCell _ _ _ _ (Ne.symm h1))).trans e1
  exact ((h.late (a := ⟨n, 0, none⟩) h1 h2 x).late (a := ⟨n, 1, none⟩) h1 (by rw [e1]; exact h2) y).late (a := ⟨n, 2, none⟩) h1 (by rw [e2]; exact h2) z
theorem Turns.put3 {b n : Nat} {w w' : World} (t : Turns b w w') (hb : b < w.heap.size) (hn : w.heap.size ≤ n) (x y z : Value) : Turns b w (((w'.setCell ⟨n, 0, none⟩ x).setCell ⟨n, 1, none⟩ y).setCell ⟨n, 2, none⟩ z) :=
  ((t.late hb (a := ⟨n, 0, none⟩) hn x).late hb (a := ⟨n, 1, none⟩) hn y).late hb (a := ⟨n, 2, none⟩) hn z
theorem take_none (b : Nat) (i : Int) (L : List Pc) (lost : Int) (w : World) (h : NetAt w b L lost) (hi : i < 0 ∨ (L.length : Int) ≤ i) :
   Calls Tryd.prog 11 #[.pointer (some ⟨b, 0, none⟩), .int .i64 i] w fun e w' => e = .returned (.tuple #[(default : Pc).val, .int .i64 8]) ∧ Below w.heap.size w w' := by
  have X0 := blk_new w 48 #[.int .i64 0, .string ⟨#[]⟩, .bool false]
  have B0 : Below w.heap.size w (w.alloc (.cells #[.int .i64 0, .string ⟨#[]⟩, .bool false] 48)) := (Below.refl _ _).alloc (Nat.le_refl _) _
  have C := has_no b i L lost _ (h.below B0) hi
  have f0 := X0.frozen 0
  have f1 := X0.frozen 1
  have f2 := X0.frozen 2
  have u0 := X0.cell 0 (v := .int .i64 0) rfl
  have u1 := X0.cell 1 (v := .string ⟨#[]⟩) rfl
  have u2 := X0.cell 2 (v := .bool false) rfl
  clear h hi
  generalize hw0 : w.alloc (.cells #[.int .i64 0, .string ⟨#[]⟩, .bool false] 48) = w0 at *
  go_enter Tryd.func11, Tryd.ntmps11
  go_wp2_with (go_at_call 22; refine C.mono ?_; rintro e w2 ⟨rfl, rfl⟩)
  refine bodyPost_ret (results_blk2 rfl _ _ w.heap.size _ rfl (load_p (put_p X0) rfl)) rfl ?_
  exact ⟨rfl, below_put_p B0 (Nat.le_refl _) _ _ _⟩
set_option maxHeartbeats 1600000 in
theorem take_ok (b j : Nat) (L : List Pc) (lost : Int) (w : World) (h : NetAt w b L lost) (hj : j < L.length) (hl : L.length ≤ 256) :
   Calls Tryd.prog 11 #[.pointer (some ⟨b, 0, none⟩), .int .i64 (j : Int)] w fun e w' => e = .returned (.tuple #[(pc L j).val, .int .i64 0]) ∧ NetAt w' b (L.eraseIdx j) lost ∧ Turns b w w' := by
  have X0 := blk_new w 48 #[.int .i64 0, .string ⟨#[]⟩, .bool false]
  have B0 : Below w.heap.size w (w.alloc (.cells #[.int .i64 0, .string ⟨#[]⟩, .bool false] 48)) := (Below.refl _ _).alloc (Nat.le_refl _) _
  have s0 : (w.alloc (.cells #[.int .i64 0, .string ⟨#[]⟩, .bool false] 48)).heap.size = w.heap.size + 1 := by simp
  have hb := h.lt
  have HR : Hid _ := h.row_lt
  have hrb := rowBlk_same (B0.block b hb)
  have h' := h.below B0
  have C := has_yes b j L lost _ h' hj
  obtain ⟨ao, c, k1, k2, k3⟩ := h'.parts
  rw [hrb] at k3
  obtain ⟨g, cap, e, q1, q2, q3, q4, q5, q6, q7⟩ := k2.cells (by omega)
  simp only [Value.slice.injEq, true_and] at e
  obtain ⟨rfl, rfl⟩ := e
  obtain ⟨p0, p1, p2⟩ := q7 j hj
  have c0 := k1.cell 0 (v := .slice (some ⟨g, 0, none⟩) L.length c) rfl
  have E1 : (L.eraseIdx j).length = L.length - 1 := List.length_eraseIdx_of_lt hj
  have D := fun W hW => delete_any (b + 1) g c j L W hW hj
  have K3 : Hid (rowBlk w b = some g) := k3
  have hg := HR.out g k3
  have hj2 : (j : Int) < 256 := by omega
  clear h h' k3 q5 q6 q7 hrb
  generalize hn : L.length = n at *
  generalize hw0 : w.alloc (.cells #[.int .i64 0, .string ⟨#[]⟩, .bool false] 48) = w0 at *
  generalize pc L j = p at *
  obtain ⟨pt, pf, pn⟩ := p
  simp only at p0 p1 p2
  have X1 := blk_new w0 48 #[.int .i64 pt, .string pf, .bool pn]
  have B1 : Below w0.heap.size w0 (w0.alloc (.cells #[.int .i64 pt, .string pf, .bool pn] 48)) := (Below.refl _ _).alloc (Nat.le_refl _) _
  have X0' := X0.below B1 X0.lt
  have k1' := k1.below B1 k1.lt
  have k2' := k2.below B1
  have s1 : (w0.alloc (.cells #[.int .i64 pt, .string pf, .bool pn] 48)).heap.size = w0.heap.size + 1 := by simp
  have X1' : Blk (w0.alloc (.cells #[.int .i64 pt, .string pf, .bool pn] 48)) (w.heap.size + 1) 48 #[.int .i64 pt, .string pf, .bool pn] := by rw [← s0]; exact X1
  clear X0 X1 k1 k2
  have c1 := k1'.cell 0 (v := .slice (some ⟨g, 0, none⟩) n c) rfl
  go_enter Tryd.func11, Tryd.ntmps11
  go_wp2_with first
    | (go_at_call 22; refine C.mono ?_; rintro e w2 ⟨rfl, rfl⟩)
    | (go_at_call 24; refine (D _ (by exact k2')).mono ?_; rintro e w3 ⟨rfl, O3, G3⟩; have Y0 := X0'.of_block (G3.block w.heap.size (by rw [s1]; omega) (fun e => by simp at e; omega)); have Y1 := X1'.of_block (G3.block (w.heap.size + 1) (by rw [s1]; omega) (fun e => by simp at e; omega)); have YB := k1'.of_block (G3.block b (by rw [s1]; omega) (fun e => by simp at e; omega)); have fb := YB.frozen 0; have cb := YB.cell 0 (v := .slice (some ⟨g, 0, none⟩) n c) rfl; have f0 := Y0.frozen 0; have f1 := Y0.frozen 1; have f2 := Y0.frozen 2; have u0 := Y0.cell 0 (v := .int .i64 0) rfl; have u1 := Y0.cell 1 (v := .string ⟨#[]⟩) rfl; have u2 := Y0.cell 2 (v := .bool false) rfl; have v0 := Y1.cell 0 (v := .int .i64 pt) rfl; have v1 := Y1.cell 1 (v := .string pf) rfl; have v2 := Y1.cell 2 (v := .bool pn) rfl)
  have T4 : Turns b w (w3.setCell ⟨b, 0, none⟩ (.slice (some ⟨g, 0, none⟩) (n - 1) c)) := turns_set (below_then B0 B1) hb K3.out (fun g hg => (HR.out g (K3.out.trans hg)).1) G3 YB (fun q hq => Or.inl hq)
  have R4 : rowBlk (w3.setCell ⟨b, 0, none⟩ (.slice (some ⟨g, 0, none⟩) (n - 1) c)) b = some g := rowBlk_of ((YB.set 0 _).cell 0 rfl)
  have N4 : NetAt (w3.setCell ⟨b, 0, none⟩ (.slice (some ⟨g, 0, none⟩) (n - 1) c)) b (L.eraseIdx j) lost := ⟨_, YB.set 0 _, O3.other (fun e => by have := (O3.lt _ e).1; simp only at this; omega) _⟩
  have Y0' := Y0.other (a := ⟨b, 0, none⟩) (by show w.heap.size ≠ b; omega) (.slice (some ⟨g, 0, none⟩) (n - 1) c)
  refine bodyPost_ret (results_blk2 rfl _ _ w.heap.size _ rfl (load_p (put_p Y0') rfl)) rfl ?_
  exact ⟨rfl, N4.put3 (by omega) (by rw [R4]; intro e; simp at e; omega) _ _ _, T4.put3 hb (Nat.le_refl _) _ _ _⟩
theorem lose_none (b : Nat) (i : Int) (L : List Pc) (lost : Int) (w : World) (h : NetAt w b L lost) (hi : i < 0 ∨ (L.length : Int) ≤ i) :
   Calls Tryd.prog 8 #[.pointer (some ⟨b, 0, none⟩), .int .i64 i] w fun e w' => e = .returned (.int .i64 8) ∧ Below w.heap.size w w' := by
  have C := take_none b i L lost w h hi
  have e0 : (default : Pc).val = .agg #[.int .i64 0, .string ⟨#[]⟩, .bool false] := rfl
  rw [e0] at C
  clear h hi e0
  go_enter Tryd.func8, Tryd.ntmps8
  go_wp2_with (go_at_call 11; refine C.mono ?_; rintro e w2 ⟨rfl, B2⟩)
  go_ret
  exact ⟨rfl, below_then B2 ((Below.refl _ _).alloc (Nat.le_refl _) _)⟩
set_option maxHeartbeats 800000 in
theorem lose_ok (b j : Nat) (L : List Pc) (lost : Int) (w : World) (h : NetAt w b L lost) (hj : j < L.length) (hl : L.length ≤ 256) (hq : 0 ≤ lost ∧ lost < 1000000) :
   Calls Tryd.prog 8 #[.pointer (some ⟨b, 0, none⟩), .int .i64 (j : Int)] w fun e w' => e = .returned (.int .i64 0) ∧ NetAt w' b (L.eraseIdx j) (lost + 1) ∧ Turns b w w' := by
  have C := take_ok b j L lost w h hj hl
  have hb := h.lt
  clear h
  generalize pc L j = p at *
  obtain ⟨pt, pf, pn⟩ := p
  unfold Pc.val at C
  simp only at C
  generalize L.eraseIdx j = M at *
  clear hj hl
  go_enter Tryd.func8, Tryd.ntmps8
  go_wp2_with (go_at_call 11; refine C.mono ?_; rintro e w2 ⟨rfl, N2, T2⟩; have B3 : Below w2.heap.size w2 (w2.alloc (.cells #[.int .i64 pt, .string pf, .bool pn] 48)) := (Below.refl _ _).alloc (Nat.le_refl _) _; have N3 := N2.below B3; have T3 := T2.trans (Turns.of_below B3 N2.lt); obtain ⟨ao, c, k1, k2, k3⟩ := N3.parts; have c1 := k1.cell 1 (v := .int .i64 lost) rfl; have f1 := k1.frozen 1; clear k1 k2 k3)
  go_ret
  exact ⟨rfl, N3.set_lost _, T3.set_lost N3 _⟩
theorem move_none (b : Nat) (i : Int) (L : List Pc) (lost : Int) (w : World) (h : NetAt w b L lost) (hi : i < 0 ∨ (L.length : Int) ≤ i) :
   Calls Tryd.prog 9 #[.pointer (some ⟨b, 0, none⟩), .int .i64 i] w fun e w' => e = .returned (.int .i64 8) ∧ Below w.heap.size w w' := by
  have C := take_none b i L lost w h hi
  have e0 : (default : Pc).val = .agg #[.int .i64 0, .string ⟨#[]⟩, .bool false] := rfl
  rw [e0] at C
  clear h hi e0
  go_enter Tryd.func9, Tryd.ntmps9
  go_wp2_with (go_at_call 11; refine C.mono ?_; rintro e w2 ⟨rfl, B2⟩)
  go_ret
  exact ⟨rfl, below_then B2 ((Below.refl _ _).alloc (Nat.le_refl _) _)⟩
set_option maxHeartbeats 2000000 in
set_option maxRecDepth 100000 in
theorem move_ok (b j : Nat) (L : List Pc) (lost : Int) (w : World) (h : NetAt w b L lost) (hj : j < L.length) (hl : L.length ≤ 256) :
   Calls Tryd.prog 9 #[.pointer (some ⟨b, 0, none⟩), .int .i64 (j : Int)] w fun e w' => e = .returned (.int .i64 0) ∧ NetAt w' b (L.eraseIdx j ++ [pc L j]) lost ∧ Turns b w w' := by
  have C := take_ok b j L lost w h hj hl
  have hb := h.lt
  have hM : (L.eraseIdx j).length ≤ 256 := by rw [List.length_eraseIdx_of_lt hj]; omega
  clear h
  generalize pc L j = p at *
  obtain ⟨pt, pf, pn⟩ := p
  unfold Pc.val at C
  simp only at C
  generalize L.eraseIdx j = M at *
  clear hj hl
  generalize hn : M.length = n at *
  go_enter Tryd.func9, Tryd.ntmps9
  go_wp2_with (go_at_call 11; refine C.mono ?_; rintro e w2 ⟨rfl, N2, T2⟩; have B3 : Below w2.heap.size w2 (w2.alloc (.cells #[.int .i64 pt, .string pf, .bool pn] 48)) := (Below.refl _ _).alloc (Nat.le_refl _) _; have N3 := N2.below B3; have T3 := T2.trans (Turns.of_below B3 N2.lt))
  obtain ⟨ao, c, k1, k2, k3⟩ := N3.parts
  have X3 := blk_new w2 48 #[.int .i64 pt, .string pf, .bool pn]
  have HR : Hid _ := N3.row_lt
  generalize w2.alloc (.cells #[.int .i64 pt, .string pf, .bool pn] 48) = w3 at *
  have c0 := k1.cell 0 (v := .slice ao M.length c) rfl
  have c0' : w3.drew.cell? ⟨b, 0, none⟩ = some (.slice ao M.length c) := c0
  have v0 : w3.drew.cell? ⟨w2.heap.size, 0, none⟩ = some (.int .i64 pt) := X3.cell 0 rfl
  have v1 : w3.drew.cell? ⟨w2.heap.size, 1, none⟩ = some (.string pf) := X3.cell 1 rfl
  have v2 : w3.drew.cell? ⟨w2.heap.size, 2, none⟩ = some (.bool pn) := X3.cell 2 rfl
  have BA : Below w3.heap.size w3 (w3.alloc (.cells #[.int .i64 pt, .string pf, .bool pn] 48)).drew := ((Below.refl _ _).alloc (Nat.le_refl _) _).drew
  have XX := k1.below BA k1.lt
  have OO := k2.below BA
  have RR : Blk (w3.alloc (.cells #[.int .i64 pt, .string pf, .bool pn] 48)).drew w3.heap.size 48 #[.int .i64 pt, .string pf, .bool pn] := blk_new w3 48 #[.int .i64 pt, .string pf, .bool pn]
  have ss : b + 1 ≤ (w3.alloc (.cells #[.int .i64 pt, .string pf, .bool pn] 48)).drew.heap.size := by have := BA.size; have := N3.lt; omega
  have xc : (w3.alloc (.cells #[.int .i64 pt, .string pf, .bool pn] 48)).cell? ⟨b, 0, none⟩ = some (.slice ao M.length c) := XX.cell 0 (v := .slice ao M.length c) rfl
  rw [hn] at c0 c0' xc
  have HB : Hid (b < w3.heap.size) := N3.lt
  have K3 : Hid _ := k3
  clear k1 k2 k3 N2 N3 C X3
  go_region_law (first
    | (refine step_append_pc rfl (.tmp 19) (.tmp 21) rfl (b + 1) (.slice ao n c) M (by first | rfl | simp [Act.eval, Act.put]) (by rw [← hn]; exact OO) w3.heap.size ⟨pt, pf, pn⟩ (by first | rfl | simp [Act.eval, Act.put]) (by exact RR) (by omega) (by exact ss) ?_; intro g' cap' w4 O4 G4 N4; have X4 := XX.of_block (G4.block b XX.lt (fun e => by rw [← hn] at e; have := HR.out _ (K3.out.trans e.symm); omega)); have t0 := X4.cell 0 (v := .slice ao M.length c) rfl; have tf := X4.frozen 0; rw [hn])
    | go_simp)
  all_goals
    go_wp2
    go_ret
    rw [← hn] at G4 N4
    refine ⟨rfl, ⟨_, X4.set 0 _, ?_⟩, T3.trans ?_⟩
    · have := O4.other (a := ⟨b, 0, none⟩) (fun e => by have h9 := (O4.lt _ e).1; simp only at h9; omega) (.slice (some ⟨g', 0, none⟩) (M.length + 1) cap')
      rw [hn] at this
      exact this
    · refine turns_set BA HB.out K3.out (fun g hg => (HR.out g (K3.out.trans hg)).1) G4 X4 (fun g hg => ?_)
      have hown : g = g' := by
        simp only [Value.ownBlock, Option.some.injEq] at hg
        exact hg.symm
      rw [hown]
      rcases N4 with e | e
      · exact Or.inl e
      · refine Or.inr ?_
        have := BA.size
        omega
end Go.Proofs.YtmoohnpffohgeaaDoor
