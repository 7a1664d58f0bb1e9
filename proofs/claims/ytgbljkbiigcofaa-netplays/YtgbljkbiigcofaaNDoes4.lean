/- Move and Lose on a net and on the document's. -/
import Derived.Test.YtgbljkbiigcofaaNDoes
namespace Go.Proofs.Ytgbljkbiigcofaa
open Go.ChangeShapes Go.WideShapes Go.ChangeAt Go.RowKit
theorem fr_erase {L : List Pc} (h : ∀ p ∈ L, p.fr.size ≤ 40) (j : Nat) : ∀ p ∈ L.eraseIdx j, p.fr.size ≤ 40 := fun p hp => h p (List.mem_of_mem_eraseIdx hp)
theorem fr_move {L : List Pc} (h : ∀ p ∈ L, p.fr.size ≤ 40) {j : Nat} (hj : j < L.length) : ∀ p ∈ L.eraseIdx j ++ [pc L j], p.fr.size ≤ 40 := fun p hp => by
  rcases List.mem_append.1 hp with h1 | h1
  · exact fr_erase h j p h1
  · rw [List.mem_singleton.1 h1, ← pc_get hj]; exact h _ (List.getElem_mem _)
set_option maxHeartbeats 2000000 in
set_option maxRecDepth 100000 in
theorem does_move_none (b : Nat) (ao : Option Addr) (c : Nat) (L : List Pc) (lost I T : Int) (F : ByteArray) (X : Int) (w : World) (h : PI b w ao c L lost) (hq : 0 ≤ lost) (hi : I < 0 ∨ (L.length : Int) ≤ I) :
   Calls Try.prog 9 #[.pointer (some ⟨b, 0, none⟩), .agg #[.slice ao L.length c, .int .i64 lost], .agg #[.int .i64 4, .int .i64 I, .int .i64 T, .string F, .int .u32 X]] w (DR b w L lost) := by
  obtain ⟨w0, D⟩ := d0_any b w ao c L.length lost 4 I T F X h.net
  have hb := h.net.lt
  have P0 := h.turns D.bel
  have HD : Hid _ := D
  have TB := Turns.of_below D.bel hb
  obtain ⟨B0, s0, hw, X0, X1, X2, _⟩ := D
  have C1 := move_none b I L lost w0 P0.net hi
  have C2 := fun W => rmove_none I ao L.length c lost W hi
  have a0 := X1.cell 0 (v := .int .i64 4) rfl
  have a1 := X1.cell 1 (v := .int .i64 I) rfl
  clear h X0 X1 X2
  generalize hn : L.length = n at *
  go_enter Try.func9, Try.ntmps9
  go_wp2_with first
    | (go_at_call 18; refine C1.mono ?_; rintro e w2 ⟨rfl, B2⟩; have P2 := P0.turns B2; have T2 := Turns.of_below B2 P0.net.lt; obtain ⟨Y0, Y1, Y2⟩ := HD.out.keep T2; have y0 := Y0.cell 0 (v := .slice ao n c) rfl; have y1 := Y0.cell 1 (v := .int .i64 lost) rfl; have y2 := Y1.cell 1 (v := .int .i64 I) rfl)
    | (go_at_call 22; refine (C2 _).mono ?_; rintro e w3 ⟨rfl, B3⟩; have P3 := P2.turns B3; have T3 := T2.trans (Turns.of_below B3 P2.net.lt); obtain ⟨V0, V1, V2⟩ := HD.out.keep T3; have z0 := V0.cell 0 (v := .slice ao n c) rfl; have z1 := V0.cell 1 (v := .int .i64 lost) rfl; have zf := V0.frozen 0; have zg := V0.frozen 1; have r0 := V2.cell 0 (v := .slice none 0 0) rfl; have r1 := V2.cell 1 (v := .int .i64 0) rfl; have f0 := V2.frozen 0; have f1 := V2.frozen 1)
  have V2' := V2.put_n (g := w.heap.size) (by omega) (.slice ao n c) (.int .i64 lost)
  refine bodyPost_ret (results_blk2 rfl _ _ (w.heap.size + 2) _ rfl (load_n (put_n V2') rfl)) rfl ?_
  exact ⟨ao, c, L, lost, by rw [hn]; rfl, (P3.put2 V0 _ _).put2 V2' _ _, by omega, hq, by omega, ((TB.trans T3).put2 hb (Nat.le_refl _) _ _).put2 hb (by omega) _ _⟩
set_option maxHeartbeats 2000000 in
set_option maxRecDepth 100000 in
theorem does_move_ok (b j : Nat) (ao : Option Addr) (c : Nat) (L : List Pc) (lost T : Int) (F : ByteArray) (X : Int) (w : World) (h : PI b w ao c L lost) (hq : 0 ≤ lost) (hj : j < L.length) (hl : L.length ≤ 60) :
   Calls Try.prog 9 #[.pointer (some ⟨b, 0, none⟩), .agg #[.slice ao L.length c, .int .i64 lost], .agg #[.int .i64 4, .int .i64 (j : Int), .int .i64 T, .string F, .int .u32 X]] w (DR b w L lost) := by
  obtain ⟨w0, D⟩ := d0_any b w ao c L.length lost 4 j T F X h.net
  have hb := h.net.lt
  have P0 := h.turns D.bel
  have HD : Hid _ := D
  have TB := Turns.of_below D.bel hb
  obtain ⟨B0, s0, hw, X0, X1, X2, _⟩ := D
  have C1 := move_ok b j L lost w0 P0.net hj (by omega)
  have C2 := fun W hW => rmove_ok j ao c L lost W hW hj (by omega)
  have FR : Hid _ := fr_move h.fr hj
  have EL : Hid ((L.eraseIdx j ++ [pc L j]).length = (L.eraseIdx j).length + 1 ∧ (L.eraseIdx j ++ [pc L j]).length ≤ L.length + 1) := ⟨by simp, by rw [List.length_append, List.length_eraseIdx_of_lt hj]; simp only [List.length_singleton]; omega⟩
  have a0 := X1.cell 0 (v := .int .i64 4) rfl
  have a1 := X1.cell 1 (v := .int .i64 (j : Int)) rfl
  clear h X0 X1 X2 hj hl
  generalize hM : L.eraseIdx j ++ [pc L j] = M at *
  generalize (L.eraseIdx j).length = m at *
  generalize hn : L.length = n at *
  go_enter Try.func9, Try.ntmps9
  go_wp2_with first
    | (go_at_call 18; refine C1.mono ?_; rintro e w2 ⟨rfl, N2, T2⟩; have R2 := P0.ref.turns T2; obtain ⟨Y0, Y1, Y2⟩ := HD.out.keep T2; have y0 := Y0.cell 0 (v := .slice ao n c) rfl; have y1 := Y0.cell 1 (v := .int .i64 lost) rfl; have y2 := Y1.cell 1 (v := .int .i64 (j : Int)) rfl)
    | (go_at_call 22; refine (C2 _ (by rw [← hn]; exact R2.row)).mono ?_; rintro e w3 ⟨ao3, c3, rfl, R3, B3⟩; have N3 := N2.below B3; have RN3 := rn_new N2 R3 B3; have T3 := T2.trans (Turns.of_below B3 N2.lt); obtain ⟨V0, V1, V2⟩ := HD.out.keep T3; have z0 := V0.cell 0 (v := .slice ao n c) rfl; have z1 := V0.cell 1 (v := .int .i64 lost) rfl; have zf := V0.frozen 0; have zg := V0.frozen 1; have r0 := V2.cell 0 (v := .slice none 0 0) rfl; have r1 := V2.cell 1 (v := .int .i64 0) rfl; have f0 := V2.frozen 0; have f1 := V2.frozen 1)
  have V2' := V2.put_n (g := w.heap.size) (by omega) (.slice ao3 (m + 1) c3) (.int .i64 lost)
  refine bodyPost_ret (results_blk2 rfl _ _ (w.heap.size + 2) _ rfl (load_n (put_n V2') rfl)) rfl ?_
  have e1 := EL.out.1
  have P3 : PI b w3 ao3 c3 M lost := ⟨N3, by rw [e1]; exact RN3, FR.out⟩
  exact ⟨ao3, c3, M, lost, by rw [e1]; rfl, (P3.put2 V0 _ _).put2 V2' _ _, by have := EL.out.2; omega, hq, by omega, ((TB.trans T3).put2 hb (Nat.le_refl _) _ _).put2 hb (by omega) _ _⟩
set_option maxHeartbeats 2000000 in
set_option maxRecDepth 100000 in
theorem does_lose_none (b : Nat) (ao : Option Addr) (c : Nat) (L : List Pc) (lost I T : Int) (F : ByteArray) (X : Int) (w : World) (h : PI b w ao c L lost) (hq : 0 ≤ lost) (hi : I < 0 ∨ (L.length : Int) ≤ I) :
   Calls Try.prog 9 #[.pointer (some ⟨b, 0, none⟩), .agg #[.slice ao L.length c, .int .i64 lost], .agg #[.int .i64 3, .int .i64 I, .int .i64 T, .string F, .int .u32 X]] w (DR b w L lost) := by
  obtain ⟨w0, D⟩ := d0_any b w ao c L.length lost 3 I T F X h.net
  have hb := h.net.lt
  have P0 := h.turns D.bel
  have HD : Hid _ := D
  have TB := Turns.of_below D.bel hb
  obtain ⟨B0, s0, hw, X0, X1, X2, _⟩ := D
  have C1 := lose_none b I L lost w0 P0.net hi
  have C2 := fun W => rtake_none I ao L.length c lost W hi
  have e0 : (default : Pc).val = .agg #[.int .i64 0, .string ⟨#[]⟩, .bool false] := rfl
  rw [e0] at C2
  have a0 := X1.cell 0 (v := .int .i64 3) rfl
  have a1 := X1.cell 1 (v := .int .i64 I) rfl
  clear h X0 X1 X2
  generalize hn : L.length = n at *
  go_enter Try.func9, Try.ntmps9
  go_wp2_with first
    | (go_at_call 21; refine C1.mono ?_; rintro e w2 ⟨rfl, B2⟩; have P2 := P0.turns B2; have T2 := Turns.of_below B2 P0.net.lt; obtain ⟨Y0, Y1, Y2⟩ := HD.out.keep T2; have y0 := Y0.cell 0 (v := .slice ao n c) rfl; have y1 := Y0.cell 1 (v := .int .i64 lost) rfl; have y2 := Y1.cell 1 (v := .int .i64 I) rfl)
    | (go_at_call 20; refine (C2 _).mono ?_; rintro e w3 ⟨rfl, B3'⟩; have B3 : Below w2.heap.size w2 ((w3.alloc (.cells #[.slice ao n c, .int .i64 lost] 28)).alloc (.cells #[.int .i64 0, .string ⟨#[]⟩, .bool false] 42)) := (B3'.alloc B3'.size _).alloc (by have := B3'.size; simp; omega) _; have P3 := P2.turns B3; have T3 := T2.trans (Turns.of_below B3 P2.net.lt); obtain ⟨V0, V1, V2⟩ := HD.out.keep T3; have z0 := V0.cell 0 (v := .slice ao n c) rfl; have z1 := V0.cell 1 (v := .int .i64 lost) rfl; have zf := V0.frozen 0; have zg := V0.frozen 1; have r0 := V2.cell 0 (v := .slice none 0 0) rfl; have r1 := V2.cell 1 (v := .int .i64 0) rfl; have f0 := V2.frozen 0; have f1 := V2.frozen 1)
  have V2' := V2.put_n (g := w.heap.size) (by omega) (.slice ao n c) (.int .i64 lost)
  refine bodyPost_ret (results_blk2 rfl _ _ (w.heap.size + 2) _ rfl (load_n (put_n V2') rfl)) rfl ?_
  exact ⟨ao, c, L, lost, by rw [hn]; rfl, (P3.put2 V0 _ _).put2 V2' _ _, by omega, hq, by omega, ((TB.trans T3).put2 hb (Nat.le_refl _) _ _).put2 hb (by omega) _ _⟩
set_option maxHeartbeats 2000000 in
set_option maxRecDepth 100000 in
theorem does_lose_ok (b j : Nat) (ao : Option Addr) (c : Nat) (L : List Pc) (lost T : Int) (F : ByteArray) (X : Int) (w : World) (h : PI b w ao c L lost) (hq : 0 ≤ lost ∧ lost < 1000000) (hj : j < L.length) (hl : L.length ≤ 60) :
   Calls Try.prog 9 #[.pointer (some ⟨b, 0, none⟩), .agg #[.slice ao L.length c, .int .i64 lost], .agg #[.int .i64 3, .int .i64 (j : Int), .int .i64 T, .string F, .int .u32 X]] w (DR b w L lost) := by
  obtain ⟨w0, D⟩ := d0_any b w ao c L.length lost 3 j T F X h.net
  have hb := h.net.lt
  have P0 := h.turns D.bel
  have HD : Hid _ := D
  have TB := Turns.of_below D.bel hb
  obtain ⟨B0, s0, hw, X0, X1, X2, _⟩ := D
  have C1 := lose_ok b j L lost w0 P0.net hj (by omega) hq
  have C2 := fun W hW => rtake_ok j ao c L lost W hW hj (by omega)
  have FR : Hid _ := fr_erase h.fr j
  have EL : Hid ((L.eraseIdx j).length ≤ L.length + 1) := by show _ ≤ _; rw [List.length_eraseIdx_of_lt hj]; omega
  have a0 := X1.cell 0 (v := .int .i64 3) rfl
  have a1 := X1.cell 1 (v := .int .i64 (j : Int)) rfl
  clear h X0 X1 X2 hj hl
  generalize hM : L.eraseIdx j = M at *
  generalize hmm : M.length = m at *
  generalize pc L j = p at *
  obtain ⟨pt, pf, pn⟩ := p
  unfold Pc.val at C2
  simp only at C2
  generalize hn : L.length = n at *
  go_enter Try.func9, Try.ntmps9
  go_wp2_with first
    | (go_at_call 21; refine C1.mono ?_; rintro e w2 ⟨rfl, N2, T2⟩; have R2 := P0.ref.turns T2; obtain ⟨Y0, Y1, Y2⟩ := HD.out.keep T2; have y0 := Y0.cell 0 (v := .slice ao n c) rfl; have y1 := Y0.cell 1 (v := .int .i64 lost) rfl; have y2 := Y1.cell 1 (v := .int .i64 (j : Int)) rfl)
    | (go_at_call 20; refine (C2 _ (by rw [← hn]; exact R2.row)).mono ?_; rintro e w3 ⟨ao3, c3, rfl, R3', B3'⟩; have BQ : Below w3.heap.size w3 ((w3.alloc (.cells #[.slice ao3 m c3, .int .i64 lost] 28)).alloc (.cells #[.int .i64 pt, .string pf, .bool pn] 42)) := ((Below.refl _ _).alloc (Nat.le_refl _) _).alloc (by simp) _; have B3 := below_then B3' BQ; have R3 := PRow.below R3' BQ; have N3 := N2.below B3; have RN3 := rn_new N2 R3 B3; have QN := (blk_new w3 28 #[.slice ao3 m c3, .int .i64 lost]).below ((Below.refl _ _).alloc (Nat.le_refl _) (.cells #[.int .i64 pt, .string pf, .bool pn] 42)) (by simp); have q0 := QN.cell 0 (v := .slice ao3 m c3) rfl; have q1 := QN.cell 1 (v := .int .i64 lost) rfl; have s3 := B3'.size; have s2' := T2.below.size; have dne : ¬ w3.heap.size = w.heap.size := (by have := TB.below.size; omega); have T3 := T2.trans (Turns.of_below B3 N2.lt); obtain ⟨V0, V1, V2⟩ := HD.out.keep T3; have z0 := V0.cell 0 (v := .slice ao n c) rfl; have zz0 := (((V0.set 0 (.slice ao3 m c3)).set 1 (.int .i64 lost)).set 1 (.int .i64 (lost + 1))).cell 0 (v := .slice ao3 m c3) rfl; have zz1 := (((V0.set 0 (.slice ao3 m c3)).set 1 (.int .i64 lost)).set 1 (.int .i64 (lost + 1))).cell 1 (v := .int .i64 (lost + 1)) rfl; have z1 := V0.cell 1 (v := .int .i64 lost) rfl; have zf := V0.frozen 0; have zg := V0.frozen 1; have r0 := V2.cell 0 (v := .slice none 0 0) rfl; have r1 := V2.cell 1 (v := .int .i64 0) rfl; have f0 := V2.frozen 0; have f1 := V2.frozen 1)
  have V0a := (V0.set 0 (.slice ao3 m c3)).set 1 (.int .i64 lost)
  have V2' := (V2.put_n (g := w.heap.size) (by omega) (.slice ao3 m c3) (.int .i64 lost)).other (a := ⟨w.heap.size, 1, none⟩) (by show w.heap.size + 2 ≠ w.heap.size; omega) (.int .i64 (lost + 1))
  refine bodyPost_ret (results_blk2 rfl _ _ (w.heap.size + 2) _ rfl (load_n (put_n V2') rfl)) rfl ?_
  have P3 : PI b _ ao3 c3 M (lost + 1) := ⟨N3, by rw [hmm]; exact RN3, FR.out⟩
  exact ⟨ao3, c3, M, lost + 1, by rw [hmm]; rfl, ((P3.put2 V0 _ _).set V0a _).put2 V2' _ _, by have := EL.out; omega, by omega, by omega, (((TB.trans T3).put2 hb (Nat.le_refl _) _ _).late hb (a := ⟨w.heap.size, 1, none⟩) (Nat.le_refl _) _).put2 hb (by omega) _ _⟩
end Go.Proofs.Ytgbljkbiigcofaa
