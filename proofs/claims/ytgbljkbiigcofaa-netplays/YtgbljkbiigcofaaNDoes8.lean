/- Take on a net and on the document's. -/
import Derived.Test.YtgbljkbiigcofaaNDoes5
import Derived.Deep.CutBlock
import Derived.Deep.CutRange
namespace Go.Proofs.Ytgbljkbiigcofaa
open Go.ChangeShapes Go.WideShapes Go.ChangeAt Go.RowKit
set_option maxHeartbeats 2000000 in
set_option maxRecDepth 100000 in
theorem does_take_none (b : Nat) (I T X : Int) (ao : Option Addr) (c : Nat) (L : List Pc) (lost : Int) (F : ByteArray) (w : World) (h : PI b w ao c L lost) (hq : 0 ≤ lost) (hi : I < 0 ∨ (L.length : Int) ≤ I) :
   Calls Try.prog 9 #[.pointer (some ⟨b, 0, none⟩), .agg #[.slice ao L.length c, .int .i64 lost], .agg #[.int .i64 2, .int .i64 I, .int .i64 T, .string F, .int .u32 X]] w (DR b w L lost) := by
  obtain ⟨w0, D⟩ := d0_any b w ao c L.length lost 2 I T F X h.net
  have hb := h.net.lt
  have P0 := h.turns D.bel
  have HD : Hid _ := D
  have TB := Turns.of_below D.bel hb
  obtain ⟨B0, s0, hw, X0, X1, X2, _⟩ := D
  have C1 := take_none b I L lost w0 P0.net hi
  have C2 := fun W => rtake_none I ao L.length c lost W hi
  have e0 : (default : Pc).val = .agg #[.int .i64 0, .string ⟨#[]⟩, .bool false] := rfl
  rw [e0] at C1 C2
  have a0 := X1.cell 0 (v := .int .i64 2) rfl
  have a1 := X1.cell 1 (v := .int .i64 I) rfl
  clear h X0 X1 X2 hi e0
  generalize hn : L.length = n at *
  go_enter Try.func9, Try.ntmps9
  go_wp2_with first
    | (go_at_call 15; refine C1.mono ?_; rintro e w2 ⟨rfl, B2⟩; have BA : Below w2.heap.size w2 (w2.alloc (.cells #[.int .i64 0, .string ⟨#[]⟩, .bool false] 38)) := (Below.refl _ _).alloc (Nat.le_refl _) _; have P2 := P0.turns (below_then B2 BA); have T2 := Turns.of_below (below_then B2 BA) P0.net.lt; have XA := blk_new w2 38 #[.int .i64 0, .string ⟨#[]⟩, .bool false]; obtain ⟨Y0, Y1, Y2⟩ := HD.out.keep T2; have y0 := Y0.cell 0 (v := .slice ao n c) rfl; have y1 := Y0.cell 1 (v := .int .i64 lost) rfl; have y2 := Y1.cell 1 (v := .int .i64 I) rfl)
    | (go_at_call 20; refine (C2 _).mono ?_; rintro e w3 ⟨rfl, B3'⟩; have BQ : Below w3.heap.size w3 ((w3.alloc (.cells #[.slice ao n c, .int .i64 lost] 28)).alloc (.cells #[.int .i64 0, .string ⟨#[]⟩, .bool false] 42)) := ((Below.refl _ _).alloc (Nat.le_refl _) _).alloc (by simp) _; have B3 := below_then B3' BQ; have P3 := P2.turns B3; have T3 := T2.trans (Turns.of_below B3 P2.net.lt); obtain ⟨V0, V1, V2⟩ := HD.out.keep T3; have QN := (blk_new w3 28 #[.slice ao n c, .int .i64 lost]).below ((Below.refl _ _).alloc (Nat.le_refl _) (.cells #[.int .i64 0, .string ⟨#[]⟩, .bool false] 42)) (by simp); have QP := blk_new (w3.alloc (.cells #[.slice ao n c, .int .i64 lost] 28)) 42 #[.int .i64 0, .string ⟨#[]⟩, .bool false]; have s4 : (w3.alloc (.cells #[.slice ao n c, .int .i64 lost] 28)).heap.size = w3.heap.size + 1 := (by simp); rw [s4] at QP; have XB := XA.below B3 XA.lt)
  generalize (w3.alloc (.cells #[.slice ao n c, .int .i64 lost] 28)).alloc (.cells #[.int .i64 0, .string ⟨#[]⟩, .bool false] 42) = w4 at *
  have q0 := QN.cell 0 (v := .slice ao n c) rfl
  have q1 := QN.cell 1 (v := .int .i64 lost) rfl
  have p0 := QP.cell 0 (v := .int .i64 0) rfl
  have p1 := QP.cell 1 (v := .string ⟨#[]⟩) rfl
  have p2 := QP.cell 2 (v := .bool false) rfl
  have x0 := XB.cell 0 (v := .int .i64 0) rfl
  have x1 := XB.cell 1 (v := .string ⟨#[]⟩) rfl
  have x2 := XB.cell 2 (v := .bool false) rfl
  have r0 := V2.cell 0 (v := .slice none 0 0) rfl
  have r1 := V2.cell 1 (v := .int .i64 0) rfl
  have f0 := V2.frozen 0
  have f1 := V2.frozen 1
  have l1 := V2.lt
  have l2 := QN.lt
  have l3 := QP.lt
  have l4 := XB.lt
  have k2 := B2.size
  have k3 := B3'.size
  have k4 := BA.size
  have d1 : ¬ w3.heap.size = w.heap.size + 2 := by omega
  have d2 : ¬ w3.heap.size + 1 = w.heap.size + 2 := by omega
  have d3 : ¬ w2.heap.size = w.heap.size + 2 := by omega
  clear y0 y1 y2 Y0 Y1 Y2 C1 C2 XA
  go_region
  all_goals
    go_wp2
    refine bodyPost_ret (results_blk2 rfl _ _ (w.heap.size + 2) _ rfl (load_n ((put_n V2).drew) rfl)) rfl ?_
    exact ⟨ao, c, L, lost, by rw [hn]; rfl, (P3.put2 V2 _ _).turns ((Below.refl _ _).drew), by omega, hq, by omega, ((TB.trans T3).put2 hb (by omega) _ _).trans (Turns.of_below ((Below.refl _ _).drew) (P3.put2 V2 (.slice ao n c) (.int .i64 lost)).net.lt)⟩
set_option maxHeartbeats 2000000 in
set_option maxRecDepth 100000 in
theorem does_take_ok (b j : Nat) (T X : Int) (ao : Option Addr) (c : Nat) (L : List Pc) (lost : Int) (F : ByteArray) (w : World) (h : PI b w ao c L lost) (hq : 0 ≤ lost) (hj : j < L.length) (hl : L.length ≤ 60) :
   Calls Try.prog 9 #[.pointer (some ⟨b, 0, none⟩), .agg #[.slice ao L.length c, .int .i64 lost], .agg #[.int .i64 2, .int .i64 (j : Int), .int .i64 T, .string F, .int .u32 X]] w (DR b w L lost) := by
  obtain ⟨w0, D⟩ := d0_any b w ao c L.length lost 2 j T F X h.net
  have hb := h.net.lt
  have P0 := h.turns D.bel
  have HD : Hid _ := D
  have TB := Turns.of_below D.bel hb
  obtain ⟨B0, s0, hw, X0, X1, X2, _⟩ := D
  have C1 := take_ok b j L lost w0 P0.net hj (by omega)
  have C2 := fun W hW => rtake_ok j ao c L lost W hW hj (by omega)
  have FR : Hid _ := fr_erase h.fr j
  have EL : Hid ((L.eraseIdx j).length ≤ L.length + 1) := by show _ ≤ _; rw [List.length_eraseIdx_of_lt hj]; omega
  have a0 := X1.cell 0 (v := .int .i64 2) rfl
  have a1 := X1.cell 1 (v := (.int .i64 (j : Int))) rfl
  clear h X0 X1 X2 hj hl
  generalize hM : L.eraseIdx j = M at *
  generalize hmm : M.length = m at *
  generalize pc L j = p at *
  obtain ⟨pt, pf, pn⟩ := p
  unfold Pc.val at C1 C2
  simp only at C1 C2
  generalize hn : L.length = n at *
  go_enter Try.func9, Try.ntmps9
  go_wp2_with first
    | (go_at_call 15; refine C1.mono ?_; rintro e w2 ⟨rfl, N2', T2'⟩; have BA : Below w2.heap.size w2 (w2.alloc (.cells #[.int .i64 pt, .string pf, .bool pn] 38)) := (Below.refl _ _).alloc (Nat.le_refl _) _; have N2 := N2'.below BA; have T2 := T2'.trans (Turns.of_below BA N2'.lt); have R2 := P0.ref.turns T2; have XA := blk_new w2 38 #[.int .i64 pt, .string pf, .bool pn]; obtain ⟨Y0, Y1, Y2⟩ := HD.out.keep T2; have y0 := Y0.cell 0 (v := .slice ao n c) rfl; have y1 := Y0.cell 1 (v := .int .i64 lost) rfl; have y2 := Y1.cell 1 (v := (.int .i64 (j : Int))) rfl)
    | (go_at_call 20; refine (C2 _ (by rw [← hn]; exact R2.row)).mono ?_; rintro e w3 ⟨ao3, c3, rfl, R3', B3'⟩; have BQ : Below w3.heap.size w3 ((w3.alloc (.cells #[.slice ao3 m c3, .int .i64 lost] 28)).alloc (.cells #[.int .i64 pt, .string pf, .bool pn] 42)) := ((Below.refl _ _).alloc (Nat.le_refl _) _).alloc (by simp) _; have B3 := below_then B3' BQ; have R3 := PRow.below R3' BQ; have N3 := N2.below B3; have RN3 := rn_new N2 R3 B3; have T3 := T2.trans (Turns.of_below B3 N2.lt); obtain ⟨V0, V1, V2⟩ := HD.out.keep T3; have QN := (blk_new w3 28 #[.slice ao3 m c3, .int .i64 lost]).below ((Below.refl _ _).alloc (Nat.le_refl _) (.cells #[.int .i64 pt, .string pf, .bool pn] 42)) (by simp); have QP := blk_new (w3.alloc (.cells #[.slice ao3 m c3, .int .i64 lost] 28)) 42 #[.int .i64 pt, .string pf, .bool pn]; have s4 : (w3.alloc (.cells #[.slice ao3 m c3, .int .i64 lost] 28)).heap.size = w3.heap.size + 1 := (by simp); rw [s4] at QP; have XB := XA.below B3 XA.lt)
  generalize (w3.alloc (.cells #[.slice ao3 m c3, .int .i64 lost] 28)).alloc (.cells #[.int .i64 pt, .string pf, .bool pn] 42) = w4 at *
  have q0 := QN.cell 0 (v := .slice ao3 m c3) rfl
  have q1 := QN.cell 1 (v := .int .i64 lost) rfl
  have p0 := QP.cell 0 (v := .int .i64 pt) rfl
  have p1 := QP.cell 1 (v := .string pf) rfl
  have p2 := QP.cell 2 (v := .bool pn) rfl
  have x0 := XB.cell 0 (v := .int .i64 pt) rfl
  have x1 := XB.cell 1 (v := .string pf) rfl
  have x2 := XB.cell 2 (v := .bool pn) rfl
  have r0 := V2.cell 0 (v := .slice none 0 0) rfl
  have r1 := V2.cell 1 (v := .int .i64 0) rfl
  have f0 := V2.frozen 0
  have f1 := V2.frozen 1
  have l1 := V2.lt
  have l2 := QN.lt
  have l3 := QP.lt
  have l4 := XB.lt
  have k2 := T2'.below.size
  have k5 := T2'.below
  have kT := N2'.lt
  have k3 := B3'.size
  have k4 := BA.size
  have d1 : ¬ w3.heap.size = w.heap.size + 2 := by omega
  have d2 : ¬ w3.heap.size + 1 = w.heap.size + 2 := by omega
  have d3 : ¬ w2.heap.size = w.heap.size + 2 := by omega
  clear y0 y1 y2 Y0 Y1 Y2 C1 C2 XA k5
  go_region
  all_goals
    go_wp2
    refine bodyPost_ret (results_blk2 rfl _ _ (w.heap.size + 2) _ rfl (load_n ((put_n V2).drew) rfl)) rfl ?_
    have P3 : PI b w4 ao3 c3 M lost := ⟨N3, by rw [hmm]; exact RN3, FR.out⟩
    exact ⟨ao3, c3, M, lost, by rw [hmm]; rfl, (P3.put2 V2 _ _).turns ((Below.refl _ _).drew), by have := EL.out; omega, hq, by omega, ((TB.trans T3).put2 hb (by omega) _ _).trans (Turns.of_below ((Below.refl _ _).drew) (P3.put2 V2 (.slice ao3 m c3) (.int .i64 lost)).net.lt)⟩
end Go.Proofs.Ytgbljkbiigcofaa
