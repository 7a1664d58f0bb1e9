/- Turn and Cut on a net and on the document's. -/
import Derived.Test.YtgbljkbiigcofaaNDoes4
namespace Go.Proofs.Ytgbljkbiigcofaa
open Go.ChangeShapes Go.WideShapes Go.ChangeAt Go.RowKit
theorem fr_set {L : List Pc} (h : ∀ p ∈ L, p.fr.size ≤ 40) (j : Nat) {q : Pc} (hq : q.fr.size ≤ 40) : ∀ p ∈ L.set j q, p.fr.size ≤ 40 := fun p hp => by
  rcases List.mem_or_eq_of_mem_set hp with h1 | h1
  · exact h p h1
  · rw [h1]; exact hq
theorem fr_rest {L : List Pc} (h : ∀ p ∈ L, p.fr.size ≤ 40) (k : Int) : ∀ p ∈ rest k L, p.fr.size ≤ 40 := fun p hp => h p (List.mem_filter.1 hp).1
set_option maxHeartbeats 2000000 in
set_option maxRecDepth 100000 in
theorem does_turn_none (b : Nat) (I T X : Int) (ao : Option Addr) (c : Nat) (L : List Pc) (lost : Int) (F : ByteArray) (w : World) (h : PI b w ao c L lost) (hq : 0 ≤ lost) (hi : I < 0 ∨ (L.length : Int) ≤ I) :
   Calls Try.prog 9 #[.pointer (some ⟨b, 0, none⟩), .agg #[.slice ao L.length c, .int .i64 lost], .agg #[.int .i64 5, .int .i64 I, .int .i64 T, .string F, .int .u32 X]] w (DR b w L lost) := by
  obtain ⟨w0, D⟩ := d0_any b w ao c L.length lost 5 I T F X h.net
  have hb := h.net.lt
  have P0 := h.turns D.bel
  have HD : Hid _ := D
  have TB := Turns.of_below D.bel hb
  obtain ⟨B0, s0, hw, X0, X1, X2, _⟩ := D
  have C1 := turn_none b I T X L lost w0 P0.net hi
  have C2 := rturn_none I T X ao L.length c lost w0 hi
  have a0 := X1.cell 0 (v := .int .i64 5) rfl
  have a1 := X1.cell 1 (v := .int .i64 I) rfl
  have a2 := X1.cell 2 (v := .int .i64 T) rfl
  have a4 := X1.cell 4 (v := .int .u32 X) rfl
  have y0 := X0.cell 0 (v := .slice ao L.length c) rfl
  have y1 := X0.cell 1 (v := .int .i64 lost) rfl
  clear h X0 X1 X2
  generalize hn : L.length = n at *
  go_enter Try.func9, Try.ntmps9
  go_wp2_with first
    | (go_at_call 16; refine C1.mono ?_; rintro e w2 ⟨rfl, rfl⟩)
    | (go_at_call 23; refine C2.mono ?_; rintro e w3 ⟨rfl, B3⟩; have P3 := P0.turns B3; have T3 := Turns.of_below B3 P0.net.lt; obtain ⟨V0, V1, V2⟩ := HD.out.keep T3; have z0 := V0.cell 0 (v := .slice ao n c) rfl; have z1 := V0.cell 1 (v := .int .i64 lost) rfl; have zf := V0.frozen 0; have zg := V0.frozen 1; have r0 := V2.cell 0 (v := .slice none 0 0) rfl; have r1 := V2.cell 1 (v := .int .i64 0) rfl; have f0 := V2.frozen 0; have f1 := V2.frozen 1)
  have V2' := V2.put_n (g := w.heap.size) (by omega) (.slice ao n c) (.int .i64 lost)
  refine bodyPost_ret (results_blk2 rfl _ _ (w.heap.size + 2) _ rfl (load_n (put_n V2') rfl)) rfl ?_
  exact ⟨ao, c, L, lost, by rw [hn]; rfl, (P3.put2 V0 _ _).put2 V2' _ _, by omega, hq, by omega, ((TB.trans T3).put2 hb (Nat.le_refl _) _ _).put2 hb (by omega) _ _⟩
set_option maxHeartbeats 2000000 in
set_option maxRecDepth 100000 in
theorem does_turn_arg (b : Nat) (j : Nat) (T X : Int) (ao : Option Addr) (c : Nat) (L : List Pc) (lost : Int) (F : ByteArray) (w : World) (h : PI b w ao c L lost) (hq : 0 ≤ lost) (hj : j < L.length) (ht : T < 0 ∨ 8 * ((pc L j).fr.size : Int) ≤ T) (hT : T ≤ 9223372036854775807) :
   Calls Try.prog 9 #[.pointer (some ⟨b, 0, none⟩), .agg #[.slice ao L.length c, .int .i64 lost], .agg #[.int .i64 5, .int .i64 (j : Int), .int .i64 T, .string F, .int .u32 X]] w (DR b w L lost) := by
  obtain ⟨w0, D⟩ := d0_any b w ao c L.length lost 5 (j : Int) T F X h.net
  have hb := h.net.lt
  have P0 := h.turns D.bel
  have HD : Hid _ := D
  have TB := Turns.of_below D.bel hb
  obtain ⟨B0, s0, hw, X0, X1, X2, _⟩ := D
  have C1 := turn_arg b j T X L lost w0 P0.net hj (by have := h.at hj; omega) ht
  have C2 := rturn_arg j T X ao c L lost w0 P0.ref.row hj (by have := h.at hj; omega) ht hT
  have a0 := X1.cell 0 (v := .int .i64 5) rfl
  have a1 := X1.cell 1 (v := .int .i64 (j : Int)) rfl
  have a2 := X1.cell 2 (v := .int .i64 T) rfl
  have a4 := X1.cell 4 (v := .int .u32 X) rfl
  have y0 := X0.cell 0 (v := .slice ao L.length c) rfl
  have y1 := X0.cell 1 (v := .int .i64 lost) rfl
  clear h X0 X1 X2
  generalize hn : L.length = n at *
  go_enter Try.func9, Try.ntmps9
  go_wp2_with first
    | (go_at_call 16; refine C1.mono ?_; rintro e w2 ⟨rfl, rfl⟩)
    | (go_at_call 23; refine C2.mono ?_; rintro e w3 ⟨rfl, B3⟩; have P3 := P0.turns B3; have T3 := Turns.of_below B3 P0.net.lt; obtain ⟨V0, V1, V2⟩ := HD.out.keep T3; have z0 := V0.cell 0 (v := .slice ao n c) rfl; have z1 := V0.cell 1 (v := .int .i64 lost) rfl; have zf := V0.frozen 0; have zg := V0.frozen 1; have r0 := V2.cell 0 (v := .slice none 0 0) rfl; have r1 := V2.cell 1 (v := .int .i64 0) rfl; have f0 := V2.frozen 0; have f1 := V2.frozen 1)
  have V2' := V2.put_n (g := w.heap.size) (by omega) (.slice ao n c) (.int .i64 lost)
  refine bodyPost_ret (results_blk2 rfl _ _ (w.heap.size + 2) _ rfl (load_n (put_n V2') rfl)) rfl ?_
  exact ⟨ao, c, L, lost, by rw [hn]; rfl, (P3.put2 V0 _ _).put2 V2' _ _, by omega, hq, by omega, ((TB.trans T3).put2 hb (Nat.le_refl _) _ _).put2 hb (by omega) _ _⟩
set_option maxHeartbeats 2000000 in
set_option maxRecDepth 100000 in
theorem does_turn_there (b : Nat) (j t : Nat) (X : Int) (ao : Option Addr) (c : Nat) (L : List Pc) (lost : Int) (F : ByteArray) (w : World) (h : PI b w ao c L lost) (hq : 0 ≤ lost) (hj : j < L.length) (ht : t < 8 * (pc L j).fr.size) (htn : (pc L j).tn = true) :
   Calls Try.prog 9 #[.pointer (some ⟨b, 0, none⟩), .agg #[.slice ao L.length c, .int .i64 lost], .agg #[.int .i64 5, .int .i64 (j : Int), .int .i64 (t : Int), .string F, .int .u32 X]] w (DR b w L lost) := by
  obtain ⟨w0, D⟩ := d0_any b w ao c L.length lost 5 (j : Int) (t : Int) F X h.net
  have hb := h.net.lt
  have P0 := h.turns D.bel
  have HD : Hid _ := D
  have TB := Turns.of_below D.bel hb
  obtain ⟨B0, s0, hw, X0, X1, X2, _⟩ := D
  have C1 := turn_there b j t X L lost w0 P0.net hj (by have := h.at hj; omega) ht htn
  have C2 := rturn_there j t X ao c L lost w0 P0.ref.row hj (by have := h.at hj; omega) ht htn
  have a0 := X1.cell 0 (v := .int .i64 5) rfl
  have a1 := X1.cell 1 (v := .int .i64 (j : Int)) rfl
  have a2 := X1.cell 2 (v := .int .i64 (t : Int)) rfl
  have a4 := X1.cell 4 (v := .int .u32 X) rfl
  have y0 := X0.cell 0 (v := .slice ao L.length c) rfl
  have y1 := X0.cell 1 (v := .int .i64 lost) rfl
  clear h X0 X1 X2
  generalize hn : L.length = n at *
  go_enter Try.func9, Try.ntmps9
  go_wp2_with first
    | (go_at_call 16; refine C1.mono ?_; rintro e w2 ⟨rfl, rfl⟩)
    | (go_at_call 23; refine C2.mono ?_; rintro e w3 ⟨rfl, B3⟩; have P3 := P0.turns B3; have T3 := Turns.of_below B3 P0.net.lt; obtain ⟨V0, V1, V2⟩ := HD.out.keep T3; have z0 := V0.cell 0 (v := .slice ao n c) rfl; have z1 := V0.cell 1 (v := .int .i64 lost) rfl; have zf := V0.frozen 0; have zg := V0.frozen 1; have r0 := V2.cell 0 (v := .slice none 0 0) rfl; have r1 := V2.cell 1 (v := .int .i64 0) rfl; have f0 := V2.frozen 0; have f1 := V2.frozen 1)
  have V2' := V2.put_n (g := w.heap.size) (by omega) (.slice ao n c) (.int .i64 lost)
  refine bodyPost_ret (results_blk2 rfl _ _ (w.heap.size + 2) _ rfl (load_n (put_n V2') rfl)) rfl ?_
  exact ⟨ao, c, L, lost, by rw [hn]; rfl, (P3.put2 V0 _ _).put2 V2' _ _, by omega, hq, by omega, ((TB.trans T3).put2 hb (Nat.le_refl _) _ _).put2 hb (by omega) _ _⟩
set_option maxHeartbeats 2000000 in
set_option maxRecDepth 100000 in
theorem does_turn_ok (b j t x : Nat) (ao : Option Addr) (c : Nat) (L : List Pc) (lost : Int) (F : ByteArray) (w : World) (h : PI b w ao c L lost) (hq : 0 ≤ lost) (hj : j < L.length) (hl : L.length ≤ 60) (ht : t < 8 * (pc L j).fr.size) (htn : (pc L j).tn = false) (hx : x ≤ 4294967295) :
   Calls Try.prog 9 #[.pointer (some ⟨b, 0, none⟩), .agg #[.slice ao L.length c, .int .i64 lost], .agg #[.int .i64 5, .int .i64 (j : Int), .int .i64 (t : Int), .string F, .int .u32 (x : Int)]] w (DR b w L lost) := by
  obtain ⟨w0, D⟩ := d0_any b w ao c L.length lost 5 j t F x h.net
  have hb := h.net.lt
  have P0 := h.turns D.bel
  have HD : Hid _ := D
  have TB := Turns.of_below D.bel hb
  obtain ⟨B0, s0, hw, X0, X1, X2, _⟩ := D
  have h40 := h.at hj
  have C1 := turn_ok b j t x L lost w0 P0.net hj (by omega) ht htn hx
  have C2 := fun W hW => rturn_ok j t x ao c L lost W hW hj (by omega) (by omega) ht htn
  have FR : Hid _ := fr_set h.fr j (q := ⟨(pc L j).to, turnF (pc L j).fr t x, true⟩) (by show (turnF _ _ _).size ≤ 40; rw [turnF_size]; exact h40)
  have EL : Hid ((L.set j ⟨(pc L j).to, turnF (pc L j).fr t x, true⟩).length = L.length) := by show _ = _; simp
  have a0 := X1.cell 0 (v := .int .i64 5) rfl
  have a1 := X1.cell 1 (v := .int .i64 (j : Int)) rfl
  have a2 := X1.cell 2 (v := .int .i64 (t : Int)) rfl
  have a4 := X1.cell 4 (v := .int .u32 (x : Int)) rfl
  clear h X0 X1 X2 hj hl ht htn h40
  generalize hM : L.set j ⟨(pc L j).to, turnF (pc L j).fr t x, true⟩ = M at *
  generalize hn : L.length = n at *
  go_enter Try.func9, Try.ntmps9
  go_wp2_with first
    | (go_at_call 16; refine C1.mono ?_; rintro e w2 ⟨rfl, N2, T2⟩; have R2 := P0.ref.turns T2; obtain ⟨Y0, Y1, Y2⟩ := HD.out.keep T2; have y0 := Y0.cell 0 (v := .slice ao n c) rfl; have y1 := Y0.cell 1 (v := .int .i64 lost) rfl; have y2 := Y1.cell 1 (v := .int .i64 (j : Int)) rfl; have y3 := Y1.cell 2 (v := .int .i64 (t : Int)) rfl; have y4 := Y1.cell 4 (v := .int .u32 (x : Int)) rfl)
    | (go_at_call 23; refine (C2 _ (by rw [← hn]; exact R2.row)).mono ?_; rintro e w3 ⟨ao3, c3, rfl, R3, B3⟩; have N3 := N2.below B3; have RN3 := rn_new N2 R3 B3; have T3 := T2.trans (Turns.of_below B3 N2.lt); obtain ⟨V0, V1, V2⟩ := HD.out.keep T3; have z0 := V0.cell 0 (v := .slice ao n c) rfl; have z1 := V0.cell 1 (v := .int .i64 lost) rfl; have zf := V0.frozen 0; have zg := V0.frozen 1; have r0 := V2.cell 0 (v := .slice none 0 0) rfl; have r1 := V2.cell 1 (v := .int .i64 0) rfl; have f0 := V2.frozen 0; have f1 := V2.frozen 1)
  have V2' := V2.put_n (g := w.heap.size) (by omega) (.slice ao3 n c3) (.int .i64 lost)
  refine bodyPost_ret (results_blk2 rfl _ _ (w.heap.size + 2) _ rfl (load_n (put_n V2') rfl)) rfl ?_
  have e1 := EL.out
  have P3 : PI b w3 ao3 c3 M lost := ⟨N3, by rw [e1]; exact RN3, FR.out⟩
  exact ⟨ao3, c3, M, lost, by rw [e1]; rfl, (P3.put2 V0 _ _).put2 V2' _ _, by omega, hq, by omega, ((TB.trans T3).put2 hb (Nat.le_refl _) _ _).put2 hb (by omega) _ _⟩
set_option maxHeartbeats 2000000 in
set_option maxRecDepth 100000 in
theorem does_cut (b : Nat) (I T X : Int) (ao : Option Addr) (c : Nat) (L : List Pc) (lost : Int) (F : ByteArray) (w : World) (h : PI b w ao c L lost) (hq : 0 ≤ lost ∧ lost < 1000000) (hl : L.length ≤ 60) :
   Calls Try.prog 9 #[.pointer (some ⟨b, 0, none⟩), .agg #[.slice ao L.length c, .int .i64 lost], .agg #[.int .i64 6, .int .i64 I, .int .i64 T, .string F, .int .u32 X]] w (DR b w L lost) := by
  obtain ⟨w0, D⟩ := d0_any b w ao c L.length lost 6 I T F X h.net
  have hb := h.net.lt
  have P0 := h.turns D.bel
  have HD : Hid _ := D
  have TB := Turns.of_below D.bel hb
  obtain ⟨B0, s0, hw, X0, X1, X2, _⟩ := D
  have C1 := ncut_any b I L lost w0 P0.net (by omega) hq
  have C2 := fun W hW => rcut_any I ao c L lost W hW (by omega) hq
  have FR : Hid _ := fr_rest h.fr I
  have hrl := rest_len I L
  have a0 := X1.cell 0 (v := .int .i64 6) rfl
  have a1 := X1.cell 1 (v := .int .i64 I) rfl
  clear h X0 X1 X2
  generalize hM : rest I L = M at *
  generalize hm : M.length = m at *
  generalize hn : L.length = n at *
  obtain ⟨d, hd⟩ : ∃ d : Int, d = (n : Int) - (m : Int) := ⟨_, rfl⟩
  rw [← hd] at C1
  simp only [← hd] at C2
  have hdb : 0 ≤ d ∧ d ≤ 60 := by omega
  clear hd
  go_enter Try.func9, Try.ntmps9
  go_wp2_with first
    | (go_at_call 17; refine C1.mono ?_; rintro e w2 ⟨rfl, N2, T2⟩; have R2 := P0.ref.turns T2; obtain ⟨Y0, Y1, Y2⟩ := HD.out.keep T2; have y0 := Y0.cell 0 (v := .slice ao n c) rfl; have y1 := Y0.cell 1 (v := .int .i64 lost) rfl; have y2 := Y1.cell 1 (v := .int .i64 I) rfl)
    | (go_at_call 24; refine (C2 _ (by rw [← hn]; exact R2.row)).mono ?_; rintro e w3 ⟨ao3, c3, rfl, R3', B3'⟩; have BQ : Below w3.heap.size w3 (w3.alloc (.cells #[.slice ao3 m c3, .int .i64 (lost + d)] 28)) := (Below.refl _ _).alloc (Nat.le_refl _) _; have B3 := below_then B3' BQ; have R3 := PRow.below R3' BQ; have N3 := N2.below B3; have RN3 := rn_new N2 R3 B3; have T3 := T2.trans (Turns.of_below B3 N2.lt); obtain ⟨V0, V1, V2⟩ := HD.out.keep T3; have r0 := V2.cell 0 (v := .slice none 0 0) rfl; have r1 := V2.cell 1 (v := .int .i64 0) rfl; have f0 := V2.frozen 0; have f1 := V2.frozen 1)
  refine bodyPost_ret (results_blk2 rfl _ _ (w.heap.size + 2) _ rfl (load_n (put_n V2) rfl)) rfl ?_
  have P3 : PI b _ ao3 c3 M (lost + d) := ⟨N3, by rw [hm]; exact RN3, FR.out⟩
  exact ⟨ao3, c3, M, lost + d, by rw [hm]; rfl, P3.put2 V2 _ _, by omega, by omega, by omega, (TB.trans T3).put2 hb (by omega) _ _⟩
end Go.Proofs.Ytgbljkbiigcofaa
