/- The document's net: Move, Cut. -/
import Derived.Test.YtgbljkbiigcofaaNRef2
namespace Go.Proofs.Ytgbljkbiigcofaa
open Go.ChangeShapes Go.WideShapes Go.ChangeAt Go.RowKit
/-- A row lies in no block of another type. -/
theorem row_ne {w : World} {B g : Nat} {v : Value} {L : List Pc} {T T' : TypeId} {cs : Array Value} (h : PRow T w B v L) (hb : Blk w g T' cs) (hT : T ≠ T') : v.ownBlock ≠ some g := by
  intro e
  rcases h.cases with ⟨rfl, _⟩ | ⟨q, cap, ds, rfl, _, h3, _⟩
  · cases e
  · simp only [Value.ownBlock, Option.some.injEq] at e
    subst e
    unfold Blk at h3 hb
    rw [h3] at hb
    simp at hb
    exact hT hb.2
set_option maxHeartbeats 2000000 in
set_option maxRecDepth 100000 in
theorem rmove_ok (j : Nat) (ao : Option Addr) (c : Nat) (L : List Pc) (lost : Int) (w : World) (h : RRow w 0 (.slice ao L.length c) L) (hj : j < L.length) (hl : L.length ≤ 1000) :
   Calls Try.prog 22 #[.agg #[.slice ao L.length c, .int .i64 lost], .int .i64 (j : Int)] w fun e w' => ∃ ao' c', e = .returned (.tuple #[.agg #[.slice ao' ((L.eraseIdx j).length + 1) c', .int .i64 lost], .int .i64 0]) ∧ RRow w' w.heap.size (.slice ao' ((L.eraseIdx j).length + 1) c') (L.eraseIdx j ++ [pc L j]) ∧ Below w.heap.size w w' := by
  have X0 := W2.x0 w (.slice ao L.length c) lost
  have X1 := W2.x1 w (.slice ao L.length c) lost
  have B0 := W2.below w (.slice ao L.length c) lost
  have s0 := W2.size w (.slice ao L.length c) lost
  have hw : (w.alloc (.cells #[.slice ao L.length c, .int .i64 lost] 28)).alloc (.cells #[.slice none 0 0, .int .i64 0] 28) = W2 w (.slice ao L.length c) lost := rfl
  generalize W2 w (.slice ao L.length c) lost = w0 at *
  have C := rtake_ok j ao c L lost w0 (PRow.below h B0) hj hl
  have hme : (L.eraseIdx j).length ≤ 1000 := by rw [List.length_eraseIdx_of_lt hj]; omega
  have v0 := X0.cell 0 (v := .slice ao L.length c) rfl
  have v1 := X0.cell 1 (v := .int .i64 lost) rfl
  have HX : Hid (∀ W, Below w0.heap.size w0 W → Blk W (w.heap.size + 1) 28 #[.slice none 0 0, .int .i64 0]) := fun W hW => X1.below hW X1.lt
  clear h X0 X1 hj hl
  generalize hM : L.eraseIdx j = M at *
  generalize hm : M.length = m at *
  generalize L.length = n at *
  generalize pc L j = p at *
  obtain ⟨pt, pf, pn⟩ := p
  unfold Pc.val at C
  simp only at C
  go_enter Try.func22, Try.ntmps22
  go_wp2_with first
    | (go_at_call 20; refine C.mono ?_; rintro e w2 ⟨ao', c', rfl, R2, B2⟩; have BA : Below w2.heap.size w2 ((w2.alloc (.cells #[.slice ao' m c', .int .i64 lost] 28)).alloc (.cells #[.int .i64 pt, .string pf, .bool pn] 42)) := ((Below.refl _ _).alloc (Nat.le_refl _) _).alloc (by simp) _; have BC : Below w2.heap.size w2 (((w2.alloc (.cells #[.slice ao' m c', .int .i64 lost] 28)).alloc (.cells #[.int .i64 pt, .string pf, .bool pn] 42)).alloc (.cells #[.int .i64 pt, .string pf, .bool pn] 42)) := BA.alloc (by have := BA.size; omega) _; have RC := PRow.below R2 BC; have XC := blk_new ((w2.alloc (.cells #[.slice ao' m c', .int .i64 lost] 28)).alloc (.cells #[.int .i64 pt, .string pf, .bool pn] 42)) 42 #[.int .i64 pt, .string pf, .bool pn]; have XN := ((blk_new w2 28 #[.slice ao' m c', .int .i64 lost]).below ((Below.refl _ _).alloc (Nat.le_refl _) (.cells #[.int .i64 pt, .string pf, .bool pn] 42)) (by simp)).below ((Below.refl _ _).alloc (Nat.le_refl _) (.cells #[.int .i64 pt, .string pf, .bool pn] 42)) (by simp; omega); have sC : ((w2.alloc (.cells #[.slice ao' m c', .int .i64 lost] 28)).alloc (.cells #[.int .i64 pt, .string pf, .bool pn] 42)).heap.size = w2.heap.size + 2 := (by simp); rw [sC] at XC; have s2 := B2.size)
    | (at_builtin; refine wpList_append_r1g rfl _ _ rfl w0.heap.size (.slice ao' m c') M ⟨pt, pf, pn⟩ (w2.heap.size + 2) rfl (by first | rfl | simp [Act.eval]) (by exact RC) (by exact XC) (by omega) (by have := BC.size; omega) ?_; intro ao5 c5 w5 R5 B5 G5; rw [hm] at R5 ⊢; have hrb : ∀ q, (Value.slice ao' m c').ownBlock = some q → w0.heap.size ≤ q ∧ q < w2.heap.size := (fun q hq => PRow.lt R2 q hq); have N5 := XN.of_block (G5.block w2.heap.size (by have := BC.size; simp; omega) (fun e => by have := hrb _ e.symm; omega)); have Y5 := (HX.out _ (below_then B2 BC)).of_block (G5.block (w.heap.size + 1) (by have := BC.size; omega) (fun e => by have := hrb _ e.symm; omega)); have nf := N5.frozen 0; have n0 := N5.cell 0 (v := .slice ao' m c') rfl; have n1 := N5.cell 1 (v := .int .i64 lost) rfl; have f0 := Y5.frozen 0; have f1 := Y5.frozen 1; have u0 := Y5.cell 0 (v := .slice none 0 0) rfl; have u1 := Y5.cell 1 (v := .int .i64 0) rfl; have dne : ¬ w2.heap.size = w.heap.size + 1 := (by omega))
  have hob1 := row_ne R5 N5 (by decide)
  have hob2 := row_ne R5 Y5 (by decide)
  have Y5' := Y5.other (a := ⟨w2.heap.size, 0, none⟩) (by show w.heap.size + 1 ≠ w2.heap.size; omega) (.slice ao5 (m + 1) c5)
  refine bodyPost_ret (results_blk2 rfl _ _ (w.heap.size + 1) _ rfl (load_n (put_n Y5') rfl)) rfl ?_
  refine ⟨ao5, c5, rfl, PRow.mono (B := w0.heap.size) (RRow.put_n (PRow.other (a := ⟨w2.heap.size, 0, none⟩) R5 hob1 _) hob2 _ _) (fun q hq => by have := (PRow.lt R5 q hq).1; omega), ?_⟩
  exact below_put_n (((B0.trans ((below_then B2 BC).mono (by omega))).trans (B5.mono (by omega))).setCell (p := ⟨w2.heap.size, 0, none⟩) (by show w.heap.size ≤ w2.heap.size; omega) _) (by omega) _ _
theorem neq_hit (pt k : Int) (pf : ByteArray) (pn : Bool) : ((⟨pt, pf, pn⟩ : Pc).hit k) = decide (pt = k) := rfl
set_option maxHeartbeats 2000000 in
set_option maxRecDepth 100000 in
theorem rcut_any (k : Int) (ao : Option Addr) (c : Nat) (L : List Pc) (lost : Int) (w : World) (h : RRow w 0 (.slice ao L.length c) L) (hl : L.length ≤ 1000) (hq : 0 ≤ lost ∧ lost < 1000000) :
   Calls Try.prog 24 #[.agg #[.slice ao L.length c, .int .i64 lost], .int .i64 k] w fun e w' => ∃ ao' c', e = .returned (.tuple #[.agg #[.slice ao' (rest k L).length c', .int .i64 (lost + ((L.length : Int) - ((rest k L).length : Int)))], .int .i64 ((L.length : Int) - ((rest k L).length : Int))]) ∧ RRow w' w.heap.size (.slice ao' (rest k L).length c') (rest k L) ∧ Below w.heap.size w w' := by
  have X0 := W2.x0 w (.slice ao L.length c) lost
  have X1 := W2.x1 w (.slice ao L.length c) lost
  have B0 := W2.below w (.slice ao L.length c) lost
  have s0 := W2.size w (.slice ao L.length c) lost
  have hw : (w.alloc (.cells #[.slice ao L.length c, .int .i64 lost] 28)).alloc (.cells #[.slice none 0 0, .int .i64 0] 28) = W2 w (.slice ao L.length c) lost := rfl
  generalize W2 w (.slice ao L.length c) lost = w0 at *
  have B1 : Below w0.heap.size w0 (w0.alloc (.cells #[] 42)) := (Below.refl _ _).alloc (Nat.le_refl _) _
  have R1 := rrow_new w0 (w.heap.size + 2) (by omega)
  rw [s0] at R1
  have HX : Hid (∀ W, Below (w.heap.size + 2) w0 W → Blk W w.heap.size 28 #[.slice ao L.length c, .int .i64 lost] ∧ Blk W (w.heap.size + 1) 28 #[.slice none 0 0, .int .i64 0] ∧ RRow W 0 (.slice ao L.length c) L) := fun W hW => ⟨X0.below hW (by omega), X1.below hW (by omega), PRow.below h (B0.trans (hW.mono (by omega)))⟩
  have B1' : Below (w.heap.size + 2) w0 (w0.alloc (.cells #[] 42)) := B1.mono (by omega)
  obtain ⟨Z0, _, _⟩ := HX.out _ B1'
  have z0 := Z0.cell 0 (v := .slice ao L.length c) rfl
  have s1 : (w0.alloc (.cells #[] 42)).heap.size = w0.heap.size + 1 := by simp
  generalize hw1 : w0.alloc (.cells #[] 42) = w1 at *
  have hrl := rest_len k L
  clear h X0 X1 Z0 B1
  generalize hn : L.length = n at *
  go_enter Try.func24, Try.ntmps24
  go_wp2_with fail
  clear hw1 hw z0
  go_loopg [6, 8, 14] n (fun gg s6 _ s14 wr => ∃ (i : Nat) (ao' : Option Addr) (c' m : Nat), i ≤ n ∧ gg = n - i ∧ s14 = .int .i64 (i : Int) ∧ s6 = .slice ao' m c' ∧ Hid (m = (rest k (L.take i)).length) ∧ RRow wr (w.heap.size + 2) (.slice ao' m c') (rest k (L.take i)) ∧ Below (w.heap.size + 2) w0 wr)
  case atStart => exact ⟨0, _, _, 0, by omega, by omega, rfl, rfl, rfl, R1, B1'⟩
  case round =>
    obtain ⟨i, ao', c', m, hi, rfl, rfl, rfl, HM, R2, B2⟩ := hrel
    clear R1 B1'
    by_cases hlt : i < n
    · obtain ⟨_, _, RR⟩ := HX.out wr B2
      obtain ⟨g, cap, e, z1, z2, z3, z4, z5, z6, z7⟩ := PRow.cells RR (by omega)
      rw [hn] at e
      simp only [Value.slice.injEq, true_and] at e
      obtain ⟨rfl, rfl⟩ := e
      obtain ⟨y0, y1, y2⟩ := z7 i (by omega)
      have hml : m ≤ 1000 := by
        have h1 := HM.out
        have h2 := rest_len k (L.take i)
        simp at h2
        omega
      have HE : Hid _ := rest_take (L := L) (k := k) (j := i) (by omega)
      clear z5 z6 z7 RR
      generalize hM : rest k (L.take i) = M at *
      generalize pc L i = p at *
      obtain ⟨pt, pf, pn⟩ := p
      simp only at y0 y1 y2
      rw [neq_hit] at HE
      have BA : Below wr.heap.size wr (wr.alloc (.cells #[.int .i64 pt, .string pf, .bool pn] 42)) := (Below.refl _ _).alloc (Nat.le_refl _) _
      have sw := B2.size
      by_cases ek : pt = k
      · rw [if_pos (decide_eq_true ek), List.append_nil] at HE
        have ek' : (pt == k) = true := by simp [ek]
        clear ek
        go_wp2_with fail
        go_roundg (n - (i + 1))
        case measure => omega
        case rel => exact ⟨i + 1, ao', c', m, by omega, rfl, by go_num, rfl, by rw [HE.out]; exact HM, by rw [HE.out]; exact PRow.below R2 BA, B2.trans (BA.mono (by omega))⟩
      · rw [if_neg (by simp [ek])] at HE
        have ek' : (pt == k) = false := by rw [beq_eq_false_iff_ne]; exact ek
        clear ek
        have BC : Below wr.heap.size wr ((wr.alloc (.cells #[.int .i64 pt, .string pf, .bool pn] 42)).alloc (.cells #[.int .i64 pt, .string pf, .bool pn] 42)) := BA.alloc (by have := BA.size; omega) _
        have XC := blk_new (wr.alloc (.cells #[.int .i64 pt, .string pf, .bool pn] 42)) 42 #[.int .i64 pt, .string pf, .bool pn]
        have RC := PRow.below R2 BC
        have sC : w.heap.size + 2 ≤ ((wr.alloc (.cells #[.int .i64 pt, .string pf, .bool pn] 42)).alloc (.cells #[.int .i64 pt, .string pf, .bool pn] 42)).heap.size := by have := BC.size; omega
        have HM1 : Hid (M.length = m) := HM.out.symm
        have s3 : (wr.alloc (.cells #[.int .i64 pt, .string pf, .bool pn] 42)).heap.size = wr.heap.size + 1 := by simp
        rw [s3] at XC
        go_wp2_with (at_builtin; refine wpList_append_r1 rfl _ _ rfl (w.heap.size + 2) _ M ⟨pt, pf, pn⟩ (wr.heap.size + 1) rfl (by first | rfl | simp [Act.eval]) (by exact RC) (by exact XC) (by rw [HM1.out]; omega) sC ?_; intro ao'' c'' w5 R5 B5; rw [HM1.out])
        go_roundg (n - (i + 1))
        case measure => omega
        case rel => exact ⟨i + 1, ao'', c'', m + 1, by omega, rfl, by go_num, rfl, by show _ = _; rw [HE.out, List.length_append, HM1.out]; rfl, by rw [HE.out, ← HM1.out]; exact R5, (B2.trans (BC.mono (by omega))).trans B5⟩
    · obtain rfl : i = n := by omega
      have e0 : L.take i = L := by rw [← hn, List.take_length]
      rw [e0] at HM R2
      obtain ⟨Y0, Y1, _⟩ := HX.out wr B2
      have f0 := Y1.frozen 0
      have f1 := Y1.frozen 1
      have u0 := Y1.cell 0 (v := .slice none 0 0) rfl
      have u1 := Y1.cell 1 (v := .int .i64 0) rfl
      have y0 := Y0.cell 0 (v := .slice ao i c) rfl
      have y1 := Y0.cell 1 (v := .int .i64 lost) rfl
      have hmm := HM.out
      have HMM : Hid _ := hmm
      have hle : m ≤ i := by omega
      clear hmm HM hrl
      go_wp2_with fail
      refine bodyPost_ret (results_blk2 rfl _ _ (w.heap.size + 1) _ rfl (load_n (put_n Y1) rfl)) rfl ?_
      refine ⟨ao', c', by rw [← HMM.out]; rfl, ?_, below_put_n (B0.trans (B2.mono (by omega))) (by omega) _ _⟩
      rw [← HMM.out]
      exact PRow.mono (B := w.heap.size + 2) (RRow.put_n R2 (row_ne R2 Y1 (by decide)) _ _) (fun q hq => by have := (PRow.lt R2 q hq).1; omega)
end Go.Proofs.Ytgbljkbiigcofaa
