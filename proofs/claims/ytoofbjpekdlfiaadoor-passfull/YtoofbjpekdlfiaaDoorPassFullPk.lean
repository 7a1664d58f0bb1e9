/- The given statement on PassFull: at every input the law returns true and its arguments read as before; the listed table lies as the program's text lays it (the card ties it). -/
import Derived.Test.YtoofbjpekdlfiaaDoorPk10
import Derived.Test.YtoofbjpekdlfiaaDoorPk11
import Derived.Test.YtoofbjpekdlfiaaDoorPk13
import Derived.Test.YtoofbjpekdlfiaaDoorPk14
import Derived.Test.YtoofbjpekdlfiaaDoorPk16
import Derived.Test.YtoofbjpekdlfiaaDoorPk6
import Derived.Test.YtoofbjpekdlfiaaDoorRows
import Derived.Test.YtoofbjpekdlfiaaDoorCards
import Derived.Test.YtoofbjpekdlfiaaDoorTie
import Derived.Test.YtoofbjpekdlfiaaDoorPk3
import Derived.ProofKit
import Derived.Carry
import Derived.LaidMore
import Derived.OpenShut
import Derived.Stop.Joined
import Derived.SevenTiedAt
/- What a model likes behind tokens, and its cache, of any numbers: the walk. Laid by tools/genpfull.py. -/
namespace Go.Proofs.YtoofbjpekdlfiaaDoor
open Go.ChangeShapes Go.WideShapes Go.ChangeAt Go.RowKit Go.Deep
set_option maxRecDepth 100000 in
set_option maxHeartbeats 32000000 in
theorem passFull_walk (C : Cfg) (VV : Wt) (X : List Bk × Mdl) (ao : Option Addr) (n ca : Nat) (A : List Int) (w : World) (h0 : C.Ok) (hV : WtR w VV X.1 X.2) (hA : IArg w ao n ca A) (hT : Tab w) :
    Calls Tryd.prog 3 #[C.val, .agg VV.cells, .slice ao n ca] w fun e w' => e = .returned (.bool true) ∧ Below w.heap.size w w' := by
  obtain ⟨bs, MM⟩ := X
  simp only at hV
  have hVok := hV.ok
  have HT : Hid (∀ wv, Below w.heap.size w wv → Tab wv) := fun wv hb => hT.next hb
  have CW := fun (wv : World) (hb : Below w.heap.size w wv) => raw8_any wv (HT.out wv hb)
  have CF1 := fun (lim : Nat) (hl : lim ≤ 4096) (wv : World) (hb : Below w.heap.size w wv) => few8_any ao n ca A lim wv (hA.below hb) hl
  have s1 : ∀ lim k, -9223372036854775808 ≤ el (A.take lim) k ∧ el (A.take lim) k ≤ 9223372036854775807 := fun lim k => by
    rcases Nat.lt_or_ge k lim with h | h
    · rw [el_take h]; exact hA.row.small k
    · rw [el_over (by rw [List.length_take]; omega)]; omega
  have CS := fun wv => small8_any C.V C.D C.Hd C.H C.L wv
  have RK := fun (W : Wt) bs wv hW hb => rcheck6_any C.V C.D C.Hd C.H C.L W bs wv hW hb h0.V h0.D h0.Hd h0.H h0.L
  have FN := fun (W : Wt) bs ao n ca wv hok hb hq => full_no C h0 W bs ao n ca wv hok hb hq
  unfold Cfg.val at *
  have hu : ∀ C : Cfg, cfgC C.V C.D C.Hd C.H C.L = #[.int .i64 C.V, .int .i64 C.D, .int .i64 C.Hd, .int .i64 C.H, .int .i64 C.L] := fun _ => rfl
  simp only [hu] at CS RK FN ⊢
  clear hu h0 hT
  have X0 := blk_new w 23 #[.int .i64 C.V, .int .i64 C.D, .int .i64 C.Hd, .int .i64 C.H, .int .i64 C.L]
  have B0 : Below w.heap.size w (w.alloc (.cells #[.int .i64 C.V, .int .i64 C.D, .int .i64 C.Hd, .int .i64 C.H, .int .i64 C.L] 23)) := (Below.refl _ _).alloc (Nat.le_refl _) _
  generalize hw0 : w.alloc (.cells #[.int .i64 C.V, .int .i64 C.D, .int .i64 C.Hd, .int .i64 C.H, .int .i64 C.L] 23) = w0 at *
  have X1 := blk_new w0 29 VV.cells
  have B1 : Below w0.heap.size w0 (w0.alloc (.cells VV.cells 29)) := (Below.refl _ _).alloc (Nat.le_refl _) _
  generalize hw1 : w0.alloc (.cells VV.cells 29) = w1 at *
  replace X0 := X0.below B1
  have DB := below_then B0 B1
  replace hV := hV.below DB
  clear B0 B1 hA
  have T0 := told6_any VV bs MM w1 hV
  go_enter Tryd.func3, Tryd.ntmps3
  go_wp2_with (refine wpList_load_row rfl 29 _ rfl w0.heap.size rfl 29 VV.cells (0, 0) _ X1 Tryd.underlying29 rfl Tryd.infoW ?_)
  refine T0.mono ?_
  rintro e w2 ⟨W3, rfl, ⟨xs, T1⟩, B2⟩
  clear T0 hw0 hw1 X1 hV
  replace X0 := X0.below B2
  replace DB := below_then DB B2
  have R1 := T1.raw hVok
  have hW3 := R1.ok
  have hxl : xs.length ≤ 5 := by have := T1.ls.len; omega
  have hk : W3.b.n = min 5 VV.b.n := by rw [← T1.b.len, T1.ls.len]
  obtain ⟨O3, hl3⟩ := own_told hVok (by omega) T1
  obtain ⟨ZE, X3, B3⟩ := var3e w2 33 #[.int .i64 0, .int .i64 0, .slice none 0 0, .slice none 0 0, .slice none 0 0, .int .i64 0, .int .i64 0, .slice none 0 0] W3.cells
  generalize hz1 : w2.alloc (.cells #[.int .i64 0, .int .i64 0, .slice none 0 0, .slice none 0 0, .slice none 0 0, .int .i64 0, .int .i64 0, .slice none 0 0] 33) = wz at *
  generalize hz2 : wz.setRow w2.heap.size W3.cells = w3 at *
  replace X0 := X0.below B3
  replace DB := below_then DB B3
  replace R1 := R1.below B3
  replace O3 := O3.below B3
  have T2 := of6_any W3 xs _ w3 R1 (by omega)
  clear B2 B3 R1
  go_wp2_with (first | (refine wpList_store_row rfl 33 _ _ rfl w2.heap.size W3.cells rfl rfl 33 _ ZE Tryd.infoRW rfl (wt_one _) ?_; rw [hz2]) | (refine wpList_load_row rfl 33 _ rfl w2.heap.size rfl 33 W3.cells (0, 0) _ X3 Tryd.underlying33 rfl Tryd.infoRW ?_))
  refine T2.mono ?_
  rintro e w4 ⟨W5, rfl, ⟨ys, T3⟩, B4⟩
  clear T2 hz1 hz2 ZE
  replace X0 := X0.below B4
  replace X3 := X3.below B4
  replace O3 := O3.below B4
  replace DB := below_then DB B4
  have HQ := check_again T1 T3 C.V C.D C.Hd C.H C.L
  obtain ⟨O5, hl5⟩ := own_told hW3 (by omega) T3
  rw [hk, cutM_twice] at O5 hl5
  have hW5 := O5.ok
  clear T1 T3 B4 hk
  generalize cutM 100 (min 5 VV.b.n) MM = M at *
  obtain ⟨ZE, X5, B5⟩ := var3e w4 29 #[.int .i64 0, .int .i64 0, .slice none 0 0, .slice none 0 0, .slice none 0 0, .int .i64 0, .int .i64 0, .slice none 0 0] W5.cells
  generalize hz1 : w4.alloc (.cells #[.int .i64 0, .int .i64 0, .slice none 0 0, .slice none 0 0, .slice none 0 0, .int .i64 0, .int .i64 0, .slice none 0 0] 29) = wz at *
  generalize hz2 : wz.setRow w4.heap.size W5.cells = w6 at *
  replace X0 := X0.below B5
  replace X3 := X3.below B5
  replace O3 := O3.below B5
  replace O5 := O5.below B5
  replace DB := below_then DB B5
  clear B5
  have a0 : w6.cell? ⟨w.heap.size, 0, none⟩ = some (.int .i64 C.V) := X0.cell 0 rfl
  have a1 : w6.cell? ⟨w.heap.size, 1, none⟩ = some (.int .i64 C.D) := X0.cell 1 rfl
  have a2 : w6.cell? ⟨w.heap.size, 2, none⟩ = some (.int .i64 C.Hd) := X0.cell 2 rfl
  have a3 : w6.cell? ⟨w.heap.size, 3, none⟩ = some (.int .i64 C.H) := X0.cell 3 rfl
  have a4 : w6.cell? ⟨w.heap.size, 4, none⟩ = some (.int .i64 C.L) := X0.cell 4 rfl
  go_wp2_with (refine wpList_store_row rfl 29 _ _ rfl w4.heap.size W5.cells rfl rfl 29 _ ZE Tryd.infoW rfl (wt_one _) ?_; rw [hz2])
  refine (CS _).mono ?_
  rintro e w7 ⟨rfl, B7⟩
  clear hz1 hz2 ZE a0 a1 a2 a3 a4 CS
  replace X0 := X0.below B7
  replace X3 := X3.below B7
  replace X5 := X5.below B7
  replace O3 := O3.below B7
  replace O5 := O5.below B7
  replace DB := below_then DB B7
  clear B7
  by_cases hs : smallN C.D C.H C.L = 0
  · skip
    rw [hs]
    go_wp2_with fail
    refine (CF1 2 (by omega) _ DB).mono ?_
    rintro e w8 ⟨b1, kq, rfl, OI, B8⟩
    have s2 := s1 2
    generalize A.take 2 = P at *
    obtain ⟨l1, hl1⟩ : ∃ l1, P.length = l1 := ⟨_, rfl⟩
    have HL1 : Hid (P.length = l1) := hl1
    rw [hl1] at OI ⊢
    clear hl1
    obtain ⟨x1, y1, e1, I1⟩ := IOwn.arg OI s2
    simp only [Value.slice.injEq, true_and] at e1
    obtain ⟨rfl, rfl⟩ := e1
    clear OI s1 s2 CF1
    replace X0 := X0.below B8
    replace X3 := X3.below B8
    replace X5 := X5.below B8
    replace O3 := O3.below B8
    replace O5 := O5.below B8
    replace DB := below_then DB B8
    clear B8
    by_cases hqc : checkN C.V C.D C.Hd C.H C.L W3 xs = 0
    rotate_left
    · have FF := FN W5 ys (some ⟨b1, 0, none⟩) l1 kq w8 hW5 O5.b (by rw [HQ]; exact hqc)
      have KK := fun wv (hb : BlocksAt wv W3.b xs) => RK W3 xs wv hW3 hb
      rw [HQ] at FF
      generalize checkN C.V C.D C.Hd C.H C.L W3 xs = qc at *
      have hq1 : (qc == 0) = false := by simpa using hqc
      have hq2 : (qc != 0) = true := by simp [bne, hq1]
      clear FN RK HQ hl3 hl5
      have a0 : w8.cell? ⟨w.heap.size, 0, none⟩ = some (.int .i64 C.V) := X0.cell 0 rfl
      have a1 : w8.cell? ⟨w.heap.size, 1, none⟩ = some (.int .i64 C.D) := X0.cell 1 rfl
      have a2 : w8.cell? ⟨w.heap.size, 2, none⟩ = some (.int .i64 C.Hd) := X0.cell 2 rfl
      have a3 : w8.cell? ⟨w.heap.size, 3, none⟩ = some (.int .i64 C.H) := X0.cell 3 rfl
      have a4 : w8.cell? ⟨w.heap.size, 4, none⟩ = some (.int .i64 C.L) := X0.cell 4 rfl
      go_wp2_with (refine wpList_load_row rfl 29 _ rfl w4.heap.size rfl 29 W5.cells (0, 0) _ X5 Tryd.underlying29 rfl Tryd.infoW ?_)
      refine FF.mono ?_
      rintro e w9 ⟨rfl, B9⟩
      replace X0 := X0.below B9
      replace X3 := X3.below B9
      replace O3 := O3.below B9
      replace DB := below_then DB B9
      clear a0 a1 a2 a3 a4 B9 FF
      obtain ⟨ZC, XC, BC⟩ := var3e w9 40 #[.slice none 0 0, .slice none 0 0] #[.slice none 0 0, .slice none 0 0]
      generalize hc1 : w9.alloc (.cells #[.slice none 0 0, .slice none 0 0] 40) = wz at *
      generalize hc2 : wz.setRow w9.heap.size #[.slice none 0 0, .slice none 0 0] = wa at *
      replace X0 := X0.below BC
      replace X3 := X3.below BC
      replace O3 := O3.below BC
      replace DB := below_then DB BC
      have a0 : wa.cell? ⟨w.heap.size, 0, none⟩ = some (.int .i64 C.V) := X0.cell 0 rfl
      have a1 : wa.cell? ⟨w.heap.size, 1, none⟩ = some (.int .i64 C.D) := X0.cell 1 rfl
      have a2 : wa.cell? ⟨w.heap.size, 2, none⟩ = some (.int .i64 C.Hd) := X0.cell 2 rfl
      have a3 : wa.cell? ⟨w.heap.size, 3, none⟩ = some (.int .i64 C.H) := X0.cell 3 rfl
      have a4 : wa.cell? ⟨w.heap.size, 4, none⟩ = some (.int .i64 C.L) := X0.cell 4 rfl
      clear BC
      go_wp2_with (first | (refine wpList_store_row rfl 40 _ _ rfl w9.heap.size #[.slice none 0 0, .slice none 0 0] rfl rfl 40 _ ZC Tryd.infoCa rfl (by simp [Value.oneCell']) ?_; rw [hc2]) | (refine wpList_load_row rfl 33 _ rfl w2.heap.size rfl 33 W3.cells (0, 0) _ X3 Tryd.underlying33 rfl Tryd.infoRW ?_))
      refine (KK _ O3.b).mono ?_
      rintro e wb ⟨rfl, B10⟩
      replace XC := XC.below B10
      replace DB := below_then DB B10
      clear a0 a1 a2 a3 a4 B10 KK X0 X3 X5 O3 O5 hc1 hc2 ZC
      go_wp2_with fail
      refine (CW _ DB).mono ?_
      rintro e wc ⟨rfl, B11⟩
      replace XC := XC.below B11
      replace DB := below_then DB B11
      clear B11 CW
      have c0 : wc.cell? ⟨w9.heap.size, 0, none⟩ = some (.slice none 0 0) := XC.cell 0 rfl
      have c1 : wc.cell? ⟨w9.heap.size, 1, none⟩ = some (.slice none 0 0) := XC.cell 1 rfl
      have hne : (qc != qc) = false := by simp
      go_wp2_with fail
      go_ret
      exact ⟨rfl, DB⟩
    rw [hqc] at HQ
    obtain ⟨hsh, -⟩ := check_shape hqc
    have hkk := shape_ok hsh
    have KK := fun wv (hb : BlocksAt wv W3.b xs) => RK W3 xs wv hW3 hb
    rw [hqc] at KK
    clear RK FN hs
    obtain ⟨CV, CD, CHd, CH, CL⟩ := C
    simp only at *
    obtain ⟨V, rfl⟩ : ∃ n : Nat, CV = n := ⟨CV.toNat, by omega⟩
    obtain ⟨D, rfl⟩ : ∃ n : Nat, CD = n := ⟨CD.toNat, by omega⟩
    obtain ⟨Hd, rfl⟩ : ∃ n : Nat, CHd = n := ⟨CHd.toNat, by omega⟩
    obtain ⟨H, rfl⟩ : ∃ n : Nat, CH = n := ⟨CH.toNat, by omega⟩
    obtain ⟨L, rfl⟩ : ∃ n : Nat, CL = n := ⟨CL.toNat, by omega⟩
    have G5 := own_good O5 hl5 HQ
    obtain ⟨G3, hxL⟩ := own_wt O3 hl3 hqc
    clear HQ hqc hl3 hl5 O5
    have RP := fun wv (hA : IArg wv (some ⟨b1, 0, none⟩) l1 kq P) => rprompt_any V D Hd H L (some ⟨b1, 0, none⟩) l1 kq P wv hA
    unfold cfgC at RP
    by_cases hqp : promptN V P = 0
    rotate_left
    · have FF := full_bad V D Hd H L W5 ys M (some ⟨b1, 0, none⟩) l1 kq P w8 G5 I1 hqp
      unfold cfgC at FF
      generalize promptN V P = qp at *
      have hq1 : (qp == 0) = false := by simpa using hqp
      have hq2 : (qp != 0) = true := by simp [bne, hq1]
      have a0 : w8.cell? ⟨w.heap.size, 0, none⟩ = some (.int .i64 (V : Int)) := X0.cell 0 rfl
      have a1 : w8.cell? ⟨w.heap.size, 1, none⟩ = some (.int .i64 (D : Int)) := X0.cell 1 rfl
      have a2 : w8.cell? ⟨w.heap.size, 2, none⟩ = some (.int .i64 (Hd : Int)) := X0.cell 2 rfl
      have a3 : w8.cell? ⟨w.heap.size, 3, none⟩ = some (.int .i64 (H : Int)) := X0.cell 3 rfl
      have a4 : w8.cell? ⟨w.heap.size, 4, none⟩ = some (.int .i64 (L : Int)) := X0.cell 4 rfl
      go_wp2_with (refine wpList_load_row rfl 29 _ rfl w4.heap.size rfl 29 W5.cells (0, 0) _ X5 Tryd.underlying29 rfl Tryd.infoW ?_)
      refine FF.mono ?_
      rintro e w9 ⟨rfl, B9⟩
      replace X0 := X0.below B9
      replace X3 := X3.below B9
      replace O3 := O3.below B9
      replace I1 := I1.below B9
      replace DB := below_then DB B9
      clear a0 a1 a2 a3 a4 B9 FF G5 G3
      obtain ⟨ZC, XC, BC⟩ := var3e w9 40 #[.slice none 0 0, .slice none 0 0] #[.slice none 0 0, .slice none 0 0]
      generalize hc1 : w9.alloc (.cells #[.slice none 0 0, .slice none 0 0] 40) = wz at *
      generalize hc2 : wz.setRow w9.heap.size #[.slice none 0 0, .slice none 0 0] = wa at *
      replace X0 := X0.below BC
      replace X3 := X3.below BC
      replace O3 := O3.below BC
      replace I1 := I1.below BC
      replace DB := below_then DB BC
      have a0 : wa.cell? ⟨w.heap.size, 0, none⟩ = some (.int .i64 (V : Int)) := X0.cell 0 rfl
      have a1 : wa.cell? ⟨w.heap.size, 1, none⟩ = some (.int .i64 (D : Int)) := X0.cell 1 rfl
      have a2 : wa.cell? ⟨w.heap.size, 2, none⟩ = some (.int .i64 (Hd : Int)) := X0.cell 2 rfl
      have a3 : wa.cell? ⟨w.heap.size, 3, none⟩ = some (.int .i64 (H : Int)) := X0.cell 3 rfl
      have a4 : wa.cell? ⟨w.heap.size, 4, none⟩ = some (.int .i64 (L : Int)) := X0.cell 4 rfl
      clear BC
      go_wp2_with (first | (refine wpList_store_row rfl 40 _ _ rfl w9.heap.size #[.slice none 0 0, .slice none 0 0] rfl rfl 40 _ ZC Tryd.infoCa rfl (by simp [Value.oneCell']) ?_; rw [hc2]) | (refine wpList_load_row rfl 33 _ rfl w2.heap.size rfl 33 W3.cells (0, 0) _ X3 Tryd.underlying33 rfl Tryd.infoRW ?_))
      refine (KK _ O3.b).mono ?_
      rintro e wb ⟨rfl, B10⟩
      replace XC := XC.below B10
      replace X0 := X0.below B10
      replace I1 := I1.below B10
      replace DB := below_then DB B10
      clear a0 a1 a2 a3 a4 B10 KK X3 X5 O3 hc1 hc2 ZC
      have a0 : wb.cell? ⟨w.heap.size, 0, none⟩ = some (.int .i64 (V : Int)) := X0.cell 0 rfl
      have a1 : wb.cell? ⟨w.heap.size, 1, none⟩ = some (.int .i64 (D : Int)) := X0.cell 1 rfl
      have a2 : wb.cell? ⟨w.heap.size, 2, none⟩ = some (.int .i64 (Hd : Int)) := X0.cell 2 rfl
      have a3 : wb.cell? ⟨w.heap.size, 3, none⟩ = some (.int .i64 (H : Int)) := X0.cell 3 rfl
      have a4 : wb.cell? ⟨w.heap.size, 4, none⟩ = some (.int .i64 (L : Int)) := X0.cell 4 rfl
      go_wp2_with fail
      refine (RP _ I1).mono ?_
      rintro e wb2 ⟨rfl, B12⟩
      replace XC := XC.below B12
      replace DB := below_then DB B12
      clear a0 a1 a2 a3 a4 B12 RP X0 I1
      go_wp2_with fail
      refine (CW _ DB).mono ?_
      rintro e wc ⟨rfl, B11⟩
      replace XC := XC.below B11
      replace DB := below_then DB B11
      clear B11 CW
      have c0 : wc.cell? ⟨w9.heap.size, 0, none⟩ = some (.slice none 0 0) := XC.cell 0 rfl
      have c1 : wc.cell? ⟨w9.heap.size, 1, none⟩ = some (.slice none 0 0) := XC.cell 1 rfl
      have hne : (qp != qp) = false := by simp
      go_wp2_with fail
      go_ret
      exact ⟨rfl, DB⟩
    have FF := full_ok V D Hd H L W5 ys M (some ⟨b1, 0, none⟩) l1 kq P w8 G5 I1 (HT.out _ DB) hqp
    unfold cfgC at FF
    rw [hqp] at RP
    obtain ⟨p1, p2, p3⟩ := prompt_ok hqp
    obtain ⟨n1, hn1⟩ : ∃ n1, P.length = n1 + 1 := ⟨P.length - 1, by omega⟩
    have htk : ∀ k, k < l1 → 0 ≤ el P k ∧ el P k < (V : Int) := fun k hk => by
      have := all_el (show k < P.length by rw [HL1.out]; exact hk) p3
      exact of_decide_eq_true this
    have hmod := shape_mod hsh
    have RF := fun wv (hW : WtAt wv V D H W3 xs M) (hA : IArg wv (some ⟨b1, 0, none⟩) l1 kq P) => rfull_any V D Hd H L l1 kq (some ⟨b1, 0, none⟩) W3 xs M P wv hW hxL hA htk (by have := HL1.out; omega) (by omega) (by omega) (by omega) (by omega) hmod (by omega) (by omega) (by omega)
    unfold cfgC at RF
    have RL := fun wv (sr sk sv : Sl) (hW : WtAt wv V D H W3 xs M) (hC : DCube wv sr (fR M D H Hd L P)) => rlikes_full V D Hd H L n1 W3 xs M sr sk sv P wv hW hC hn1 (by omega) (by omega)
    have hfk : fK M D H Hd L P = fullK M D H Hd L P := by unfold fK; rw [if_neg (by omega)]
    have hfv : fV M D H Hd L P = fullV M D H Hd L P := by unfold fV; rw [if_neg (by omega)]
    rw [hfk, hfv] at RF
    clear hfk hfv htk hmod hsh p1 p2 p3 hn1
    generalize fullX M V D H Hd L P = xF at *
    generalize fullK M D H Hd L P = kF at *
    generalize fullV M D H Hd L P = vF at *
    generalize fR M D H Hd L P = rF at *
    have a0 : w8.cell? ⟨w.heap.size, 0, none⟩ = some (.int .i64 (V : Int)) := X0.cell 0 rfl
    have a1 : w8.cell? ⟨w.heap.size, 1, none⟩ = some (.int .i64 (D : Int)) := X0.cell 1 rfl
    have a2 : w8.cell? ⟨w.heap.size, 2, none⟩ = some (.int .i64 (Hd : Int)) := X0.cell 2 rfl
    have a3 : w8.cell? ⟨w.heap.size, 3, none⟩ = some (.int .i64 (H : Int)) := X0.cell 3 rfl
    have a4 : w8.cell? ⟨w.heap.size, 4, none⟩ = some (.int .i64 (L : Int)) := X0.cell 4 rfl
    go_wp2_with (refine wpList_load_row rfl 29 _ rfl w4.heap.size rfl 29 W5.cells (0, 0) _ X5 Tryd.underlying29 rfl Tryd.infoW ?_)
    refine FF.mono ?_
    rintro e w9 ⟨g, gK, gV, rfl, FX, NK, NV, B9⟩
    replace X0 := X0.below B9
    replace X3 := X3.below B9
    replace O3 := O3.below B9
    replace I1 := I1.below B9
    replace G3 := G3.below B9
    replace DB := below_then DB B9
    clear a0 a1 a2 a3 a4 B9 FF G5
    have CK1 := NK.now
    have CV1 := NV.now
    clear NK NV
    obtain ⟨ZC, XC, BC⟩ := var3e w9 40 #[.slice none 0 0, .slice none 0 0] #[.slice (some ⟨gK, 0, none⟩) L L, .slice (some ⟨gV, 0, none⟩) L L]
    generalize hc1 : w9.alloc (.cells #[.slice none 0 0, .slice none 0 0] 40) = wz at *
    generalize hc2 : wz.setRow w9.heap.size #[.slice (some ⟨gK, 0, none⟩) L L, .slice (some ⟨gV, 0, none⟩) L L] = wa at *
    replace X0 := X0.below BC
    replace X3 := X3.below BC
    replace O3 := O3.below BC
    replace I1 := I1.below BC
    replace G3 := G3.below BC
    replace FX := FX.below BC
    replace CK1 := CK1.below BC
    replace CV1 := CV1.below BC
    replace DB := below_then DB BC
    have a0 : wa.cell? ⟨w.heap.size, 0, none⟩ = some (.int .i64 (V : Int)) := X0.cell 0 rfl
    have a1 : wa.cell? ⟨w.heap.size, 1, none⟩ = some (.int .i64 (D : Int)) := X0.cell 1 rfl
    have a2 : wa.cell? ⟨w.heap.size, 2, none⟩ = some (.int .i64 (Hd : Int)) := X0.cell 2 rfl
    have a3 : wa.cell? ⟨w.heap.size, 3, none⟩ = some (.int .i64 (H : Int)) := X0.cell 3 rfl
    have a4 : wa.cell? ⟨w.heap.size, 4, none⟩ = some (.int .i64 (L : Int)) := X0.cell 4 rfl
    clear BC
    go_wp2_with (first | (refine wpList_store_row rfl 40 _ _ rfl w9.heap.size #[.slice (some ⟨gK, 0, none⟩) L L, .slice (some ⟨gV, 0, none⟩) L L] rfl rfl 40 _ ZC Tryd.infoCa rfl (by simp [Value.oneCell']) ?_; rw [hc2]) | (refine wpList_load_row rfl 33 _ rfl w2.heap.size rfl 33 W3.cells (0, 0) _ X3 Tryd.underlying33 rfl Tryd.infoRW ?_))
    refine (KK _ O3.b).mono ?_
    rintro e wb ⟨rfl, B10⟩
    replace XC := XC.below B10
    replace X0 := X0.below B10
    replace X3 := X3.below B10
    replace I1 := I1.below B10
    replace G3 := G3.below B10
    replace FX := FX.below B10
    replace CK1 := CK1.below B10
    replace CV1 := CV1.below B10
    replace DB := below_then DB B10
    clear a0 a1 a2 a3 a4 B10 KK X5 O3 hc1 hc2 ZC
    have a0 : wb.cell? ⟨w.heap.size, 0, none⟩ = some (.int .i64 (V : Int)) := X0.cell 0 rfl
    have a1 : wb.cell? ⟨w.heap.size, 1, none⟩ = some (.int .i64 (D : Int)) := X0.cell 1 rfl
    have a2 : wb.cell? ⟨w.heap.size, 2, none⟩ = some (.int .i64 (Hd : Int)) := X0.cell 2 rfl
    have a3 : wb.cell? ⟨w.heap.size, 3, none⟩ = some (.int .i64 (H : Int)) := X0.cell 3 rfl
    have a4 : wb.cell? ⟨w.heap.size, 4, none⟩ = some (.int .i64 (L : Int)) := X0.cell 4 rfl
    go_wp2_with fail
    refine (RP _ I1).mono ?_
    rintro e wb2 ⟨rfl, B12⟩
    replace XC := XC.below B12
    replace X0 := X0.below B12
    replace X3 := X3.below B12
    replace I1 := I1.below B12
    replace G3 := G3.below B12
    replace FX := FX.below B12
    replace CK1 := CK1.below B12
    replace CV1 := CV1.below B12
    replace DB := below_then DB B12
    clear a0 a1 a2 a3 a4 B12 RP
    go_wp2_with fail
    refine (CW _ DB).mono ?_
    rintro e wc ⟨rfl, B11⟩
    replace XC := XC.below B11
    replace X0 := X0.below B11
    replace X3 := X3.below B11
    replace I1 := I1.below B11
    replace G3 := G3.below B11
    replace FX := FX.below B11
    replace CK1 := CK1.below B11
    replace CV1 := CV1.below B11
    replace DB := below_then DB B11
    clear B11 CW
    have a0 : wc.cell? ⟨w.heap.size, 0, none⟩ = some (.int .i64 (V : Int)) := X0.cell 0 rfl
    have a1 : wc.cell? ⟨w.heap.size, 1, none⟩ = some (.int .i64 (D : Int)) := X0.cell 1 rfl
    have a2 : wc.cell? ⟨w.heap.size, 2, none⟩ = some (.int .i64 (Hd : Int)) := X0.cell 2 rfl
    have a3 : wc.cell? ⟨w.heap.size, 3, none⟩ = some (.int .i64 (H : Int)) := X0.cell 3 rfl
    have a4 : wc.cell? ⟨w.heap.size, 4, none⟩ = some (.int .i64 (L : Int)) := X0.cell 4 rfl
    go_wp2_with (refine wpList_load_row rfl 33 _ rfl w2.heap.size rfl 33 W3.cells (0, 0) _ X3 Tryd.underlying33 rfl Tryd.infoRW ?_)
    refine (RF _ G3 I1).mono ?_
    rintro e wd ⟨⟨ra, rn, rc⟩, ⟨ka, kn, kc⟩, ⟨va, vn, vc⟩, rfl, DR, DK, DV, B13⟩
    have kl : kn = L := by have h1 := DK.len; have h2 := CK1.len; simp only at h1; omega
    have vl : vn = L := by have h1 := DV.len; have h2 := CV1.len; simp only at h1; omega
    subst kl
    subst vl
    replace XC := XC.below B13
    replace X3 := X3.below B13
    replace G3 := G3.below B13
    replace FX := FX.below B13
    replace CK1 := CK1.below B13
    replace CV1 := CV1.below B13
    replace DB := below_then DB B13
    clear a0 a1 a2 a3 a4 B13 RF X0 I1
    rw [show (#[Sl.v ⟨ra, rn, rc⟩, Sl.v ⟨ka, vn, kc⟩, Sl.v ⟨va, vn, vc⟩] : Array Value) = #[.slice ra rn rc, .slice ka vn kc, .slice va vn vc] from rfl]
    obtain ⟨ZP, XP, BP⟩ := var3e wd 48 #[.slice none 0 0, .slice none 0 0, .slice none 0 0] #[.slice ra rn rc, .slice ka vn kc, .slice va vn vc]
    generalize hp1 : wd.alloc (.cells #[.slice none 0 0, .slice none 0 0, .slice none 0 0] 48) = wz at *
    generalize hp2 : wz.setRow wd.heap.size #[.slice ra rn rc, .slice ka vn kc, .slice va vn vc] = we at *
    replace XC := XC.below BP
    replace X3 := X3.below BP
    replace G3 := G3.below BP
    replace FX := FX.below BP
    replace CK1 := CK1.below BP
    replace CV1 := CV1.below BP
    replace DR := DR.below BP
    replace DK := DK.below BP
    replace DV := DV.below BP
    replace DB := below_then DB BP
    clear BP
    go_wp2_with (first | (refine wpList_store_row rfl 48 _ _ rfl wd.heap.size _ rfl rfl 48 _ ZP (by kernel_rfl) rfl (by simp [Value.oneCell']) ?_; rw [hp2]) | (refine wpList_load_row rfl 33 _ rfl w2.heap.size rfl 33 W3.cells (0, 0) _ X3 Tryd.underlying33 rfl Tryd.infoRW ?_) | (refine wpList_load_row rfl 48 _ rfl wd.heap.size rfl 48 #[.slice ra rn rc, .slice ka vn kc, .slice va vn vc] (0, 0) _ XP Tryd.underlying48 rfl (by kernel_rfl) ?_))
    refine (RL _ ⟨ra, rn, rc⟩ ⟨ka, vn, kc⟩ ⟨va, vn, vc⟩ G3 DR).mono ?_
    rintro e wf ⟨g2, cap, rfl, F2, B14⟩
    replace XC := XC.below B14
    replace XP := XP.below B14
    replace FX := FX.below B14
    replace CK1 := CK1.below B14
    replace CV1 := CV1.below B14
    replace DK := DK.below B14
    replace DV := DV.below B14
    replace DB := below_then DB B14
    clear B14 RL DR G3 X3 hp1 hp2 ZP
    go_wp2_with fail
    refine (same_any _ _ _ _ _ xF _ FX.rowAt F2.rowAt).mono ?_
    rintro e wg ⟨rfl, m1, rfl⟩
    have BM : Below wf.heap.size wf (wf.drewN m1) := below_drewN (Below.refl _ wf) m1
    replace XC := XC.below BM
    replace XP := XP.below BM
    replace CK1 := CK1.below BM
    replace CV1 := CV1.below BM
    replace DK := DK.below BM
    replace DV := DV.below BM
    replace DB := below_then DB BM
    clear BM FX F2
    generalize wf.drewN m1 = wh at *
    have c0 : wh.cell? ⟨w9.heap.size, 0, none⟩ = some (.slice (some ⟨gK, 0, none⟩) vn vn) := XC.cell 0 rfl
    have q1 : wh.cell? ⟨wd.heap.size, 1, none⟩ = some (.slice ka vn kc) := XP.cell 1 rfl
    go_wp2_with fail
    refine (cubeSame_eq _ _ _ _ _ kF _ CK1 DK.cube).mono ?_
    rintro e wi ⟨rfl, m2, rfl⟩
    have BM : Below wh.heap.size wh (wh.drewN m2) := below_drewN (Below.refl _ wh) m2
    replace XC := XC.below BM
    replace XP := XP.below BM
    replace CV1 := CV1.below BM
    replace DV := DV.below BM
    replace DB := below_then DB BM
    clear BM CK1 DK c0 q1
    generalize wh.drewN m2 = wj at *
    have c1 : wj.cell? ⟨w9.heap.size, 1, none⟩ = some (.slice (some ⟨gV, 0, none⟩) vn vn) := XC.cell 1 rfl
    have q2 : wj.cell? ⟨wd.heap.size, 2, none⟩ = some (.slice va vn vc) := XP.cell 2 rfl
    go_wp2_with fail
    refine (cubeSame_eq _ _ _ _ _ vF _ CV1 DV.cube).mono ?_
    rintro e wk ⟨rfl, m3, rfl⟩
    have BM : Below wj.heap.size wj (wj.drewN m3) := below_drewN (Below.refl _ wj) m3
    replace DB := below_then DB BM
    clear BM CV1 DV c1 q2
    generalize wj.drewN m3 = wl at *
    go_wp2_with fail
    go_ret
    exact ⟨rfl, DB⟩
  · skip
    have hs1 : smallN C.D C.H C.L = 1 := by unfold smallN at hs ⊢; split at hs <;> simp_all
    rw [hs1]
    go_wp2_with fail
    refine (CF1 10 (by omega) _ DB).mono ?_
    rintro e w8 ⟨b1, kq, rfl, OI, B8⟩
    have s2 := s1 10
    generalize A.take 10 = P at *
    obtain ⟨l1, hl1⟩ : ∃ l1, P.length = l1 := ⟨_, rfl⟩
    have HL1 : Hid (P.length = l1) := hl1
    rw [hl1] at OI ⊢
    clear hl1
    obtain ⟨x1, y1, e1, I1⟩ := IOwn.arg OI s2
    simp only [Value.slice.injEq, true_and] at e1
    obtain ⟨rfl, rfl⟩ := e1
    clear OI s1 s2 CF1
    replace X0 := X0.below B8
    replace X3 := X3.below B8
    replace X5 := X5.below B8
    replace O3 := O3.below B8
    replace O5 := O5.below B8
    replace DB := below_then DB B8
    clear B8
    by_cases hqc : checkN C.V C.D C.Hd C.H C.L W3 xs = 0
    rotate_left
    · have FF := FN W5 ys (some ⟨b1, 0, none⟩) l1 kq w8 hW5 O5.b (by rw [HQ]; exact hqc)
      have KK := fun wv (hb : BlocksAt wv W3.b xs) => RK W3 xs wv hW3 hb
      rw [HQ] at FF
      generalize checkN C.V C.D C.Hd C.H C.L W3 xs = qc at *
      have hq1 : (qc == 0) = false := by simpa using hqc
      have hq2 : (qc != 0) = true := by simp [bne, hq1]
      clear FN RK HQ hl3 hl5
      have a0 : w8.cell? ⟨w.heap.size, 0, none⟩ = some (.int .i64 C.V) := X0.cell 0 rfl
      have a1 : w8.cell? ⟨w.heap.size, 1, none⟩ = some (.int .i64 C.D) := X0.cell 1 rfl
      have a2 : w8.cell? ⟨w.heap.size, 2, none⟩ = some (.int .i64 C.Hd) := X0.cell 2 rfl
      have a3 : w8.cell? ⟨w.heap.size, 3, none⟩ = some (.int .i64 C.H) := X0.cell 3 rfl
      have a4 : w8.cell? ⟨w.heap.size, 4, none⟩ = some (.int .i64 C.L) := X0.cell 4 rfl
      go_wp2_with (refine wpList_load_row rfl 29 _ rfl w4.heap.size rfl 29 W5.cells (0, 0) _ X5 Tryd.underlying29 rfl Tryd.infoW ?_)
      refine FF.mono ?_
      rintro e w9 ⟨rfl, B9⟩
      replace X0 := X0.below B9
      replace X3 := X3.below B9
      replace O3 := O3.below B9
      replace DB := below_then DB B9
      clear a0 a1 a2 a3 a4 B9 FF
      obtain ⟨ZC, XC, BC⟩ := var3e w9 40 #[.slice none 0 0, .slice none 0 0] #[.slice none 0 0, .slice none 0 0]
      generalize hc1 : w9.alloc (.cells #[.slice none 0 0, .slice none 0 0] 40) = wz at *
      generalize hc2 : wz.setRow w9.heap.size #[.slice none 0 0, .slice none 0 0] = wa at *
      replace X0 := X0.below BC
      replace X3 := X3.below BC
      replace O3 := O3.below BC
      replace DB := below_then DB BC
      have a0 : wa.cell? ⟨w.heap.size, 0, none⟩ = some (.int .i64 C.V) := X0.cell 0 rfl
      have a1 : wa.cell? ⟨w.heap.size, 1, none⟩ = some (.int .i64 C.D) := X0.cell 1 rfl
      have a2 : wa.cell? ⟨w.heap.size, 2, none⟩ = some (.int .i64 C.Hd) := X0.cell 2 rfl
      have a3 : wa.cell? ⟨w.heap.size, 3, none⟩ = some (.int .i64 C.H) := X0.cell 3 rfl
      have a4 : wa.cell? ⟨w.heap.size, 4, none⟩ = some (.int .i64 C.L) := X0.cell 4 rfl
      clear BC
      go_wp2_with (first | (refine wpList_store_row rfl 40 _ _ rfl w9.heap.size #[.slice none 0 0, .slice none 0 0] rfl rfl 40 _ ZC Tryd.infoCa rfl (by simp [Value.oneCell']) ?_; rw [hc2]) | (refine wpList_load_row rfl 33 _ rfl w2.heap.size rfl 33 W3.cells (0, 0) _ X3 Tryd.underlying33 rfl Tryd.infoRW ?_))
      refine (KK _ O3.b).mono ?_
      rintro e wb ⟨rfl, B10⟩
      replace XC := XC.below B10
      replace DB := below_then DB B10
      clear a0 a1 a2 a3 a4 B10 KK X0 X3 X5 O3 O5 hc1 hc2 ZC
      go_wp2_with fail
      refine (CW _ DB).mono ?_
      rintro e wc ⟨rfl, B11⟩
      replace XC := XC.below B11
      replace DB := below_then DB B11
      clear B11 CW
      have c0 : wc.cell? ⟨w9.heap.size, 0, none⟩ = some (.slice none 0 0) := XC.cell 0 rfl
      have c1 : wc.cell? ⟨w9.heap.size, 1, none⟩ = some (.slice none 0 0) := XC.cell 1 rfl
      have hne : (qc != qc) = false := by simp
      go_wp2_with fail
      go_ret
      exact ⟨rfl, DB⟩
    rw [hqc] at HQ
    obtain ⟨hsh, -⟩ := check_shape hqc
    have hkk := shape_ok hsh
    have KK := fun wv (hb : BlocksAt wv W3.b xs) => RK W3 xs wv hW3 hb
    rw [hqc] at KK
    clear RK FN hs
    obtain ⟨CV, CD, CHd, CH, CL⟩ := C
    simp only at *
    obtain ⟨V, rfl⟩ : ∃ n : Nat, CV = n := ⟨CV.toNat, by omega⟩
    obtain ⟨D, rfl⟩ : ∃ n : Nat, CD = n := ⟨CD.toNat, by omega⟩
    obtain ⟨Hd, rfl⟩ : ∃ n : Nat, CHd = n := ⟨CHd.toNat, by omega⟩
    obtain ⟨H, rfl⟩ : ∃ n : Nat, CH = n := ⟨CH.toNat, by omega⟩
    obtain ⟨L, rfl⟩ : ∃ n : Nat, CL = n := ⟨CL.toNat, by omega⟩
    have G5 := own_good O5 hl5 HQ
    obtain ⟨G3, hxL⟩ := own_wt O3 hl3 hqc
    clear HQ hqc hl3 hl5 O5
    have RP := fun wv (hA : IArg wv (some ⟨b1, 0, none⟩) l1 kq P) => rprompt_any V D Hd H L (some ⟨b1, 0, none⟩) l1 kq P wv hA
    unfold cfgC at RP
    by_cases hqp : promptN V P = 0
    rotate_left
    · have FF := full_bad V D Hd H L W5 ys M (some ⟨b1, 0, none⟩) l1 kq P w8 G5 I1 hqp
      unfold cfgC at FF
      generalize promptN V P = qp at *
      have hq1 : (qp == 0) = false := by simpa using hqp
      have hq2 : (qp != 0) = true := by simp [bne, hq1]
      have a0 : w8.cell? ⟨w.heap.size, 0, none⟩ = some (.int .i64 (V : Int)) := X0.cell 0 rfl
      have a1 : w8.cell? ⟨w.heap.size, 1, none⟩ = some (.int .i64 (D : Int)) := X0.cell 1 rfl
      have a2 : w8.cell? ⟨w.heap.size, 2, none⟩ = some (.int .i64 (Hd : Int)) := X0.cell 2 rfl
      have a3 : w8.cell? ⟨w.heap.size, 3, none⟩ = some (.int .i64 (H : Int)) := X0.cell 3 rfl
      have a4 : w8.cell? ⟨w.heap.size, 4, none⟩ = some (.int .i64 (L : Int)) := X0.cell 4 rfl
      go_wp2_with (refine wpList_load_row rfl 29 _ rfl w4.heap.size rfl 29 W5.cells (0, 0) _ X5 Tryd.underlying29 rfl Tryd.infoW ?_)
      refine FF.mono ?_
      rintro e w9 ⟨rfl, B9⟩
      replace X0 := X0.below B9
      replace X3 := X3.below B9
      replace O3 := O3.below B9
      replace I1 := I1.below B9
      replace DB := below_then DB B9
      clear a0 a1 a2 a3 a4 B9 FF G5 G3
      obtain ⟨ZC, XC, BC⟩ := var3e w9 40 #[.slice none 0 0, .slice none 0 0] #[.slice none 0 0, .slice none 0 0]
      generalize hc1 : w9.alloc (.cells #[.slice none 0 0, .slice none 0 0] 40) = wz at *
      generalize hc2 : wz.setRow w9.heap.size #[.slice none 0 0, .slice none 0 0] = wa at *
      replace X0 := X0.below BC
      replace X3 := X3.below BC
      replace O3 := O3.below BC
      replace I1 := I1.below BC
      replace DB := below_then DB BC
      have a0 : wa.cell? ⟨w.heap.size, 0, none⟩ = some (.int .i64 (V : Int)) := X0.cell 0 rfl
      have a1 : wa.cell? ⟨w.heap.size, 1, none⟩ = some (.int .i64 (D : Int)) := X0.cell 1 rfl
      have a2 : wa.cell? ⟨w.heap.size, 2, none⟩ = some (.int .i64 (Hd : Int)) := X0.cell 2 rfl
      have a3 : wa.cell? ⟨w.heap.size, 3, none⟩ = some (.int .i64 (H : Int)) := X0.cell 3 rfl
      have a4 : wa.cell? ⟨w.heap.size, 4, none⟩ = some (.int .i64 (L : Int)) := X0.cell 4 rfl
      clear BC
      go_wp2_with (first | (refine wpList_store_row rfl 40 _ _ rfl w9.heap.size #[.slice none 0 0, .slice none 0 0] rfl rfl 40 _ ZC Tryd.infoCa rfl (by simp [Value.oneCell']) ?_; rw [hc2]) | (refine wpList_load_row rfl 33 _ rfl w2.heap.size rfl 33 W3.cells (0, 0) _ X3 Tryd.underlying33 rfl Tryd.infoRW ?_))
      refine (KK _ O3.b).mono ?_
      rintro e wb ⟨rfl, B10⟩
      replace XC := XC.below B10
      replace X0 := X0.below B10
      replace I1 := I1.below B10
      replace DB := below_then DB B10
      clear a0 a1 a2 a3 a4 B10 KK X3 X5 O3 hc1 hc2 ZC
      have a0 : wb.cell? ⟨w.heap.size, 0, none⟩ = some (.int .i64 (V : Int)) := X0.cell 0 rfl
      have a1 : wb.cell? ⟨w.heap.size, 1, none⟩ = some (.int .i64 (D : Int)) := X0.cell 1 rfl
      have a2 : wb.cell? ⟨w.heap.size, 2, none⟩ = some (.int .i64 (Hd : Int)) := X0.cell 2 rfl
      have a3 : wb.cell? ⟨w.heap.size, 3, none⟩ = some (.int .i64 (H : Int)) := X0.cell 3 rfl
      have a4 : wb.cell? ⟨w.heap.size, 4, none⟩ = some (.int .i64 (L : Int)) := X0.cell 4 rfl
      go_wp2_with fail
      refine (RP _ I1).mono ?_
      rintro e wb2 ⟨rfl, B12⟩
      replace XC := XC.below B12
      replace DB := below_then DB B12
      clear a0 a1 a2 a3 a4 B12 RP X0 I1
      go_wp2_with fail
      refine (CW _ DB).mono ?_
      rintro e wc ⟨rfl, B11⟩
      replace XC := XC.below B11
      replace DB := below_then DB B11
      clear B11 CW
      have c0 : wc.cell? ⟨w9.heap.size, 0, none⟩ = some (.slice none 0 0) := XC.cell 0 rfl
      have c1 : wc.cell? ⟨w9.heap.size, 1, none⟩ = some (.slice none 0 0) := XC.cell 1 rfl
      have hne : (qp != qp) = false := by simp
      go_wp2_with fail
      go_ret
      exact ⟨rfl, DB⟩
    have FF := full_ok V D Hd H L W5 ys M (some ⟨b1, 0, none⟩) l1 kq P w8 G5 I1 (HT.out _ DB) hqp
    unfold cfgC at FF
    rw [hqp] at RP
    obtain ⟨p1, p2, p3⟩ := prompt_ok hqp
    obtain ⟨n1, hn1⟩ : ∃ n1, P.length = n1 + 1 := ⟨P.length - 1, by omega⟩
    have htk : ∀ k, k < l1 → 0 ≤ el P k ∧ el P k < (V : Int) := fun k hk => by
      have := all_el (show k < P.length by rw [HL1.out]; exact hk) p3
      exact of_decide_eq_true this
    have hmod := shape_mod hsh
    have RF := fun wv (hW : WtAt wv V D H W3 xs M) (hA : IArg wv (some ⟨b1, 0, none⟩) l1 kq P) => rfull_any V D Hd H L l1 kq (some ⟨b1, 0, none⟩) W3 xs M P wv hW hxL hA htk (by have := HL1.out; omega) (by omega) (by omega) (by omega) (by omega) hmod (by omega) (by omega) (by omega)
    unfold cfgC at RF
    have RL := fun wv (sr sk sv : Sl) (hW : WtAt wv V D H W3 xs M) (hC : DCube wv sr (fR M D H Hd L P)) => rlikes_full V D Hd H L n1 W3 xs M sr sk sv P wv hW hC hn1 (by omega) (by omega)
    have hfk : fK M D H Hd L P = fullK M D H Hd L P := by unfold fK; rw [if_neg (by omega)]
    have hfv : fV M D H Hd L P = fullV M D H Hd L P := by unfold fV; rw [if_neg (by omega)]
    rw [hfk, hfv] at RF
    clear hfk hfv htk hmod hsh p1 p2 p3 hn1
    generalize fullX M V D H Hd L P = xF at *
    generalize fullK M D H Hd L P = kF at *
    generalize fullV M D H Hd L P = vF at *
    generalize fR M D H Hd L P = rF at *
    have a0 : w8.cell? ⟨w.heap.size, 0, none⟩ = some (.int .i64 (V : Int)) := X0.cell 0 rfl
    have a1 : w8.cell? ⟨w.heap.size, 1, none⟩ = some (.int .i64 (D : Int)) := X0.cell 1 rfl
    have a2 : w8.cell? ⟨w.heap.size, 2, none⟩ = some (.int .i64 (Hd : Int)) := X0.cell 2 rfl
    have a3 : w8.cell? ⟨w.heap.size, 3, none⟩ = some (.int .i64 (H : Int)) := X0.cell 3 rfl
    have a4 : w8.cell? ⟨w.heap.size, 4, none⟩ = some (.int .i64 (L : Int)) := X0.cell 4 rfl
    go_wp2_with (refine wpList_load_row rfl 29 _ rfl w4.heap.size rfl 29 W5.cells (0, 0) _ X5 Tryd.underlying29 rfl Tryd.infoW ?_)
    refine FF.mono ?_
    rintro e w9 ⟨g, gK, gV, rfl, FX, NK, NV, B9⟩
    replace X0 := X0.below B9
    replace X3 := X3.below B9
    replace O3 := O3.below B9
    replace I1 := I1.below B9
    replace G3 := G3.below B9
    replace DB := below_then DB B9
    clear a0 a1 a2 a3 a4 B9 FF G5
    have CK1 := NK.now
    have CV1 := NV.now
    clear NK NV
    obtain ⟨ZC, XC, BC⟩ := var3e w9 40 #[.slice none 0 0, .slice none 0 0] #[.slice (some ⟨gK, 0, none⟩) L L, .slice (some ⟨gV, 0, none⟩) L L]
    generalize hc1 : w9.alloc (.cells #[.slice none 0 0, .slice none 0 0] 40) = wz at *
    generalize hc2 : wz.setRow w9.heap.size #[.slice (some ⟨gK, 0, none⟩) L L, .slice (some ⟨gV, 0, none⟩) L L] = wa at *
    replace X0 := X0.below BC
    replace X3 := X3.below BC
    replace O3 := O3.below BC
    replace I1 := I1.below BC
    replace G3 := G3.below BC
    replace FX := FX.below BC
    replace CK1 := CK1.below BC
    replace CV1 := CV1.below BC
    replace DB := below_then DB BC
    have a0 : wa.cell? ⟨w.heap.size, 0, none⟩ = some (.int .i64 (V : Int)) := X0.cell 0 rfl
    have a1 : wa.cell? ⟨w.heap.size, 1, none⟩ = some (.int .i64 (D : Int)) := X0.cell 1 rfl
    have a2 : wa.cell? ⟨w.heap.size, 2, none⟩ = some (.int .i64 (Hd : Int)) := X0.cell 2 rfl
    have a3 : wa.cell? ⟨w.heap.size, 3, none⟩ = some (.int .i64 (H : Int)) := X0.cell 3 rfl
    have a4 : wa.cell? ⟨w.heap.size, 4, none⟩ = some (.int .i64 (L : Int)) := X0.cell 4 rfl
    clear BC
    go_wp2_with (first | (refine wpList_store_row rfl 40 _ _ rfl w9.heap.size #[.slice (some ⟨gK, 0, none⟩) L L, .slice (some ⟨gV, 0, none⟩) L L] rfl rfl 40 _ ZC Tryd.infoCa rfl (by simp [Value.oneCell']) ?_; rw [hc2]) | (refine wpList_load_row rfl 33 _ rfl w2.heap.size rfl 33 W3.cells (0, 0) _ X3 Tryd.underlying33 rfl Tryd.infoRW ?_))
    refine (KK _ O3.b).mono ?_
    rintro e wb ⟨rfl, B10⟩
    replace XC := XC.below B10
    replace X0 := X0.below B10
    replace X3 := X3.below B10
    replace I1 := I1.below B10
    replace G3 := G3.below B10
    replace FX := FX.below B10
    replace CK1 := CK1.below B10
    replace CV1 := CV1.below B10
    replace DB := below_then DB B10
    clear a0 a1 a2 a3 a4 B10 KK X5 O3 hc1 hc2 ZC
    have a0 : wb.cell? ⟨w.heap.size, 0, none⟩ = some (.int .i64 (V : Int)) := X0.cell 0 rfl
    have a1 : wb.cell? ⟨w.heap.size, 1, none⟩ = some (.int .i64 (D : Int)) := X0.cell 1 rfl
    have a2 : wb.cell? ⟨w.heap.size, 2, none⟩ = some (.int .i64 (Hd : Int)) := X0.cell 2 rfl
    have a3 : wb.cell? ⟨w.heap.size, 3, none⟩ = some (.int .i64 (H : Int)) := X0.cell 3 rfl
    have a4 : wb.cell? ⟨w.heap.size, 4, none⟩ = some (.int .i64 (L : Int)) := X0.cell 4 rfl
    go_wp2_with fail
    refine (RP _ I1).mono ?_
    rintro e wb2 ⟨rfl, B12⟩
    replace XC := XC.below B12
    replace X0 := X0.below B12
    replace X3 := X3.below B12
    replace I1 := I1.below B12
    replace G3 := G3.below B12
    replace FX := FX.below B12
    replace CK1 := CK1.below B12
    replace CV1 := CV1.below B12
    replace DB := below_then DB B12
    clear a0 a1 a2 a3 a4 B12 RP
    go_wp2_with fail
    refine (CW _ DB).mono ?_
    rintro e wc ⟨rfl, B11⟩
    replace XC := XC.below B11
    replace X0 := X0.below B11
    replace X3 := X3.below B11
    replace I1 := I1.below B11
    replace G3 := G3.below B11
    replace FX := FX.below B11
    replace CK1 := CK1.below B11
    replace CV1 := CV1.below B11
    replace DB := below_then DB B11
    clear B11 CW
    have a0 : wc.cell? ⟨w.heap.size, 0, none⟩ = some (.int .i64 (V : Int)) := X0.cell 0 rfl
    have a1 : wc.cell? ⟨w.heap.size, 1, none⟩ = some (.int .i64 (D : Int)) := X0.cell 1 rfl
    have a2 : wc.cell? ⟨w.heap.size, 2, none⟩ = some (.int .i64 (Hd : Int)) := X0.cell 2 rfl
    have a3 : wc.cell? ⟨w.heap.size, 3, none⟩ = some (.int .i64 (H : Int)) := X0.cell 3 rfl
    have a4 : wc.cell? ⟨w.heap.size, 4, none⟩ = some (.int .i64 (L : Int)) := X0.cell 4 rfl
    go_wp2_with (refine wpList_load_row rfl 33 _ rfl w2.heap.size rfl 33 W3.cells (0, 0) _ X3 Tryd.underlying33 rfl Tryd.infoRW ?_)
    refine (RF _ G3 I1).mono ?_
    rintro e wd ⟨⟨ra, rn, rc⟩, ⟨ka, kn, kc⟩, ⟨va, vn, vc⟩, rfl, DR, DK, DV, B13⟩
    have kl : kn = L := by have h1 := DK.len; have h2 := CK1.len; simp only at h1; omega
    have vl : vn = L := by have h1 := DV.len; have h2 := CV1.len; simp only at h1; omega
    subst kl
    subst vl
    replace XC := XC.below B13
    replace X3 := X3.below B13
    replace G3 := G3.below B13
    replace FX := FX.below B13
    replace CK1 := CK1.below B13
    replace CV1 := CV1.below B13
    replace DB := below_then DB B13
    clear a0 a1 a2 a3 a4 B13 RF X0 I1
    rw [show (#[Sl.v ⟨ra, rn, rc⟩, Sl.v ⟨ka, vn, kc⟩, Sl.v ⟨va, vn, vc⟩] : Array Value) = #[.slice ra rn rc, .slice ka vn kc, .slice va vn vc] from rfl]
    obtain ⟨ZP, XP, BP⟩ := var3e wd 48 #[.slice none 0 0, .slice none 0 0, .slice none 0 0] #[.slice ra rn rc, .slice ka vn kc, .slice va vn vc]
    generalize hp1 : wd.alloc (.cells #[.slice none 0 0, .slice none 0 0, .slice none 0 0] 48) = wz at *
    generalize hp2 : wz.setRow wd.heap.size #[.slice ra rn rc, .slice ka vn kc, .slice va vn vc] = we at *
    replace XC := XC.below BP
    replace X3 := X3.below BP
    replace G3 := G3.below BP
    replace FX := FX.below BP
    replace CK1 := CK1.below BP
    replace CV1 := CV1.below BP
    replace DR := DR.below BP
    replace DK := DK.below BP
    replace DV := DV.below BP
    replace DB := below_then DB BP
    clear BP
    go_wp2_with (first | (refine wpList_store_row rfl 48 _ _ rfl wd.heap.size _ rfl rfl 48 _ ZP (by kernel_rfl) rfl (by simp [Value.oneCell']) ?_; rw [hp2]) | (refine wpList_load_row rfl 33 _ rfl w2.heap.size rfl 33 W3.cells (0, 0) _ X3 Tryd.underlying33 rfl Tryd.infoRW ?_) | (refine wpList_load_row rfl 48 _ rfl wd.heap.size rfl 48 #[.slice ra rn rc, .slice ka vn kc, .slice va vn vc] (0, 0) _ XP Tryd.underlying48 rfl (by kernel_rfl) ?_))
    refine (RL _ ⟨ra, rn, rc⟩ ⟨ka, vn, kc⟩ ⟨va, vn, vc⟩ G3 DR).mono ?_
    rintro e wf ⟨g2, cap, rfl, F2, B14⟩
    replace XC := XC.below B14
    replace XP := XP.below B14
    replace FX := FX.below B14
    replace CK1 := CK1.below B14
    replace CV1 := CV1.below B14
    replace DK := DK.below B14
    replace DV := DV.below B14
    replace DB := below_then DB B14
    clear B14 RL DR G3 X3 hp1 hp2 ZP
    go_wp2_with fail
    refine (same_any _ _ _ _ _ xF _ FX.rowAt F2.rowAt).mono ?_
    rintro e wg ⟨rfl, m1, rfl⟩
    have BM : Below wf.heap.size wf (wf.drewN m1) := below_drewN (Below.refl _ wf) m1
    replace XC := XC.below BM
    replace XP := XP.below BM
    replace CK1 := CK1.below BM
    replace CV1 := CV1.below BM
    replace DK := DK.below BM
    replace DV := DV.below BM
    replace DB := below_then DB BM
    clear BM FX F2
    generalize wf.drewN m1 = wh at *
    have c0 : wh.cell? ⟨w9.heap.size, 0, none⟩ = some (.slice (some ⟨gK, 0, none⟩) vn vn) := XC.cell 0 rfl
    have q1 : wh.cell? ⟨wd.heap.size, 1, none⟩ = some (.slice ka vn kc) := XP.cell 1 rfl
    go_wp2_with fail
    refine (cubeSame_eq _ _ _ _ _ kF _ CK1 DK.cube).mono ?_
    rintro e wi ⟨rfl, m2, rfl⟩
    have BM : Below wh.heap.size wh (wh.drewN m2) := below_drewN (Below.refl _ wh) m2
    replace XC := XC.below BM
    replace XP := XP.below BM
    replace CV1 := CV1.below BM
    replace DV := DV.below BM
    replace DB := below_then DB BM
    clear BM CK1 DK c0 q1
    generalize wh.drewN m2 = wj at *
    have c1 : wj.cell? ⟨w9.heap.size, 1, none⟩ = some (.slice (some ⟨gV, 0, none⟩) vn vn) := XC.cell 1 rfl
    have q2 : wj.cell? ⟨wd.heap.size, 2, none⟩ = some (.slice va vn vc) := XP.cell 2 rfl
    go_wp2_with fail
    refine (cubeSame_eq _ _ _ _ _ vF _ CV1 DV.cube).mono ?_
    rintro e wk ⟨rfl, m3, rfl⟩
    have BM : Below wj.heap.size wj (wj.drewN m3) := below_drewN (Below.refl _ wj) m3
    replace DB := below_then DB BM
    clear BM CV1 DV c1 q2
    generalize wj.drewN m3 = wl at *
    go_wp2_with fail
    go_ret
    exact ⟨rfl, DB⟩
end Go.Proofs.YtoofbjpekdlfiaaDoor

/- The given statement on PassFull: at every input the law returns true and its arguments read as before; the listed table lies as the program's text lays it (the card ties it). -/
namespace Go.Proofs.YtoofbjpekdlfiaaDoor.passFull
open Go.ChangeShapes Go.WideShapes Go.ChangeAt Go.WideMaps Go.WideElems Go.RowKit
set_option linter.unusedVariables false
abbrev lst : List (String × DataW Unit) := Rows.passFullRow.laid
theorem door_met (os : Os) (args : Array Value) : laidMetH Tryd.prog lst ((World.doorLaid Tryd.prog 14 os).forCall (fun _ _ => 0) ⟨#[], args, []⟩).memory :=
  laidMetH_of_parts3 (fuel := 8) (laidMet_of_run' 8 (by kernel_rfl) (by kernel_rfl)) (by kernel_rfl) (by kernel_rfl)
set_option maxRecDepth 100000 in
theorem lifted (os : Os) (started : os.Started) (H : Type) (enc : TypeId × Value → H) :
    ReturnsInHanded {} Tryd.checked os 3 .any (fun w args => (Rows.passFullSpec.pre enc Tryd.prog Tryd.f3 [] false w args ∧ laidMetH Tryd.prog lst w) ∧ sizedMet enc Tryd.prog Tryd.f3 (OpenSpec.ofChange Rows.passFullSpec) false w args)
      (Rows.passFullSpec.post enc Tryd.prog Tryd.f3 false true false false) := by
  refine returnsInHanded_of_change_and (C := Tryd.checked) (X := fun w _ => laidMetH Tryd.prog lst w) (fun _ _ _ hh h => h.of_heap hh) Tryd.own started (by kernel_rfl) Tryd.func3
    (ChangeSpec.witness_shaped (enc := enc) (C := Tryd.checked) (os := os) (X := fun w _ => laidMetH Tryd.prog lst w) false (World.doorLaid Tryd.prog 14 os) #[.agg #[.int .i64 0, .int .i64 0, .int .i64 0, .int .i64 0, .int .i64 0], .agg #[.int .i64 0, .int .i64 0, .slice none 0 0, .slice none 0 0, .slice none 0 0, .int .i64 0, .int .i64 0, .slice none 0 0], .slice none 0 0] 8 rfl (World.shaped_of_RefB (by kernel_rfl) (by kernel_rfl)) (by kernel_rfl) (by kernel_rfl) (by kernel_rfl) (door_met os _)) ?_
  intro W base args ds gs before hval0 hW _ _ hL _
  have hval : ∀ (j : Nat) t v, Tryd.f3.params[j]? = some t → args[j]? = some v → Value.okWide Tryd.prog W .any base t v := hval0
  have hW' := hW
  obtain ⟨p, q, hA0, hV, rfl, _, _⟩ := hW
  have hA : DataW.TrodAll enc Tryd.prog W 0 (fun _ => true) true Tryd.f3.params.toList args.toList ds p := hA0
  rw [Tryd.params3] at hA hval
  obtain ⟨v0, vs0, d0, ds0, p0, q0, hargs, rfl, rfl, h0, r0⟩ := trodAll_cons hA
  obtain ⟨v1, vs1, d1, ds1, p1, q1, rfl, rfl, rfl, h1, r1⟩ := trodAll_cons r0
  obtain ⟨v2, vs2, d2, ds2, p2, q2, rfl, rfl, rfl, h2, r2⟩ := trodAll_cons r1
  obtain ⟨rfl, rfl, rfl⟩ := trodAll_nil r2
  obtain rfl : args = #[v0, v1, v2] := by cases args; simp_all
  obtain ⟨rfl, rfl⟩ := trodVars_none hV
  have k0 := h0
  obtain ⟨C0, rfl, g0⟩ := viewCfg (hval 0 _ v0 rfl rfl) h0
  have k1 := h1
  obtain ⟨W1, X1, rfl, g1⟩ := viewWt (hval 1 _ v1 rfl rfl) h1
  have k2 := h2
  obtain ⟨a2, n2, c2, Z2, rfl, g2⟩ := viewI (hval 2 _ v2 rfl rfl) h2
  clear hA0 hval0
  simp only [List.append_nil] at hW'
  have hlt : ∀ x ∈ p0 ++ p1 ++ p2, x.block < W.heap.size := fun x hx => by
    have hx2 := hx
    exact hW'.lt x (by grind)
  refine (passFull_walk C0 W1 X1 a2 n2 c2 Z2 W g0 g1 g2 (tab_of_laid hL)).mono fun e W' ⟨he, hb⟩ => ?_
  subst he
  exact ⟨_, rfl, _, _, _, [], _, [], hW', trodAll_mk1 (shut_bool Tryd.underlying4 true), trodAll_cons_mk (Below.trod Tryd.laidOut (by kernel_rfl) (of_decide_eq_true (by kernel_rfl)) k0 hb (fun x hx => hlt x (by simp [hx]))) (trodAll_cons_mk (Below.trod Tryd.laidOut (by kernel_rfl) (of_decide_eq_true (by kernel_rfl)) k1 hb (fun x hx => hlt x (by simp [hx]))) (trodAll_cons_mk (Below.trod Tryd.laidOut (by kernel_rfl) (of_decide_eq_true (by kernel_rfl)) k2 hb (fun x hx => hlt x (by simp [hx]))) trodAll_mk0)), rfl, hb.frame _, fun h => by cases h⟩
theorem row_holds : Rows.PassFullSaid :=
  OpenClaim.holds_of_wide 3 Tryd.f3 rfl rfl rfl rfl rfl rfl rfl ⟨rfl, rfl, rfl, rfl, rfl⟩ rfl rfl rfl rfl rfl (by kernel_rfl) Tryd.func3 (by kernel_rfl)
    (of_decide_eq_true (by kernel_rfl)) (by unfold Func.isWrapper; first | (rw [if_pos (by decide +kernel)]; kernel_rfl) | (rw [if_neg (by decide +kernel)]; exact ⟨rfl, rfl⟩))
    (fun os started H enc _ => lifted os started H enc)
/-- The given statement. -/
theorem card_holds : Rows.PassFullCardSaid :=
  Claim7.holds_tied_plain_at .later [] [.data] true (true, "8fc685beb9700ae1c72465c1dc6a6d287f3347d1467f83ea936512e28609f545") false
    row_holds (fun _ h => by cases h) (by kernel_rfl) (fun _ h => by cases h) passFull_row_tie rfl ⟨rfl, rfl⟩ (by kernel_rfl) rfl
    (fun f fn hf hfn => by
      obtain rfl : f = 3 := Option.some.inj ((show Tryd.prog.funcNamed Rows.passFullRow.func = some 3 by kernel_rfl).symm.trans hf) |>.symm
      obtain rfl : fn = Tryd.f3 := (Option.some.inj (Tryd.func3.symm.trans hfn)).symm
      exact ⟨by kernel_rfl, fun j t ht => by
        rw [Tryd.params3] at ht
        have hm : t ∈ [23, 29, 30] := by simpa using Array.mem_of_getElem? ht
        have hall : ([23, 29, 30].all fun u => !Tryd.prog.wantsStandIn u) = true := by kernel_rfl
        exact (show Tryd.prog.wantsStandIn t = false by simpa using List.all_eq_true.1 hall t hm)⟩)
    (by kernel_rfl)
end Go.Proofs.YtoofbjpekdlfiaaDoor.passFull
namespace Go.Proofs.YtoofbjpekdlfiaaDoor
theorem passFull_holds : Rows.PassFullCardSaid := passFull.card_holds
#print axioms passFull_holds
end Go.Proofs.YtoofbjpekdlfiaaDoor
