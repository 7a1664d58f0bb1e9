/- The document's net: Turn, where bits are turned. -/
import Derived.Test.YtgbljkbiigcofaaNRef4
namespace Go.Proofs.Ytgbljkbiigcofaa
open Go.ChangeShapes Go.WideShapes Go.ChangeAt Go.RowKit
theorem flat_set3 : ∀ (L : List Pc) (j : Nat) (p : Pc), j < L.length → (((flat L).set (j * 3) (.int .i64 p.to)).set (j * 3 + 1) (.string p.fr)).set (j * 3 + 2) (.bool p.tn) = flat (L.set j p)
  | [], _, _, h => by simp at h
  | _ :: _, 0, _, _ => rfl
  | q :: L, j + 1, p, h => by
    have ih := flat_set3 L j p (by simpa using h)
    rw [show (j + 1) * 3 = j * 3 + 3 by omega, show j * 3 + 3 + 1 = j * 3 + 1 + 3 by omega, show j * 3 + 3 + 2 = j * 3 + 2 + 3 by omega]
    simp only [flat, List.set_cons_succ, ih]
theorem PRow.put {T : TypeId} {w : World} {B g n cap j : Nat} {L : List Pc} (h : PRow T w B (.slice (some ⟨g, 0, none⟩) n cap) L) (hn : n = L.length) (hj : j < L.length) (p : Pc) :
    PRow T (((w.setCell ⟨g, j * 3, none⟩ (.int .i64 p.to)).setCell ⟨g, j * 3 + 1, none⟩ (.string p.fr)).setCell ⟨g, j * 3 + 2, none⟩ (.bool p.tn)) B (.slice (some ⟨g, 0, none⟩) n cap) (L.set j p) := by
  subst hn
  rcases h.cases with ⟨e, _⟩ | ⟨g', cap', cs, e, q1, q2, q3, q4, q5, q6⟩
  · cases e
  simp only [Value.slice.injEq, Option.some.injEq, Addr.mk.injEq, and_true, true_and] at e
  obtain ⟨rfl, rfl⟩ := e
  have := PRow.mk' (L := L.set j p) q1 (((q2.set (j * 3) (.int .i64 p.to)).set (j * 3 + 1) (.string p.fr)).set (j * 3 + 2) (.bool p.tn)) (by simpa using q3) q4 (by simpa using q5) (by
    rw [List.length_set, ← flat_set3 L j p hj, ← q6]
    simp [List.take_set])
  rw [List.length_set] at this
  exact this
set_option maxHeartbeats 4000000 in
set_option maxRecDepth 100000 in
theorem rturn_ok (j t x : Nat) (ao : Option Addr) (c : Nat) (L : List Pc) (lost : Int) (w : World) (h : RRow w 0 (.slice ao L.length c) L) (hj : j < L.length) (hl : L.length ≤ 1000) (hf : (pc L j).fr.size ≤ 65536) (ht : t < 8 * (pc L j).fr.size) (hn : (pc L j).tn = false) :
   Calls Try.prog 23 #[.agg #[.slice ao L.length c, .int .i64 lost], .int .i64 (j : Int), .int .i64 (t : Int), .int .u32 (x : Int)] w fun e w' => ∃ ao' c', e = .returned (.tuple #[.agg #[.slice ao' L.length c', .int .i64 lost], .int .i64 0]) ∧ RRow w' w.heap.size (.slice ao' L.length c') (L.set j ⟨(pc L j).to, turnF (pc L j).fr t x, true⟩) ∧ Below w.heap.size w w' := by
  obtain ⟨w0, g, rfl, hc1, hc2, H⟩ := t0_any j ao c L lost w h hj
  have C := there_yes j L.length (some ⟨g, 0, none⟩) c lost w0 hj
  clear h
  have HJ : Hid (j < L.length) := hj
  generalize pc L j = p at *
  obtain ⟨pt, pf, pn⟩ := p
  simp only at H ht hf hn
  subst hn
  obtain ⟨B0, s0, hw, HX0⟩ := H
  have HX : Hid _ := HX0
  obtain ⟨Z0, Z1, _, _, _, _⟩ := HX0 w0 (Below.refl _ _)
  have v0 := Z0.cell 0 (v := .slice (some ⟨g, 0, none⟩) L.length c) rfl
  have v1 := Z0.cell 1 (v := .int .i64 lost) rfl
  clear HX0 Z0 Z1
  generalize hnn : L.length = n at *
  have h1 : decide ((t : Int) < 0) = false := decide_eq_false (by omega)
  have h2 : (t : Int).tdiv 8 < (pf.size : Int) := by rw [Int.tdiv_eq_ediv_of_nonneg (by omega)]; omega
  have h3 : (t : Int) / 8 < (pf.size : Int) := by omega
  have HI : Hid (∀ i, i < pf.size → ∀ W, (Instr.index 9 (.string pf) (.int .i64 (i : Int))).run Try.prog W = .ok (.int .u8 ((pf.data.toList.getD i 0).toNat : Int)) W) := fun i hi W => index_at pf i hi i rfl W
  have HT : Hid (txt (turnD pf.data.toList t x pf.size) = turnF pf t x) := by show _ = _; unfold turnF; rw [← turnD_eq]; rfl
  generalize hsz : pf.size = z at *
  go_enter Try.func23, Try.ntmps23
  go_wp2_with (go_at_call 31; refine C.mono ?_; rintro e w2 ⟨rfl, B2⟩; have BA : Below w2.heap.size w2 (w2.alloc (.cells #[.int .i64 pt, .string pf, .bool false] 42)) := (Below.refl _ _).alloc (Nat.le_refl _) _; obtain ⟨Y0, Y1, RR, p0, p1, p2⟩ := HX.out _ (B2.mono (by omega)); have y0 := Y0.cell 0 (v := .slice (some ⟨g, 0, none⟩) n c) rfl; have XA := blk_new w2 42 #[.int .i64 pt, .string pf, .bool false])
  have sA : (w2.alloc (.cells #[.int .i64 pt, .string pf, .bool false] 42)).heap.size = w2.heap.size + 1 := by simp
  have s2 := B2.size
  have BB := below_then B2 BA
  clear Y0 Y1 RR p0 p1 p2 y0 v0 v1 C hw h1 h2 h3 BA
  generalize hw3 : w2.alloc (.cells #[.int .i64 pt, .string pf, .bool false] 42) = w3 at *
  have HA : Hid (∀ W, Below w3.heap.size w3 W → Blk W w2.heap.size 42 #[.int .i64 pt, .string pf, .bool false]) := fun W hW => XA.below hW XA.lt
  clear XA hw3
  go_loopg [11, 12, 13, 14, 15] z (fun gg s11 s12 _ _ _ wr => ∃ jj : Nat, jj ≤ z ∧ gg = z - jj ∧ s12 = .int .i64 (jj : Int) ∧ s11 = .string (txt (turnD pf.data.toList t x jj)) ∧ Below w3.heap.size w3 wr)
  case atStart => exact ⟨0, by omega, rfl, rfl, rfl, Below.refl _ _⟩
  case round =>
    obtain ⟨jj, hjj, rfl, rfl, rfl, BW⟩ := hrel
    have XW := HA.out wr BW
    have x1 := XW.cell 1 (v := .string pf) rfl
    by_cases hlt : jj < z
    · obtain ⟨Y, hY⟩ : ∃ Y, Y = pf.data.toList.getD jj 0 := ⟨_, rfl⟩
      have hpj : ∀ (hh : jj < pf.size), pf[jj] = Y := fun hh => by
        show pf.data[jj] = Y
        rw [hY, List.getD_eq_getElem?_getD, List.getElem?_eq_getElem (by exact hh)]; simp
      have HY : Hid _ := hY
      clear hY
      go_wp2_with fail
      go_loopg [13, 14, 15] 8 (fun gg s13 s14 _ wv => ∃ k : Nat, k ≤ 8 ∧ gg = 8 - k ∧ s14 = .int .i64 (k : Int) ∧ s13 = .int .u8 ((byK Y t x jj k).toNat : Int) ∧ wv = wr)
      case atStart => exact ⟨0, by omega, rfl, rfl, by first | rfl | (rw [hpj]; rfl) | (simp only [hpj]; rfl), rfl⟩
      case round =>
        obtain ⟨k, hk, rfl, rfl, rfl, rfl⟩ := hrel
        clear hpj
        by_cases hk8 : k < 8
        · by_cases d1 : 8 * jj + k < t
          · have HNA : ¬ askB t x (8 * jj + k) := fun h => by have := h.1; omega
            have d2 : decide (0 ≤ 8 * (jj : Int) + (k : Int) - (t : Int)) = false := decide_eq_false (by omega)
            have HE : Hid (byK Y t x jj (k + 1) = byK Y t x jj k) := by
              show _ = _
              conv => lhs; unfold byK
              rw [if_neg HNA]
            clear HNA
            generalize byK Y t x jj k = y at *
            go_wp2_with fail
            go_roundg (8 - (k + 1))
            case measure => omega
            case rel => exact ⟨k + 1, by omega, rfl, by go_num, by rw [HE.out], rfl⟩
          · obtain ⟨q, hq⟩ : ∃ q, q = 8 * jj + k - t := ⟨_, rfl⟩
            have hsub : 8 * (jj : Int) + (k : Int) - (t : Int) = (q : Int) := by omega
            by_cases d3 : 32 ≤ q
            · have HNA : ¬ askB t x (8 * jj + k) := fun h => by have := h.2.1; omega
              have d4 : decide ((q : Int) < 32) = false := decide_eq_false (by omega)
              clear hq d1
              have HE : Hid (byK Y t x jj (k + 1) = byK Y t x jj k) := by
                show _ = _
                conv => lhs; unfold byK
                rw [if_neg HNA]
              clear HNA
              generalize byK Y t x jj k = y at *
              go_wp2_with fail
              go_roundg (8 - (k + 1))
              case measure => omega
              case rel => exact ⟨k + 1, by omega, rfl, by go_num, by rw [HE.out], rfl⟩
            · have TX := tmod_x x q
              by_cases d5 : x / 2 ^ q % 2 = 1
              · have HA2 : askB t x (8 * jj + k) := ⟨by omega, by omega, by rw [← hq]; exact d5⟩
                have HE : Hid (byK Y t x jj (k + 1) = byK Y t x jj k ^^^ oneB k) := by
                  show _ = _
                  conv => lhs; unfold byK
                  rw [if_pos HA2]
                have eb : ((((x : Int) / 2 ^ q).tmod 2) == 1) = true := by rw [TX, d5]; rfl
                have e1 := bits_xor_u8_nat (byK Y t x jj k) (oneB k)
                have SV : IntKind.u8.wrap ((2 : Int) ^ k) = ((oneB k).toNat : Int) := wrap_one _ hk8
                clear HA2 TX d5 hq d1
                generalize byK Y t x jj k = y at *
                generalize oneB k = o at *
                go_wp2_with fail
                go_roundg (8 - (k + 1))
                case measure => omega
                case rel => exact ⟨k + 1, by omega, rfl, by go_num, by rw [HE.out, UInt8.toNat_xor], rfl⟩
              · have HNA : ¬ askB t x (8 * jj + k) := fun h => d5 (by rw [hq]; exact h.2.2)
                have eb : ((((x : Int) / 2 ^ q).tmod 2) == 1) = false := by rw [TX, show x / 2 ^ q % 2 = 0 by omega]; rfl
                clear TX d5 hq d1
                have HE : Hid (byK Y t x jj (k + 1) = byK Y t x jj k) := by
                  show _ = _
                  conv => lhs; unfold byK
                  rw [if_neg HNA]
                clear HNA
                generalize byK Y t x jj k = y at *
                go_wp2_with fail
                go_roundg (8 - (k + 1))
                case measure => omega
                case rel => exact ⟨k + 1, by omega, rfl, by go_num, by rw [HE.out], rfl⟩
        · obtain rfl : k = 8 := by omega
          have HD : Hid _ := turnD_succ pf.data.toList t x jj
          rw [← HY.out] at HD
          obtain ⟨S, hS⟩ : ∃ S, S = txt (turnD pf.data.toList t x jj) := ⟨_, rfl⟩
          obtain ⟨R, hR⟩ : ∃ R, R = txt (turnD pf.data.toList t x jj ++ [byK Y t x jj 8]) := ⟨_, rfl⟩
          have CV := conv1 (wr.alloc (.cells #[.int .u8 ((byK Y t x jj 8).toNat : Int)] 5)) wr.heap.size (byK Y t x jj 8) (by simp)
          obtain ⟨Z, hZ⟩ : ∃ Z, Z = txt [byK Y t x jj 8] := ⟨_, rfl⟩
          have AD := add_txt _ _ S Z R hS hZ hR (by rw [turnD_len]; simp; omega)
          rw [← hZ] at CV
          have HR : Hid (R = txt (turnD pf.data.toList t x (jj + 1))) := by show _ = _; rw [hR, HD.out]
          have BC : Below wr.heap.size wr (wr.alloc (.cells #[.int .u8 ((byK Y t x jj 8).toNat : Int)] 5)) := (Below.refl _ _).alloc (Nat.le_refl _) _
          rw [← hS]
          clear hS hR hZ HD
          generalize byK Y t x jj 8 = y at *
          go_wp2_with fail
          go_roundg (z - (jj + 1))
          case measure => omega
          case rel => exact ⟨jj + 1, by omega, rfl, by go_num, by rw [HR.out], below_then BW BC⟩
    · obtain rfl : jj = z := by omega
      rw [HT.out]
      obtain ⟨F, hF⟩ : ∃ F, F = turnF pf t x := ⟨_, rfl⟩
      rw [← hF]
      have HF : Hid _ := hF
      clear hF
      have BX : Below (w.heap.size + 2) w0 wr := (BB.mono (by omega)).trans (BW.mono (by omega))
      obtain ⟨Y0, Y1, RR, p0, p1, p2⟩ := HX.out wr BX
      have x0 := XW.cell 0 (v := .int .i64 pt) rfl
      have BN : Below wr.heap.size wr (wr.alloc (.cells #[] 42)) := (Below.refl _ _).alloc (Nat.le_refl _) _
      have RN := rrow_new wr wr.heap.size (Nat.le_refl _)
      obtain ⟨V0, _, RR', _, _, _⟩ := HX.out _ (BX.trans (BN.mono (by have := BX.size; omega)))
      have y0' := V0.cell 0 (v := .slice (some ⟨g, 0, none⟩) n c) rfl
      have XW' := XW.below BN XW.lt
      have sN : (wr.alloc (.cells #[] 42)).heap.size = wr.heap.size + 1 := by simp
      have sX := BX.size
      have sW := BW.size
      clear p0 p1 p2 RR Y0 Y1 HT HI HA XW x0 V0
      generalize hwn : wr.alloc (.cells #[] 42) = wn at *
      go_wp2_with (at_builtin; refine wpList_append_rall rfl _ _ rfl wr.heap.size (.slice (some ⟨wr.heap.size, 0, none⟩) 0 0) (.slice (some ⟨g, 0, none⟩) n c) L rfl rfl (by exact RN) (by exact RR') (by omega) (by omega) ?_; intro ao1 c1 w5 R5 B5; rw [hnn] at R5 ⊢; obtain ⟨g5, cap5, e5, k1, k2, k3, k4, k5, k6, k7⟩ := PRow.cells R5 (by omega); rw [hnn] at e5; simp only [Value.slice.injEq, true_and] at e5; obtain ⟨rfl, rfl⟩ := e5; have BT : Below (w.heap.size + 2) w0 w5 := ((BX.trans (BN.mono (by omega))).trans (B5.mono (by omega))); obtain ⟨U0, U1, _, _, _, _⟩ := HX.out w5 BT; have XT := XW'.below B5 (by omega); have x0 := XT.cell 0 (v := .int .i64 pt) rfl; obtain ⟨m0, m1, m2⟩ := k7 j (by omega); have n0 := k5 (j * 3); have n1 := k5 (j * 3 + 1); have n2 := k5 (j * 3 + 2); have a0 := U0.cell 0 (v := .slice (some ⟨g, 0, none⟩) n c) rfl; have a1 := U0.cell 1 (v := .int .i64 lost) rfl; have af := U0.frozen 0; have d0 := U1.cell 0 (v := .slice none 0 0) rfl; have d1 := U1.cell 1 (v := .int .i64 0) rfl; have df := U1.frozen 0; have df1 := U1.frozen 1; have ne1 : ¬ g5 = w.heap.size := (by omega); have ne2 : ¬ g5 = w.heap.size + 1 := (by omega); have ne3 : ¬ w.heap.size = g5 := (by omega); have ne4 : ¬ w.heap.size + 1 = g5 := (by omega))
      have hJ := HJ.out
      have R6 := PRow.put (g := g5) (j := j) R5 hnn.symm (by omega) ⟨pt, F, true⟩
      simp only at R6
      have U0' := ((U0.other (a := ⟨g5, j * 3, none⟩) (by show w.heap.size ≠ g5; omega) (.int .i64 pt)).other (a := ⟨g5, j * 3 + 1, none⟩) (by show w.heap.size ≠ g5; omega) (.string F)).other (a := ⟨g5, j * 3 + 2, none⟩) (by show w.heap.size ≠ g5; omega) (.bool true)
      have U1' := ((U1.other (a := ⟨g5, j * 3, none⟩) (by show w.heap.size + 1 ≠ g5; omega) (.int .i64 pt)).other (a := ⟨g5, j * 3 + 1, none⟩) (by show w.heap.size + 1 ≠ g5; omega) (.string F)).other (a := ⟨g5, j * 3 + 2, none⟩) (by show w.heap.size + 1 ≠ g5; omega) (.bool true)
      have B6 : Below w.heap.size w (((w5.setCell ⟨g5, j * 3, none⟩ (.int .i64 pt)).setCell ⟨g5, j * 3 + 1, none⟩ (.string F)).setCell ⟨g5, j * 3 + 2, none⟩ (.bool true)) := (((B0.trans (BT.mono (by omega))).setCell (p := ⟨g5, j * 3, none⟩) (by show w.heap.size ≤ g5; omega) _).setCell (p := ⟨g5, j * 3 + 1, none⟩) (by show w.heap.size ≤ g5; omega) _).setCell (p := ⟨g5, j * 3 + 2, none⟩) (by show w.heap.size ≤ g5; omega) _
      generalize ((w5.setCell ⟨g5, j * 3, none⟩ (.int .i64 pt)).setCell ⟨g5, j * 3 + 1, none⟩ (.string F)).setCell ⟨g5, j * 3 + 2, none⟩ (.bool true) = w6 at *
      have U1'' := U1'.other (a := ⟨w.heap.size, 0, none⟩) (by show w.heap.size + 1 ≠ w.heap.size; omega) (.slice (some ⟨g5, 0, none⟩) n c1)
      refine bodyPost_ret (results_blk2 rfl _ _ (w.heap.size + 1) _ rfl (load_n (put_n U1'') rfl)) rfl ?_
      have hne : ∀ q, q < wr.heap.size → (Value.slice (some ⟨g5, 0, none⟩) n c1).ownBlock ≠ some q := fun q hq e => by have := (PRow.lt R6 q e).1; omega
      refine ⟨some ⟨g5, 0, none⟩, c1, rfl, ?_, below_put_n (B6.setCell (p := ⟨w.heap.size, 0, none⟩) (Nat.le_refl _) _) (by omega) _ _⟩
      rw [← HF.out]
      exact PRow.mono (B := wr.heap.size) (RRow.put_n (PRow.other (a := ⟨w.heap.size, 0, none⟩) R6 (hne w.heap.size (by omega)) _) (hne (w.heap.size + 1) (by omega)) _ _) (fun q hq => by have := (PRow.lt R6 q hq).1; omega)
end Go.Proofs.Ytgbljkbiigcofaa
