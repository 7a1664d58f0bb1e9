/- TrieKeeps' walk: what is handed in isn't kept, and answers are nobody's. -/
import Derived.Test.YtomfkdaaimhmkaaTKeep
namespace Go.Proofs.Ytomfkdaaimhmkaa
open Go.ChangeShapes Go.WideShapes Go.ChangeAt Go.RowKit Go.Maps
theorem wr_in (x : Int) : -9223372036854775808 ≤ wrap64 x ∧ wrap64 x ≤ 9223372036854775807 := by
  have h2 : IntKind.i64.min ≤ wrap64 x ∧ wrap64 x ≤ 9223372036854775807 := by simpa [Lit.wf] using wrap64_wf x
  exact h2
abbrev Z28 : Obj := .cells #[.map none, .bool false, .int .i64 0, .int .i64 0] 28
/-- Two tries side by side that keep the same. -/
structure Two (w0 wr : World) (Sa Sb : TS) (vl : List Int → Option Int) (N c d : Nat) : Prop where
  a : TA wr w0.heap.size w0.heap.size Sa vl N c
  b : TA wr w0.heap.size (w0.heap.size + 1) Sb vl N d
  ap : ∀ x, Sa.has x → ¬ Sb.has x
  bel : Below w0.heap.size w0 wr
theorem Two.keep {w0 wr w' : World} {Sa Sb : TS} {vl : List Int → Option Int} {N c d : Nat} (h : Two w0 wr Sa Sb vl N c d) (hb : Below w0.heap.size wr w') (ha : ∀ x, Sa.has x → w'.heap[x]? = wr.heap[x]?) (hb2 : ∀ x, Sb.has x → w'.heap[x]? = wr.heap[x]?) : Two w0 w' Sa Sb vl N c d := ⟨h.a.keep ha, h.b.keep hb2, h.ap, h.bel.trans hb⟩
theorem Two.below {w0 wr w' : World} {Sa Sb : TS} {vl : List Int → Option Int} {N c d : Nat} (h : Two w0 wr Sa Sb vl N c d) (hb : Below wr.heap.size wr w') : Two w0 w' Sa Sb vl N c d := ⟨h.a.below hb, h.b.below hb, h.ap, h.bel.trans (hb.mono h.bel.size)⟩
theorem Two.set {w0 wr : World} {Sa Sb : TS} {vl : List Int → Option Int} {N c d g k : Nat} (h : Two w0 wr Sa Sb vl N c d) (hg : w0.heap.size ≤ g) (ha : ¬ Sa.has g) (hb2 : ¬ Sb.has g) (v : Value) : Two w0 (wr.setCell ⟨g, k, none⟩ v) Sa Sb vl N c d :=
  h.keep ((Below.refl _ _).setCell hg _) (fun x hx => Below.heap_setCell _ _ _ x (fun e => ha ((show x = g from e) ▸ hx))) (fun x hx => Below.heap_setCell _ _ _ x (fun e => hb2 ((show x = g from e) ▸ hx)))
theorem two_new (w : World) : ∃ Sa Sb, Two w ((w.alloc Z28).alloc Z28) Sa Sb (fun _ => none) 0 0 0 := by
  obtain ⟨Sa, T1, h1⟩ := ta_newB w w.heap.size (Nat.le_refl _)
  obtain ⟨Sb, T2, h2⟩ := ta_newB (w.alloc Z28) w.heap.size (by simp)
  have e : (w.alloc Z28).heap.size = w.heap.size + 1 := by simp
  rw [e] at T2 h2
  refine ⟨Sa, Sb, ⟨T1.below (below_alloc _ _), T2, fun x hx hy => ?_, (below_alloc w _).alloc (by simp) _⟩⟩
  have := h1 x hx
  have := h2 x hy
  omega
/-- Put into the one, then into the other. -/
theorem Two.put {w0 wr w2 w3 w4 w5 : World} {Sa Sb Sa' Sb' : TS} {vl vl' : List Int → Option Int} {N M c d c' d' : Nat} (h : Two w0 wr Sa Sb vl N c d) (B2 : Below wr.heap.size wr w2)
    (T3 : TA w3 w0.heap.size w0.heap.size Sa' vl' M c') (O3 : Own Sa w2 Sa' w3 128) (B3 : Below w0.heap.size w2 w3) (B4 : Below w3.heap.size w3 w4)
    (T5 : TA w5 w0.heap.size (w0.heap.size + 1) Sb' vl' M d') (O5 : Own Sb w4 Sb' w5 128) (B5 : Below w0.heap.size w4 w5) : Two w0 w5 Sa' Sb' vl' M c' d' := by
  have hb2 := h.below B2
  obtain ⟨k1, k2⟩ := hb2.b.beside hb2.ap O3
  have k3 := T3.below B4
  obtain ⟨k4, k5⟩ := k3.beside (fun x h1 h2 => k2 x h2 h1) O5
  exact ⟨k4, T5, fun x h1 h2 => k5 x h2 h1, ((hb2.bel.trans B3).trans (B4.mono ((hb2.bel.trans B3).size))).trans B5⟩
/-- The rows of an answer may be written over. -/
structure EW (w : World) (B g : Nat) (E : List RE) : Prop where
  cells : ∀ t (ht : t < E.length), w.cell? ⟨g, t * 2, none⟩ = some E[t].1 ∧ w.cell? ⟨g, t * 2 + 1, none⟩ = some (.int .i64 E[t].2.2)
  own : ∀ e ∈ E, ∃ A, IOwn w B e.1 e.2.1.length A ∧ Sm A
  ne : ∀ e ∈ E, ∀ x, e.1.ownBlock = some x → x ≠ g
theorem EO.ew {T : TypeId} {w : World} {B : Nat} {g c : Nat} {E : List RE} (hT : 3 ≠ T) (h : EO T w B (.slice (some ⟨g, 0, none⟩) E.length c) E) : EW w B g E := by
  refine ⟨fun t ht => ?_, fun e he => ⟨_, h.own e he, h.sm e he⟩, fun e he x hx e2 => own_apart (h.own e he) h.row hT x hx (by rw [e2]; rfl)⟩
  obtain ⟨g', e, _, hc⟩ := h.cells (by omega)
  injection e with e
  injection e with e1 _ _
  subst e1
  exact hc t ht
theorem EW.below {w w' : World} {B g : Nat} {E : List RE} (h : EW w B g E) (hb : Below w.heap.size w w') : EW w' B g E := by
  refine ⟨fun t ht => ?_, fun e he => ?_, h.ne⟩
  · obtain ⟨h1, h2⟩ := h.cells t ht
    have hl := cell_lt h1
    exact ⟨by rw [hb.cell (by exact hl)]; exact h1, by rw [hb.cell (by exact hl)]; exact h2⟩
  · obtain ⟨A, h1, h2⟩ := h.own e he
    exact ⟨A, h1.keep (fun x hx => hb.block x (World.ownsRow.lt h1 x hx).2), h2⟩
theorem EW.write {w : World} {B B' g b n c k : Nat} {E : List RE} {Z : List Int} {x : Int} (h : EW w B g E) (hb : IOwn w B' (.slice (some ⟨b, 0, none⟩) n c) n Z) (hx : -9223372036854775808 ≤ x ∧ x ≤ 9223372036854775807) (hg : b ≠ g) : EW (w.setCell ⟨b, k, none⟩ (.int .i64 x)) B g E := by
  refine ⟨fun t ht => ?_, fun e he => ?_, h.ne⟩
  · obtain ⟨h1, h2⟩ := h.cells t ht
    have oc : ∀ o, (w.setCell ⟨b, k, none⟩ (.int .i64 x)).cell? ⟨g, o, none⟩ = w.cell? ⟨g, o, none⟩ := fun o => World.cell?_setCell_other _ _ _ _ (by intro e; injection e with e1 _ _; exact hg e1)
    exact ⟨(oc _).trans h1, (oc _).trans h2⟩
  · obtain ⟨A, h1, h2⟩ := h.own e he
    exact h1.write h2 hb hx
set_option maxRecDepth 100000 in
set_option maxHeartbeats 8000000 in
theorem trieKeeps_walk (a0 : Option Addr) (n0 c0 : Nat) (Z0 : GZ) (w : World) (G0 : GridI w a0 n0 Z0.A Z0.L Z0.C Z0.Z) :
   Calls Try.prog 5 #[.slice a0 n0 c0] w fun e w' => e = .returned (.bool true) ∧ Below w.heap.size w w' := by
  have hm0 := G0.max
  obtain ⟨Sa0, Sb0, T0⟩ := two_new w
  go_enter Try.func5, Try.ntmps5
  go_wp2_with fail
  generalize hw1 : (w.alloc Z28).alloc Z28 = w1 at *
  clear hw1
  go_loopg [5] n0 (fun r s5 wr => ∃ i : Nat, i ≤ n0 ∧ i ≤ 20 ∧ r = n0 - i ∧ s5 = .int .i64 (i : Int) ∧ ∃ Sa Sb vl c d, c ≤ i ∧ d ≤ i ∧ Two w wr Sa Sb vl (140 * i) c d)
  case atStart => exact ⟨0, by omega, by omega, by omega, rfl, Sa0, Sb0, _, 0, 0, by omega, by omega, T0⟩
  case round =>
    clear T0
    obtain ⟨i, hi, hi20, rfl, rfl, Sa, Sb, vl, cc, dd, hcc, hdd, TT⟩ := hrel
    by_cases hgo : i < n0 ∧ i < 20
    case pos =>
      obtain ⟨hl1, hl2⟩ := hgo
      obtain ⟨b, o, rfl, hcl⟩ := G0.cells (by omega)
      obtain ⟨h1, hI'⟩ := hcl i hl1
      have hlt : b < w.heap.size := by simpa using World.block_lt_of_cell? w _ h1
      have RD : Hid (∀ W, Below w.heap.size w W → W.cell? ⟨b, o + i, none⟩ = some (.slice (Z0.A i) (Z0.L i) (Z0.C i))) := fun W hW => by rw [hW.cell (by exact hlt)]; exact h1
      have h2 := RD.out wr TT.bel
      have F := few8_any _ _ _ _ 140 wr (hI'.below TT.bel) (by omega)
      have FF : Hid (∀ W, Below w.heap.size w W → Calls Try.prog 7 #[.slice (Z0.A i) (Z0.L i) (Z0.C i), .int .i64 (140 : Nat)] W fun e w' => ∃ b c, e = .returned (.slice (some ⟨b, 0, none⟩) ((Z0.Z i).take 140).length c) ∧ IOwn w' W.heap.size (.slice (some ⟨b, 0, none⟩) ((Z0.Z i).take 140).length c) ((Z0.Z i).take 140).length ((Z0.Z i).take 140) ∧ Below W.heap.size W w') := fun W hW => few8_any _ _ _ _ 140 W (hI'.below hW) (by omega)
      have hs : Hid (Sm ((Z0.Z i).take 140)) := hI'.take_small 140
      have hZl : ((Z0.Z i).take 140).length ≤ 140 := by rw [List.length_take]; omega
      have HT : Hid (Two w wr Sa Sb vl (140 * i) cc dd) := TT
      clear hcl h1 hI' G0 TT
      generalize ((Z0.Z i).take 140) = Y at *
      obtain ⟨m, hm⟩ : ∃ m, m = Y.length := ⟨_, rfl⟩
      rw [← hm] at F FF hZl
      clear hm
      generalize Z0.A i = ad at *
      generalize Z0.L i = ln at *
      generalize Z0.C i = cp0 at *
      go_wp2_with (first
        | (go_at_call 7; refine F.mono ?_; clear F; rintro e w2 ⟨b2, cp, rfl, O2, B2⟩; have P := put_some cp b2 _ _ (i : Int) w2 _ _ _ _ _ _ (HT.out.a.below B2) (O2.tk hs.out (by omega)) (fun h => O2.first hs.out h) hZl (by omega) (by omega))
        | (go_at_call 9; refine P.mono ?_; clear P; rintro e w3 ⟨⟨x, rfl⟩, ⟨c', Sa', hc', T3, O3⟩, B3⟩; have B13 := (HT.out.below B2).bel.trans B3; have h3 := RD.out w3 B13; have F := FF.out w3 B13; have P2 := trivial)
        | (go_at_call 7; refine F.mono ?_; clear F P2; rintro e w4 ⟨b4, cp4, rfl, O4, B4⟩; have P := put_some cp4 b4 _ _ (i : Int) w4 _ _ _ _ _ _ (((HT.out.below B2).b.beside (HT.out.below B2).ap O3).1.below B4) (O4.tk hs.out (by omega)) (fun h => O4.first hs.out h) hZl (by omega) (by omega))
        | (go_at_call 9; refine P.mono ?_; clear P; rintro e w5 ⟨⟨x5, rfl⟩, ⟨d', Sb', hd', T5, O5⟩, B5⟩))
      have TW : Two w w5 Sa' Sb' (putV vl Y i) (140 * i + 140) c' d' := HT.out.put B2 T3 O3 B3 B4 T5 O5 B5
      have hb2w : wr.heap.size ≤ b2 ∧ b2 < w2.heap.size := World.ownsRow.lt O2 b2 rfl
      obtain ⟨P3, q3⟩ := O2.beside (S := Sa) (fun x hx h => by have e : b2 = x := (by injection hx); have := HT.out.a.has_lt h; omega) O3
      have P4 := P3.keep (w' := w4) (fun x hx => B4.block x (World.ownsRow.lt P3 x hx).2)
      obtain ⟨P5, q5⟩ := P4.beside (S := Sb) (fun x hx h => by have e : b2 = x := (by injection hx); have := HT.out.b.has_lt h; omega) O5
      have nA : ¬ Sa'.has b2 := q3 b2 rfl
      have nB : ¬ Sb'.has b2 := q5 b2 rfl
      have hwb : w.heap.size ≤ b2 := Nat.le_trans HT.out.bel.size hb2w.1
      have hwr := HT.out.bel.size
      have hZ2 := hs.out
      clear HT O2 B2 T3 O3 B3 B4 T5 O5 B5 P3 P4 q3 q5 hb2w O4 FF RD h2 h3 B13
      go_loopg [38] m (fun r s38 wq => ∃ (k : Nat) (A : List Int), k ≤ m ∧ r = m - k ∧ s38 = .int .i64 (k : Int) ∧ IOwn wq w.heap.size (.slice (some ⟨b2, 0, none⟩) m cp) m A ∧ Sm A ∧ Two w wq Sa' Sb' (putV vl Y i) (140 * i + 140) c' d')
      case atStart => exact ⟨0, Y, by omega, by omega, rfl, ownsRow_mono P5 hwr, hZ2, TW⟩
      case round =>
      clear TW P5 hZ2
      obtain ⟨k, A, hk, rfl, rfl, PA, hA, TW⟩ := hrel
      by_cases hlt : k < m
      case pos =>
        obtain ⟨x1, x2, x3, x4, x5, x6⟩ := PA.cell hA hlt
        have HPA : Hid (IOwn wr w.heap.size (.slice (some ⟨b2, 0, none⟩) m cp) m A) := PA
        have HTW : Hid (Two w wr Sa' Sb' (putV vl Y i) (140 * i + 140) c' d') := TW
        have HA : Hid (Sm A) := hA
        clear PA TW hA
        generalize el A k = z at *
        go_wp2_with fail
        go_roundg (m - (k + 1))
        case measure => omega
        case rel =>
          obtain ⟨A', p1, p2⟩ := HPA.out.write (k := k) HA.out HPA.out (wr_in (z + 5))
          exact ⟨k + 1, A', by omega, rfl, by go_num, p1, p2, HTW.out.set hwb nA nB _⟩
      case neg =>
        obtain rfl : k = m := by omega
        go_wp2_with fail
        go_roundg (n0 - (i + 1))
        case measure => omega
        case rel => exact ⟨i + 1, by omega, by omega, rfl, by go_num, Sa', Sb', _, c', d', by omega, by omega, TW⟩
    case neg =>
      have hx : n0 ≤ i ∨ (i < n0 ∧ 20 ≤ i) := by omega
      have CA := all_any wr _ _ _ _ _ _ TT.a (by omega)
      have HT : Hid (Two w wr Sa Sb vl (140 * i) cc dd) := TT
      have lA : Hid (∀ x, Sa.has x → x < wr.heap.size) := fun x hx => TT.a.has_lt hx
      have lB : Hid (∀ x, Sb.has x → x < wr.heap.size) := fun x hx => TT.b.has_lt hx
      have hB6 : Hid (w.heap.size ≤ wr.heap.size) := TT.bel.size
      clear G0 TT hgo
      obtain ⟨B6, hB6e⟩ : ∃ B6, B6 = wr.heap.size := ⟨_, rfl⟩
      rw [← hB6e] at lA lB hB6 CA
      have HS : Hid (∀ (E : List RE) (ao : Option Addr) (c : Nat) (w6 : World), EOwn w6 B6 (.slice ao E.length c) E → 0 < E.length → ∃ g, ao = some ⟨g, 0, none⟩ ∧ EW w6 B6 g E) := fun E ao c w6 h hp => by
        obtain ⟨g, rfl, _, _⟩ := h.eo.cells hp
        exact ⟨g, rfl, EO.ew (by decide) h.eo⟩
      rcases hx with hx | ⟨hx, hx2⟩ <;>
       (go_wp2_with (go_at_call 20; refine CA.mono ?_; clear CA; rintro e w6 ⟨ao, ce, E, rfl, X6, _, l6, q6, BB6⟩)
        have T6 := HT.out.below (hB6e ▸ BB6)
        have ew6 := HS.out E ao ce w6 X6
        clear X6 HT BB6 HS hB6e
        go_loopg [50] E.length (fun r s50 wq => ∃ j : Nat, j ≤ E.length ∧ r = E.length - j ∧ s50 = .int .i64 (j : Int) ∧ Two w wq Sa Sb vl (140 * i) cc dd ∧ (0 < E.length → ∃ g, ao = some ⟨g, 0, none⟩ ∧ EW wq B6 g E))
        case atStart => exact ⟨0, by omega, by omega, rfl, T6, ew6⟩
        case round =>
          clear T6 ew6
          obtain ⟨j, hj, rfl, rfl, TJ, ewJ⟩ := hrel
          by_cases hlt : j < E.length
          case neg =>
            obtain rfl : j = E.length := by omega
            have AW := awake_any wr
            have HTJ : Hid (Two w wr Sa Sb vl (140 * i) cc dd) := TJ
            clear TJ ewJ
            go_wp2_with (first
              | (go_at_call 8; refine AW.mono ?_; clear AW; rintro e w7 ⟨rfl, B7⟩; have T7 := HTJ.out.below B7; have CA := all_any w7 _ _ _ _ _ _ T7.a (by omega))
              | (go_at_call 20; refine CA.mono ?_; clear CA; rintro e w8 ⟨ao8, c8, E8, rfl, X8, Q8, l8, q8, B8⟩; have CT := told_any w8 _ _ _ _ X8.eo l8 B8.size)
              | (go_at_call 19; refine CT.mono ?_; clear CT; rintro e w9 ⟨a9, c9, rfl, Y9, B9⟩; have T9 := (T7.below B8).below B9; have CA2 := all_any w9 _ _ _ _ _ _ T9.b (by omega))
              | (go_at_call 20; refine CA2.mono ?_; clear CA2; rintro e w10 ⟨ao10, c10, E10, rfl, X10, Q10, l10, q10, B10⟩; have CT2 := told_any w10 _ _ _ _ X10.eo l10 B10.size)
              | (go_at_call 19; refine CT2.mono ?_; clear CT2; rintro e w11 ⟨a11, c11, rfl, Y11, B11⟩; have CS := same_yes2 w11 _ _ _ _ _ _ _ _ ((Y9.below B10).below B11) Y11 (rowsOf_eq Q8 Q10) l8 (fun e he => Nat.le_trans (q8 e he) (by omega)))
              | (go_at_call 18; refine CS.mono ?_; clear CS; rintro e w12 ⟨rfl, m12, h12⟩; have B12 : Below w11.heap.size w11 w12 := (by rw [h12]; exact below_drewN (Below.refl _ _) m12); clear h12))
            go_ret
            exact ⟨rfl, below_then (below_then (below_then T9.bel B10) B11) B12⟩
          case pos =>
            obtain ⟨g, rfl, ew⟩ := ewJ (by omega)
            obtain ⟨k0, k1⟩ := ew.cells j hlt
            obtain ⟨A, hO, hA⟩ := ew.own _ (List.getElem_mem hlt)
            obtain ⟨sa, sc, es, hR⟩ := hO.arg hA
            have hmem := List.getElem_mem hlt
            have hq := q6 _ hmem
            rw [es] at k0
            have HE : Hid (EW wr B6 g E) := ew
            have HTJ : Hid (Two w wr Sa Sb vl (140 * i) cc dd) := TJ
            have HBA : Hid (Below wr.heap.size wr (wr.alloc (.cells #[.slice sa E[j].2.1.length sc, .int .i64 E[j].2.2] 59))) := below_alloc _ _
            have HEB : Hid ((wr.alloc (.cells #[.slice sa E[j].2.1.length sc, .int .i64 E[j].2.2] 59)).cell? ⟨wr.heap.size, 0, none⟩ = some (.slice sa E[j].2.1.length sc)) := (by show _ = _; rw [World.cell?_alloc_at _ _ _ _ (by simp)]; rfl)
            have HLT : Hid (∀ x, (Value.slice sa E[j].2.1.length sc).ownBlock = some x → x < wr.heap.size) := fun x hx => (World.ownsRow.lt hO x (by rw [es]; exact hx)).2
            clear ew ewJ TJ hO hA hR A
            have hBW : Hid (wr.heap.size = wr.heap.size) := rfl
            go_wp2_with fail
            have EW0 := HE.out.below HBA.out
            have TW0 := HTJ.out.below HBA.out
            have EC0 := HEB.out
            clear HE HTJ HBA HEB k0 k1 hBW
            generalize wr.alloc (.cells #[.slice sa E[j].2.1.length sc, .int .i64 E[j].2.2] 59) = wv at *
            obtain ⟨eb, heb⟩ : ∃ eb, eb = wr.heap.size := ⟨_, rfl⟩
            rw [← heb] at EC0 HLT ⊢
            clear heb
            have hes : Hid (E[j].1 = .slice sa E[j].2.1.length sc) := es
            have hme : Hid (E[j] ∈ E) := hmem
            clear es hmem
            generalize E[j] = ej at *
            obtain ⟨n, hn⟩ : ∃ n, n = ej.2.1.length := ⟨_, rfl⟩
            rw [← hn] at EC0 HLT hq ⊢
            go_loopg [57] n (fun r s57 wz => ∃ k : Nat, k ≤ n ∧ r = n - k ∧ s57 = .int .i64 (k : Int) ∧ Two w wz Sa Sb vl (140 * i) cc dd ∧ EW wz B6 g E ∧ wz.cell? ⟨eb, 0, none⟩ = some (.slice sa n sc))
            case atStart => exact ⟨0, by omega, by omega, rfl, TW0, EW0, EC0⟩
            case round =>
              clear TW0 EW0 EC0
              obtain ⟨k, hk, rfl, rfl, TK, EK, CK⟩ := hrel
              by_cases hlk : k < n
              case neg =>
                obtain rfl : k = n := by omega
                go_wp2_with fail
                go_roundg (E.length - (j + 1))
                case measure => omega
                case rel => exact ⟨j + 1, by omega, rfl, by go_num, TK, fun _ => ⟨g, rfl, EK⟩⟩
              case pos =>
                obtain ⟨A, hO, hA⟩ := EK.own _ hme.out
                rw [hes.out, ← hn] at hO
                obtain ⟨b, rfl⟩ : ∃ b, sa = some ⟨b, 0, none⟩ := by
                  rcases hO.2 with ⟨_, h0⟩ | ⟨b, cap, cur, hv, _⟩
                  · omega
                  · injection hv with hv _ _; exact ⟨b, hv⟩
                obtain ⟨x1, x2, x3, x4, x5, x6⟩ := hO.cell hA hlk
                have hbl := (World.ownsRow.lt hO b rfl).1
                have hbe : b ≠ eb := fun e => by have := HLT.out b rfl; omega
                have hbg : b ≠ g := EK.ne _ hme.out b (by rw [hes.out]; rfl)
                have HOX : Hid (∀ x : Int, -9223372036854775808 ≤ x ∧ x ≤ 9223372036854775807 → EW (wr.setCell ⟨b, k, none⟩ (.int .i64 x)) B6 g E) := fun x hx => EK.write hO hx hbg
                have HTX : Hid (∀ v, Two w (wr.setCell ⟨b, k, none⟩ v) Sa Sb vl (140 * i) cc dd) := fun v => TK.set (by have := hB6.out; omega) (fun h => by have := lA.out b h; omega) (fun h => by have := lB.out b h; omega) v
                have HCX : Hid (∀ v, (wr.setCell ⟨b, k, none⟩ v).cell? ⟨eb, 0, none⟩ = some (.slice (some ⟨b, 0, none⟩) n sc)) := fun v => (World.cell?_setCell_other _ _ _ _ (by intro e; injection e with e1 _ _; exact hbe e1)).trans CK
                clear hO hA TK EK
                generalize el A k = z at *
                go_wp2_with fail
                go_roundg (n - (k + 1))
                case measure => omega
                case rel => exact ⟨k + 1, by omega, rfl, by go_num, HTX.out _, HOX.out _ (wr_in (z + 7)), HCX.out _⟩)
end Go.Proofs.Ytomfkdaaimhmkaa
