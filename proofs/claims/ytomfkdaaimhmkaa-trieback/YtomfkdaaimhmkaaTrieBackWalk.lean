/- TrieBack's walk: rows that are put and dropped leave nothing behind. -/
import Derived.Test.YtomfkdaaimhmkaaTBack
import Derived.Deep.CutRange
namespace Go.Proofs.Ytomfkdaaimhmkaa
open Go.ChangeShapes Go.WideShapes Go.ChangeAt Go.RowKit Go.Maps
theorem wr_in (x : Int) : -9223372036854775808 ≤ wrap64 x ∧ wrap64 x ≤ 9223372036854775807 := by
  have h2 : IntKind.i64.min ≤ wrap64 x ∧ wrap64 x ≤ 9223372036854775807 := by simpa [Lit.wf] using wrap64_wf x
  exact h2
theorem wrapW (x : Int) (h : -9223372036854775808 ≤ x ∧ x ≤ 9223372036854775807) : wrap64 x = x := by
  unfold wrap64; omega
set_option maxRecDepth 100000 in
set_option maxHeartbeats 16000000 in
theorem trieBack_walk (a0 : Option Addr) (n0 c0 : Nat) (Z0 : GZ) (a1 : Option Addr) (n1 c1 : Nat) (Z1 : GZ) (a2 : Option Addr) (on c2 : Nat) (Z2 : List Int) (w : World) (G0 : GridI w a0 n0 Z0.A Z0.L Z0.C Z0.Z) (G1 : GridI w a1 n1 Z1.A Z1.L Z1.C Z1.Z) (G2 : IArg w a2 on c2 Z2) :
   Calls Try.prog 6 #[.slice a0 n0 c0, .slice a1 n1 c1, .slice a2 on c2] w fun e w' => e = .returned (.bool true) ∧ Below w.heap.size w w' := by
  have hm0 := G0.max
  have hm1 := G1.max
  have hm2 := G2.row.max
  obtain ⟨Sa0, Sb0, T0⟩ := bk_new w
  have mkm : ∀ W : World, (Instr.makeMap 60 none).run Try.prog W = .ok (.map (some W.heap.size)) (W.alloc (.map #[] 0)) := fun W => by first | rfl | simp [Instr.makeMap] | kernel_rfl
  go_enter Try.func6, Try.ntmps6
  go_wp2_with fail
  generalize hw1 : ((w.alloc Z28).alloc Z28).alloc (.map #[] 0) = w1 at *
  clear hw1
  go_loopg [10] n0 (fun r s10 wr => ∃ (i : Nat) (Sa Sb : TS) (va : List Int → Option Int) (cc dd : Nat), i ≤ n0 ∧ i ≤ 20 ∧ r = n0 - i ∧ s10 = .int .i64 (i : Int) ∧ cc ≤ i ∧ dd ≤ i ∧ Bk w wr Sa Sb va va (140 * i) cc dd 0 (fun _ => false))
  case atStart => exact ⟨0, Sa0, Sb0, _, 0, 0, by omega, by omega, by omega, rfl, by omega, by omega, T0⟩
  case round =>
    clear T0
    obtain ⟨i, Sa, Sb, va, cc, dd, hi, hi20, rfl, rfl, hcc, hdd, BK⟩ := hrel
    by_cases hgo : i < n0 ∧ i < 20
    case pos =>
      obtain ⟨hl1, hl2⟩ := hgo
      obtain ⟨bb, oo, rfl, hcl⟩ := G0.cells (by omega)
      obtain ⟨h1, hI'⟩ := hcl i hl1
      have hlt : bb < w.heap.size := by simpa using World.block_lt_of_cell? w _ h1
      have RD : Hid (∀ W, Below w.heap.size w W → W.cell? ⟨bb, oo + i, none⟩ = some (.slice (Z0.A i) (Z0.L i) (Z0.C i))) := fun W hW => by rw [hW.cell (by exact hlt)]; exact h1
      have FF : Hid (∀ W, Below w.heap.size w W → Calls Try.prog 7 #[.slice (Z0.A i) (Z0.L i) (Z0.C i), .int .i64 (140 : Nat)] W fun e w' => ∃ b c, e = .returned (.slice (some ⟨b, 0, none⟩) ((Z0.Z i).take 140).length c) ∧ IOwn w' W.heap.size (.slice (some ⟨b, 0, none⟩) ((Z0.Z i).take 140).length c) ((Z0.Z i).take 140).length ((Z0.Z i).take 140) ∧ Below W.heap.size W w') := fun W hW => few8_any _ _ _ _ 140 W (hI'.below hW) (by omega)
      have hs : Hid (Sm ((Z0.Z i).take 140)) := hI'.take_small 140
      have hZl : ((Z0.Z i).take 140).length ≤ 140 := by rw [List.length_take]; omega
      clear hcl h1 hI' hlt
      obtain ⟨Y, hY⟩ : ∃ Y, Y = (Z0.Z i).take 140 := ⟨_, rfl⟩
      rw [← hY] at FF hs hZl
      have HYE : Hid (Y = (Z0.Z i).take 140) := hY
      clear hY
      obtain ⟨m, hm⟩ : ∃ m, m = Y.length := ⟨_, rfl⟩
      rw [← hm] at FF hZl
      clear hm
      generalize Z0.A i = ad at *
      generalize Z0.L i = ln at *
      generalize Z0.C i = cp0 at *
      have h2 := RD.out wr BK.duo.bel
      have F := FF.out wr BK.duo.bel
      have HB : Hid (Bk w wr Sa Sb va va (140 * i) cc dd 0 (fun _ => false)) := BK
      clear BK
      go_wp2_with (first
        | (go_at_call 7; refine F.mono ?_; clear F; rintro e w2 ⟨b2, cp, rfl, O2, B2⟩; have K2 := HB.out.below B2; have P := put_some cp b2 _ _ (1 : Int) w2 _ _ _ _ _ _ K2.duo.a (O2.tk hs.out (by omega)) (fun h => O2.first hs.out h) hZl (by omega) (by omega))
        | (go_at_call 9; refine P.mono ?_; clear P; rintro e w3 ⟨⟨x, rfl⟩, ⟨c', Sa', hc', T3, O3⟩, B3⟩; have K3 := K2.putA T3 O3 B3 (by omega); have h3 := RD.out w3 K3.duo.bel; have F2 := FF.out w3 K3.duo.bel)
        | (go_at_call 7; refine F2.mono ?_; clear F2; rintro e w4 ⟨b4, cp4, rfl, O4, B4⟩; have K4 := K3.below B4; have P2 := put_some cp4 b4 _ _ (1 : Int) w4 _ _ _ _ _ _ (show TA w4 w.heap.size (w.heap.size + 1) Sb va (140 * i) dd from ((HB.out.duo.below B2).b.beside (HB.out.duo.below B2).ap O3).1.below B4) (O4.tk hs.out (by omega)) (fun h => O4.first hs.out h) hZl (by omega) (by omega))
        | (go_at_call 9; refine P2.mono ?_; clear P2; rintro e w5 ⟨⟨x5, rfl⟩, ⟨d', Sb', hd', T5, O5⟩, B5⟩))
      have K5 := K4.putB T5 O5 B5 (Nat.le_refl _)
      go_roundg (n0 - (i + 1))
      case measure => omega
      case rel => exact ⟨i + 1, Sa', Sb', _, c', d', by omega, by omega, rfl, by go_num, by omega, by omega, K5⟩
    case neg =>
      have hx : n0 ≤ i ∨ (i < n0 ∧ 20 ≤ i) := by omega
      clear hgo
      go_upto_region 4 with fail
      go_cut [24] from 17 to 24 (fun s wc => s = .bool false ∧ wc = wr)
      case first =>
        rcases hx with hx | ⟨hx, hx2⟩
        · go_wp2_with fail
          go_meet
          case rel => exact ⟨rfl, rfl⟩
        · go_wp2_with fail
          go_meet
          case rel => exact ⟨congrArg Value.bool (decide_eq_false (by omega)), rfl⟩
      case rest =>
      obtain ⟨rfl, hwc⟩ := hcut
      replace hwc := hwc.symm
      subst hwc
      go_wp2_with fail
      have BK0 : Bk w wr Sa Sb va va (140 * i) cc dd 0 (fun _ => false) := BK
      clear BK
      have hN1 : 140 * i ≤ 2800 := by omega
      generalize 140 * i = N1 at *
      go_loopg [11] n1 (fun r s11 wr => ∃ (i : Nat) (Sa : TS) (va' : List Int → Option Int) (c' N : Nat) (f : Int → Bool), i ≤ n1 ∧ i ≤ 20 ∧ r = n1 - i ∧ s11 = .int .i64 (i : Int) ∧ c' ≤ 20 + i ∧ N ≤ 2800 + 140 * i ∧ Bk w wr Sa Sb va' va N c' dd i f ∧ Mix va' va (fun j => (Z1.Z j).take 140) (fun j => j < i) ∧ ∀ j : Nat, j < i → f (j : Int) = (va ((Z1.Z j).take 140)).isSome)
      case atStart => exact ⟨0, Sa, va, cc, N1, _, by omega, by omega, by omega, rfl, by omega, by omega, BK0, Mix.refl _ _ _, fun j hj => by omega⟩
      case round =>
      clear BK0 hN1 hcc hi hi20 hx
      generalize va = vs at *
      obtain ⟨i, Sa, va, cc, N, f, hi, hi20, rfl, rfl, hcc, hNN, BK, MX, hf⟩ := hrel
      by_cases hgo : i < n1 ∧ i < 20
      case pos =>
        obtain ⟨hl1, hl2⟩ := hgo
        obtain ⟨bb, oo, rfl, hcl⟩ := G1.cells (by omega)
        obtain ⟨h1, hI'⟩ := hcl i hl1
        have hlt : bb < w.heap.size := by simpa using World.block_lt_of_cell? w _ h1
        have RD : Hid (∀ W, Below w.heap.size w W → W.cell? ⟨bb, oo + i, none⟩ = some (.slice (Z1.A i) (Z1.L i) (Z1.C i))) := fun W hW => by rw [hW.cell (by exact hlt)]; exact h1
        have FF : Hid (∀ W, Below w.heap.size w W → Calls Try.prog 7 #[.slice (Z1.A i) (Z1.L i) (Z1.C i), .int .i64 (140 : Nat)] W fun e w' => ∃ b c, e = .returned (.slice (some ⟨b, 0, none⟩) ((Z1.Z i).take 140).length c) ∧ IOwn w' W.heap.size (.slice (some ⟨b, 0, none⟩) ((Z1.Z i).take 140).length c) ((Z1.Z i).take 140).length ((Z1.Z i).take 140) ∧ Below W.heap.size W w') := fun W hW => few8_any _ _ _ _ 140 W (hI'.below hW) (by omega)
        have hs : Hid (Sm ((Z1.Z i).take 140)) := hI'.take_small 140
        have hZl : ((Z1.Z i).take 140).length ≤ 140 := by rw [List.length_take]; omega
        clear hcl h1 hI' hlt
        obtain ⟨Y, hY⟩ : ∃ Y, Y = (Z1.Z i).take 140 := ⟨_, rfl⟩
        rw [← hY] at FF hs hZl
        have HYE : Hid (Y = (Z1.Z i).take 140) := hY
        clear hY
        obtain ⟨m, hm⟩ : ∃ m, m = Y.length := ⟨_, rfl⟩
        rw [← hm] at FF hZl
        clear hm
        generalize Z1.A i = ad at *
        generalize Z1.L i = ln at *
        generalize Z1.C i = cp0 at *
        have HYW : Hid (Y = (Z1.Z i).take 140) := HYE
        have h2 := RD.out wr BK.duo.bel
        have F := FF.out wr BK.duo.bel
        have HB : Hid (Bk w wr Sa Sb va vs N cc dd i f) := BK
        have HMX : Hid (Mix va vs (fun j => (Z1.Z j).take 140) (fun j => j < i)) := MX
        have HFF : Hid (∀ j : Nat, j < i → f (j : Int) = (vs ((Z1.Z j).take 140)).isSome) := hf
        clear BK MX hf
        have hwf := wfI (i : Int) (by omega) (by omega)
        rcases hvs : vs Y with _ | vv
        · have hvs0 := hvs
          replace hvs : Hid (vs Y = _) := hvs0
          clear hvs0
          go_wp2_with (first
            | (go_at_call 7; refine F.mono ?_; clear F; rintro e w2 ⟨b2, cp, rfl, O2, B2⟩; have K2 := HB.out.below B2; have G := get_any (some ⟨b2, 0, none⟩) _ cp _ w2 _ _ _ _ _ _ K2.duo.b (O2.tk hs.out (by omega)); rw [hvs.out] at G)
            | (go_at_call 15; refine G.mono ?_; clear G; rintro e w3 ⟨rfl, hw3⟩; replace hw3 := hw3.symm; subst hw3; obtain ⟨w4, hrun, K4, ht4⟩ := K2.k.store (by unfold maxLen; omega) (i : Int) hwf false; have K4b := K2.store K4 ht4; clear K4 ht4; have h4 := RD.out w4 K4b.duo.bel; have F2 := FF.out w4 K4b.duo.bel)
            | (go_at_call 7; refine F2.mono ?_; clear F2; rintro e w5 ⟨b5, cp5, rfl, O5, B5⟩; have K5 := K4b.below B5; have P := put_some cp5 b5 _ _ (2 : Int) w5 _ _ _ _ _ _ K5.duo.a (O5.tk hs.out (by omega)) (fun h => O5.first hs.out h) hZl (by omega) (by omega))
            | (go_at_call 9; refine P.mono ?_; clear P; rintro e w6 ⟨⟨x, rfl⟩, ⟨c', Sa', hc', T6, O6⟩, B6⟩))
          have K6 := K5.putA T6 O6 B6 (Nat.le_add_right _ 140)
          have HF2 : ∀ j : Nat, j < i + 1 → (if (j : Int) = (i : Int) then false else f (j : Int)) = (vs ((Z1.Z j).take 140)).isSome := fun j hj => (by
            by_cases e : j = i
            · subst e; rw [if_pos rfl, ← HYW.out, hvs.out]; rfl
            · rw [if_neg (by omega)]; exact HFF.out j (by omega))
          have MX2 : Mix (putV va Y 2) vs (fun j => (Z1.Z j).take 140) (fun j => j < i + 1) := (by have h := (HMX.out.mono (Q := fun j => j < i + 1) (fun j hj _ => by omega)).put (i := i) (by omega) (show vs ((Z1.Z i).take 140) = none by rw [← HYW.out]; exact hvs.out) 2; rw [← HYW.out] at h; exact h)
          go_roundg (n1 - (i + 1))
          case measure => omega
          case rel => exact ⟨i + 1, Sa', putV va Y 2, c', N + 140, _, by omega, by omega, rfl, by go_num, by omega, by omega, K6, MX2, HF2⟩
        · have hvs0 := hvs
          replace hvs : Hid (vs Y = _) := hvs0
          clear hvs0
          go_wp2_with (first
            | (go_at_call 7; refine F.mono ?_; clear F; rintro e w2 ⟨b2, cp, rfl, O2, B2⟩; have K2 := HB.out.below B2; have G := get_any (some ⟨b2, 0, none⟩) _ cp _ w2 _ _ _ _ _ _ K2.duo.b (O2.tk hs.out (by omega)); rw [hvs.out] at G)
            | (go_at_call 15; refine G.mono ?_; clear G; rintro e w3 ⟨rfl, hw3⟩; replace hw3 := hw3.symm; subst hw3; obtain ⟨w4, hrun, K4, ht4⟩ := K2.k.store (by unfold maxLen; omega) (i : Int) hwf true; have K4b := K2.store K4 ht4; clear K4 ht4))
          have HF2 : ∀ j : Nat, j < i + 1 → (if (j : Int) = (i : Int) then true else f (j : Int)) = (vs ((Z1.Z j).take 140)).isSome := fun j hj => (by
            by_cases e : j = i
            · subst e; rw [if_pos rfl, ← HYW.out, hvs.out]; rfl
            · rw [if_neg (by omega)]; exact HFF.out j (by omega))
          have MX2 : Mix va vs (fun j => (Z1.Z j).take 140) (fun j => j < i + 1) := HMX.out.mono (fun j hj _ => by omega)
          go_roundg (n1 - (i + 1))
          case measure => omega
          case rel => exact ⟨i + 1, Sa, va, cc, N, _, by omega, by omega, rfl, by go_num, by omega, by omega, K4b, MX2, HF2⟩
      case neg =>
        have hx : n1 ≤ i ∨ (i < n1 ∧ 20 ≤ i) := by omega
        clear hgo
        go_upto_region 9 with fail
        go_cut [46] from 39 to 46 (fun s wc => s = .bool false ∧ wc = wr)
        case first =>
          rcases hx with hx | ⟨hx, hx2⟩
          · go_wp2_with fail
            go_meet
            case rel => exact ⟨rfl, rfl⟩
          · go_wp2_with fail
            go_meet
            case rel => exact ⟨congrArg Value.bool (decide_eq_false (by omega)), rfl⟩
        case rest =>
        obtain ⟨rfl, hwc⟩ := hcut
        replace hwc := hwc.symm
        subst hwc
        go_wp2_with fail
        have HB0 : Bk w wr Sa Sb va vs N cc dd i f := BK
        have HX : Hid (∀ j : Nat, j < n1 → j < 20 → f (j : Int) = (vs ((Z1.Z j).take 140)).isSome) := fun j h1 h2 => hf j (by omega)
        have MX0 : Mix va vs (fun j => (Z1.Z j).take 140) (fun j => j < n1 ∧ j < 20 ∧ (on ≤ 180 → 0 ≤ on + j)) := MX.mono (fun j hj _ => ⟨by omega, by omega, fun _ => by omega⟩)
        have hN5 : N ≤ 10000 := by omega
        have hc5 : cc ≤ 40 := by omega
        clear BK MX hf hx hcc hNN
        obtain ⟨lim, hlim0⟩ : ∃ lim : Int, lim = wrap64 ((on : Int) + 20) := ⟨_, rfl⟩
        have hlimR := wr_in ((on : Int) + 20)
        have hlim : wrap64 ((on : Int) + 20) = lim := hlim0.symm
        have hlimE : Hid (on ≤ 180 → lim = (on : Int) + 20) := fun h => by rw [hlim0]; exact wrapW _ (by omega)
        rw [← hlim0] at hlimR
        clear hlim0
        generalize hmi : i = mi at *
        clear hmi
        go_loopg [14] lim.toNat (fun r s14 wr => ∃ (i : Nat) (Sa : TS) (va' : List Int → Option Int) (c' : Nat), (i : Int) ≤ max lim 0 ∧ r = lim.toNat - i ∧ s14 = .int .i64 (i : Int) ∧ c' ≤ 40 ∧ Bk w wr Sa Sb va' vs N c' dd mi f ∧ Mix va' vs (fun j => (Z1.Z j).take 140) (fun j => j < n1 ∧ j < 20 ∧ (on ≤ 180 → i ≤ on + j)))
        case atStart => exact ⟨0, Sa, va, cc, by omega, by omega, rfl, by omega, HB0, MX0⟩
        case round =>
        clear HB0 MX0 hc5
        obtain ⟨i, Sa, va, cc, hi3, rfl, rfl, hcc, BK, MX⟩ := hrel
        by_cases hlt : (i : Int) < lim
        case neg =>
          have AW := awake_any wr
          have HB : Hid (Bk w wr Sa Sb va vs N cc dd mi f) := BK
          have hge : lim ≤ (i : Int) := by omega
          by_cases hon : on ≤ 180
          · have hEQ : va = vs := MX.eq (fun j hj => by have h1 := hj.2.2 hon; have h2 := hlimE.out hon; have := hj.2.1; omega)
            subst hEQ
            have hcd : cc = dd := HB.out.duo.a.cnt_eq HB.out.duo.b
            subst hcd
            clear BK MX
            have hon' : ¬ (180 : Int) < (on : Int) := by omega
            have hlim2 : (on : Int) + 20 ≤ (i : Int) := by have := hlimE.out hon; omega
            have hlim3 : ¬ (i : Int) < (on : Int) + 20 := by omega
            have hond : decide ((180 : Int) < (on : Int)) = false := decide_eq_false hon'
            go_wp2_with (first
              | (go_at_call 8; refine AW.mono ?_; clear AW; rintro e w7 ⟨rfl, B7⟩; have K7 := HB.out.below B7; have CA := all_any w7 _ _ _ _ _ _ K7.duo.a (by omega))
              | (go_at_call 20; refine CA.mono ?_; clear CA; rintro e w8 ⟨ao8, c8, E8, rfl, X8, Q8, l8, q8, B8⟩; have CT := told_any w8 _ _ _ _ X8.eo l8 B8.size)
              | (go_at_call 19; refine CT.mono ?_; clear CT; rintro e w9 ⟨a9, c9, rfl, Y9, B9⟩; have K9 := (K7.below B8).below B9; have CA2 := all_any w9 _ _ _ _ _ _ K9.duo.b (by omega))
              | (go_at_call 20; refine CA2.mono ?_; clear CA2; rintro e w10 ⟨ao10, c10, E10, rfl, X10, Q10, l10, q10, B10⟩; have CT2 := told_any w10 _ _ _ _ X10.eo l10 B10.size)
              | (go_at_call 19; refine CT2.mono ?_; clear CT2; rintro e w11 ⟨a11, c11, rfl, Y11, B11⟩; have CS := same_yes2 w11 _ _ _ _ _ _ _ _ ((Y9.below B10).below B11) Y11 (rowsOf_eq Q8 Q10) l8 (fun e he => Nat.le_trans (q8 e he) (by omega)))
              | (go_at_call 18; refine CS.mono ?_; clear CS; rintro e w12 ⟨rfl, m12, h12⟩; have B12 : Below w11.heap.size w11 w12 := (by rw [h12]; exact below_drewN (Below.refl _ _) m12); clear h12; have K12 := ((K9.below B10).below B11).below B12; have CC := count_any w12 _ _ _ _ _ _ K12.duo.a)
              | (go_at_call 21; refine CC.mono ?_; clear CC; rintro e w13 ⟨rfl, hw13⟩; replace hw13 := hw13.symm; subst hw13; have CD := count_any w12 _ _ _ _ _ _ K12.duo.b)
              | (go_at_call 21; refine CD.mono ?_; clear CD; rintro e w14 ⟨rfl, hw14⟩; replace hw14 := hw14.symm; subst hw14))
            go_ret
            exact ⟨rfl, K12.duo.bel⟩
          · have hon2 : 180 < on := by omega
            clear BK MX hon
            go_wp2_with (go_at_call 8; refine AW.mono ?_; clear AW; rintro e w7 ⟨rfl, B7⟩)
            go_ret
            exact ⟨rfl, (HB.out.below B7).duo.bel⟩
        case pos =>
          have hnl : ¬ (lim ≤ (i : Int)) := by omega
          have HB : Hid (Bk w wr Sa Sb va vs N cc dd mi f) := BK
          have HMX : Hid (Mix va vs (fun j => (Z1.Z j).take 140) (fun j => j < n1 ∧ j < 20 ∧ (on ≤ 180 → i ≤ on + j))) := MX
          clear BK MX
          go_upto_if 83 with fail
          go_cut [15] from 69 to 87 (fun s15 wc => wc = wr ∧ ∃ at' : Int, s15 = .int .i64 at' ∧ (-9223372036854775808 ≤ at' ∧ at' ≤ 9223372036854775807) ∧ (on ≤ i → at' = (i : Int) - on))
          case first =>
            by_cases hio : i < on
            · obtain ⟨b9, o9, rfl, hc9⟩ := G2.row.cells (by omega)
              have k9 := hc9 i hio
              have hlt9 : b9 < w.heap.size := by simpa using World.block_lt_of_cell? w _ k9
              have q9 : wr.cell? ⟨b9, o9 + i, none⟩ = some (.int .i64 (el Z2 i)) := by rw [HB.out.duo.bel.cell (by exact hlt9)]; exact k9
              have s9 := G2.row.small i
              clear hc9 k9 G2
              generalize el Z2 i = z9 at *
              go_wp2_with fail
              go_meet
              case rel => exact ⟨rfl, z9, rfl, s9, fun h => by omega⟩
            · go_wp2_with fail
              go_meet
              case rel => exact ⟨rfl, (i : Int) - on, rfl, by omega, fun _ => rfl⟩
          case rest =>
          obtain ⟨hwc, at', rfl, hat1, hat2⟩ := hcut
          replace hwc := hwc.symm
          subst hwc
          have LK := HB.out.k.look at' (wfI at' hat1.1 hat1.2)
          go_upto_region 21 with fail
          go_cut [108] from 69 to 108 (fun s wc => wc = wr ∧ ((s = .bool true ∧ (200 < i ∨ at' < 0 ∨ (n1 : Int) ≤ at' ∨ 20 ≤ at' ∨ f at' = true)) ∨ (s = .bool false ∧ ¬ 200 < i ∧ 0 ≤ at' ∧ at' < (n1 : Int) ∧ at' < 20 ∧ f at' = false)))
          case first =>
            by_cases g1 : 200 < i
            · go_wp2_with fail
              go_meet
              case rel => exact ⟨rfl, Or.inl ⟨rfl, by omega⟩⟩
            by_cases g2 : at' < 0
            · go_wp2_with fail
              go_meet
              case rel => exact ⟨rfl, Or.inl ⟨rfl, by omega⟩⟩
            by_cases g3 : (n1 : Int) ≤ at'
            · go_wp2_with fail
              go_meet
              case rel => exact ⟨rfl, Or.inl ⟨rfl, by omega⟩⟩
            by_cases g4 : 20 ≤ at'
            · go_wp2_with fail
              go_meet
              case rel => exact ⟨rfl, Or.inl ⟨rfl, by omega⟩⟩
            rcases g5 : f at' with _ | _
            · rw [g5] at LK
              go_wp2_with fail
              go_meet
              case rel => exact ⟨rfl, Or.inr ⟨congrArg Value.bool (decide_eq_false (by omega)), g1, by omega, by omega, by omega, g5⟩⟩
            · rw [g5] at LK
              go_wp2_with fail
              go_meet
              case rel => exact ⟨rfl, Or.inl ⟨rfl, Or.inr (Or.inr (Or.inr (Or.inr g5)))⟩⟩
          case rest =>
          obtain ⟨hwc, hs0⟩ := hcut
          replace hwc := hwc.symm
          subst hwc
          clear LK
          rcases hs0 with ⟨rfl, hgo⟩ | ⟨rfl, hg1, hg2, hg3, hg4, hg5⟩
          · have MX2 : Hid (Mix va vs (fun j => (Z1.Z j).take 140) (fun j => j < n1 ∧ j < 20 ∧ (on ≤ 180 → i + 1 ≤ on + j))) := HMX.out.mono (fun j hj hv => ⟨hj.1, hj.2.1, fun h => by
              have h3 := hj.2.2 h
              rcases Nat.lt_or_ge i (on + j) with a | a
              · omega
              · exfalso
                have e : at' = (j : Int) := by rw [hat2 (by omega)]; omega
                have hf := HX.out j hj.1 hj.2.1
                rw [hv] at hf
                rw [e] at hgo
                rcases hgo with b | b | b | b | b
                · omega
                · omega
                · omega
                · omega
                · rw [hf] at b; cases b⟩)
            clear HMX
            go_wp2_with fail
            go_roundg (lim.toNat - (i + 1))
            case measure => omega
            case rel => exact ⟨i + 1, Sa, va, cc, by omega, rfl, by go_num, by omega, HB.out, MX2.out⟩
          · obtain ⟨k, rfl⟩ : ∃ k : Nat, at' = (k : Int) := ⟨at'.toNat, by omega⟩
            have hl1 : k < n1 := by omega
            obtain ⟨bb, oo, rfl, hcl⟩ := G1.cells (by omega)
            obtain ⟨h1, hI'⟩ := hcl k hl1
            have hlt : bb < w.heap.size := by simpa using World.block_lt_of_cell? w _ h1
            have RD : Hid (∀ W, Below w.heap.size w W → W.cell? ⟨bb, oo + k, none⟩ = some (.slice (Z1.A k) (Z1.L k) (Z1.C k))) := fun W hW => by rw [hW.cell (by exact hlt)]; exact h1
            have FF : Hid (∀ W, Below w.heap.size w W → Calls Try.prog 7 #[.slice (Z1.A k) (Z1.L k) (Z1.C k), .int .i64 (140 : Nat)] W fun e w' => ∃ b c, e = .returned (.slice (some ⟨b, 0, none⟩) ((Z1.Z k).take 140).length c) ∧ IOwn w' W.heap.size (.slice (some ⟨b, 0, none⟩) ((Z1.Z k).take 140).length c) ((Z1.Z k).take 140).length ((Z1.Z k).take 140) ∧ Below W.heap.size W w') := fun W hW => few8_any _ _ _ _ 140 W (hI'.below hW) (by omega)
            have hs : Hid (Sm ((Z1.Z k).take 140)) := hI'.take_small 140
            have hZl : ((Z1.Z k).take 140).length ≤ 140 := by rw [List.length_take]; omega
            clear hcl h1 hI' hlt
            obtain ⟨Y, hY⟩ : ∃ Y, Y = (Z1.Z k).take 140 := ⟨_, rfl⟩
            rw [← hY] at FF hs hZl
            have HYE : Hid (Y = (Z1.Z k).take 140) := hY
            clear hY
            obtain ⟨m, hm⟩ : ∃ m, m = Y.length := ⟨_, rfl⟩
            rw [← hm] at FF hZl
            clear hm
            generalize Z1.A k = ad at *
            generalize Z1.L k = ln at *
            generalize Z1.C k = cp0 at *
            have h2 := RD.out wr HB.out.duo.bel
            have F := FF.out wr HB.out.duo.bel
            have hvs : Hid (vs Y = none) := by
              have hf := HX.out k hl1 (by omega)
              rw [hg5] at hf
              show vs Y = none
              rw [HYE.out]
              cases hv : vs ((Z1.Z k).take 140) with
              | none => rfl
              | some x => rw [hv] at hf; cases hf
            have HKQ : Hid (∀ j, (j < n1 ∧ j < 20 ∧ (on ≤ 180 → i ≤ on + j)) → (Z1.Z j).take 140 ≠ Y → (j < n1 ∧ j < 20 ∧ (on ≤ 180 → i + 1 ≤ on + j))) := fun j hj hne => ⟨hj.1, hj.2.1, fun h => by
              have h3 := hj.2.2 h
              rcases Nat.lt_or_ge i (on + j) with a | a
              · omega
              · exfalso
                have e := hat2 (by omega)
                have e2 : j = k := by omega
                exact hne (by rw [HYE.out, e2])⟩
            rcases hva0 : va Y with _ | x0
            · have hva : Hid (va Y = none) := hva0
              clear hva0
              go_wp2_with (first
                | (go_at_call 7; refine F.mono ?_; clear F; rintro e w2 ⟨b2, cp, rfl, O2, B2⟩; have K2 := HB.out.below B2; have D := drop_none (some ⟨b2, 0, none⟩) _ cp _ w2 _ _ _ _ _ _ K2.duo.a (O2.tk hs.out (by omega)) hva.out)
                | (go_at_call 11; refine D.mono ?_; clear D; rintro e w3 ⟨rfl, hw3⟩; replace hw3 := hw3.symm; subst hw3))
              go_roundg (lim.toNat - (i + 1))
              case measure => omega
              case rel => exact ⟨i + 1, Sa, va, cc, by omega, rfl, by go_num, by omega, K2, HMX.out.stay hva.out hvs.out HKQ.out⟩
            · have hva : Hid (va Y = some x0) := hva0
              clear hva0
              go_wp2_with (first
                | (go_at_call 7; refine F.mono ?_; clear F; rintro e w2 ⟨b2, cp, rfl, O2, B2⟩; have K2 := HB.out.below B2; obtain ⟨ft1, ft2⟩ := O2.fit hs.out; have D := drop_some (some ⟨b2, 0, none⟩) _ cp _ x0 w2 _ _ _ _ _ _ K2.duo.a (O2.tk hs.out (by omega)) ft1 ft2 (fun b' o' e h => (by injection e with e; injection e with e1 _ _; have h1 := (World.ownsRow.lt O2 b2 rfl).1; have h2 := HB.out.duo.a.has_lt h; omega)) (by omega) hva.out)
                | (go_at_call 11; refine D.mono ?_; clear D; rintro e w3 ⟨rfl, ⟨S3, T3, O3⟩, B3⟩))
              have K3 := K2.putA T3 O3 B3 (Nat.le_refl _)
              go_roundg (lim.toNat - (i + 1))
              case measure => omega
              case rel => exact ⟨i + 1, S3, _, cc - 1, by omega, rfl, by go_num, by omega, K3, HMX.out.drop hvs.out HKQ.out⟩
end Go.Proofs.Ytomfkdaaimhmkaa
