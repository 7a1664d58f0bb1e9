/- The given statement on GreedyOver: at every input the law returns true and its arguments read as before; the listed table lies as the program's text lays it (the card ties it). -/
import Derived.Test.YthlpenbggcmagaaDoorPk7
import Derived.Test.YthlpenbggcmagaaDoorPk8
import Derived.Deep.CutRange
import Derived.Deep.CutBlock
import Derived.Test.YthlpenbggcmagaaDoorRows
import Derived.Test.YthlpenbggcmagaaDoorCards
import Derived.Test.YthlpenbggcmagaaDoorTie
import Derived.Test.YthlpenbggcmagaaDoorPk3
import Derived.ProofKit
import Derived.Carry
import Derived.LaidMore
import Derived.OpenShut
import Derived.Stop.Joined
import Derived.SevenTiedAt
/- What is over for so many tokens is over for fewer, and with a token more: the walk. -/
namespace Go.Proofs.YthlpenbggcmagaaDoor
open Go.ChangeShapes Go.WideShapes Go.ChangeAt Go.RowKit
theorem over_len {A : List Int} {m : Int} (h : m ≤ (A.length : Int)) : overB A m = true := by unfold overB; rw [decide_eq_true h]; rfl
theorem over_snoc (A : List Int) (m : Int) : overB (A ++ [0]) m = true := by
  unfold overB endB
  have e : el (A ++ [0]) ((A ++ [0]).length - 1) = 0 := by
    rw [List.length_append, List.length_singleton, Nat.add_sub_cancel]
    have := el_append_right (A := A) (B := [0]) (k := 0)
    rw [Nat.add_zero] at this
    rw [this]
    rfl
  rw [e]
  simp
theorem over_last {A : List Int} {m : Int} (h0 : 0 < A.length) (h1 : el A (A.length - 1) = 0) : overB A m = true := by
  unfold overB endB
  rw [h1, decide_eq_true h0]
  simp
set_option maxRecDepth 100000 in
set_option maxHeartbeats 400000 in
theorem greedyOver_walk (ao : Option Addr) (n ca : Nat) (Z : List Int) (most less tok : Int) (w : World) (hA : IArg w ao n ca Z) (_bm : -9223372036854775808 ≤ most ∧ most ≤ 9223372036854775807) (_bl : -9223372036854775808 ≤ less ∧ less ≤ 9223372036854775807) (bt : -9223372036854775808 ≤ tok ∧ tok ≤ 9223372036854775807) (hT : Tab w) :
   Calls Tryd.prog 4 #[.slice ao n ca, .int .i64 most, .int .i64 less, .int .i64 tok] w fun e w' => e = .returned (.bool true) ∧ Below w.heap.size w w' := by
  have hsm := hA.row.small
  have C0 := few8_any ao n ca Z 200 w hA (by omega)
  have HT : Hid (∀ wv, Below w.heap.size w wv → Tab wv) := fun wv hb => hT.next hb
  have hz : ∀ k, -9223372036854775808 ≤ el (Z.take 200) k ∧ el (Z.take 200) k ≤ 9223372036854775807 := fun k => by
    rcases Nat.lt_or_ge k 200 with h | h
    · rw [el_take h]; exact hsm k
    · rw [el_over (by rw [List.length_take]; omega)]; omega
  have hl2 : (Z.take 200).length ≤ 200 := by rw [List.length_take]; omega
  generalize Z.take 200 = A at *
  clear hT hA hsm
  go_enter Tryd.func4, Tryd.ntmps4
  go_wp2_with fail
  refine C0.mono ?_
  rintro e w1 ⟨b, c, rfl, O1, B1⟩
  clear C0
  obtain ⟨m, hm⟩ : ∃ m, m = A.length := ⟨_, rfl⟩
  have HM : Hid (A.length = m) := hm.symm
  rw [← hm] at O1 hl2 ⊢
  clear hm
  have HI : Hid (∀ wv, IOwn wv w.heap.size (.slice (some ⟨b, 0, none⟩) m c) m A → IRowAt wv (some ⟨b, 0, none⟩) m A) := fun wv h => by
    obtain ⟨a2, c2, e, R⟩ := h.arg hz
    simp only [Value.slice.injEq] at e
    obtain ⟨rfl, -, -⟩ := e
    exact R.row
  have HV : Hid (∀ wv (mm : Int), IOwn wv w.heap.size (.slice (some ⟨b, 0, none⟩) m c) m A → Calls Tryd.prog 10 #[.slice (some ⟨b, 0, none⟩) m c, .int .i64 mm] wv fun e w' => e = .returned (.bool (overB A mm)) ∧ w' = wv) := fun wv mm h => over_any _ _ _ A mm wv (HI.out wv h)
  have HS : Hid (∀ wv v (mm y : Int), -9223372036854775808 ≤ y → y ≤ 9223372036854775807 → IOwn wv w.heap.size v (m + 1) (A ++ [y]) → ∃ a2 c2, v = .slice a2 (m + 1) c2 ∧ Calls Tryd.prog 10 #[.slice a2 (m + 1) c2, .int .i64 mm] wv fun e w' => e = .returned (.bool (overB (A ++ [y]) mm)) ∧ w' = wv) := fun wv v mm y y1 y2 h => by
    obtain ⟨a2, c2, e, R⟩ := h.arg (el_snoc_bd hz y1 y2)
    exact ⟨a2, c2, e, over_any _ _ _ _ mm wv R.row⟩
  have R1 := HI.out _ O1
  have CO := HV.out w1 most O1
  have s1 := B1.size
  go_upto_region 3 with (go_at_call 10; refine CO.mono ?_; rintro e w2 ⟨rfl, h2⟩; replace h2 := h2.symm; subst h2)
  clear CO
  have hO0 : most ≤ (m : Int) → overB A most = true := fun h => over_len (by rw [HM.out]; exact h)
  have hO1 : overB A most = true → most ≤ (m : Int) ∨ (0 < m ∧ el A (m - 1) = 0) := fun h => by
    unfold overB endB at h
    rw [HM.out] at h
    simpa using h
  have HO0 : Hid (most ≤ (m : Int) → overB A most = true) := hO0
  clear hO0 hO1
  obtain ⟨ov, hov⟩ : ∃ ov, ov = overB A most := ⟨_, rfl⟩
  have HOV : Hid (ov = overB A most) := hov
  rw [← hov]
  clear hov
  go_cut [40] from 15 (fun s wc => s = .bool false ∧ wc = w1)
  case first =>
    by_cases h1 : less ≤ most
    · cases ov with
      | false =>
        go_wp2_with fail
        go_meet
        case rel => exact ⟨rfl, rfl⟩
      | true =>
        by_cases h0 : m = 0
        · subst h0
          go_wp2_with fail
          go_meet
          case rel => exact ⟨rfl, rfl⟩
        · obtain ⟨b2, o2, eb, hc⟩ := R1.cells (by omega)
          simp only [Option.some.injEq, Addr.mk.injEq, and_true] at eb
          obtain ⟨rfl, rfl⟩ := eb
          have hc1 := hc (m - 1) (by omega)
          rw [Nat.zero_add] at hc1
          obtain ⟨q, rfl⟩ : ∃ q, m = q + 1 := ⟨m - 1, by omega⟩
          rw [Nat.add_sub_cancel] at hc1
          have e1 : IntKind.i64.wrap (((q : Int) + 1) - 1) = (q : Int) := by rw [show ((q : Int) + 1) - 1 = q by omega]; exact wrap_in (by omega)
          have HX : Hid (el A q = 0 → overB A less = true) := fun h => over_last (by rw [HM.out]; omega) (by rw [HM.out, Nat.add_sub_cancel]; exact h)
          have CL := HV.out w1 less O1
          clear hc
          generalize el A q = x at *
          by_cases hx : x = 0
          · rw [HX.out hx] at CL
            subst hx
            clear HX
            go_wp2_with (go_at_call 10; refine CL.mono ?_; rintro e w2 ⟨rfl, h2⟩; replace h2 := h2.symm; subst h2)
            go_meet
            case rel => exact ⟨rfl, rfl⟩
          · have hx' : (x == 0) = false := by simpa using hx
            clear HX
            go_wp2_with fail
            go_meet
            case rel => exact ⟨rfl, rfl⟩
    · go_wp2_with fail
      go_meet
      case rel => exact ⟨rfl, rfl⟩
  case rest =>
    obtain ⟨rfl, rfl⟩ := hcut
    generalize wc = w1 at *
    go_upto_region 5 with fail
    go_cut [68] from 15 (fun s wc => s = .bool false ∧ IOwn wc w.heap.size (.slice (some ⟨b, 0, none⟩) m c) m A ∧ Below w.heap.size w wc)
    case first =>
      by_cases h2 : most ≤ (m : Int)
      · obtain rfl : ov = true := by rw [HOV.out]; exact HO0.out h2
        have HB : Hid (overB (A ++ [tok]) most = true) := over_len (by rw [List.length_append, HM.out, List.length_singleton]; omega)
        have XT := blk_new w1 3 #[.int .i64 tok]
        have BT : Below w1.heap.size w1 (w1.alloc (.cells #[.int .i64 tok] 3)) := (Below.refl _ _).alloc (Nat.le_refl _) _
        generalize hwt : w1.alloc (.cells #[.int .i64 tok] 3) = wt at *
        have O2 := owns_below O1 BT
        have st := BT.size
        by_cases h1 : less ≤ most
        · have CL := HV.out w1 less O1
          rw [over_len (A := A) (m := less) (by rw [HM.out]; omega)] at CL
          go_wp2_with (first | (at_builtin; refine wpList_run (by rfl) (fun Kc hKc => ?_); refine wp_append_int _ _ rfl w.heap.size _ m A rfl O2 _ tok rfl (XT.cell 0 rfl) (by omega) (by omega) ?_; intro v' w3 O3 O4 G3 B3; refine hKc _ _ ?_; obtain ⟨a2, c2, rfl, CS⟩ := HS.out w3 v' most tok (by omega) (by omega) O3; rw [HB.out] at CS) | (go_at_call 10; refine CS.mono ?_; rintro e w4 ⟨rfl, h4⟩; replace h4 := h4.symm; subst h4) | (go_at_call 10; refine CL.mono ?_; rintro e w2 ⟨rfl, h2⟩; replace h2 := h2.symm; subst h2))
          go_meet
          case rel => exact ⟨rfl, O4, (below_then B1 BT).trans B3⟩
        · go_wp2_with (first | (at_builtin; refine wpList_run (by rfl) (fun Kc hKc => ?_); refine wp_append_int _ _ rfl w.heap.size _ m A rfl O2 _ tok rfl (XT.cell 0 rfl) (by omega) (by omega) ?_; intro v' w3 O3 O4 G3 B3; refine hKc _ _ ?_; obtain ⟨a2, c2, rfl, CS⟩ := HS.out w3 v' most tok (by omega) (by omega) O3; rw [HB.out] at CS) | (go_at_call 10; refine CS.mono ?_; rintro e w4 ⟨rfl, h4⟩; replace h4 := h4.symm; subst h4))
          go_meet
          case rel => exact ⟨rfl, O4, (below_then B1 BT).trans B3⟩
      · go_wp2_with fail
        go_meet
        case rel => exact ⟨rfl, O1, B1⟩
    case rest =>
      obtain ⟨rfl, O5, B5⟩ := hcut
      clear O1 B1 R1 HV
      generalize wc = w5 at *
      have s5 := B5.size
      have CA := gawake_any w5 (HT.out _ B5)
      go_wp2_with fail
      refine CA.mono ?_
      rintro e w6 ⟨rfl, B6⟩
      have D6 := below_then B5 B6
      have s6 := B6.size
      have O6 := owns_below O5 B6
      have HB : Hid (overB (A ++ [0]) most = true) := over_snoc A most
      have XT := blk_new w6 3 #[.int .i64 0]
      have BT : Below w6.heap.size w6 (w6.alloc (.cells #[.int .i64 0] 3)) := (Below.refl _ _).alloc (Nat.le_refl _) _
      generalize hwt : w6.alloc (.cells #[.int .i64 0] 3) = wt at *
      have O2 := owns_below O6 BT
      have st := BT.size
      clear CA
      by_cases h0 : (0 : Int) < (m : Int)
      · go_wp2_with (first | (at_builtin; refine wpList_run (by rfl) (fun Kc hKc => ?_); refine wp_append_int _ _ rfl w.heap.size _ m A rfl O2 _ 0 rfl (XT.cell 0 rfl) (by omega) (by omega) ?_; intro v' w3 O3 O4 G3 B3; refine hKc _ _ ?_; obtain ⟨a2, c2, rfl, CS⟩ := HS.out w3 v' most 0 (by omega) (by omega) O3; rw [HB.out] at CS) | (go_at_call 10; refine CS.mono ?_; rintro e w4 ⟨rfl, h4⟩; replace h4 := h4.symm; subst h4))
        go_ret
        exact ⟨rfl, (below_then D6 BT).trans B3⟩
      · have CN := fun wv => over_any none 0 0 [] 0 wv (iarg_nil wv).row
        rw [show overB [] 0 = true by decide] at CN
        go_wp2_with (first | (at_builtin; refine wpList_run (by rfl) (fun Kc hKc => ?_); refine wp_append_int _ _ rfl w.heap.size _ m A rfl O2 _ 0 rfl (XT.cell 0 rfl) (by omega) (by omega) ?_; intro v' w3 O3 O4 G3 B3; refine hKc _ _ ?_; obtain ⟨a2, c2, rfl, CS⟩ := HS.out w3 v' most 0 (by omega) (by omega) O3; rw [HB.out] at CS) | (go_at_call_of 10 a2; refine CS.mono ?_; rintro e w4 ⟨rfl, h4⟩; replace h4 := h4.symm; subst h4) | (go_at_call 10; refine (CN _).mono ?_; rintro e w7 ⟨rfl, h7⟩; replace h7 := h7.symm; subst h7))
        go_ret
        exact ⟨rfl, (below_then D6 BT).trans B3⟩
end Go.Proofs.YthlpenbggcmagaaDoor

/- The given statement on GreedyOver: at every input the law returns true and its arguments read as before; the listed table lies as the program's text lays it (the card ties it). -/
namespace Go.Proofs.YthlpenbggcmagaaDoor.greedyOver
open Go.ChangeShapes Go.WideShapes Go.ChangeAt Go.WideMaps Go.WideElems Go.RowKit
set_option linter.unusedVariables false
abbrev lst : List (String × DataW Unit) := Rows.greedyOverRow.laid
theorem door_met (os : Os) (args : Array Value) : laidMetH Tryd.prog lst ((World.doorLaid Tryd.prog 14 os).forCall (fun _ _ => 0) ⟨#[], args, []⟩).memory :=
  laidMetH_of_parts3 (fuel := 8) (laidMet_of_run' 8 (by kernel_rfl) (by kernel_rfl)) (by kernel_rfl) (by kernel_rfl)
set_option maxRecDepth 100000 in
theorem lifted (os : Os) (started : os.Started) (H : Type) (enc : TypeId × Value → H) :
    ReturnsInHanded {} Tryd.checked os 4 .any (fun w args => (Rows.greedyOverSpec.pre enc Tryd.prog Tryd.f4 [] false w args ∧ laidMetH Tryd.prog lst w) ∧ sizedMet enc Tryd.prog Tryd.f4 (OpenSpec.ofChange Rows.greedyOverSpec) false w args)
      (Rows.greedyOverSpec.post enc Tryd.prog Tryd.f4 false true false false) := by
  refine returnsInHanded_of_change_and (C := Tryd.checked) (X := fun w _ => laidMetH Tryd.prog lst w) (fun _ _ _ hh h => h.of_heap hh) Tryd.own started (by kernel_rfl) Tryd.func4
    (ChangeSpec.witness_shaped (enc := enc) (C := Tryd.checked) (os := os) (X := fun w _ => laidMetH Tryd.prog lst w) false (World.doorLaid Tryd.prog 14 os) #[.slice none 0 0, .int .i64 0, .int .i64 0, .int .i64 0] 8 rfl (World.shaped_of_RefB (by kernel_rfl) (by kernel_rfl)) (by kernel_rfl) (by kernel_rfl) (by kernel_rfl) (door_met os _)) ?_
  intro W base args ds gs before hval0 hW _ _ hL _
  have hval : ∀ (j : Nat) t v, Tryd.f4.params[j]? = some t → args[j]? = some v → Value.okWide Tryd.prog W .any base t v := hval0
  have hW' := hW
  obtain ⟨p, q, hA0, hV, rfl, _, _⟩ := hW
  have hA : DataW.TrodAll enc Tryd.prog W 0 (fun _ => true) true Tryd.f4.params.toList args.toList ds p := hA0
  rw [Tryd.params4] at hA hval
  obtain ⟨v0, vs0, d0, ds0, p0, q0, hargs, rfl, rfl, h0, r0⟩ := trodAll_cons hA
  obtain ⟨v1, vs1, d1, ds1, p1, q1, rfl, rfl, rfl, h1, r1⟩ := trodAll_cons r0
  obtain ⟨v2, vs2, d2, ds2, p2, q2, rfl, rfl, rfl, h2, r2⟩ := trodAll_cons r1
  obtain ⟨v3, vs3, d3, ds3, p3, q3, rfl, rfl, rfl, h3, r3⟩ := trodAll_cons r2
  obtain ⟨rfl, rfl, rfl⟩ := trodAll_nil r3
  obtain rfl : args = #[v0, v1, v2, v3] := by cases args; simp_all
  obtain ⟨rfl, rfl⟩ := trodVars_none hV
  have k0 := h0
  obtain ⟨a0, n0, c0, Z0, rfl, g0⟩ := viewI (hval 0 _ v0 rfl rfl) h0
  have k1 := h1
  obtain ⟨a1, rfl, rfl, rfl, w1⟩ := open_int Tryd.underlying3 (hval 1 3 v1 rfl rfl) h1
  have b1 := bounds_i64 w1
  have k2 := h2
  obtain ⟨a2, rfl, rfl, rfl, w2⟩ := open_int Tryd.underlying3 (hval 2 3 v2 rfl rfl) h2
  have b2 := bounds_i64 w2
  have k3 := h3
  obtain ⟨a3, rfl, rfl, rfl, w3⟩ := open_int Tryd.underlying3 (hval 3 3 v3 rfl rfl) h3
  have b3 := bounds_i64 w3
  clear hA0 hval0
  simp only [List.append_nil] at hW'
  have hlt : ∀ x ∈ p0, x.block < W.heap.size := fun x hx => by
    have hx2 := hx
    exact hW'.lt x (by grind)
  refine (greedyOver_walk a0 n0 c0 Z0 a1 a2 a3 W g0 b1 b2 b3 (tab_of_laid hL)).mono fun e W' ⟨he, hb⟩ => ?_
  subst he
  exact ⟨_, rfl, _, _, _, [], _, [], hW', trodAll_mk1 (shut_bool Tryd.underlying4 true), trodAll_cons_mk (Below.trod Tryd.laidOut (by kernel_rfl) (of_decide_eq_true (by kernel_rfl)) k0 hb (fun x hx => hlt x (by simp [hx]))) (trodAll_cons_mk (shut_int Tryd.underlying3 w1) (trodAll_cons_mk (shut_int Tryd.underlying3 w2) (trodAll_cons_mk (shut_int Tryd.underlying3 w3) trodAll_mk0))), rfl, hb.frame _, fun h => by cases h⟩
theorem row_holds : Rows.GreedyOverSaid :=
  OpenClaim.holds_of_wide 4 Tryd.f4 rfl rfl rfl rfl rfl rfl rfl ⟨rfl, rfl, rfl, rfl, rfl⟩ rfl rfl rfl rfl rfl (by kernel_rfl) Tryd.func4 (by kernel_rfl)
    (of_decide_eq_true (by kernel_rfl)) (by unfold Func.isWrapper; first | (rw [if_pos (by decide +kernel)]; kernel_rfl) | (rw [if_neg (by decide +kernel)]; exact ⟨rfl, rfl⟩))
    (fun os started H enc _ => lifted os started H enc)
/-- The given statement. -/
theorem card_holds : Rows.GreedyOverCardSaid :=
  Claim7.holds_tied_plain_at .later [] [.data] true (true, "09ce2c38ff9bf4d17c793b416d1c3226a1cdcdc98cd4836ca0fd7b4653ec0128") false
    row_holds (fun _ h => by cases h) (by kernel_rfl) (fun _ h => by cases h) greedyOver_row_tie rfl ⟨rfl, rfl⟩ (by kernel_rfl) rfl
    (fun f fn hf hfn => by
      obtain rfl : f = 4 := Option.some.inj ((show Tryd.prog.funcNamed Rows.greedyOverRow.func = some 4 by kernel_rfl).symm.trans hf) |>.symm
      obtain rfl : fn = Tryd.f4 := (Option.some.inj (Tryd.func4.symm.trans hfn)).symm
      exact ⟨by kernel_rfl, fun j t ht => by
        rw [Tryd.params4] at ht
        have hm : t ∈ [24, 3, 3, 3] := by simpa using Array.mem_of_getElem? ht
        have hall : ([24, 3, 3, 3].all fun u => !Tryd.prog.wantsStandIn u) = true := by kernel_rfl
        exact (show Tryd.prog.wantsStandIn t = false by simpa using List.all_eq_true.1 hall t hm)⟩)
    (by kernel_rfl)
end Go.Proofs.YthlpenbggcmagaaDoor.greedyOver
namespace Go.Proofs.YthlpenbggcmagaaDoor
theorem greedyOver_holds : Rows.GreedyOverCardSaid := greedyOver.card_holds
#print axioms greedyOver_holds
end Go.Proofs.YthlpenbggcmagaaDoor
