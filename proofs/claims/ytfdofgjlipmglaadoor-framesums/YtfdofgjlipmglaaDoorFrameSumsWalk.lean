/- FrameSums' walk: sums of texts of one length are added by xor. -/
import Derived.Test.YtfdofgjlipmglaaDoorFByt
import Derived.Deep.CutBlock
import Derived.Deep.CutRange
import Derived.Deep.RegionHeld3
namespace Go.Proofs.YtfdofgjlipmglaaDoor
open Go.ChangeShapes Go.WideShapes Go.ChangeAt Go.RowKit
set_option maxHeartbeats 2000000 in
theorem frameSums_walk (a b : ByteArray) (_ha : a.size ≤ maxLen) (_hb : b.size ≤ maxLen) (w : World) (h : Env w) :
   Calls Tryd.prog 5 #[.string a, .string b] w fun e w' => e = .returned (.bool true) ∧ Below w.heap.size w w' := by
  obtain ⟨n, hn⟩ : ∃ n, n = min a.size (min b.size 200) := ⟨_, rfl⟩
  go_enter Tryd.func5, Tryd.ntmps5
  go_upto_region 1 with fail
  go_cut [5] from 10 (fun s5 wc => s5 = .int .i64 (n : Int) ∧ wc = w)
  case first =>
    rcases Nat.lt_or_ge a.size b.size with c1 | c1
    · rcases Nat.lt_or_ge a.size 200 with c2 | c2
      · obtain rfl : n = a.size := by omega
        clear hn
        go_wp2_with fail
        all_goals
          go_meet
          case rel => exact ⟨by first | rfl | go_num, rfl⟩
      · obtain rfl : n = 200 := by omega
        clear hn
        go_wp2_with fail
        all_goals
          go_meet
          case rel => exact ⟨by first | rfl | go_num, rfl⟩
    · rcases Nat.lt_or_ge b.size 200 with c2 | c2
      · obtain rfl : n = b.size := by omega
        clear hn
        go_wp2_with fail
        all_goals
          go_meet
          case rel => exact ⟨by first | rfl | go_num, rfl⟩
      · obtain rfl : n = 200 := by omega
        clear hn
        go_wp2_with fail
        all_goals
          go_meet
          case rel => exact ⟨by first | rfl | go_num, rfl⟩
  case rest =>
    obtain ⟨rfl, hw9⟩ := hcut
    subst wc
    have n1 : n ≤ a.size := by omega
    have n2 : n ≤ b.size := by omega
    have n3 : n ≤ 200 := by omega
    have SA := slice_to a n (n : Int) rfl n1
    have SB := slice_to b n (n : Int) rfl n2
    have lA : (a.data.toList.take n).length = n := by rw [List.length_take]; have : a.data.toList.length = a.size := rfl; omega
    have lB : (b.data.toList.take n).length = n := by rw [List.length_take]; have : b.data.toList.length = b.size := rfl; omega
    generalize a.data.toList.take n = la at *
    generalize b.data.toList.take n = lb at *
    have CA := conv_bytes (txt la)
    have CB := conv_bytes (txt lb)
    have zA : (txt la).size = n := by rw [txt_size, lA]
    have zB : (txt lb).size = n := by rw [txt_size, lB]
    rw [zA] at CA
    rw [zB] at CB
    have MK := makeB n (by omega)
    have BS := fun W => bytesWorld_size W 5 (txt la)
    have BS2 := fun W => bytesWorld_size W 5 (txt lb)
    clear hn zA zB
    go_upto_region 2 with fail
    go_cut [6, 7, 8] from 10 (fun s6 s7 s8 wv => ∃ ga ca gb cb gz, s6 = .slice (some ⟨ga, 0, none⟩) n ca ∧ s7 = .slice (some ⟨gb, 0, none⟩) n cb ∧ s8 = .slice (some ⟨gz, 0, none⟩) n n ∧ Byt wv w.heap.size ga n la ∧ Byt wv w.heap.size gb n lb ∧ Byt wv w.heap.size gz n (zeroL n) ∧ ga ≠ gz ∧ gb ≠ gz ∧ Below w.heap.size w wv)
    case first =>
      go_region_with fail
      all_goals
        go_wp2_with fail
        go_meet
        case rel =>
          refine ⟨_, _, _, _, _, rfl, rfl, rfl, ?_, ?_, ?_, ?_, ?_, ?_⟩
          · repeat (first
              | exact bytC _ la _ n _ (by first | rfl | simp [bytesWorld_size]) lA (by first | exact Nat.le_refl _ | (simp [bytesWorld_size]; done) | (simp [bytesWorld_size]; omega))
              | refine Byt.conv ?_ _ | refine Byt.alloc ?_ _ | refine Byt.drew ?_)
          · repeat (first
              | exact bytC _ lb _ n _ (by first | rfl | simp [bytesWorld_size]) lB (by first | exact Nat.le_refl _ | (simp [bytesWorld_size]; done) | (simp [bytesWorld_size]; omega))
              | refine Byt.conv ?_ _ | refine Byt.alloc ?_ _ | refine Byt.drew ?_)
          · repeat (first
              | exact bytM _ n _ _ (by first | rfl | simp [bytesWorld_size]) (by first | exact Nat.le_refl _ | (simp [bytesWorld_size]; done) | (simp [bytesWorld_size]; omega))
              | refine Byt.conv ?_ _ | refine Byt.alloc ?_ _ | refine Byt.drew ?_)
          · omega
          · omega
          · repeat (first
              | exact (Below.refl _ _).drew | exact below_alloc _ _
              | refine bytes_below ?_ (by first | exact Nat.le_refl _ | (simp [bytesWorld_size]; done) | (simp [bytesWorld_size]; omega)) _ | refine below_alloc2 ?_ _ | refine Below.drew ?_)
    case rest =>
      obtain ⟨ga, ca, gb, cb, gz, rfl, rfl, rfl, YA, YB, YZ, d1, d2, BB⟩ := hcut
      clear SA SB CA CB MK BS BS2
      have ZL : Hid (∀ k, k < n → (xorTo la lb (k + 1) = (xorTo la lb k).set k (la.getD k 0 ^^^ lb.getD k 0))) := fun k hk => xorTo_succ la lb k (by omega) (by omega)
      have Z0 : xorTo la lb 0 = zeroL n := by rw [← lA]; exact xorTo_zero la lb
      have ZN : Hid (xorTo la lb n = xorL la lb) := by show _ = _; rw [← lA]; exact xorTo_all la lb (by omega)
      rw [← Z0] at YZ
      clear Z0
      go_wp2_with fail
      go_loopg [27] n (fun r s27 wr => ∃ k : Nat, k ≤ n ∧ r = n - k ∧ s27 = .int .i64 k ∧ Byt wr w.heap.size ga n la ∧ Byt wr w.heap.size gb n lb ∧ Byt wr w.heap.size gz n (xorTo la lb k) ∧ Below w.heap.size w wr)
      case atStart => exact ⟨0, by omega, by omega, rfl, YA, YB, YZ, BB⟩
      case round =>
        clear YA YB YZ BB
        obtain ⟨k, hk, rfl, rfl, YA, YB, YZ, BB⟩ := hrel
        by_cases hlt : k < n
        · have c1 := YA.cell k hlt
          have c2 := YB.cell k hlt
          have c3 := YZ.cell k hlt
          have f3 := YZ.free k hlt
          have q1 := (la.getD k 0).toNat_lt
          have q2 := (lb.getD k 0).toNat_lt
          have e1 := bits_xor_u8_nat (la.getD k 0) (lb.getD k 0)
          have HS := ZL.out k hlt
          have Y9 := YZ.drew.set k hlt (la.getD k 0 ^^^ lb.getD k 0)
          have A9 := YA.drew.other (a := ⟨gz, k, none⟩) d1 (.int .u8 ((la.getD k 0 ^^^ lb.getD k 0).toNat : Int))
          have B9 := YB.drew.other (a := ⟨gz, k, none⟩) d2 (.int .u8 ((la.getD k 0 ^^^ lb.getD k 0).toNat : Int))
          have D9 := BB.drew.setCell (p := ⟨gz, k, none⟩) YZ.base (.int .u8 ((la.getD k 0 ^^^ lb.getD k 0).toNat : Int))
          have HS2 : Hid (xorTo la lb (k + 1) = (xorTo la lb k).set k (la.getD k 0 ^^^ lb.getD k 0)) := HS
          clear HS YA YB YZ BB ZL ZN
          generalize la.getD k 0 = x at *
          generalize lb.getD k 0 = y at *
          go_wp2_with fail
          go_region_with fail
          all_goals
            go_wp2_with fail
            go_roundg (n - (k + 1))
            case measure => omega
            case rel => exact ⟨k + 1, by omega, rfl, by go_num, A9, B9, by rw [HS2.out]; exact Y9, D9⟩
        · obtain rfl : k = n := by omega
          rw [ZN.out] at YZ
          obtain ⟨A, hA⟩ : ∃ A, A = txt la := ⟨_, rfl⟩
          obtain ⟨B, hB⟩ : ∃ A, A = txt lb := ⟨_, rfl⟩
          obtain ⟨X, hX⟩ : ∃ A, A = txt (xorL la lb) := ⟨_, rfl⟩
          obtain ⟨Z, hZ⟩ : ∃ A, A = txt (zeroL k) := ⟨_, rfl⟩
          have TA := fun W (hb : Below wr.heap.size wr W) => (YA.below hb).text ca
          have TB := fun W (hb : Below wr.heap.size wr W) => (YB.below hb).text cb
          have TX := fun W (hb : Below wr.heap.size wr W) => (YZ.below hb).text k
          have TZ := conv_made k
          have MK := makeB k (by omega)
          have SA := fun W (hW : Tab W) => sum_any A W hW (by rw [hA, txt_size]; omega)
          have SB := fun W (hW : Tab W) => sum_any B W hW (by rw [hB, txt_size]; omega)
          have SX := fun W (hW : Tab W) => sum_any X W hW (by rw [hX, txt_size, xorL_length _ _ (by omega)]; omega)
          have SZ := fun W (hW : Tab W) => sum_any Z W hW (by rw [hZ, txt_size]; simp [zeroL]; omega)
          rw [show A.data.toList = la by rw [hA, txt_list]] at SA
          rw [show B.data.toList = lb by rw [hB, txt_list]] at SB
          rw [show X.data.toList = xorL la lb by rw [hX, txt_list]] at SX
          rw [show Z.data.toList = zeroL k by rw [hZ, txt_list]] at SZ
          rw [← hA] at TA
          rw [← hB] at TB
          rw [← hX] at TX
          rw [← hZ] at TZ
          have x1 := bits_xor_u32_nat (sumN la) (sumN lb) (sumN_lt _) (sumN_lt _)
          have x2 := bits_xor_u32_nat (sumN la ^^^ sumN lb) (sumN (xorL la lb)) (Nat.xor_lt_two_pow (n := 32) (sumN_lt _) (sumN_lt _)) (sumN_lt _)
          rw [sum_xor la lb (by omega), lA] at x2
          have AW := fun W (hW : Env W) => awake_any W hW
          have V0 := h.next BB
          have V1 : Env wr.drew := V0.next (Below.refl _ _).drew
          have BD : Below wr.heap.size wr wr.drew := (Below.refl _ _).drew
          generalize sumN la = sa at *
          generalize sumN lb = sb at *
          generalize sumN (xorL la lb) = sx at *
          generalize sumN (zeroL k) = sz at *
          generalize sa ^^^ sb = sab at *
          clear YA YB YZ hA hB hX hZ ZL ZN
          go_wp2_with fail
          refine wp_region_held_drew (S := fun w' => Below wr.heap.size wr w') (by kernel_rfl) (BD) (fun hHeld => ?_)
          refine wpAnyH_ready (rs := [0]) (by kernel_rfl) (by simp) ?_
          refine AllReadyH.cons rfl (fun Kc hKc => ?_) AllReadyH.nil
          simp only [List.getElem_toArray, List.getElem_cons_zero]
          rw [if_pos (by rfl)]
          go_wp2_with fail
          refine (AW _ V1).mono ?_
          rintro e w4 ⟨rfl, B4⟩
          have BB4 : Below wr.heap.size wr w4 := BD.trans B4
          have VT := (V0.next BB4).tab
          clear B4
          go_wp2_with fail
          refine hKc.out _ _ BB4 (fun hHeld => ?_)
          clear hKc Kc
          refine wpAnyH_take (i := 1) (v := (.bool true)) rfl (by kernel_rfl) (by kernel_rfl) (by kernel_rfl) (fun _ _ _ h => h) (Or.inl ⟨by rfl, ?_⟩) (by assumption) ?_
          · intro w' hSw
            go_simp
          simp only [List.getElem_toArray, List.getElem_cons_succ, List.getElem_cons_zero, Act.put, List.setIfInBounds_toArray, List.set_cons_zero, List.set_cons_succ]
          refine wpAnyH_take (i := 2) (v := (.slice (some ⟨ga, 0, none⟩) k ca)) rfl (by kernel_rfl) (by kernel_rfl) (by kernel_rfl) (fun _ _ _ h => h) (Or.inl ⟨by rfl, ?_⟩) (by assumption) ?_
          · intro w' hSw
            go_simp
          simp only [List.getElem_toArray, List.getElem_cons_succ, List.getElem_cons_zero, Act.put, List.setIfInBounds_toArray, List.set_cons_zero, List.set_cons_succ]
          refine wpAnyH_take (i := 3) (v := (.string A)) rfl (by kernel_rfl) (by kernel_rfl) (by kernel_rfl) (fun _ _ _ h => h) (Or.inl ⟨by rfl, ?_⟩) (by assumption) ?_
          · intro w' hSw
            have tt := TA w' hSw
            go_simp
          simp only [List.getElem_toArray, List.getElem_cons_succ, List.getElem_cons_zero, Act.put, List.setIfInBounds_toArray, List.set_cons_zero, List.set_cons_succ]
          refine wpAnyH_take (i := 5) (v := (.slice (some ⟨gb, 0, none⟩) k cb)) rfl (by kernel_rfl) (by kernel_rfl) (by kernel_rfl) (fun _ _ _ h => h) (Or.inl ⟨by rfl, ?_⟩) (by assumption) ?_
          · intro w' hSw
            go_simp
          simp only [List.getElem_toArray, List.getElem_cons_succ, List.getElem_cons_zero, Act.put, List.setIfInBounds_toArray, List.set_cons_zero, List.set_cons_succ]
          refine wpAnyH_take (i := 6) (v := (.string B)) rfl (by kernel_rfl) (by kernel_rfl) (by kernel_rfl) (fun _ _ _ h => h) (Or.inl ⟨by rfl, ?_⟩) (by assumption) ?_
          · intro w' hSw
            have tt := TB w' hSw
            go_simp
          simp only [List.getElem_toArray, List.getElem_cons_succ, List.getElem_cons_zero, Act.put, List.setIfInBounds_toArray, List.set_cons_zero, List.set_cons_succ]
          refine wpAnyH_take (i := 9) (v := (.slice (some ⟨gz, 0, none⟩) k k)) rfl (by kernel_rfl) (by kernel_rfl) (by kernel_rfl) (fun _ _ _ h => h) (Or.inl ⟨by rfl, ?_⟩) (by assumption) ?_
          · intro w' hSw
            go_simp
          simp only [List.getElem_toArray, List.getElem_cons_succ, List.getElem_cons_zero, Act.put, List.setIfInBounds_toArray, List.set_cons_zero, List.set_cons_succ]
          refine wpAnyH_take (i := 10) (v := (.string X)) rfl (by kernel_rfl) (by kernel_rfl) (by kernel_rfl) (fun _ _ _ h => h) (Or.inl ⟨by rfl, ?_⟩) (by assumption) ?_
          · intro w' hSw
            have tt := TX w' hSw
            go_simp
          simp only [List.getElem_toArray, List.getElem_cons_succ, List.getElem_cons_zero, Act.put, List.setIfInBounds_toArray, List.set_cons_zero, List.set_cons_succ]
          refine wpAnyH_take (i := 13) (v := (.int .i64 (k : Int))) rfl (by kernel_rfl) (by kernel_rfl) (by kernel_rfl) (fun _ _ _ h => h) (Or.inl ⟨by rfl, ?_⟩) (by assumption) ?_
          · intro w' hSw
            go_simp
          simp only [List.getElem_toArray, List.getElem_cons_succ, List.getElem_cons_zero, Act.put, List.setIfInBounds_toArray, List.set_cons_zero, List.set_cons_succ]
          refine wpAnyH_ready (rs := [4, 14]) (by kernel_rfl) (by simp) ?_
          refine AllReadyH.cons rfl (fun Kc hKc => ?_) (AllReadyH.cons rfl (fun Kc hKc => ?_) AllReadyH.nil)
          · simp only [List.getElem_toArray, List.getElem_cons_succ, List.getElem_cons_zero]
            rw [if_pos (by rfl)]
            go_wp2_with fail
            refine (SA _ VT).mono ?_
            rintro e w6 ⟨rfl, hw⟩
            replace hw := hw.symm
            subst hw
            go_wp2_with fail
            refine hKc.out _ _ BB4 (fun hHeld => ?_)
            clear hKc Kc
            refine wpAnyH_ready (rs := [7, 14]) (by kernel_rfl) (by simp) ?_
            refine AllReadyH.cons rfl (fun Kc hKc => ?_) (AllReadyH.cons rfl (fun Kc hKc => ?_) AllReadyH.nil)
            · simp only [List.getElem_toArray, List.getElem_cons_succ, List.getElem_cons_zero]
              rw [if_pos (by rfl)]
              go_wp2_with fail
              refine (SB _ VT).mono ?_
              rintro e w6 ⟨rfl, hw⟩
              replace hw := hw.symm
              subst hw
              go_wp2_with fail
              refine hKc.out _ _ BB4 (fun hHeld => ?_)
              clear hKc Kc
              refine wpAnyH_take (i := 8) (v := (.int .u32 (sab : Int))) rfl (by kernel_rfl) (by kernel_rfl) (by kernel_rfl) (fun _ _ _ h => h) (Or.inl ⟨by rfl, ?_⟩) (by assumption) ?_
              · intro w' hSw
                go_simp
              simp only [List.getElem_toArray, List.getElem_cons_succ, List.getElem_cons_zero, Act.put, List.setIfInBounds_toArray, List.set_cons_zero, List.set_cons_succ]
              refine wpAnyH_ready (rs := [11, 14]) (by kernel_rfl) (by simp) ?_
              refine AllReadyH.cons rfl (fun Kc hKc => ?_) (AllReadyH.cons rfl (fun Kc hKc => ?_) AllReadyH.nil)
              · simp only [List.getElem_toArray, List.getElem_cons_succ, List.getElem_cons_zero]
                rw [if_pos (by rfl)]
                go_wp2_with fail
                refine (SX _ VT).mono ?_
                rintro e w6 ⟨rfl, hw⟩
                replace hw := hw.symm
                subst hw
                go_wp2_with fail
                refine hKc.out _ _ BB4 (fun hHeld => ?_)
                clear hKc Kc
                refine wpAnyH_take (i := 12) (v := (.int .u32 (sz : Int))) rfl (by kernel_rfl) (by kernel_rfl) (by kernel_rfl) (fun _ _ _ h => h) (Or.inl ⟨by rfl, ?_⟩) (by assumption) ?_
                · intro w' hSw
                  go_simp
                simp only [List.getElem_toArray, List.getElem_cons_succ, List.getElem_cons_zero, Act.put, List.setIfInBounds_toArray, List.set_cons_zero, List.set_cons_succ]
                refine wpAnyH_ready (rs := [14]) (by kernel_rfl) (by simp) ?_
                refine AllReadyH.cons rfl (fun Kc hKc => ?_) AllReadyH.nil
                simp only [List.getElem_toArray, List.getElem_cons_succ, List.getElem_cons_zero]
                rw [if_pos (by rfl)]
                go_wp2_with fail
                have tz := TZ w4
                replace BB4 := below_alloc2 BB4 (.cells (madeCells #[.int .u8 0] k) 5)
                replace VT := (V0.next BB4).tab
                refine hKc.out _ _ BB4 (fun hHeld => ?_)
                clear hKc Kc
                refine wpAnyH_ready (rs := [15]) (by kernel_rfl) (by simp) ?_
                refine AllReadyH.cons rfl (fun Kc hKc => ?_) AllReadyH.nil
                simp only [List.getElem_toArray, List.getElem_cons_succ, List.getElem_cons_zero]
                rw [if_pos (by rfl)]
                go_wp2_with fail
                refine hKc.out _ _ BB4 (fun hHeld => ?_)
                clear hKc Kc
                refine wpAnyH_ready (rs := [16]) (by kernel_rfl) (by simp) ?_
                refine AllReadyH.cons rfl (fun Kc hKc => ?_) AllReadyH.nil
                simp only [List.getElem_toArray, List.getElem_cons_succ, List.getElem_cons_zero]
                rw [if_pos (by rfl)]
                go_wp2_with fail
                refine (SZ _ VT).mono ?_
                rintro e w6 ⟨rfl, hw⟩
                replace hw := hw.symm
                subst hw
                go_wp2_with fail
                refine hKc.out _ _ BB4 (fun hHeld => ?_)
                clear hKc Kc
                refine wpAnyH_take (i := 17) (v := (.bool true)) rfl (by kernel_rfl) (by kernel_rfl) (by kernel_rfl) (fun _ _ _ h => h) (Or.inl ⟨by rfl, ?_⟩) (by assumption) ?_
                · intro w' hSw
                  go_simp
                simp only [List.getElem_toArray, List.getElem_cons_succ, List.getElem_cons_zero, Act.put, List.setIfInBounds_toArray, List.set_cons_zero, List.set_cons_succ]
                refine wpAnyH_take (i := 18) (v := (.bool true)) rfl (by kernel_rfl) (by kernel_rfl) (by kernel_rfl) (fun _ _ _ h => h) (Or.inl ⟨by rfl, ?_⟩) (by assumption) ?_
                · intro w' hSw
                  go_simp
                simp only [List.getElem_toArray, List.getElem_cons_succ, List.getElem_cons_zero, Act.put, List.setIfInBounds_toArray, List.set_cons_zero, List.set_cons_succ]
                refine wpAnyH_take (i := 19) (v := (.bool true)) rfl (by kernel_rfl) (by kernel_rfl) (by kernel_rfl) (fun _ _ _ h => h) (Or.inl ⟨by rfl, ?_⟩) (by assumption) ?_
                · intro w' hSw
                  go_simp
                simp only [List.getElem_toArray, List.getElem_cons_succ, List.getElem_cons_zero, Act.put, List.setIfInBounds_toArray, List.set_cons_zero, List.set_cons_succ]
                refine wpAnyH_done (by kernel_rfl) ?_ _
                go_wp2_with fail
                go_ret
                exact ⟨rfl, below_then BB BB4⟩
              · simp only [List.getElem_toArray, List.getElem_cons_succ, List.getElem_cons_zero]
                rw [if_pos (by rfl)]
                go_wp2_with fail
                have tz := TZ w4
                replace BB4 := below_alloc2 BB4 (.cells (madeCells #[.int .u8 0] k) 5)
                replace VT := (V0.next BB4).tab
                refine hKc.out _ _ BB4 (fun hHeld => ?_)
                clear hKc Kc
                refine wpAnyH_ready (rs := [11, 15]) (by kernel_rfl) (by simp) ?_
                refine AllReadyH.cons rfl (fun Kc hKc => ?_) (AllReadyH.cons rfl (fun Kc hKc => ?_) AllReadyH.nil)
                · simp only [List.getElem_toArray, List.getElem_cons_succ, List.getElem_cons_zero]
                  rw [if_pos (by rfl)]
                  go_wp2_with fail
                  refine (SX _ VT).mono ?_
                  rintro e w6 ⟨rfl, hw⟩
                  replace hw := hw.symm
                  subst hw
                  go_wp2_with fail
                  refine hKc.out _ _ BB4 (fun hHeld => ?_)
                  clear hKc Kc
                  refine wpAnyH_take (i := 12) (v := (.int .u32 (sz : Int))) rfl (by kernel_rfl) (by kernel_rfl) (by kernel_rfl) (fun _ _ _ h => h) (Or.inl ⟨by rfl, ?_⟩) (by assumption) ?_
                  · intro w' hSw
                    go_simp
                  simp only [List.getElem_toArray, List.getElem_cons_succ, List.getElem_cons_zero, Act.put, List.setIfInBounds_toArray, List.set_cons_zero, List.set_cons_succ]
                  refine wpAnyH_ready (rs := [15]) (by kernel_rfl) (by simp) ?_
                  refine AllReadyH.cons rfl (fun Kc hKc => ?_) AllReadyH.nil
                  simp only [List.getElem_toArray, List.getElem_cons_succ, List.getElem_cons_zero]
                  rw [if_pos (by rfl)]
                  go_wp2_with fail
                  refine hKc.out _ _ BB4 (fun hHeld => ?_)
                  clear hKc Kc
                  refine wpAnyH_ready (rs := [16]) (by kernel_rfl) (by simp) ?_
                  refine AllReadyH.cons rfl (fun Kc hKc => ?_) AllReadyH.nil
                  simp only [List.getElem_toArray, List.getElem_cons_succ, List.getElem_cons_zero]
                  rw [if_pos (by rfl)]
                  go_wp2_with fail
                  refine (SZ _ VT).mono ?_
                  rintro e w6 ⟨rfl, hw⟩
                  replace hw := hw.symm
                  subst hw
                  go_wp2_with fail
                  refine hKc.out _ _ BB4 (fun hHeld => ?_)
                  clear hKc Kc
                  refine wpAnyH_take (i := 17) (v := (.bool true)) rfl (by kernel_rfl) (by kernel_rfl) (by kernel_rfl) (fun _ _ _ h => h) (Or.inl ⟨by rfl, ?_⟩) (by assumption) ?_
                  · intro w' hSw
                    go_simp
                  simp only [List.getElem_toArray, List.getElem_cons_succ, List.getElem_cons_zero, Act.put, List.setIfInBounds_toArray, List.set_cons_zero, List.set_cons_succ]
                  refine wpAnyH_take (i := 18) (v := (.bool true)) rfl (by kernel_rfl) (by kernel_rfl) (by kernel_rfl) (fun _ _ _ h => h) (Or.inl ⟨by rfl, ?_⟩) (by assumption) ?_
                  · intro w' hSw
                    go_simp
                  simp only [List.getElem_toArray, List.getElem_cons_succ, List.getElem_cons_zero, Act.put, List.setIfInBounds_toArray, List.set_cons_zero, List.set_cons_succ]
                  refine wpAnyH_take (i := 19) (v := (.bool true)) rfl (by kernel_rfl) (by kernel_rfl) (by kernel_rfl) (fun _ _ _ h => h) (Or.inl ⟨by rfl, ?_⟩) (by assumption) ?_
                  · intro w' hSw
                    go_simp
                  simp only [List.getElem_toArray, List.getElem_cons_succ, List.getElem_cons_zero, Act.put, List.setIfInBounds_toArray, List.set_cons_zero, List.set_cons_succ]
                  refine wpAnyH_done (by kernel_rfl) ?_ _
                  go_wp2_with fail
                  go_ret
                  exact ⟨rfl, below_then BB BB4⟩
                · simp only [List.getElem_toArray, List.getElem_cons_succ, List.getElem_cons_zero]
                  rw [if_pos (by rfl)]
                  go_wp2_with fail
                  refine hKc.out _ _ BB4 (fun hHeld => ?_)
                  clear hKc Kc
                  refine wpAnyH_ready (rs := [11]) (by kernel_rfl) (by simp) ?_
                  refine AllReadyH.cons rfl (fun Kc hKc => ?_) AllReadyH.nil
                  simp only [List.getElem_toArray, List.getElem_cons_succ, List.getElem_cons_zero]
                  rw [if_pos (by rfl)]
                  go_wp2_with fail
                  refine (SX _ VT).mono ?_
                  rintro e w6 ⟨rfl, hw⟩
                  replace hw := hw.symm
                  subst hw
                  go_wp2_with fail
                  refine hKc.out _ _ BB4 (fun hHeld => ?_)
                  clear hKc Kc
                  refine wpAnyH_take (i := 12) (v := (.int .u32 (sz : Int))) rfl (by kernel_rfl) (by kernel_rfl) (by kernel_rfl) (fun _ _ _ h => h) (Or.inl ⟨by rfl, ?_⟩) (by assumption) ?_
                  · intro w' hSw
                    go_simp
                  simp only [List.getElem_toArray, List.getElem_cons_succ, List.getElem_cons_zero, Act.put, List.setIfInBounds_toArray, List.set_cons_zero, List.set_cons_succ]
                  refine wpAnyH_ready (rs := [16]) (by kernel_rfl) (by simp) ?_
                  refine AllReadyH.cons rfl (fun Kc hKc => ?_) AllReadyH.nil
                  simp only [List.getElem_toArray, List.getElem_cons_succ, List.getElem_cons_zero]
                  rw [if_pos (by rfl)]
                  go_wp2_with fail
                  refine (SZ _ VT).mono ?_
                  rintro e w6 ⟨rfl, hw⟩
                  replace hw := hw.symm
                  subst hw
                  go_wp2_with fail
                  refine hKc.out _ _ BB4 (fun hHeld => ?_)
                  clear hKc Kc
                  refine wpAnyH_take (i := 17) (v := (.bool true)) rfl (by kernel_rfl) (by kernel_rfl) (by kernel_rfl) (fun _ _ _ h => h) (Or.inl ⟨by rfl, ?_⟩) (by assumption) ?_
                  · intro w' hSw
                    go_simp
                  simp only [List.getElem_toArray, List.getElem_cons_succ, List.getElem_cons_zero, Act.put, List.setIfInBounds_toArray, List.set_cons_zero, List.set_cons_succ]
                  refine wpAnyH_take (i := 18) (v := (.bool true)) rfl (by kernel_rfl) (by kernel_rfl) (by kernel_rfl) (fun _ _ _ h => h) (Or.inl ⟨by rfl, ?_⟩) (by assumption) ?_
                  · intro w' hSw
                    go_simp
                  simp only [List.getElem_toArray, List.getElem_cons_succ, List.getElem_cons_zero, Act.put, List.setIfInBounds_toArray, List.set_cons_zero, List.set_cons_succ]
                  refine wpAnyH_take (i := 19) (v := (.bool true)) rfl (by kernel_rfl) (by kernel_rfl) (by kernel_rfl) (fun _ _ _ h => h) (Or.inl ⟨by rfl, ?_⟩) (by assumption) ?_
                  · intro w' hSw
                    go_simp
                  simp only [List.getElem_toArray, List.getElem_cons_succ, List.getElem_cons_zero, Act.put, List.setIfInBounds_toArray, List.set_cons_zero, List.set_cons_succ]
                  refine wpAnyH_done (by kernel_rfl) ?_ _
                  go_wp2_with fail
                  go_ret
                  exact ⟨rfl, below_then BB BB4⟩
            · simp only [List.getElem_toArray, List.getElem_cons_succ, List.getElem_cons_zero]
              rw [if_pos (by rfl)]
              go_wp2_with fail
              have tz := TZ w4
              replace BB4 := below_alloc2 BB4 (.cells (madeCells #[.int .u8 0] k) 5)
              replace VT := (V0.next BB4).tab
              refine hKc.out _ _ BB4 (fun hHeld => ?_)
              clear hKc Kc
              refine wpAnyH_ready (rs := [7, 15]) (by kernel_rfl) (by simp) ?_
              refine AllReadyH.cons rfl (fun Kc hKc => ?_) (AllReadyH.cons rfl (fun Kc hKc => ?_) AllReadyH.nil)
              · simp only [List.getElem_toArray, List.getElem_cons_succ, List.getElem_cons_zero]
                rw [if_pos (by rfl)]
                go_wp2_with fail
                refine (SB _ VT).mono ?_
                rintro e w6 ⟨rfl, hw⟩
                replace hw := hw.symm
                subst hw
                go_wp2_with fail
                refine hKc.out _ _ BB4 (fun hHeld => ?_)
                clear hKc Kc
                refine wpAnyH_take (i := 8) (v := (.int .u32 (sab : Int))) rfl (by kernel_rfl) (by kernel_rfl) (by kernel_rfl) (fun _ _ _ h => h) (Or.inl ⟨by rfl, ?_⟩) (by assumption) ?_
                · intro w' hSw
                  go_simp
                simp only [List.getElem_toArray, List.getElem_cons_succ, List.getElem_cons_zero, Act.put, List.setIfInBounds_toArray, List.set_cons_zero, List.set_cons_succ]
                refine wpAnyH_ready (rs := [11, 15]) (by kernel_rfl) (by simp) ?_
                refine AllReadyH.cons rfl (fun Kc hKc => ?_) (AllReadyH.cons rfl (fun Kc hKc => ?_) AllReadyH.nil)
                · simp only [List.getElem_toArray, List.getElem_cons_succ, List.getElem_cons_zero]
                  rw [if_pos (by rfl)]
                  go_wp2_with fail
                  refine (SX _ VT).mono ?_
                  rintro e w6 ⟨rfl, hw⟩
                  replace hw := hw.symm
                  subst hw
                  go_wp2_with fail
                  refine hKc.out _ _ BB4 (fun hHeld => ?_)
                  clear hKc Kc
                  refine wpAnyH_take (i := 12) (v := (.int .u32 (sz : Int))) rfl (by kernel_rfl) (by kernel_rfl) (by kernel_rfl) (fun _ _ _ h => h) (Or.inl ⟨by rfl, ?_⟩) (by assumption) ?_
                  · intro w' hSw
                    go_simp
                  simp only [List.getElem_toArray, List.getElem_cons_succ, List.getElem_cons_zero, Act.put, List.setIfInBounds_toArray, List.set_cons_zero, List.set_cons_succ]
                  refine wpAnyH_ready (rs := [15]) (by kernel_rfl) (by simp) ?_
                  refine AllReadyH.cons rfl (fun Kc hKc => ?_) AllReadyH.nil
                  simp only [List.getElem_toArray, List.getElem_cons_succ, List.getElem_cons_zero]
                  rw [if_pos (by rfl)]
                  go_wp2_with fail
                  refine hKc.out _ _ BB4 (fun hHeld => ?_)
                  clear hKc Kc
                  refine wpAnyH_ready (rs := [16]) (by kernel_rfl) (by simp) ?_
                  refine AllReadyH.cons rfl (fun Kc hKc => ?_) AllReadyH.nil
                  simp only [List.getElem_toArray, List.getElem_cons_succ, List.getElem_cons_zero]
                  rw [if_pos (by rfl)]
                  go_wp2_with fail
                  refine (SZ _ VT).mono ?_
                  rintro e w6 ⟨rfl, hw⟩
                  replace hw := hw.symm
                  subst hw
                  go_wp2_with fail
                  refine hKc.out _ _ BB4 (fun hHeld => ?_)
                  clear hKc Kc
                  refine wpAnyH_take (i := 17) (v := (.bool true)) rfl (by kernel_rfl) (by kernel_rfl) (by kernel_rfl) (fun _ _ _ h => h) (Or.inl ⟨by rfl, ?_⟩) (by assumption) ?_
                  · intro w' hSw
                    go_simp
                  simp only [List.getElem_toArray, List.getElem_cons_succ, List.getElem_cons_zero, Act.put, List.setIfInBounds_toArray, List.set_cons_zero, List.set_cons_succ]
                  refine wpAnyH_take (i := 18) (v := (.bool true)) rfl (by kernel_rfl) (by kernel_rfl) (by kernel_rfl) (fun _ _ _ h => h) (Or.inl ⟨by rfl, ?_⟩) (by assumption) ?_
                  · intro w' hSw
                    go_simp
                  simp only [List.getElem_toArray, List.getElem_cons_succ, List.getElem_cons_zero, Act.put, List.setIfInBounds_toArray, List.set_cons_zero, List.set_cons_succ]
                  refine wpAnyH_take (i := 19) (v := (.bool true)) rfl (by kernel_rfl) (by kernel_rfl) (by kernel_rfl) (fun _ _ _ h => h) (Or.inl ⟨by rfl, ?_⟩) (by assumption) ?_
                  · intro w' hSw
                    go_simp
                  simp only [List.getElem_toArray, List.getElem_cons_succ, List.getElem_cons_zero, Act.put, List.setIfInBounds_toArray, List.set_cons_zero, List.set_cons_succ]
                  refine wpAnyH_done (by kernel_rfl) ?_ _
                  go_wp2_with fail
                  go_ret
                  exact ⟨rfl, below_then BB BB4⟩
                · simp only [List.getElem_toArray, List.getElem_cons_succ, List.getElem_cons_zero]
                  rw [if_pos (by rfl)]
                  go_wp2_with fail
                  refine hKc.out _ _ BB4 (fun hHeld => ?_)
                  clear hKc Kc
                  refine wpAnyH_ready (rs := [11]) (by kernel_rfl) (by simp) ?_
                  refine AllReadyH.cons rfl (fun Kc hKc => ?_) AllReadyH.nil
                  simp only [List.getElem_toArray, List.getElem_cons_succ, List.getElem_cons_zero]
                  rw [if_pos (by rfl)]
                  go_wp2_with fail
                  refine (SX _ VT).mono ?_
                  rintro e w6 ⟨rfl, hw⟩
                  replace hw := hw.symm
                  subst hw
                  go_wp2_with fail
                  refine hKc.out _ _ BB4 (fun hHeld => ?_)
                  clear hKc Kc
                  refine wpAnyH_take (i := 12) (v := (.int .u32 (sz : Int))) rfl (by kernel_rfl) (by kernel_rfl) (by kernel_rfl) (fun _ _ _ h => h) (Or.inl ⟨by rfl, ?_⟩) (by assumption) ?_
                  · intro w' hSw
                    go_simp
                  simp only [List.getElem_toArray, List.getElem_cons_succ, List.getElem_cons_zero, Act.put, List.setIfInBounds_toArray, List.set_cons_zero, List.set_cons_succ]
                  refine wpAnyH_ready (rs := [16]) (by kernel_rfl) (by simp) ?_
                  refine AllReadyH.cons rfl (fun Kc hKc => ?_) AllReadyH.nil
                  simp only [List.getElem_toArray, List.getElem_cons_succ, List.getElem_cons_zero]
                  rw [if_pos (by rfl)]
                  go_wp2_with fail
                  refine (SZ _ VT).mono ?_
                  rintro e w6 ⟨rfl, hw⟩
                  replace hw := hw.symm
                  subst hw
                  go_wp2_with fail
                  refine hKc.out _ _ BB4 (fun hHeld => ?_)
                  clear hKc Kc
                  refine wpAnyH_take (i := 17) (v := (.bool true)) rfl (by kernel_rfl) (by kernel_rfl) (by kernel_rfl) (fun _ _ _ h => h) (Or.inl ⟨by rfl, ?_⟩) (by assumption) ?_
                  · intro w' hSw
                    go_simp
                  simp only [List.getElem_toArray, List.getElem_cons_succ, List.getElem_cons_zero, Act.put, List.setIfInBounds_toArray, List.set_cons_zero, List.set_cons_succ]
                  refine wpAnyH_take (i := 18) (v := (.bool true)) rfl (by kernel_rfl) (by kernel_rfl) (by kernel_rfl) (fun _ _ _ h => h) (Or.inl ⟨by rfl, ?_⟩) (by assumption) ?_
                  · intro w' hSw
                    go_simp
                  simp only [List.getElem_toArray, List.getElem_cons_succ, List.getElem_cons_zero, Act.put, List.setIfInBounds_toArray, List.set_cons_zero, List.set_cons_succ]
                  refine wpAnyH_take (i := 19) (v := (.bool true)) rfl (by kernel_rfl) (by kernel_rfl) (by kernel_rfl) (fun _ _ _ h => h) (Or.inl ⟨by rfl, ?_⟩) (by assumption) ?_
                  · intro w' hSw
                    go_simp
                  simp only [List.getElem_toArray, List.getElem_cons_succ, List.getElem_cons_zero, Act.put, List.setIfInBounds_toArray, List.set_cons_zero, List.set_cons_succ]
                  refine wpAnyH_done (by kernel_rfl) ?_ _
                  go_wp2_with fail
                  go_ret
                  exact ⟨rfl, below_then BB BB4⟩
              · simp only [List.getElem_toArray, List.getElem_cons_succ, List.getElem_cons_zero]
                rw [if_pos (by rfl)]
                go_wp2_with fail
                refine hKc.out _ _ BB4 (fun hHeld => ?_)
                clear hKc Kc
                refine wpAnyH_ready (rs := [7]) (by kernel_rfl) (by simp) ?_
                refine AllReadyH.cons rfl (fun Kc hKc => ?_) AllReadyH.nil
                simp only [List.getElem_toArray, List.getElem_cons_succ, List.getElem_cons_zero]
                rw [if_pos (by rfl)]
                go_wp2_with fail
                refine (SB _ VT).mono ?_
                rintro e w6 ⟨rfl, hw⟩
                replace hw := hw.symm
                subst hw
                go_wp2_with fail
                refine hKc.out _ _ BB4 (fun hHeld => ?_)
                clear hKc Kc
                refine wpAnyH_take (i := 8) (v := (.int .u32 (sab : Int))) rfl (by kernel_rfl) (by kernel_rfl) (by kernel_rfl) (fun _ _ _ h => h) (Or.inl ⟨by rfl, ?_⟩) (by assumption) ?_
                · intro w' hSw
                  go_simp
                simp only [List.getElem_toArray, List.getElem_cons_succ, List.getElem_cons_zero, Act.put, List.setIfInBounds_toArray, List.set_cons_zero, List.set_cons_succ]
                refine wpAnyH_ready (rs := [11]) (by kernel_rfl) (by simp) ?_
                refine AllReadyH.cons rfl (fun Kc hKc => ?_) AllReadyH.nil
                simp only [List.getElem_toArray, List.getElem_cons_succ, List.getElem_cons_zero]
                rw [if_pos (by rfl)]
                go_wp2_with fail
                refine (SX _ VT).mono ?_
                rintro e w6 ⟨rfl, hw⟩
                replace hw := hw.symm
                subst hw
                go_wp2_with fail
                refine hKc.out _ _ BB4 (fun hHeld => ?_)
                clear hKc Kc
                refine wpAnyH_take (i := 12) (v := (.int .u32 (sz : Int))) rfl (by kernel_rfl) (by kernel_rfl) (by kernel_rfl) (fun _ _ _ h => h) (Or.inl ⟨by rfl, ?_⟩) (by assumption) ?_
                · intro w' hSw
                  go_simp
                simp only [List.getElem_toArray, List.getElem_cons_succ, List.getElem_cons_zero, Act.put, List.setIfInBounds_toArray, List.set_cons_zero, List.set_cons_succ]
                refine wpAnyH_ready (rs := [16]) (by kernel_rfl) (by simp) ?_
                refine AllReadyH.cons rfl (fun Kc hKc => ?_) AllReadyH.nil
                simp only [List.getElem_toArray, List.getElem_cons_succ, List.getElem_cons_zero]
                rw [if_pos (by rfl)]
                go_wp2_with fail
                refine (SZ _ VT).mono ?_
                rintro e w6 ⟨rfl, hw⟩
                replace hw := hw.symm
                subst hw
                go_wp2_with fail
                refine hKc.out _ _ BB4 (fun hHeld => ?_)
                clear hKc Kc
                refine wpAnyH_take (i := 17) (v := (.bool true)) rfl (by kernel_rfl) (by kernel_rfl) (by kernel_rfl) (fun _ _ _ h => h) (Or.inl ⟨by rfl, ?_⟩) (by assumption) ?_
                · intro w' hSw
                  go_simp
                simp only [List.getElem_toArray, List.getElem_cons_succ, List.getElem_cons_zero, Act.put, List.setIfInBounds_toArray, List.set_cons_zero, List.set_cons_succ]
                refine wpAnyH_take (i := 18) (v := (.bool true)) rfl (by kernel_rfl) (by kernel_rfl) (by kernel_rfl) (fun _ _ _ h => h) (Or.inl ⟨by rfl, ?_⟩) (by assumption) ?_
                · intro w' hSw
                  go_simp
                simp only [List.getElem_toArray, List.getElem_cons_succ, List.getElem_cons_zero, Act.put, List.setIfInBounds_toArray, List.set_cons_zero, List.set_cons_succ]
                refine wpAnyH_take (i := 19) (v := (.bool true)) rfl (by kernel_rfl) (by kernel_rfl) (by kernel_rfl) (fun _ _ _ h => h) (Or.inl ⟨by rfl, ?_⟩) (by assumption) ?_
                · intro w' hSw
                  go_simp
                simp only [List.getElem_toArray, List.getElem_cons_succ, List.getElem_cons_zero, Act.put, List.setIfInBounds_toArray, List.set_cons_zero, List.set_cons_succ]
                refine wpAnyH_done (by kernel_rfl) ?_ _
                go_wp2_with fail
                go_ret
                exact ⟨rfl, below_then BB BB4⟩
          · simp only [List.getElem_toArray, List.getElem_cons_succ, List.getElem_cons_zero]
            rw [if_pos (by rfl)]
            go_wp2_with fail
            have tz := TZ w4
            replace BB4 := below_alloc2 BB4 (.cells (madeCells #[.int .u8 0] k) 5)
            replace VT := (V0.next BB4).tab
            refine hKc.out _ _ BB4 (fun hHeld => ?_)
            clear hKc Kc
            refine wpAnyH_ready (rs := [4, 15]) (by kernel_rfl) (by simp) ?_
            refine AllReadyH.cons rfl (fun Kc hKc => ?_) (AllReadyH.cons rfl (fun Kc hKc => ?_) AllReadyH.nil)
            · simp only [List.getElem_toArray, List.getElem_cons_succ, List.getElem_cons_zero]
              rw [if_pos (by rfl)]
              go_wp2_with fail
              refine (SA _ VT).mono ?_
              rintro e w6 ⟨rfl, hw⟩
              replace hw := hw.symm
              subst hw
              go_wp2_with fail
              refine hKc.out _ _ BB4 (fun hHeld => ?_)
              clear hKc Kc
              refine wpAnyH_ready (rs := [7, 15]) (by kernel_rfl) (by simp) ?_
              refine AllReadyH.cons rfl (fun Kc hKc => ?_) (AllReadyH.cons rfl (fun Kc hKc => ?_) AllReadyH.nil)
              · simp only [List.getElem_toArray, List.getElem_cons_succ, List.getElem_cons_zero]
                rw [if_pos (by rfl)]
                go_wp2_with fail
                refine (SB _ VT).mono ?_
                rintro e w6 ⟨rfl, hw⟩
                replace hw := hw.symm
                subst hw
                go_wp2_with fail
                refine hKc.out _ _ BB4 (fun hHeld => ?_)
                clear hKc Kc
                refine wpAnyH_take (i := 8) (v := (.int .u32 (sab : Int))) rfl (by kernel_rfl) (by kernel_rfl) (by kernel_rfl) (fun _ _ _ h => h) (Or.inl ⟨by rfl, ?_⟩) (by assumption) ?_
                · intro w' hSw
                  go_simp
                simp only [List.getElem_toArray, List.getElem_cons_succ, List.getElem_cons_zero, Act.put, List.setIfInBounds_toArray, List.set_cons_zero, List.set_cons_succ]
                refine wpAnyH_ready (rs := [11, 15]) (by kernel_rfl) (by simp) ?_
                refine AllReadyH.cons rfl (fun Kc hKc => ?_) (AllReadyH.cons rfl (fun Kc hKc => ?_) AllReadyH.nil)
                · simp only [List.getElem_toArray, List.getElem_cons_succ, List.getElem_cons_zero]
                  rw [if_pos (by rfl)]
                  go_wp2_with fail
                  refine (SX _ VT).mono ?_
                  rintro e w6 ⟨rfl, hw⟩
                  replace hw := hw.symm
                  subst hw
                  go_wp2_with fail
                  refine hKc.out _ _ BB4 (fun hHeld => ?_)
                  clear hKc Kc
                  refine wpAnyH_take (i := 12) (v := (.int .u32 (sz : Int))) rfl (by kernel_rfl) (by kernel_rfl) (by kernel_rfl) (fun _ _ _ h => h) (Or.inl ⟨by rfl, ?_⟩) (by assumption) ?_
                  · intro w' hSw
                    go_simp
                  simp only [List.getElem_toArray, List.getElem_cons_succ, List.getElem_cons_zero, Act.put, List.setIfInBounds_toArray, List.set_cons_zero, List.set_cons_succ]
                  refine wpAnyH_ready (rs := [15]) (by kernel_rfl) (by simp) ?_
                  refine AllReadyH.cons rfl (fun Kc hKc => ?_) AllReadyH.nil
                  simp only [List.getElem_toArray, List.getElem_cons_succ, List.getElem_cons_zero]
                  rw [if_pos (by rfl)]
                  go_wp2_with fail
                  refine hKc.out _ _ BB4 (fun hHeld => ?_)
                  clear hKc Kc
                  refine wpAnyH_ready (rs := [16]) (by kernel_rfl) (by simp) ?_
                  refine AllReadyH.cons rfl (fun Kc hKc => ?_) AllReadyH.nil
                  simp only [List.getElem_toArray, List.getElem_cons_succ, List.getElem_cons_zero]
                  rw [if_pos (by rfl)]
                  go_wp2_with fail
                  refine (SZ _ VT).mono ?_
                  rintro e w6 ⟨rfl, hw⟩
                  replace hw := hw.symm
                  subst hw
                  go_wp2_with fail
                  refine hKc.out _ _ BB4 (fun hHeld => ?_)
                  clear hKc Kc
                  refine wpAnyH_take (i := 17) (v := (.bool true)) rfl (by kernel_rfl) (by kernel_rfl) (by kernel_rfl) (fun _ _ _ h => h) (Or.inl ⟨by rfl, ?_⟩) (by assumption) ?_
                  · intro w' hSw
                    go_simp
                  simp only [List.getElem_toArray, List.getElem_cons_succ, List.getElem_cons_zero, Act.put, List.setIfInBounds_toArray, List.set_cons_zero, List.set_cons_succ]
                  refine wpAnyH_take (i := 18) (v := (.bool true)) rfl (by kernel_rfl) (by kernel_rfl) (by kernel_rfl) (fun _ _ _ h => h) (Or.inl ⟨by rfl, ?_⟩) (by assumption) ?_
                  · intro w' hSw
                    go_simp
                  simp only [List.getElem_toArray, List.getElem_cons_succ, List.getElem_cons_zero, Act.put, List.setIfInBounds_toArray, List.set_cons_zero, List.set_cons_succ]
                  refine wpAnyH_take (i := 19) (v := (.bool true)) rfl (by kernel_rfl) (by kernel_rfl) (by kernel_rfl) (fun _ _ _ h => h) (Or.inl ⟨by rfl, ?_⟩) (by assumption) ?_
                  · intro w' hSw
                    go_simp
                  simp only [List.getElem_toArray, List.getElem_cons_succ, List.getElem_cons_zero, Act.put, List.setIfInBounds_toArray, List.set_cons_zero, List.set_cons_succ]
                  refine wpAnyH_done (by kernel_rfl) ?_ _
                  go_wp2_with fail
                  go_ret
                  exact ⟨rfl, below_then BB BB4⟩
                · simp only [List.getElem_toArray, List.getElem_cons_succ, List.getElem_cons_zero]
                  rw [if_pos (by rfl)]
                  go_wp2_with fail
                  refine hKc.out _ _ BB4 (fun hHeld => ?_)
                  clear hKc Kc
                  refine wpAnyH_ready (rs := [11]) (by kernel_rfl) (by simp) ?_
                  refine AllReadyH.cons rfl (fun Kc hKc => ?_) AllReadyH.nil
                  simp only [List.getElem_toArray, List.getElem_cons_succ, List.getElem_cons_zero]
                  rw [if_pos (by rfl)]
                  go_wp2_with fail
                  refine (SX _ VT).mono ?_
                  rintro e w6 ⟨rfl, hw⟩
                  replace hw := hw.symm
                  subst hw
                  go_wp2_with fail
                  refine hKc.out _ _ BB4 (fun hHeld => ?_)
                  clear hKc Kc
                  refine wpAnyH_take (i := 12) (v := (.int .u32 (sz : Int))) rfl (by kernel_rfl) (by kernel_rfl) (by kernel_rfl) (fun _ _ _ h => h) (Or.inl ⟨by rfl, ?_⟩) (by assumption) ?_
                  · intro w' hSw
                    go_simp
                  simp only [List.getElem_toArray, List.getElem_cons_succ, List.getElem_cons_zero, Act.put, List.setIfInBounds_toArray, List.set_cons_zero, List.set_cons_succ]
                  refine wpAnyH_ready (rs := [16]) (by kernel_rfl) (by simp) ?_
                  refine AllReadyH.cons rfl (fun Kc hKc => ?_) AllReadyH.nil
                  simp only [List.getElem_toArray, List.getElem_cons_succ, List.getElem_cons_zero]
                  rw [if_pos (by rfl)]
                  go_wp2_with fail
                  refine (SZ _ VT).mono ?_
                  rintro e w6 ⟨rfl, hw⟩
                  replace hw := hw.symm
                  subst hw
                  go_wp2_with fail
                  refine hKc.out _ _ BB4 (fun hHeld => ?_)
                  clear hKc Kc
                  refine wpAnyH_take (i := 17) (v := (.bool true)) rfl (by kernel_rfl) (by kernel_rfl) (by kernel_rfl) (fun _ _ _ h => h) (Or.inl ⟨by rfl, ?_⟩) (by assumption) ?_
                  · intro w' hSw
                    go_simp
                  simp only [List.getElem_toArray, List.getElem_cons_succ, List.getElem_cons_zero, Act.put, List.setIfInBounds_toArray, List.set_cons_zero, List.set_cons_succ]
                  refine wpAnyH_take (i := 18) (v := (.bool true)) rfl (by kernel_rfl) (by kernel_rfl) (by kernel_rfl) (fun _ _ _ h => h) (Or.inl ⟨by rfl, ?_⟩) (by assumption) ?_
                  · intro w' hSw
                    go_simp
                  simp only [List.getElem_toArray, List.getElem_cons_succ, List.getElem_cons_zero, Act.put, List.setIfInBounds_toArray, List.set_cons_zero, List.set_cons_succ]
                  refine wpAnyH_take (i := 19) (v := (.bool true)) rfl (by kernel_rfl) (by kernel_rfl) (by kernel_rfl) (fun _ _ _ h => h) (Or.inl ⟨by rfl, ?_⟩) (by assumption) ?_
                  · intro w' hSw
                    go_simp
                  simp only [List.getElem_toArray, List.getElem_cons_succ, List.getElem_cons_zero, Act.put, List.setIfInBounds_toArray, List.set_cons_zero, List.set_cons_succ]
                  refine wpAnyH_done (by kernel_rfl) ?_ _
                  go_wp2_with fail
                  go_ret
                  exact ⟨rfl, below_then BB BB4⟩
              · simp only [List.getElem_toArray, List.getElem_cons_succ, List.getElem_cons_zero]
                rw [if_pos (by rfl)]
                go_wp2_with fail
                refine hKc.out _ _ BB4 (fun hHeld => ?_)
                clear hKc Kc
                refine wpAnyH_ready (rs := [7]) (by kernel_rfl) (by simp) ?_
                refine AllReadyH.cons rfl (fun Kc hKc => ?_) AllReadyH.nil
                simp only [List.getElem_toArray, List.getElem_cons_succ, List.getElem_cons_zero]
                rw [if_pos (by rfl)]
                go_wp2_with fail
                refine (SB _ VT).mono ?_
                rintro e w6 ⟨rfl, hw⟩
                replace hw := hw.symm
                subst hw
                go_wp2_with fail
                refine hKc.out _ _ BB4 (fun hHeld => ?_)
                clear hKc Kc
                refine wpAnyH_take (i := 8) (v := (.int .u32 (sab : Int))) rfl (by kernel_rfl) (by kernel_rfl) (by kernel_rfl) (fun _ _ _ h => h) (Or.inl ⟨by rfl, ?_⟩) (by assumption) ?_
                · intro w' hSw
                  go_simp
                simp only [List.getElem_toArray, List.getElem_cons_succ, List.getElem_cons_zero, Act.put, List.setIfInBounds_toArray, List.set_cons_zero, List.set_cons_succ]
                refine wpAnyH_ready (rs := [11]) (by kernel_rfl) (by simp) ?_
                refine AllReadyH.cons rfl (fun Kc hKc => ?_) AllReadyH.nil
                simp only [List.getElem_toArray, List.getElem_cons_succ, List.getElem_cons_zero]
                rw [if_pos (by rfl)]
                go_wp2_with fail
                refine (SX _ VT).mono ?_
                rintro e w6 ⟨rfl, hw⟩
                replace hw := hw.symm
                subst hw
                go_wp2_with fail
                refine hKc.out _ _ BB4 (fun hHeld => ?_)
                clear hKc Kc
                refine wpAnyH_take (i := 12) (v := (.int .u32 (sz : Int))) rfl (by kernel_rfl) (by kernel_rfl) (by kernel_rfl) (fun _ _ _ h => h) (Or.inl ⟨by rfl, ?_⟩) (by assumption) ?_
                · intro w' hSw
                  go_simp
                simp only [List.getElem_toArray, List.getElem_cons_succ, List.getElem_cons_zero, Act.put, List.setIfInBounds_toArray, List.set_cons_zero, List.set_cons_succ]
                refine wpAnyH_ready (rs := [16]) (by kernel_rfl) (by simp) ?_
                refine AllReadyH.cons rfl (fun Kc hKc => ?_) AllReadyH.nil
                simp only [List.getElem_toArray, List.getElem_cons_succ, List.getElem_cons_zero]
                rw [if_pos (by rfl)]
                go_wp2_with fail
                refine (SZ _ VT).mono ?_
                rintro e w6 ⟨rfl, hw⟩
                replace hw := hw.symm
                subst hw
                go_wp2_with fail
                refine hKc.out _ _ BB4 (fun hHeld => ?_)
                clear hKc Kc
                refine wpAnyH_take (i := 17) (v := (.bool true)) rfl (by kernel_rfl) (by kernel_rfl) (by kernel_rfl) (fun _ _ _ h => h) (Or.inl ⟨by rfl, ?_⟩) (by assumption) ?_
                · intro w' hSw
                  go_simp
                simp only [List.getElem_toArray, List.getElem_cons_succ, List.getElem_cons_zero, Act.put, List.setIfInBounds_toArray, List.set_cons_zero, List.set_cons_succ]
                refine wpAnyH_take (i := 18) (v := (.bool true)) rfl (by kernel_rfl) (by kernel_rfl) (by kernel_rfl) (fun _ _ _ h => h) (Or.inl ⟨by rfl, ?_⟩) (by assumption) ?_
                · intro w' hSw
                  go_simp
                simp only [List.getElem_toArray, List.getElem_cons_succ, List.getElem_cons_zero, Act.put, List.setIfInBounds_toArray, List.set_cons_zero, List.set_cons_succ]
                refine wpAnyH_take (i := 19) (v := (.bool true)) rfl (by kernel_rfl) (by kernel_rfl) (by kernel_rfl) (fun _ _ _ h => h) (Or.inl ⟨by rfl, ?_⟩) (by assumption) ?_
                · intro w' hSw
                  go_simp
                simp only [List.getElem_toArray, List.getElem_cons_succ, List.getElem_cons_zero, Act.put, List.setIfInBounds_toArray, List.set_cons_zero, List.set_cons_succ]
                refine wpAnyH_done (by kernel_rfl) ?_ _
                go_wp2_with fail
                go_ret
                exact ⟨rfl, below_then BB BB4⟩
            · simp only [List.getElem_toArray, List.getElem_cons_succ, List.getElem_cons_zero]
              rw [if_pos (by rfl)]
              go_wp2_with fail
              refine hKc.out _ _ BB4 (fun hHeld => ?_)
              clear hKc Kc
              refine wpAnyH_ready (rs := [4]) (by kernel_rfl) (by simp) ?_
              refine AllReadyH.cons rfl (fun Kc hKc => ?_) AllReadyH.nil
              simp only [List.getElem_toArray, List.getElem_cons_succ, List.getElem_cons_zero]
              rw [if_pos (by rfl)]
              go_wp2_with fail
              refine (SA _ VT).mono ?_
              rintro e w6 ⟨rfl, hw⟩
              replace hw := hw.symm
              subst hw
              go_wp2_with fail
              refine hKc.out _ _ BB4 (fun hHeld => ?_)
              clear hKc Kc
              refine wpAnyH_ready (rs := [7]) (by kernel_rfl) (by simp) ?_
              refine AllReadyH.cons rfl (fun Kc hKc => ?_) AllReadyH.nil
              simp only [List.getElem_toArray, List.getElem_cons_succ, List.getElem_cons_zero]
              rw [if_pos (by rfl)]
              go_wp2_with fail
              refine (SB _ VT).mono ?_
              rintro e w6 ⟨rfl, hw⟩
              replace hw := hw.symm
              subst hw
              go_wp2_with fail
              refine hKc.out _ _ BB4 (fun hHeld => ?_)
              clear hKc Kc
              refine wpAnyH_take (i := 8) (v := (.int .u32 (sab : Int))) rfl (by kernel_rfl) (by kernel_rfl) (by kernel_rfl) (fun _ _ _ h => h) (Or.inl ⟨by rfl, ?_⟩) (by assumption) ?_
              · intro w' hSw
                go_simp
              simp only [List.getElem_toArray, List.getElem_cons_succ, List.getElem_cons_zero, Act.put, List.setIfInBounds_toArray, List.set_cons_zero, List.set_cons_succ]
              refine wpAnyH_ready (rs := [11]) (by kernel_rfl) (by simp) ?_
              refine AllReadyH.cons rfl (fun Kc hKc => ?_) AllReadyH.nil
              simp only [List.getElem_toArray, List.getElem_cons_succ, List.getElem_cons_zero]
              rw [if_pos (by rfl)]
              go_wp2_with fail
              refine (SX _ VT).mono ?_
              rintro e w6 ⟨rfl, hw⟩
              replace hw := hw.symm
              subst hw
              go_wp2_with fail
              refine hKc.out _ _ BB4 (fun hHeld => ?_)
              clear hKc Kc
              refine wpAnyH_take (i := 12) (v := (.int .u32 (sz : Int))) rfl (by kernel_rfl) (by kernel_rfl) (by kernel_rfl) (fun _ _ _ h => h) (Or.inl ⟨by rfl, ?_⟩) (by assumption) ?_
              · intro w' hSw
                go_simp
              simp only [List.getElem_toArray, List.getElem_cons_succ, List.getElem_cons_zero, Act.put, List.setIfInBounds_toArray, List.set_cons_zero, List.set_cons_succ]
              refine wpAnyH_ready (rs := [16]) (by kernel_rfl) (by simp) ?_
              refine AllReadyH.cons rfl (fun Kc hKc => ?_) AllReadyH.nil
              simp only [List.getElem_toArray, List.getElem_cons_succ, List.getElem_cons_zero]
              rw [if_pos (by rfl)]
              go_wp2_with fail
              refine (SZ _ VT).mono ?_
              rintro e w6 ⟨rfl, hw⟩
              replace hw := hw.symm
              subst hw
              go_wp2_with fail
              refine hKc.out _ _ BB4 (fun hHeld => ?_)
              clear hKc Kc
              refine wpAnyH_take (i := 17) (v := (.bool true)) rfl (by kernel_rfl) (by kernel_rfl) (by kernel_rfl) (fun _ _ _ h => h) (Or.inl ⟨by rfl, ?_⟩) (by assumption) ?_
              · intro w' hSw
                go_simp
              simp only [List.getElem_toArray, List.getElem_cons_succ, List.getElem_cons_zero, Act.put, List.setIfInBounds_toArray, List.set_cons_zero, List.set_cons_succ]
              refine wpAnyH_take (i := 18) (v := (.bool true)) rfl (by kernel_rfl) (by kernel_rfl) (by kernel_rfl) (fun _ _ _ h => h) (Or.inl ⟨by rfl, ?_⟩) (by assumption) ?_
              · intro w' hSw
                go_simp
              simp only [List.getElem_toArray, List.getElem_cons_succ, List.getElem_cons_zero, Act.put, List.setIfInBounds_toArray, List.set_cons_zero, List.set_cons_succ]
              refine wpAnyH_take (i := 19) (v := (.bool true)) rfl (by kernel_rfl) (by kernel_rfl) (by kernel_rfl) (fun _ _ _ h => h) (Or.inl ⟨by rfl, ?_⟩) (by assumption) ?_
              · intro w' hSw
                go_simp
              simp only [List.getElem_toArray, List.getElem_cons_succ, List.getElem_cons_zero, Act.put, List.setIfInBounds_toArray, List.set_cons_zero, List.set_cons_succ]
              refine wpAnyH_done (by kernel_rfl) ?_ _
              go_wp2_with fail
              go_ret
              exact ⟨rfl, below_then BB BB4⟩
end Go.Proofs.YtfdofgjlipmglaaDoor
