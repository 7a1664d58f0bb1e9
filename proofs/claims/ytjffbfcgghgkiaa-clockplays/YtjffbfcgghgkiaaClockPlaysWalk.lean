/- ClockPlays: whatever number of clocks and ticks, it answers true. -/
import Derived.Test.YtjffbfcgghgkiaaCkRef
namespace Go.Proofs.Ytjffbfcgghgkiaa
open Go.ChangeShapes Go.WideShapes Go.ChangeAt Go.RowKit
theorem sL_cons (t : Nat) (H : List Nat) : sL (t :: H) = sL H ++ [(t : Int)] := by unfold sL; simp
theorem sL_small (n : Nat) (hn : n ≤ 8) (H : List Nat) (h : ∀ t ∈ H, t < n) (k : Nat) : -9223372036854775808 ≤ el (sL H) k ∧ el (sL H) k ≤ 9223372036854775807 := by
  rcases Nat.lt_or_ge k (sL H).length with hk | hk
  · have : el (sL H) k ∈ sL H := by
      unfold el; rw [List.getD_eq_getElem?_getD, List.getElem?_eq_getElem hk]; exact List.getElem_mem hk
    generalize el (sL H) k = x at *
    unfold sL at this
    rw [List.mem_map] at this
    obtain ⟨t, ht, rfl⟩ := this
    have := h t (List.mem_reverse.1 ht)
    simp
    omega
  · rw [el_over hk]; omega
theorem lowz : ∀ H : List Nat, low H 0 = 0
  | [] => rfl
  | t :: H => by simp only [low, ahd, lowz H]; omega
theorem higz : ∀ H : List Nat, hig H 0 = 0
  | [] => rfl
  | t :: H => by simp only [hig, ahd, higz H]; omega
theorem Clk.upto {w w' : World} {b g cap n B : Nat} {H : List Nat} (h : Clk w b g cap n H) (hb : Below B w w') (h1 : b < B) (h2 : g < B) : Clk w' b g cap n H := ClkR.of_blocks h (hb.block b h1) (hb.block g h2)
set_option maxHeartbeats 1000000 in
set_option maxRecDepth 100000 in
theorem plays17_quick (n : Int) (ao : Option Addr) (m ca : Nat) (A : List Int) (w : World) (hA : IArg w ao m ca A) (h : n < 1 ∨ 8 < n) :
   Calls Try.prog 3 #[.int .i64 n, .slice ao m ca] w fun e w' => e = .returned (.bool true) ∧ Below w.heap.size w w' := by
  have F := few8_any ao m ca A 80 w hA (by omega)
  have C := cawake_any
  have P : ∀ (c : Int), (if n < 1 then 1 else 2 : Int) = c → ∀ (v : Value) (W : World), Calls Try.prog 7 #[.int .i64 n, v] W fun e w' => e = .returned (.tuple #[.pointer none, .int .i64 c]) ∧ w' = W := fun c hc v W => by rw [← hc]; exact cplay_bad n v W h
  have N : ∀ (c : Int), (if n < 1 then 1 else 2 : Int) = c → ∀ (W : World), Calls Try.prog 8 #[.int .i64 n] W fun e w' => e = .returned (.tuple #[.pointer none, .int .i64 c]) ∧ w' = W := fun c hc W => by rw [← hc]; exact cnew_bad n W h
  generalize (A.take 80).length = z at *
  clear hA
  by_cases h1 : n < 1
  · replace P := P 1 (if_pos h1)
    replace N := N 1 (if_pos h1)
    go_enter Try.func3, Try.ntmps3
    go_wp2_with (first
      | (go_at_call 6; refine F.mono ?_; rintro e w1 ⟨bz, cz, rfl, O1, B1⟩)
      | (go_at_call 7; refine (P _ _).mono ?_; rintro e w1 ⟨rfl, rfl⟩)
      | (go_at_call 8; refine (N _).mono ?_; rintro e w1 ⟨rfl, rfl⟩)
      | (go_at_call 9; refine (C _).mono ?_; rintro e w2 ⟨rfl, B2⟩))
    go_ret
    exact ⟨rfl, below_then B1 B2⟩
  have h2 : 8 < n := by omega
  replace P := P 2 (if_neg h1)
  replace N := N 2 (if_neg h1)
  have d1 : decide (n < 1) = false := decide_eq_false h1
  clear h
  go_enter Try.func3, Try.ntmps3
  go_wp2_with (first
    | (go_at_call 6; refine F.mono ?_; rintro e w1 ⟨bz, cz, rfl, O1, B1⟩)
    | (go_at_call 7; refine (P _ _).mono ?_; rintro e w1 ⟨rfl, rfl⟩)
    | (go_at_call 8; refine (N _).mono ?_; rintro e w1 ⟨rfl, rfl⟩)
    | (go_at_call 9; refine (C _).mono ?_; rintro e w2 ⟨rfl, B2⟩))
  go_ret
  exact ⟨rfl, below_then B1 B2⟩
set_option maxHeartbeats 8000000 in
set_option maxRecDepth 100000 in
theorem plays17_main (n : Nat) (ao : Option Addr) (m ca : Nat) (A Z : List Int) (w : World) (hA : IArg w ao m ca A) (hZ : Z = A.take 80) (h1 : 1 ≤ n) (h2 : n ≤ 8) :
   Calls Try.prog 3 #[.int .i64 (n : Int), .slice ao m ca] w fun e w' => e = .returned (.bool true) ∧ Below w.heap.size w w' := by
  have F := few8_any ao m ca A 80 w hA (by omega)
  have hsm := hA.take_small 80
  rw [← hZ] at F hsm
  have hz : Z.length ≤ 80 := by rw [hZ, List.length_take]; omega
  obtain ⟨z, hzl⟩ : ∃ z, z = Z.length := ⟨_, rfl⟩
  rw [← hzl] at F hz
  have HZ : Hid (Z.length = z) := hzl.symm
  clear hA hZ hzl
  have C := cawake_any
  have d1 : ¬ ((n : Int) < 1) := by omega
  have d2 : ¬ (8 < (n : Int)) := by omega
  go_enter Try.func3, Try.ntmps3
  go_wp2_with (first
    | (go_at_call 6; refine F.mono ?_; rintro e w1 ⟨bz, cz, rfl, O1, B1⟩; obtain ⟨_, _, e1, R1⟩ := O1.arg hsm; injection e1 with e1 e2 e3; subst e1 e3; have T1 := cplay_ok n _ z cz _ w1 R1 h1 h2 (by omega); clear e2)
    | (go_at_call 7; refine T1.mono ?_; rintro e w2 ⟨rfl, K2, B2, s2⟩; have T2 := cnew_ok n w2 h1 h2)
    | (go_at_call 8; refine T2.mono ?_; rintro e w3 ⟨rfl, K3, B3, s3⟩; have T3 := C w3; have s3' : w2.heap.size + 2 ≤ w3.heap.size := (by omega); clear s3)
    | (go_at_call 9; refine T3.mono ?_; rintro e w4 ⟨rfl, B4⟩; have KD := K3.below B4; have KC := (K2.below B3).below B4; have R4 := ((R1.below B2).below B3).below B4; have O4 := iown_new w4; have B5 := below_alloc w4 (.cells #[] 3); have s4 := B4.size))
  have BA := below_then (below_then (below_then B1 B2) (below_then B3 B4)) B5
  clear T1 T2 T3 F O1 R4 K3 K2
  go_loopg [9, 86] z (fun gg s9 s86 wr => ∃ j : Nat, j ≤ z ∧ gg = z - j ∧ s86 = .int .i64 (j : Int) ∧ IOwn wr w4.heap.size s9 (hst n (Z.take j)).length (sL (hst n (Z.take j))) ∧ Clk wr (w2.heap.size + 1) w2.heap.size n n (hst n (Z.take j)) ∧ Clk wr (w1.heap.size + 1) w1.heap.size n n (hst n Z) ∧ Below w1.heap.size w1 wr ∧ w4.heap.size ≤ wr.heap.size)
  case atStart => exact ⟨0, by omega, by omega, rfl, O4, KD.below B5, KC.below B5, below_then (below_then B2 (below_then B3 B4)) B5, B5.size⟩
  case round =>
  obtain ⟨j, hj, rfl, rfl, OJ, KJ, KK, BJ, sJ⟩ := hrel
  have b2 := B2.size
  rcases Nat.lt_or_ge j z with hlt | hge
  · have d3 : (j : Int) < (z : Int) := by omega
    obtain ⟨ba, oa, e9, hc⟩ := (R1.row.below BJ).cells (by omega)
    injection e9 with e9
    injection e9 with e9 e10
    subst e9 e10
    have c1 := hc j hlt
    rw [Nat.zero_add] at c1
    have E := take_snocI Z j (by rw [HZ.out]; omega)
    have hln := hst_len n (Z.take j)
    rw [List.length_take] at hln
    have HO : Hid (IOwn wr w4.heap.size u9 (hst n (Z.take j)).length (sL (hst n (Z.take j)))) := OJ
    generalize el Z j = t at *
    by_cases ht : 0 ≤ t ∧ t < (n : Int)
    · obtain ⟨x, rfl⟩ : ∃ x : Nat, t = (x : Int) := ⟨t.toNat, by omega⟩
      have T := ctick_ok _ _ _ _ x _ wr KJ (by omega) h2 (by omega)
      have E2 : hst n (Z.take (j + 1)) = x :: hst n (Z.take j) := by rw [E, hst_ok n _ x (by omega)]
      rw [← E2] at T
      have E3 : Hid (hst n (Z.take (j + 1)) = x :: hst n (Z.take j)) := E2
      have ht2 := ht.2
      have hlen : (hst n (Z.take j)).length ≤ 4096 := by omega
      clear ht E E2 hln hc OJ KJ
      go_wp2_with (first
        | (go_at_call 10; refine T.mono ?_; rintro e w5 ⟨rfl, K5, B5'⟩; have OK5 := HO.out.but B5' (by omega); have sz5 := B5'.size; have O6 := OK5.below (below_alloc w5 (.cells #[.int .i64 (x : Int)] 3)); have X6 : (w5.alloc (.cells #[.int .i64 (x : Int)] 3)).cell? ⟨w5.heap.size, 0, none⟩ = some (.int .i64 (x : Int)) := (blk_new w5 _ _).cell 0 rfl; have KK5 := KK.but B5' (by omega) (by omega); have BJ5 := BJ.trans (B5'.below (by omega) (by omega)))
        | (at_builtin; refine wpList_append_int rfl _ _ rfl w4.heap.size _ _ _ rfl O6 w5.heap.size (x : Int) rfl X6 hlen (by simp; omega) ?_; intro v' w7 O7 B7))
      have B8 := (below_alloc w5 (.cells #[.int .i64 (x : Int)] 3)).mono (show w4.heap.size ≤ w5.heap.size by omega) |>.trans B7
      have sz7 := B8.size
      go_roundg (z - (j + 1))
      case measure => omega
      case rel =>
        refine ⟨j + 1, by omega, rfl, by go_num, ?_, K5.upto B8 (by omega) (by omega), KK5.upto B8 (by omega) (by omega), BJ5.trans (B8.mono (by omega)), by omega⟩
        rw [E3.out, sL_cons]
        exact O7
    · have T := ctick_none _ _ _ _ _ t wr KJ ht
      have E2 : hst n (Z.take (j + 1)) = hst n (Z.take j) := by rw [E, hst_no n _ t ht]
      have E3 : Hid (hst n (Z.take (j + 1)) = hst n (Z.take j)) := E2
      have HK : Hid (Clk wr (w2.heap.size + 1) w2.heap.size n n (hst n (Z.take j))) := KJ
      clear E E2 hln hc OJ KJ
      by_cases h0 : 0 ≤ t
      · have h3 : ¬ t < (n : Int) := fun h => ht ⟨h0, h⟩
        clear ht
        go_wp2_with (go_at_call 10; refine T.mono ?_; rintro e wr ⟨rfl, rfl⟩)
        go_roundg (z - (j + 1))
        case measure => omega
        case rel => exact ⟨j + 1, by omega, rfl, by go_num, by rw [E3.out]; exact HO.out, by rw [E3.out]; exact HK.out, KK, BJ, sJ⟩
      · have h3 : ¬ 0 ≤ t := h0
        clear ht
        go_wp2_with (go_at_call 10; refine T.mono ?_; rintro e wr ⟨rfl, rfl⟩)
        go_roundg (z - (j + 1))
        case measure => omega
        case rel => exact ⟨j + 1, by omega, rfl, by go_num, by rw [E3.out]; exact HO.out, by rw [E3.out]; exact HK.out, KK, BJ, sJ⟩
  · obtain rfl : j = z := by omega
    rw [show Z.take j = Z from List.take_of_length_le (by rw [HZ.out]; exact Nat.le_refl _)] at OJ KJ
    have hln := hst_len n Z
    rw [HZ.out] at hln
    obtain ⟨aS, cS, rfl, RS⟩ := OJ.arg (sL_small n h2 _ (hst_lt n Z))
    have BE : Below w.heap.size w wr := B1.trans (BJ.mono B1.size)
    have lz := lowz (hst n Z)
    have hz0 := higz (hst n Z)
    clear OJ BJ BA B1 B2 B3 B4 B5 s2 s3' s4 sJ b2 O4 KC KD R1 hsm C HZ
    generalize hst n Z = H at *
    generalize hm' : H.length = mH at *
    clear hm'
    go_wp2_with fail
    go_loopg [13, 14] n (fun gg s13 s14 wx => ∃ i : Nat, i ≤ n ∧ gg = n - i ∧ s13 = .int .i64 (wst H i) ∧ s14 = .int .i64 (i : Int) ∧ ∃ k, wx = wr.drewN k)
    case atStart => exact ⟨0, by omega, by omega, rfl, rfl, 0, rfl⟩
    case round =>
    obtain ⟨i, hi, rfl, rfl, rfl, k, rfl⟩ := hrel
    have hlH : H.length ≤ 900 := by have := RS.row.len; rw [sL_len] at this; omega
    rcases Nat.lt_or_ge i n with hlt | hge2
    · have d5 : (i : Int) < (n : Int) := by omega
      have RD := fun k => rdrift_any _ _ _ H i (wr.drewN k) (RS.below (below_drewN (Below.refl _ _) k)) (by omega)
      have RC := fun k => rcount_any _ _ _ H i (wr.drewN k) (RS.below (below_drewN (Below.refl _ _) k)) (by omega)
      have NC := fun k => (KK.drewN k).now hlt
      have ND := fun k => (KJ.drewN k).now hlt
      have DC := fun k => (KK.drewN k).drift hlt hlH
      have DD := fun k => (KJ.drewN k).drift hlt hlH
      have E3 : Hid (max (wst H i) (hig H i - low H i) = wst H (i + 1)) := rfl
      by_cases h0 : i = 0
      · subst h0
        rw [lz, hz0] at RD DC DD E3
        have E4 : Hid (0 = wst H (0 + 1)) := E3.out
        have E5 : wst H 0 = 0 := rfl
        rw [E5]
        generalize cnt H 0 = cc at *
        go_wp2_with (first
          | (go_at_call 11; refine (RD _).mono ?_; rintro e w5 ⟨rfl, rfl⟩)
          | (go_at_call 13; refine (RC _).mono ?_; rintro e w5 ⟨rfl, rfl⟩)
          | (go_at_call_of 12 (w1.heap.size); refine (NC _).mono ?_; rintro e w5 ⟨rfl, rfl⟩)
          | (go_at_call_of 12 (w2.heap.size); refine (ND _).mono ?_; rintro e w5 ⟨rfl, rfl⟩)
          | (go_at_call_of 14 (w1.heap.size); refine (DC _).mono ?_; rintro e w5 ⟨rfl, k5, rfl⟩)
          | (go_at_call_of 14 (w2.heap.size); refine (DD _).mono ?_; rintro e w5 ⟨rfl, k5, rfl⟩))
        go_roundg (n - 1)
        case measure => omega
        case rel => exact ⟨0 + 1, by omega, by omega, by rw [← E4.out], by go_num, _, rfl⟩
      · have h0' : ¬ (i : Int) = 0 := by omega
        generalize cnt H i = cc at *
        generalize hig H i - low H i = y at *
        generalize wst H i = x at *
        by_cases hxy : x < y
        · have E4 : Hid (y = wst H (i + 1)) := by show y = _; rw [← E3.out]; omega
          go_wp2_with (first
            | (go_at_call 11; refine (RD _).mono ?_; rintro e w5 ⟨rfl, rfl⟩)
            | (go_at_call 13; refine (RC _).mono ?_; rintro e w5 ⟨rfl, rfl⟩)
            | (go_at_call_of 12 (w1.heap.size); refine (NC _).mono ?_; rintro e w5 ⟨rfl, rfl⟩)
            | (go_at_call_of 12 (w2.heap.size); refine (ND _).mono ?_; rintro e w5 ⟨rfl, rfl⟩)
            | (go_at_call_of 14 (w1.heap.size); refine (DC _).mono ?_; rintro e w5 ⟨rfl, k5, rfl⟩)
            | (go_at_call_of 14 (w2.heap.size); refine (DD _).mono ?_; rintro e w5 ⟨rfl, k5, rfl⟩))
          go_roundg (n - (i + 1))
          case measure => omega
          case rel => exact ⟨i + 1, by omega, rfl, by rw [← E4.out], by go_num, _, rfl⟩
        · have E4 : Hid (x = wst H (i + 1)) := by show x = _; rw [← E3.out]; omega
          go_wp2_with (first
            | (go_at_call 11; refine (RD _).mono ?_; rintro e w5 ⟨rfl, rfl⟩)
            | (go_at_call 13; refine (RC _).mono ?_; rintro e w5 ⟨rfl, rfl⟩)
            | (go_at_call_of 12 (w1.heap.size); refine (NC _).mono ?_; rintro e w5 ⟨rfl, rfl⟩)
            | (go_at_call_of 12 (w2.heap.size); refine (ND _).mono ?_; rintro e w5 ⟨rfl, rfl⟩)
            | (go_at_call_of 14 (w1.heap.size); refine (DC _).mono ?_; rintro e w5 ⟨rfl, k5, rfl⟩)
            | (go_at_call_of 14 (w2.heap.size); refine (DD _).mono ?_; rintro e w5 ⟨rfl, k5, rfl⟩))
          go_roundg (n - (i + 1))
          case measure => omega
          case rel => exact ⟨i + 1, by omega, rfl, by rw [← E4.out], by go_num, _, rfl⟩
    · obtain rfl : i = n := by omega
      have WC := fun k => (KK.drewN k).worst h2 hlH
      have WD := fun k => (KJ.drewN k).worst h2 hlH
      have N1 := fun k => cnow_none _ _ _ _ _ _ _ (-1) _ (KK.drewN k) (by omega)
      have N2 := fun k => cnow_none _ _ _ _ _ _ _ (i : Int) _ (KK.drewN k) (by omega)
      have D2 := fun k => cdrift_none _ _ _ _ _ _ _ (i : Int) _ (KK.drewN k) (by omega)
      generalize wst H i = x at *
      go_wp2_with (first
        | (go_at_call_of 15 (w1.heap.size); refine (WC _).mono ?_; rintro e w5 ⟨rfl, k5, rfl⟩)
        | (go_at_call_of 15 (w2.heap.size); refine (WD _).mono ?_; rintro e w5 ⟨rfl, k5, rfl⟩)
        | (go_at_call_of 12 i; refine (N2 _).mono ?_; rintro e w5 ⟨rfl, rfl⟩)
        | (go_at_call 12; refine (N1 _).mono ?_; rintro e w5 ⟨rfl, rfl⟩)
        | (go_at_call 14; refine (D2 _).mono ?_; rintro e w5 ⟨rfl, rfl⟩))
      go_ret
      exact ⟨rfl, below_drewN BE _⟩
theorem clockPlays_walk (n : Int) (ao : Option Addr) (m ca : Nat) (A : List Int) (w : World) (_hn : -9223372036854775808 ≤ n ∧ n ≤ 9223372036854775807) (hA : IArg w ao m ca A) :
   Calls Try.prog 3 #[.int .i64 n, .slice ao m ca] w fun e w' => e = .returned (.bool true) ∧ Below w.heap.size w w' := by
  by_cases h : n < 1 ∨ 8 < n
  · exact plays17_quick n ao m ca A w hA h
  · obtain ⟨k, rfl⟩ : ∃ k : Nat, n = k := ⟨n.toNat, by omega⟩
    exact plays17_main k ao m ca A _ w hA rfl (by omega) (by omega)
end Go.Proofs.Ytjffbfcgghgkiaa
