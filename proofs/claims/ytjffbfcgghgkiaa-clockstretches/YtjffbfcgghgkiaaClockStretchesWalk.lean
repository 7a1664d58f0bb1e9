/- ClockStretches: whatever clocks, ticks and stretch, it answers true. -/
import Derived.Test.YtjffbfcgghgkiaaCkCopy
namespace Go.Proofs.Ytjffbfcgghgkiaa
open Go.ChangeShapes Go.WideShapes Go.ChangeAt Go.RowKit
theorem hst_append (n : Nat) (A B : List Int) : hst n (A ++ B) = hst n B ++ hst n A := by
  unfold hst
  simp [List.filter_append]
theorem low_app (H1 : List Nat) (i : Nat) : ∀ H2 : List Nat, low (H2 ++ H1) i ≤ low H1 i
  | [] => by simp
  | t :: H2 => by
    have := low_app H1 i H2
    simp only [List.cons_append, low]
    omega
theorem hig_app (H1 : List Nat) (i : Nat) : ∀ H2 : List Nat, hig H1 i ≤ hig (H2 ++ H1) i
  | [] => by simp
  | t :: H2 => by
    have := hig_app H1 i H2
    simp only [List.cons_append, hig]
    omega
theorem stretch (n : Nat) (A : List Int) (k i : Nat) : hig (hst n (A.take k)) i - low (hst n (A.take k)) i ≤ hig (hst n A) i - low (hst n A) i ∧
    (cnt (hst n A) i - cnt (hst n (A.take k)) i) - (cnt (hst n A) 0 - cnt (hst n (A.take k)) 0) ≤ hig (hst n A) i - low (hst n A) i ∧
    (cnt (hst n A) 0 - cnt (hst n (A.take k)) 0) - (cnt (hst n A) i - cnt (hst n (A.take k)) i) ≤ hig (hst n A) i - low (hst n A) i := by
  have e : hst n A = hst n (A.drop k) ++ hst n (A.take k) := by rw [← hst_append, List.take_append_drop]
  have a1 := low_app (hst n (A.take k)) i (hst n (A.drop k))
  have a2 := hig_app (hst n (A.take k)) i (hst n (A.drop k))
  rw [← e] at a1 a2
  have b1 := low_bd (hst n (A.take k)) i
  have b2 := hig_bd (hst n (A.take k)) i
  have b3 := low_bd (hst n A) i
  have b4 := hig_bd (hst n A) i
  unfold ahd at b1 b2 b3 b4
  omega
set_option maxHeartbeats 1000000 in
theorem stretches_quick (n : Int) (ao : Option Addr) (m ca : Nat) (A : List Int) (fr i : Int) (w : World) (hA : IArg w ao m ca A) (h : n < 1 ∨ 8 < n ∨ i < 0 ∨ n ≤ i ∨ fr < 0 ∨ ((A.take 80).length : Int) < fr) :
   Calls Try.prog 4 #[.int .i64 n, .slice ao m ca, .int .i64 fr, .int .i64 i] w fun e w' => e = .returned (.bool true) ∧ Below w.heap.size w w' := by
  have F := few8_any ao m ca A 80 w hA (by omega)
  have C := cawake_any
  generalize (A.take 80).length = z at *
  clear hA
  by_cases h1 : n < 1
  · go_enter Try.func4, Try.ntmps4
    go_wp2_with (first | (go_at_call 6; refine F.mono ?_; rintro e w1 ⟨bz, cz, rfl, O1, B1⟩) | (go_at_call 9; refine (C _).mono ?_; rintro e w2 ⟨rfl, B2⟩))
    go_ret
    exact ⟨rfl, below_then B1 B2⟩
  have d1 : decide (n < 1) = false := decide_eq_false h1
  by_cases h2 : 8 < n
  · go_enter Try.func4, Try.ntmps4
    go_wp2_with (first | (go_at_call 6; refine F.mono ?_; rintro e w1 ⟨bz, cz, rfl, O1, B1⟩) | (go_at_call 9; refine (C _).mono ?_; rintro e w2 ⟨rfl, B2⟩))
    go_ret
    exact ⟨rfl, below_then B1 B2⟩
  have d2 : decide (8 < n) = false := decide_eq_false h2
  by_cases h3 : i < 0
  · go_enter Try.func4, Try.ntmps4
    go_wp2_with (first | (go_at_call 6; refine F.mono ?_; rintro e w1 ⟨bz, cz, rfl, O1, B1⟩) | (go_at_call 9; refine (C _).mono ?_; rintro e w2 ⟨rfl, B2⟩))
    go_ret
    exact ⟨rfl, below_then B1 B2⟩
  have d3 : decide (i < 0) = false := decide_eq_false h3
  by_cases h4 : n ≤ i
  · go_enter Try.func4, Try.ntmps4
    go_wp2_with (first | (go_at_call 6; refine F.mono ?_; rintro e w1 ⟨bz, cz, rfl, O1, B1⟩) | (go_at_call 9; refine (C _).mono ?_; rintro e w2 ⟨rfl, B2⟩))
    go_ret
    exact ⟨rfl, below_then B1 B2⟩
  have d4 : decide (n ≤ i) = false := decide_eq_false h4
  by_cases h5 : fr < 0
  · go_enter Try.func4, Try.ntmps4
    go_wp2_with (first | (go_at_call 6; refine F.mono ?_; rintro e w1 ⟨bz, cz, rfl, O1, B1⟩) | (go_at_call 9; refine (C _).mono ?_; rintro e w2 ⟨rfl, B2⟩))
    go_ret
    exact ⟨rfl, below_then B1 B2⟩
  have d5 : decide (fr < 0) = false := decide_eq_false h5
  have h6 : (z : Int) < fr := by omega
  clear h
  go_enter Try.func4, Try.ntmps4
  go_wp2_with (first | (go_at_call 6; refine F.mono ?_; rintro e w1 ⟨bz, cz, rfl, O1, B1⟩) | (go_at_call 9; refine (C _).mono ?_; rintro e w2 ⟨rfl, B2⟩))
  go_ret
  exact ⟨rfl, below_then B1 B2⟩
set_option maxHeartbeats 4000000 in
set_option maxRecDepth 100000 in
theorem stretches_main (n : Nat) (ao : Option Addr) (m ca : Nat) (A Z : List Int) (fr i : Nat) (w : World) (hA : IArg w ao m ca A) (hZ : Z = A.take 80) (h1 : 1 ≤ n) (h2 : n ≤ 8) (h3 : i < n) (h4 : fr ≤ Z.length) :
   Calls Try.prog 4 #[.int .i64 (n : Int), .slice ao m ca, .int .i64 (fr : Int), .int .i64 (i : Int)] w fun e w' => e = .returned (.bool true) ∧ Below w.heap.size w w' := by
  have F := few8_any ao m ca A 80 w hA (by omega)
  have hsm := hA.take_small 80
  rw [← hZ] at F hsm
  have hz : Z.length ≤ 80 := by rw [hZ, List.length_take]; omega
  obtain ⟨z, hzl⟩ : ∃ z, z = Z.length := ⟨_, rfl⟩
  rw [← hzl] at F h4 hz
  have HZ : Hid (Z.length = z) := hzl.symm
  clear hA hZ hzl
  have C := cawake_any
  have d1 : ¬ ((n : Int) < 1) := by omega
  have d2 : ¬ (8 < (n : Int)) := by omega
  have d4 : ¬ ((n : Int) ≤ (i : Int)) := by omega
  have d6 : ¬ ((z : Int) < (fr : Int)) := by omega
  go_enter Try.func4, Try.ntmps4
  go_wp2_with (first
    | (go_at_call 6; refine F.mono ?_; rintro e w1 ⟨bz, cz, rfl, O1, B1⟩; obtain ⟨_, _, e1, R1⟩ := O1.arg hsm; injection e1 with e1 e2 e3; subst e1 e3; have hfit : (fr : Int) ≤ (cz : Int) := (by have := R1.fit; omega); have hft := R1.fit; have T1 := cplay_ok n _ fr cz _ w1 (R1.take h4) h1 h2 (by omega); clear e2)
    | (go_at_call_of 7 fr; refine T1.mono ?_; rintro e w2 ⟨rfl, K2, B2, s2⟩; have T2 := cplay_ok n _ z cz _ w2 (R1.below B2) h1 h2 (by omega))
    | (go_at_call_of 7 z; refine T2.mono ?_; rintro e w3 ⟨rfl, K3, B3, s3⟩; have T3 := ccopy_any _ _ _ _ _ w3 (K2.below B3) h1 h2)
    | (go_at_call 16; refine T3.mono ?_; rintro e w4 ⟨b4, g4, c4, rfl, K4, hg4, hb4, B4⟩; rcases Nat.decEq cz fr with hcz | hcz))
  · have R3 := (R1.below B2).below B3
    have zz : (z : Int) - (fr : Int) = ((z - fr : Nat) : Int) := by omega
    go_loopg [80] (z - fr) (fun gg s80 wr => ∃ j : Nat, j ≤ z - fr ∧ gg = z - fr - j ∧ s80 = .int .i64 (j : Int) ∧ Clk wr b4 g4 c4 n (hst n (Z.take (fr + j))) ∧ Below w3.heap.size w3 wr)
    case atStart => exact ⟨0, by omega, by omega, rfl, K4, B4⟩
    case round =>
    obtain ⟨j, hj, rfl, rfl, KD, BB⟩ := hrel
    have bsz := BB.size
    rcases Nat.lt_or_ge j (z - fr) with hlt | hge
    · have d7 : (j : Int) < ((z - fr : Nat) : Int) := by omega
      have d8 : ¬ (z : Int) ≤ (j : Int) + (fr : Int) := by omega
      obtain ⟨ba, oa, e9, hc⟩ := (R3.row.below BB).cells (by omega)
      injection e9 with e9
      injection e9 with e9 e10
      subst e9 e10
      have c1 := hc (fr + j) (by omega)
      rw [Nat.zero_add] at c1
      have hsj := hsm (fr + j)
      have E := take_snocI Z (fr + j) (by rw [HZ.out]; omega)
      have hln := hst_len n (Z.take (fr + j))
      rw [List.length_take] at hln
      rw [show fr + j + 1 = fr + (j + 1) by omega] at E
      generalize el Z (fr + j) = t at *
      by_cases ht : 0 ≤ t ∧ t < (n : Int)
      · obtain ⟨x, rfl⟩ : ∃ x : Nat, t = (x : Int) := ⟨t.toNat, by omega⟩
        have T := ctick_ok _ _ _ _ x _ wr KD (by omega) h2 (by omega)
        rw [← hst_ok n _ x (by omega), ← E] at T
        clear ht E hln hc hsj
        go_wp2_with (go_at_call 10; refine T.mono ?_; rintro e w5 ⟨rfl, K5, B5⟩)
        go_roundg (z - fr - (j + 1))
        case measure => omega
        case rel => exact ⟨j + 1, by omega, rfl, by go_num, K5, BB.trans (B5.below (by omega) hg4)⟩
      · have T := ctick_none _ _ _ _ _ t wr KD ht
        have K5 := KD
        rw [← hst_no n _ t ht, ← E] at K5
        clear ht E hln hc hsj
        go_wp2_with (go_at_call 10; refine T.mono ?_; rintro e wr ⟨rfl, rfl⟩)
        go_roundg (z - fr - (j + 1))
        case measure => omega
        case rel => exact ⟨j + 1, by omega, rfl, by go_num, K5, BB⟩
    · obtain rfl : j = z - fr := by omega
      rw [show fr + (z - fr) = z by omega, show Z.take z = Z from List.take_of_length_le (by rw [HZ.out]; exact Nat.le_refl _)] at KD
      have KA := (K2.below B3).below BB
      have KB := K3.below BB
      have S := stretch n Z fr i
      have l1 := hst_len n Z
      have l2 := hst_len n (Z.take fr)
      rw [HZ.out] at l1
      rw [List.length_take] at l2
      have u1 := cnt_bd (hst n Z) i
      have u2 := cnt_bd (hst n Z) 0
      have u3 := cnt_bd (hst n (Z.take fr)) i
      have u4 := cnt_bd (hst n (Z.take fr)) 0
      have NB := KB.now h3
      have NA := KA.now h3
      have ND := KD.now h3
      have NB0 := KB.now (i := 0) (by omega)
      have NA0 := KA.now (i := 0) (by omega)
      have DD := fun W (h : Below wr.heap.size wr W) => (KD.below h).drift h3 (by omega)
      have DB := fun W (h : Below wr.heap.size wr W) => (KB.below h).drift h3 (by omega)
      have DA := fun W (h : Below wr.heap.size wr W) => (KA.below h).drift h3 (by omega)
      generalize cnt (hst n Z) i = x at *
      generalize cnt (hst n Z) 0 = y at *
      generalize cnt (hst n (Z.take fr)) i = x1 at *
      generalize cnt (hst n (Z.take fr)) 0 = y1 at *
      generalize hig (hst n Z) i - low (hst n Z) i = D at *
      generalize hig (hst n (Z.take fr)) i - low (hst n (Z.take fr)) i = D1 at *
      obtain ⟨S1, S2, S3⟩ := S
      have q1 : wrap64 (x - x1) = x - x1 := by unfold wrap64; omega
      have q2 : wrap64 (y - y1) = y - y1 := by unfold wrap64; omega
      have q3 : wrap64 ((x - x1) - (y - y1)) = (x - x1) - (y - y1) := by unfold wrap64; omega
      have q4 : wrap64 ((y - y1) - (x - x1)) = (y - y1) - (x - x1) := by unfold wrap64; omega
      have S1' : ¬ D < D1 := by omega
      clear S1 u1 u2 u3 u4 l1 l2 KD KA KB
      have BX : Below wr.heap.size wr wr := Below.refl _ _
      go_wp2_with (first
        | (go_at_call_of 12 b4; refine ND.mono ?_; rintro e wr ⟨rfl, rfl⟩)
        | (go_at_call_of 12 (w2.heap.size); go_at_call_of 12 i; refine NB.mono ?_; rintro e wr ⟨rfl, rfl⟩)
        | (go_at_call_of 12 (w2.heap.size); refine NB0.mono ?_; rintro e wr ⟨rfl, rfl⟩)
        | (go_at_call_of 12 (w1.heap.size); go_at_call_of 12 i; refine NA.mono ?_; rintro e wr ⟨rfl, rfl⟩)
        | (go_at_call_of 12 (w1.heap.size); refine NA0.mono ?_; rintro e wr ⟨rfl, rfl⟩)
        | (go_at_call_of 14 b4; refine (DD _ (by first | exact BX | exact below_drewN BX _)).mono ?_; rintro e w7 ⟨rfl, k7, rfl⟩)
        | (go_at_call_of 14 (w2.heap.size); refine (DB _ (by first | exact BX | exact below_drewN BX _)).mono ?_; rintro e w7 ⟨rfl, k7, rfl⟩)
        | (go_at_call_of 14 (w1.heap.size); refine (DA _ (by first | exact BX | exact below_drewN BX _)).mono ?_; rintro e w7 ⟨rfl, k7, rfl⟩)
        | (go_at_call 9; refine (C _).mono ?_; rintro e w8 ⟨rfl, B8⟩; replace BX := below_then (below_drewN BX _) B8))
      go_ret
      exact ⟨rfl, below_drewN (below_then (below_then B1 (below_then B2 B3)) (below_then BB BX)) _⟩
  · have R3 := (R1.below B2).below B3
    have zz : (z : Int) - (fr : Int) = ((z - fr : Nat) : Int) := by omega
    go_loopg [80] (z - fr) (fun gg s80 wr => ∃ j : Nat, j ≤ z - fr ∧ gg = z - fr - j ∧ s80 = .int .i64 (j : Int) ∧ Clk wr b4 g4 c4 n (hst n (Z.take (fr + j))) ∧ Below w3.heap.size w3 wr)
    case atStart => exact ⟨0, by omega, by omega, rfl, K4, B4⟩
    case round =>
    obtain ⟨j, hj, rfl, rfl, KD, BB⟩ := hrel
    have bsz := BB.size
    rcases Nat.lt_or_ge j (z - fr) with hlt | hge
    · have d7 : (j : Int) < ((z - fr : Nat) : Int) := by omega
      have d8 : ¬ (z : Int) ≤ (j : Int) + (fr : Int) := by omega
      obtain ⟨ba, oa, e9, hc⟩ := (R3.row.below BB).cells (by omega)
      injection e9 with e9
      injection e9 with e9 e10
      subst e9 e10
      omega
    · obtain rfl : j = z - fr := by omega
      rw [show fr + (z - fr) = z by omega, show Z.take z = Z from List.take_of_length_le (by rw [HZ.out]; exact Nat.le_refl _)] at KD
      have KA := (K2.below B3).below BB
      have KB := K3.below BB
      have S := stretch n Z fr i
      have l1 := hst_len n Z
      have l2 := hst_len n (Z.take fr)
      rw [HZ.out] at l1
      rw [List.length_take] at l2
      have u1 := cnt_bd (hst n Z) i
      have u2 := cnt_bd (hst n Z) 0
      have u3 := cnt_bd (hst n (Z.take fr)) i
      have u4 := cnt_bd (hst n (Z.take fr)) 0
      have NB := KB.now h3
      have NA := KA.now h3
      have ND := KD.now h3
      have NB0 := KB.now (i := 0) (by omega)
      have NA0 := KA.now (i := 0) (by omega)
      have DD := fun W (h : Below wr.heap.size wr W) => (KD.below h).drift h3 (by omega)
      have DB := fun W (h : Below wr.heap.size wr W) => (KB.below h).drift h3 (by omega)
      have DA := fun W (h : Below wr.heap.size wr W) => (KA.below h).drift h3 (by omega)
      generalize cnt (hst n Z) i = x at *
      generalize cnt (hst n Z) 0 = y at *
      generalize cnt (hst n (Z.take fr)) i = x1 at *
      generalize cnt (hst n (Z.take fr)) 0 = y1 at *
      generalize hig (hst n Z) i - low (hst n Z) i = D at *
      generalize hig (hst n (Z.take fr)) i - low (hst n (Z.take fr)) i = D1 at *
      obtain ⟨S1, S2, S3⟩ := S
      have q1 : wrap64 (x - x1) = x - x1 := by unfold wrap64; omega
      have q2 : wrap64 (y - y1) = y - y1 := by unfold wrap64; omega
      have q3 : wrap64 ((x - x1) - (y - y1)) = (x - x1) - (y - y1) := by unfold wrap64; omega
      have q4 : wrap64 ((y - y1) - (x - x1)) = (y - y1) - (x - x1) := by unfold wrap64; omega
      have S1' : ¬ D < D1 := by omega
      clear S1 u1 u2 u3 u4 l1 l2 KD KA KB
      have BX : Below wr.heap.size wr wr := Below.refl _ _
      go_wp2_with (first
        | (go_at_call_of 12 b4; refine ND.mono ?_; rintro e wr ⟨rfl, rfl⟩)
        | (go_at_call_of 12 (w2.heap.size); go_at_call_of 12 i; refine NB.mono ?_; rintro e wr ⟨rfl, rfl⟩)
        | (go_at_call_of 12 (w2.heap.size); refine NB0.mono ?_; rintro e wr ⟨rfl, rfl⟩)
        | (go_at_call_of 12 (w1.heap.size); go_at_call_of 12 i; refine NA.mono ?_; rintro e wr ⟨rfl, rfl⟩)
        | (go_at_call_of 12 (w1.heap.size); refine NA0.mono ?_; rintro e wr ⟨rfl, rfl⟩)
        | (go_at_call_of 14 b4; refine (DD _ (by first | exact BX | exact below_drewN BX _)).mono ?_; rintro e w7 ⟨rfl, k7, rfl⟩)
        | (go_at_call_of 14 (w2.heap.size); refine (DB _ (by first | exact BX | exact below_drewN BX _)).mono ?_; rintro e w7 ⟨rfl, k7, rfl⟩)
        | (go_at_call_of 14 (w1.heap.size); refine (DA _ (by first | exact BX | exact below_drewN BX _)).mono ?_; rintro e w7 ⟨rfl, k7, rfl⟩)
        | (go_at_call 9; refine (C _).mono ?_; rintro e w8 ⟨rfl, B8⟩; replace BX := below_then (below_drewN BX _) B8))
      go_ret
      exact ⟨rfl, below_drewN (below_then (below_then B1 (below_then B2 B3)) (below_then BB BX)) _⟩
theorem clockStretches_walk (n : Int) (ao : Option Addr) (m ca : Nat) (A : List Int) (fr i : Int) (w : World) (_hn : -9223372036854775808 ≤ n ∧ n ≤ 9223372036854775807) (hA : IArg w ao m ca A) (_hf : -9223372036854775808 ≤ fr ∧ fr ≤ 9223372036854775807) (_hi : -9223372036854775808 ≤ i ∧ i ≤ 9223372036854775807) :
   Calls Try.prog 4 #[.int .i64 n, .slice ao m ca, .int .i64 fr, .int .i64 i] w fun e w' => e = .returned (.bool true) ∧ Below w.heap.size w w' := by
  by_cases h : n < 1 ∨ 8 < n ∨ i < 0 ∨ n ≤ i ∨ fr < 0 ∨ ((A.take 80).length : Int) < fr
  · exact stretches_quick n ao m ca A fr i w hA h
  · obtain ⟨k, rfl⟩ : ∃ k : Nat, n = k := ⟨n.toNat, by omega⟩
    obtain ⟨x, rfl⟩ : ∃ k : Nat, i = k := ⟨i.toNat, by omega⟩
    obtain ⟨f, rfl⟩ : ∃ k : Nat, fr = k := ⟨fr.toNat, by omega⟩
    exact stretches_main k ao m ca A _ f x w hA rfl (by omega) (by omega) (by omega) (by omega)
end Go.Proofs.Ytjffbfcgghgkiaa
