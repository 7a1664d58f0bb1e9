/- NetTurned: whatever frame, bit and bits, it answers true. -/
import Derived.Test.YtgbljkbiigcofaaNTurn2
import Derived.Test.YtgbljkbiigcofaaNOrd
namespace Go.Proofs.Ytgbljkbiigcofaa
open Go.ChangeShapes Go.WideShapes Go.ChangeAt Go.RowKit
theorem netTurned_out (s : ByteArray) (t x : Int) (w : World) (ht : t < 0 ∨ 8 * ((cutF s 100).size : Int) ≤ t) :
   Calls Try.prog 6 #[.string s, .int .i64 t, .int .u32 x] w fun e w' => e = .returned (.bool true) ∧ Below w.heap.size w w' := by
  have A := nawake_any
  have CU := fun W => cutF_any s 100 W
  have zF : (cutF s 100).size ≤ 100 := cutF_size _ _
  generalize cutF s 100 = F at *
  have N0 := net_new w
  have B0 : Below w.heap.size w (w.alloc (.cells #[.slice none 0 0, .int .i64 0] 25)) := (Below.refl _ _).alloc (Nat.le_refl _) _
  generalize hw0 : w.alloc (.cells #[.slice none 0 0, .int .i64 0] 25) = w0 at *
  have C1 := send_ok w.heap.size 0 F [] 0 w0 N0 (by omega) (by omega) (by omega) (by decide)
  have C2 := fun W hW => turn_arg w.heap.size 0 t x [⟨0, F, false⟩] 0 W hW (by simp) (show F.size ≤ 65536 by omega) ht
  have C3 := fun W hW => look_ok w.heap.size 0 [⟨0, F, false⟩] 0 W hW (by simp) (show F.size ≤ 65536 by omega)
  have e0 : (pc [⟨0, F, false⟩] 0).val = .agg #[.int .i64 0, .string F, .bool false] := rfl
  rw [e0] at C3
  have hS := txt_same F
  have hcs : t < 0 ∨ (decide (t < 0) = false ∧ 8 * (F.size : Int) ≤ t) := by
    by_cases h : t < 0
    · exact Or.inl h
    · exact Or.inr ⟨decide_eq_false h, by omega⟩
  clear ht
  rcases hcs with h | ⟨h, h'⟩ <;>
  · go_enter Try.func6, Try.ntmps6
    go_wp2_with (first
      | (go_at_call 14; refine (CU _).mono ?_; rintro e w1 ⟨rfl, hw⟩; replace hw := hw.symm; subst hw)
      | (go_at_call 13; refine C1.mono ?_; rintro e w2 ⟨rfl, N2, T2⟩)
      | (go_at_call 16; refine (C2 _ N2).mono ?_; rintro e w3 ⟨rfl, rfl⟩)
      | (go_at_call 12; refine (C3 _ N2).mono ?_; rintro e w4 ⟨rfl, B4⟩; have BC : Below w4.heap.size w4 (w4.alloc (.cells #[.int .i64 0, .string F, .bool false] 38)) := (Below.refl _ _).alloc (Nat.le_refl _) _; have X4 := blk_new w4 38 #[.int .i64 0, .string F, .bool false])
      | (go_at_call 8; refine (A _).mono ?_; rintro e w5 ⟨rfl, B5⟩; have X5 := X4.below B5 X4.lt; have v1 := X5.cell 1 (v := .string F) rfl; have v2 := X5.cell 2 (v := .bool false) rfl))
    go_ret
    exact ⟨rfl, (B0.trans T2.below).trans ((below_then (below_then B4 BC) B5).mono (by have := N2.lt; omega))⟩
theorem bit_div (l : List UInt8) (i : Nat) : bitL l i = decide ((l.getD (i / 8) 0).toNat / 2 ^ (i % 8) % 2 = 1) := by
  unfold bitL
  rw [Nat.testBit_eq_decide_div_mod_eq]
theorem tmod_b (y : UInt8) (r : Nat) : ((y.toNat : Int) / 2 ^ r).tmod 2 = ((y.toNat / 2 ^ r % 2 : Nat) : Int) := by
  have e : ((y.toNat : Int) / 2 ^ r) = ((y.toNat / 2 ^ r : Nat) : Int) := by norm_cast
  rw [e, Int.tmod_eq_emod_of_nonneg (Int.natCast_nonneg _)]
  rfl
set_option maxHeartbeats 2000000 in
set_option maxRecDepth 100000 in
theorem netTurned_in (s : ByteArray) (t x : Nat) (w : World) (ht : t < 8 * (cutF s 100).size) (hx : x ≤ 4294967295) :
   Calls Try.prog 6 #[.string s, .int .i64 (t : Int), .int .u32 (x : Int)] w fun e w' => e = .returned (.bool true) ∧ Below w.heap.size w w' := by
  have A := nawake_any
  have CU := fun W => cutF_any s 100 W
  have zF : (cutF s 100).size ≤ 100 := cutF_size _ _
  generalize cutF s 100 = F at *
  have N0 := net_new w
  have B0 : Below w.heap.size w (w.alloc (.cells #[.slice none 0 0, .int .i64 0] 25)) := (Below.refl _ _).alloc (Nat.le_refl _) _
  generalize hw0 : w.alloc (.cells #[.slice none 0 0, .int .i64 0] 25) = w0 at *
  have C1 := send_ok w.heap.size 0 F [] 0 w0 N0 (by omega) (by omega) (by omega) (by decide)
  have C2 := fun W hW => turn_ok w.heap.size 0 t x [⟨0, F, false⟩] 0 W hW (by simp) (show F.size ≤ 65536 by omega) ht rfl hx
  have e1 : ([⟨0, F, false⟩] : List Pc).set 0 ⟨(pc [⟨0, F, false⟩] 0).to, turnF (pc [⟨0, F, false⟩] 0).fr t x, true⟩ = [⟨0, turnF F t x, true⟩] := rfl
  rw [e1] at C2
  have zT := turnF_size F t x
  have HB : Hid (∀ i, i < 8 * F.size → ((turnF F t x).data.toList.getD (i / 8) 0).toNat / 2 ^ (i % 8) % 2 = (if t ≤ i ∧ i < t + 32 ∧ x / 2 ^ (i - t) % 2 = 1 then 1 - (F.data.toList.getD (i / 8) 0).toNat / 2 ^ (i % 8) % 2 else (F.data.toList.getD (i / 8) 0).toNat / 2 ^ (i % 8) % 2)) := fun i hi => by
    have hb := bitL_turnK F.data.toList t x i hi 32
    unfold turnF
    rw [txt_list]
    rw [bit_div, bit_div] at hb
    generalize ((turnK F.data.toList t x 32).getD (i / 8) 0).toNat / 2 ^ (i % 8) = a at *
    generalize (F.data.toList.getD (i / 8) 0).toNat / 2 ^ (i % 8) = b at *
    split
    · rename_i h
      rw [decide_eq_true h, Bool.xor_true] at hb
      have := congrArg (· = true) hb
      simp at this
      omega
    · rename_i h
      rw [decide_eq_false h, Bool.xor_false, decide_eq_decide] at hb
      omega
  generalize turnF F t x = T at *
  have C3 := fun W hW => look_ok w.heap.size 0 [⟨0, T, true⟩] 0 W hW (by simp) (show T.size ≤ 65536 by omega)
  have e0 : (pc [⟨0, T, true⟩] 0).val = .agg #[.int .i64 0, .string T, .bool true] := rfl
  rw [e0] at C3
  have C4 := fun W hW => turn_there w.heap.size 0 t x [⟨0, T, true⟩] 0 W hW (by simp) (show T.size ≤ 65536 by omega) (show t < 8 * T.size by omega) rfl
  have hd : decide ((t : Int) < 0) = false := decide_eq_false (by omega)
  have ht' : (t : Int) < 8 * (F.size : Int) := by omega
  generalize hn : F.size = n at *
  clear e0 e1
  go_enter Try.func6, Try.ntmps6
  go_wp2_with (first
    | (go_at_call 14; refine (CU _).mono ?_; rintro e w1 ⟨rfl, hw⟩; replace hw := hw.symm; subst hw)
    | (go_at_call 13; refine C1.mono ?_; rintro e w2 ⟨rfl, N2, T2⟩)
    | (go_at_call 16; refine (C2 _ N2).mono ?_; rintro e w3 ⟨rfl, N3, T3⟩)
    | (go_at_call 12; refine (C3 _ N3).mono ?_; rintro e w4 ⟨rfl, B4⟩; have N4 := N3.below B4; have BC : Below w4.heap.size w4 (w4.alloc (.cells #[.int .i64 0, .string T, .bool true] 38)) := (Below.refl _ _).alloc (Nat.le_refl _) _; have X4 := blk_new w4 38 #[.int .i64 0, .string T, .bool true]; have N5 := N4.below BC; have BZ := ((B0.trans T2.below).trans T3.below).trans ((below_then B4 BC).mono (by have := N3.lt; omega)))
    | fail)
  generalize hw5 : w4.alloc (.cells #[.int .i64 0, .string T, .bool true] 38) = w5 at *
  have Y5 := X4.cell 1 (v := .string T) rfl
  have HY : Hid (∀ W, Below w5.heap.size w5 W → W.cell? ⟨w4.heap.size, 1, none⟩ = some (.string T)) := fun W hW => (X4.below hW X4.lt).cell 1 rfl
  clear X4 N2 N3 N4 T2 T3 B4 BC hw5 C1 C2 C3 CU Y5
  go_loopg [11, 12, 13] (8 * n) (fun gg s11 _ _ wr => ∃ i : Nat, i ≤ 8 * n ∧ gg = 8 * n - i ∧ s11 = .int .i64 (i : Int) ∧ Below w5.heap.size w5 wr)
  case atStart => exact ⟨0, by omega, rfl, rfl, Below.refl _ _⟩
  case round =>
    obtain ⟨i, hi, rfl, rfl, BW⟩ := hrel
    by_cases hlt : i < 8 * n
    · have hb := HB.out i hlt
      have yc := HY.out wr BW
      have yq : ∀ q, (wr.drewN q).cell? ⟨w4.heap.size, 1, none⟩ = some (.string T) := fun q => by
        have := HY.out (wr.drewN q) (below_drewN BW q)
        exact this
      have I1 := index_at T (i / 8) (by omega)
      have I2 := index_at F (i / 8) (by omega)
      generalize T.data.toList.getD (i / 8) 0 = y at *
      generalize F.data.toList.getD (i / 8) 0 = z at *
      have J1 := tmod_b y (i % 8)
      have J2 := tmod_b z (i % 8)
      have q2 : z.toNat / 2 ^ (i % 8) % 2 < 2 := Nat.mod_lt _ (by decide)
      generalize y.toNat / 2 ^ (i % 8) % 2 = p at *
      generalize z.toNat / 2 ^ (i % 8) % 2 = q at *
      have hr8 : i % 8 < 8 := by omega
      have ej : (i : Int).tdiv 8 = ((i / 8 : Nat) : Int) := by rw [Int.tdiv_eq_ediv_of_nonneg (by omega)]; omega
      have er : (i : Int).tmod 8 = ((i % 8 : Nat) : Int) := by rw [Int.tmod_eq_emod_of_nonneg (by omega)]; omega
      have ej2 : (i : Int) / 8 = ((i / 8 : Nat) : Int) := by omega
      have er2 : (i : Int) % 8 = ((i % 8 : Nat) : Int) := by omega
      have hjn : i / 8 < n := by omega
      have wj : IntKind.i64.wrap ((i / 8 : Nat) : Int) = ((i / 8 : Nat) : Int) := wrap_small _ (by omega)
      generalize i / 8 = j at *
      generalize i % 8 = r at *
      have HP : Hid (¬ (t ≤ i ∧ i < t + 32 ∧ x / 2 ^ (i - t) % 2 = 1) → ((p : Int) == (q : Int)) = true) := fun h => by rw [if_neg h] at hb; rw [hb]; simp
      have HQ : Hid ((t ≤ i ∧ i < t + 32 ∧ x / 2 ^ (i - t) % 2 = 1) → ((p : Int) == (q : Int)) = false) := fun h => by rw [if_pos h] at hb; rw [beq_eq_false_iff_ne]; omega
      clear hb q2
      by_cases d1 : i < t
      · have pq := HP.out (by omega)
        have d2 : decide ((t : Int) ≤ (i : Int)) = false := decide_eq_false (by omega)
        clear HP HQ
        go_wp2_with fail
        go_quiet (fail)
        go_wp2_with fail
        go_roundg (8 * n - (i + 1))
        case measure => omega
        case rel => exact ⟨i + 1, by omega, rfl, by go_num, below_drewN BW _⟩
      · have d2 : (t : Int) ≤ (i : Int) := by omega
        obtain ⟨k, hk⟩ : ∃ k, k = i - t := ⟨_, rfl⟩
        have hsub : (i : Int) - (t : Int) = (k : Int) := by omega
        by_cases d3 : 32 ≤ k
        · have pq := HP.out (by omega)
          have d4 : decide ((k : Int) < 32) = false := decide_eq_false (by omega)
          clear HP HQ hk d1
          go_wp2_with fail
          go_quiet (fail)
          go_wp2_with fail
          go_roundg (8 * n - (i + 1))
          case measure => omega
          case rel => exact ⟨i + 1, by omega, rfl, by go_num, below_drewN BW _⟩
        · have TX := tmod_x x k
          rw [← hk] at HP HQ
          by_cases d5 : x / 2 ^ k % 2 = 1
          · have pq := HQ.out ⟨by omega, by omega, d5⟩
            have eb : ((((x : Int) / 2 ^ k).tmod 2) == 1) = true := by rw [TX, d5]; rfl
            clear HP HQ hk d1 TX d5
            go_wp2_with fail
            go_quiet (fail)
            go_wp2_with fail
            go_roundg (8 * n - (i + 1))
            case measure => omega
            case rel => exact ⟨i + 1, by omega, rfl, by go_num, below_drewN BW _⟩
          · have pq := HP.out (fun h => d5 h.2.2)
            have eb : ((((x : Int) / 2 ^ k).tmod 2) == 1) = false := by rw [TX, show x / 2 ^ k % 2 = 0 by omega]; rfl
            clear HP HQ hk d1 TX d5
            go_wp2_with fail
            go_quiet (fail)
            go_wp2_with fail
            go_roundg (8 * n - (i + 1))
            case measure => omega
            case rel => exact ⟨i + 1, by omega, rfl, by go_num, below_drewN BW _⟩
    · obtain rfl : i = 8 * n := by omega
      have N6 := N5.below BW
      go_wp2_with (first
        | (go_at_call 8; refine (A _).mono ?_; rintro e w6 ⟨rfl, B6⟩; have N7 := N6.below B6)
        | (go_at_call 16; refine (C4 _ N7).mono ?_; rintro e w7 ⟨rfl, rfl⟩))
      go_ret
      exact ⟨rfl, BZ.trans ((below_then BW B6).mono (by have := N5.lt; omega))⟩
theorem netTurned_walk (s : ByteArray) (t x : Int) (w : World) (_ht : -9223372036854775808 ≤ t ∧ t ≤ 9223372036854775807) (hx : 0 ≤ x ∧ x ≤ 4294967295) :
   Calls Try.prog 6 #[.string s, .int .i64 t, .int .u32 x] w fun e w' => e = .returned (.bool true) ∧ Below w.heap.size w w' := by
  by_cases h : t < 0 ∨ 8 * ((cutF s 100).size : Int) ≤ t
  · exact netTurned_out s t x w h
  · obtain ⟨k, rfl⟩ : ∃ k : Nat, t = k := ⟨t.toNat, by omega⟩
    obtain ⟨z, rfl⟩ : ∃ z : Nat, x = z := ⟨x.toNat, by omega⟩
    exact netTurned_in s k z w (by omega) (by omega)
end Go.Proofs.Ytgbljkbiigcofaa
