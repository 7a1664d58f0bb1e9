/- The document's Sum: what it answers. Condition: a text of at most 100,000 bytes. -/
import Derived.Test.YtmcjcmddijikbaaDoorFRow
import Derived.Deep.CutBlock
import Derived.Deep.CutRange
namespace Go.Proofs.YtmcjcmddijikbaaDoor
open Go.ChangeShapes Go.WideShapes Go.ChangeAt Go.RowKit
theorem tmodR (x k : Nat) : ((x : Int) / 2 ^ k).tmod 2 = ((x / 2 ^ k % 2 : Nat) : Int) := by
  have e : ((x : Int) / 2 ^ k) = ((x / 2 ^ k : Nat) : Int) := by norm_cast
  rw [e, Int.tmod_eq_emod_of_nonneg (Int.natCast_nonneg _)]
  rfl
theorem wrapS (j : Nat) (h : j ≤ 1000000) : IntKind.i64.wrap (j : Int) = (j : Int) := by
  have : ∀ x : Int, 0 ≤ x → x ≤ 1000000 → IntKind.i64.wrap x = x := fun x a b => by simp [IntKind.wrap, IntKind.bits, IntKind.signed]; omega
  exact this _ (by omega) (by omega)
theorem bitIn (l : List UInt8) (i : Nat) : ((((l.getD (i / 8) 0).toNat : Int) / 2 ^ (i % 8)).tmod 2 == 1) = (numL l).testBit i := by
  rw [tmodR, numL_bit]
  by_cases h : (l.getD (i / 8) 0).toNat / 2 ^ (i % 8) % 2 = 1
  · rw [h]; simp
  · rw [decide_eq_false h]
    have : (l.getD (i / 8) 0).toNat / 2 ^ (i % 8) % 2 = 0 := by omega
    rw [this]; rfl
theorem polyIn (k : Nat) (hk : k < 33) : (((4374732215 : Int) / 2 ^ (32 - k)).tmod 2 == 1) = polyQ.testBit k := by
  have h := tmodR 4374732215 (32 - k)
  rw [show ((4374732215 : Nat) : Int) = 4374732215 from rfl, poly_bit k hk] at h
  rw [h]
  cases polyQ.testBit k <;> rfl
set_option maxRecDepth 4000 in
set_option maxHeartbeats 4000000 in
theorem refSum_any (s : ByteArray) (w : World) (hs : s.size ≤ 100000) :
   Calls Tryd.prog 40 #[.string s] w fun e w' => e = .returned (.int .u32 (sumN s.data.toList : Int)) ∧ Below w.heap.size w w' := by
  have MK := makeL (8 * s.size + 32) (by omega)
  have em : ((8 * s.size + 32 : Nat) : Int) = 8 * (s.size : Int) + 32 := by omega
  rw [em] at MK
  clear em
  have Y0 := bol_made w (8 * s.size + 32) w.heap.size (Nat.le_refl _)
  have B0 := below_alloc w (.cells (madeCells #[.bool false] (8 * s.size + 32)) 4)
  have hls : s.data.toList.length = s.size := rfl
  go_enter Tryd.func40, Tryd.ntmps40
  go_wp2_with fail
  clear MK
  generalize hw1 : w.alloc (.cells (madeCells #[.bool false] (8 * s.size + 32)) 4) = w1 at *
  clear hw1
  go_loopg [4] (8 * s.size) (fun r s4 wr => ∃ i : Nat, i ≤ 8 * s.size ∧ r = 8 * s.size - i ∧ s4 = .int .i64 (i : Int) ∧ Bol wr w.heap.size w.heap.size (8 * s.size + 32) (numL s.data.toList % 2 ^ i) ∧ Below w.heap.size w wr)
  case atStart => exact ⟨0, by omega, by omega, rfl, by rw [Nat.pow_zero, Nat.mod_one]; exact Y0, B0⟩
  case round =>
    clear Y0 B0
    obtain ⟨i, hi, rfl, rfl, YR, BB⟩ := hrel
    by_cases hlt : i < 8 * s.size
    · have cc := YR.cell i (by omega)
      have ff := YR.free i (by omega)
      have ix := index_at s (i / 8) (by omega) ((i / 8 : Nat) : Int) rfl
      have eb := bitIn s.data.toList i
      have Y9 := YR.set i (by omega) ((numL s.data.toList).testBit i) (numL s.data.toList % 2 ^ (i + 1)) (fun j _ => tb_mod _ i j)
      have D9 := BB.setCell (p := ⟨w.heap.size, i, none⟩) YR.base (.bool ((numL s.data.toList).testBit i))
      have ej : (i : Int).tdiv 8 = ((i / 8 : Nat) : Int) := by rw [Int.tdiv_eq_ediv_of_nonneg (by omega)]; rfl
      have er : (i : Int).tmod 8 = ((i % 8 : Nat) : Int) := by rw [Int.tmod_eq_emod_of_nonneg (by omega)]; rfl
      have ej2 : (i : Int) / 8 = ((i / 8 : Nat) : Int) := rfl
      have er2 : (i : Int) % 8 = ((i % 8 : Nat) : Int) := rfl
      have wj := wrapS (i / 8) (by omega)
      have hr8 : i % 8 < 8 := by omega
      clear YR BB
      generalize (numL s.data.toList).testBit i = bt at *
      generalize s.data.toList.getD (i / 8) 0 = y at *
      generalize i / 8 = j at *
      generalize i % 8 = q at *
      go_wp2_with fail
      go_roundg (8 * s.size - (i + 1))
      case measure => omega
      case rel => exact ⟨i + 1, by omega, rfl, by go_num, Y9, D9⟩
    · obtain rfl : i = 8 * s.size := by omega
      rw [Nat.mod_eq_of_lt (by have := numL_lt s.data.toList; rwa [hls] at this)] at YR
      have HX : Hid (numL s.data.toList = numL s.data.toList ^^^ (2 ^ 0 - 1)) := by show _ = _; simp
      have HC : Hid (bitsN (8 * s.size) (numL s.data.toList ^^^ 4294967295) = crcL 4294967295 s.data.toList) := by show _ = _; rw [crc_bits, hls, Nat.xor_comm]
      have HD : Hid (sumN s.data.toList = 4294967295 ^^^ crcL 4294967295 s.data.toList) := rfl
      have HDl := sumN_lt s.data.toList
      generalize numL s.data.toList = X at *
      generalize crcL 4294967295 s.data.toList = C at *
      generalize hDD : sumN s.data.toList = D at *
      have HDD : Hid (sumN s.data.toList = D) := hDD
      clear hDD
      go_wp2_with fail
      go_loopg [5] 32 (fun r s5 wr => ∃ i : Nat, i ≤ 32 ∧ r = 32 - i ∧ s5 = .int .i64 (i : Int) ∧ Bol wr w.heap.size w.heap.size (8 * s.size + 32) (X ^^^ (2 ^ i - 1)) ∧ Below w.heap.size w wr)
      case atStart => exact ⟨0, by omega, by omega, rfl, by rw [← HX.out]; exact YR, BB⟩
      case round =>
        clear YR BB
        obtain ⟨i, hi, rfl, rfl, YR, BB⟩ := hrel
        by_cases hlt : i < 32
        · have cc := YR.cell i (by omega)
          have ff := YR.free i (by omega)
          have Y9 := YR.set i (by omega) (!(X ^^^ (2 ^ i - 1)).testBit i) (X ^^^ (2 ^ (i + 1) - 1)) (fun j _ => tb_ones X i j)
          have D9 := BB.setCell (p := ⟨w.heap.size, i, none⟩) YR.base (.bool (!(X ^^^ (2 ^ i - 1)).testBit i))
          clear YR BB
          generalize (X ^^^ (2 ^ i - 1)).testBit i = bt at *
          go_wp2_with fail
          go_roundg (32 - (i + 1))
          case measure => omega
          case rel => exact ⟨i + 1, by omega, rfl, by go_num, Y9, D9⟩
        · obtain rfl : i = 32 := by omega
          rw [show 2 ^ 32 - 1 = 4294967295 from rfl] at YR
          go_wp2_with fail
          go_loopg [7] (8 * s.size) (fun r s7 wr => ∃ i : Nat, i ≤ 8 * s.size ∧ r = 8 * s.size - i ∧ s7 = .int .i64 (i : Int) ∧ Bol wr w.heap.size w.heap.size (8 * s.size + 32) (2 ^ i * bitsN i (X ^^^ 4294967295)) ∧ Below w.heap.size w wr)
          case atStart => exact ⟨0, by omega, by omega, rfl, by rw [Nat.pow_zero, Nat.one_mul]; exact YR, BB⟩
          case round =>
            clear YR BB
            obtain ⟨i, hi, rfl, rfl, YR, BB⟩ := hrel
            by_cases hlt : i < 8 * s.size
            · have cc := YR.cell i (by omega)
              have PS := poly_step _ i (bitsN i (X ^^^ 4294967295)) rfl
              rw [← bitsN_succ'] at PS
              obtain ⟨V, hV⟩ : ∃ V, V = 2 ^ i * bitsN i (X ^^^ 4294967295) := ⟨_, rfl⟩
              rw [← hV] at PS cc YR
              clear hV
              by_cases hb : V.testBit i = true
              · rw [hb] at cc PS
                have PS2 : Hid (V ^^^ 2 ^ i * polyQ = 2 ^ (i + 1) * bitsN (i + 1) (X ^^^ 4294967295)) := PS
                clear PS hb
                go_wp2_with fail
                go_loopg [8] 33 (fun r s8 wr => ∃ k : Nat, k ≤ 33 ∧ r = 33 - k ∧ s8 = .int .i64 (k : Int) ∧ Bol wr w.heap.size w.heap.size (8 * s.size + 32) (V ^^^ 2 ^ i * (polyQ % 2 ^ k)) ∧ Below w.heap.size w wr)
                case atStart => exact ⟨0, by omega, by omega, rfl, by rw [Nat.pow_zero, Nat.mod_one, Nat.mul_zero, Nat.xor_zero]; exact YR, BB⟩
                case round =>
                  clear YR BB cc
                  obtain ⟨k, hk, rfl, rfl, YR, BB⟩ := hrel
                  by_cases hlk : k < 33
                  · have cc : ∀ p : Nxt wr, p.to.cell? ⟨w.heap.size, i + k, none⟩ = some (.bool ((V ^^^ 2 ^ i * (polyQ % 2 ^ k)).testBit (i + k))) := fun p => (YR.below p.ok).cell (i + k) (by omega)
                    have HS : Hid (∀ w', Bol w' w.heap.size w.heap.size (8 * s.size + 32) (V ^^^ 2 ^ i * (polyQ % 2 ^ k)) → Bol (w'.setCell ⟨w.heap.size, i + k, none⟩ (.bool ((V ^^^ 2 ^ i * (polyQ % 2 ^ k)).testBit (i + k) != polyQ.testBit k))) w.heap.size w.heap.size (8 * s.size + 32) (V ^^^ 2 ^ i * (polyQ % 2 ^ (k + 1)))) := fun w' h => h.set (i + k) (by omega) _ _ (fun j _ => tb_poly V i k j)
                    have HF : Hid (∀ w', Bol w' w.heap.size w.heap.size (8 * s.size + 32) (V ^^^ 2 ^ i * (polyQ % 2 ^ k)) → w'.cell? ⟨w.heap.size, i + k, none⟩ = some (.bool ((V ^^^ 2 ^ i * (polyQ % 2 ^ k)).testBit (i + k))) ∧ w'.frozen? ⟨w.heap.size, i + k, none⟩ = false) := fun w' h => ⟨h.cell (i + k) (by omega), h.free (i + k) (by omega)⟩
                    have ep := polyIn k hlk
                    generalize (V ^^^ 2 ^ i * (polyQ % 2 ^ k)).testBit (i + k) = bt at *
                    generalize polyQ.testBit k = bp at *
                    go_wp2_with fail
                    haveI := nxt_ne wr
                    refine wp_region_last_lit (by kernel_rfl) (List.cons_ne_nil _ _) (by kernel_rfl) (by kernel_rfl) (by kernel_rfl) (by kernel_rfl) (by kernel_rfl) ?_
                    intro l' z' hl' hz'
                    simp only [List.dropLast_cons_cons, List.dropLast_singleton] at hl'
                    simp only [List.getLast_cons_cons, List.getLast_singleton] at hz'
                    subst hl' hz'
                    repeat (first | go_big_quiet_skip | (go_big_quiet_want; go_big_quiet_op; go_big_quiet_on))
                    refine wpQuiet_nil ?_
                    intro _ hw'
                    obtain ⟨⟨w3, B3⟩, hw''⟩ := hw'
                    subst hw''
                    have Y3 := YR.below B3
                    obtain ⟨fc, ff⟩ := HF.out _ Y3
                    have Y4 := HS.out _ Y3
                    have D4 := (below_then BB B3).setCell (p := ⟨w.heap.size, i + k, none⟩) YR.base (.bool (bt != bp))
                    clear cc YR BB B3 Y3 HS HF
                    go_wp2_with fail
                    go_roundg (33 - (k + 1))
                    case measure => omega
                    case rel => exact ⟨k + 1, by omega, rfl, by go_num, Y4, D4⟩
                  · obtain rfl : k = 33 := by omega
                    rw [poly_full, PS2.out] at YR
                    go_wp2_with fail
                    go_roundg (8 * s.size - (i + 1))
                    case measure => omega
                    case rel => exact ⟨i + 1, by omega, rfl, by go_num, YR, BB⟩
              · have hb2 : V.testBit i = false := by simpa using hb
                rw [hb2] at cc PS
                have PS2 : Hid (V = 2 ^ (i + 1) * bitsN (i + 1) (X ^^^ 4294967295)) := PS
                clear PS hb hb2
                go_wp2_with fail
                go_roundg (8 * s.size - (i + 1))
                case measure => omega
                case rel => exact ⟨i + 1, by omega, rfl, by go_num, by rw [← PS2.out]; exact YR, BB⟩
            · obtain rfl : i = 8 * s.size := by omega
              rw [HC.out] at YR
              go_wp2_with fail
              go_loopg [9, 10] 32 (fun r s9 s10 wr => ∃ m : Nat, m ≤ 32 ∧ r = m ∧ s10 = .int .i64 ((m : Int) - 1) ∧ s9 = .int .u32 ((D / 2 ^ m : Nat) : Int) ∧ Bol wr w.heap.size w.heap.size (8 * s.size + 32) (2 ^ (8 * s.size) * C) ∧ Below w.heap.size w wr)
              case atStart => exact ⟨32, by omega, rfl, rfl, by rw [Nat.div_eq_of_lt (by omega)]; rfl, YR, BB⟩
              case round =>
                clear YR BB
                obtain ⟨m, hm, hr, rfl, rfl, YR, BB⟩ := hrel
                rcases m with _ | m
                · have e0 : ((D / 2 ^ 0 : Nat) : Int) = (D : Int) := by simp
                  rw [e0]
                  go_wp2_with fail
                  go_ret
                  exact ⟨by rw [HDD.out]; rfl, BB⟩
                · have cc := YR.cell (8 * s.size + m) (by omega)
                  rw [top_bit] at cc
                  have ob := ones_bit C m (by omega)
                  have rs := read_step D m
                  rw [← HD.out] at ob
                  have bd : 2 * (D / 2 ^ (m + 1)) ≤ D := by
                    have := Nat.div_mul_le_self D (2 ^ (m + 1))
                    rw [Nat.pow_succ] at this ⊢
                    have h1 := Nat.two_pow_pos m
                    have h2 : D / (2 ^ m * 2) * 2 ≤ D / (2 ^ m * 2) * (2 ^ m * 2) := Nat.mul_le_mul_left _ (by omega)
                    omega
                  have em : (((m + 1 : Nat) : Int) - 1) = (m : Int) := by omega
                  rw [em]
                  by_cases hb : C.testBit m = true
                  · rw [hb] at cc ob
                    rw [ob] at rs
                    have rs2 : Hid (2 * (D / 2 ^ (m + 1)) = D / 2 ^ m) := by show _ = _; simpa using rs
                    clear ob rs em
                    generalize D / 2 ^ (m + 1) = z at *
                    go_wp2_with fail
                    go_roundg m
                    case measure => omega
                    case rel => exact ⟨m, by omega, rfl, by go_num, by rw [← rs2.out]; go_num, YR, BB⟩
                  · have hb2 : C.testBit m = false := by simpa using hb
                    rw [hb2] at cc ob
                    rw [ob] at rs
                    have rs2 : Hid (2 * (D / 2 ^ (m + 1)) + 1 = D / 2 ^ m) := by show _ = _; simpa using rs
                    have bd2 : 2 * (D / 2 ^ (m + 1)) + 1 ≤ D := by rw [rs2.out]; exact Nat.div_le_self _ _
                    clear ob rs em hb hb2
                    generalize D / 2 ^ (m + 1) = z at *
                    go_wp2_with fail
                    go_roundg m
                    case measure => omega
                    case rel => exact ⟨m, by omega, rfl, by go_num, by rw [← rs2.out]; go_num, YR, BB⟩
end Go.Proofs.YtmcjcmddijikbaaDoor
