/- NetOrder: whatever frames and nodes, it answers true. -/
import Derived.Test.YtgbljkbiigcofaaNOrd
namespace Go.Proofs.Ytgbljkbiigcofaa
open Go.ChangeShapes Go.WideShapes Go.ChangeAt Go.RowKit
set_option maxHeartbeats 4000000 in
set_option maxRecDepth 100000 in
theorem netOrder_walk (a1 : Option Addr) (n1 c1 : Nat) (S : Nat → ByteArray) (a2 : Option Addr) (n2 c2 : Nat) (Z : Nat → Int) (w : World) (hS : StrsAt w a1 n1 S) (hZ : IRow w a2 n2 Z) :
   Calls Try.prog 5 #[.slice a1 n1 c1, .slice a2 n2 c2] w fun e w' => e = .returned (.bool true) ∧ Below w.heap.size w w' := by
  have A := nawake_any
  have HS : Hid _ := hS
  have HZ : Hid _ := hZ
  have m1 := hS.max
  have m2 := hZ.max
  have HB : Hid _ := hZ.small
  have N0 := net_new w
  have B0 : Below w.heap.size w (w.alloc (.cells #[.slice none 0 0, .int .i64 0] 25)) := (Below.refl _ _).alloc (Nat.le_refl _) _
  clear hS hZ
  generalize hw0 : w.alloc (.cells #[.slice none 0 0, .int .i64 0] 25) = w0 at *
  go_enter Try.func5, Try.ntmps5
  go_wp2_with fail
  have B1 : Below w0.heap.size w0 (w0.alloc (.cells #[] 38)) := (Below.refl _ _).alloc (Nat.le_refl _) _
  have N1 := N0.below B1
  have E1 := bes_new N0
  replace B1 := below_then B0 B1
  generalize hw1 : w0.alloc (.cells #[] 38) = w1 at *
  clear N0 B0 hw1 hw0
  go_loopg [6, 7, 8, 9] 60 (fun gg s6 s7 _ _ wr => ∃ (i : Nat) (ao : Option Addr) (c : Nat) (L : List Pc), i ≤ 60 ∧ gg = 60 - i ∧ s7 = .int .i64 (i : Int) ∧ s6 = .slice ao L.length c ∧ NetAt wr w.heap.size L 0 ∧ Bes w.heap.size wr (.slice ao L.length c) L ∧ L.length ≤ i ∧ Below w.heap.size w wr)
  case atStart => exact ⟨0, _, _, [], by omega, rfl, rfl, rfl, N1, E1, by simp, B1⟩
  case round =>
    obtain ⟨i, ao, c, L, hi, rfl, rfl, rfl, N2, E2, hl, B2⟩ := hrel
    clear N1 E1 B1
    by_cases hlt : i < n1 ∧ i < n2 ∧ i < 60
    · obtain ⟨t1, t2, t3⟩ := hlt
      obtain ⟨b1, o1, rfl, q1⟩ := HS.out.at t1
      obtain ⟨b2, o2, rfl, q2⟩ := HZ.out.at t2
      have x1 := q1 wr B2
      have x2 := q2 wr B2
      have Q2 : Hid _ := q2
      have zb := HB.out i
      have CU := fun W => cutF_any (S i) 40 W
      have zF : (cutF (S i) 40).size ≤ 40 := cutF_size _ _
      clear q1 q2
      generalize S i = F at *
      generalize cutF F 40 = G at *
      generalize Z i = z at *
      have hbw := N2.lt
      by_cases hz : 0 ≤ z ∧ z < 8
      · obtain ⟨hz1, hz2⟩ := hz
        have C := send_ok w.heap.size z G L 0 wr N2 hz1 hz2 (by omega) (by omega)
        go_wp2_with (first
          | (go_at_call 14; refine (CU _).mono ?_; rintro e w2 ⟨rfl, rfl⟩)
          | (go_at_call 13; refine C.mono ?_; rintro e w3 ⟨rfl, N3, T3⟩; have B3 := B2.trans T3.below; have x3 := Q2.out w3 B3; have E3 := E2.turns T3; have BA : Below w3.heap.size w3 (w3.alloc (.cells #[.int .i64 z, .string G, .bool false] 38)) := (Below.refl _ _).alloc (Nat.le_refl _) _; have N4 := N3.below BA; have E4 := E3.below N3.lt BA; have X4 := blk_new w3 38 #[.int .i64 z, .string G, .bool false])
          | (at_builtin; refine wpList_append_bes rfl _ _ rfl w.heap.size _ L _ 0 ⟨z, G, false⟩ w3.heap.size rfl rfl N4 E4 X4 (by omega) ?_; intro ao' c' w5 N5 E5 B5))
        go_roundg (60 - (i + 1))
        case measure => omega
        case rel =>
          have e9 : (L ++ [(⟨z, G, false⟩ : Pc)]).length = L.length + 1 := by simp
          rw [← e9] at E5
          exact ⟨i + 1, ao', c', _, by omega, rfl, by go_num, by rw [e9], N5, E5, by rw [e9]; omega, (B3.trans (BA.mono (by have := N3.lt; omega))).trans B5⟩
      · have C := fun W => send_arg w.heap.size z G W (by omega)
        have hd : (decide (0 ≤ z) && decide (z < 8)) = false := by simp; omega
        by_cases hz0 : 0 ≤ z
        · have hz8 : 8 ≤ z := by omega
          clear hz hd
          go_wp2_with (first
            | (go_at_call 14; refine (CU _).mono ?_; rintro e w2 ⟨rfl, rfl⟩)
            | (go_at_call 13; refine (C _).mono ?_; rintro e w3 ⟨rfl, rfl⟩))
          go_roundg (60 - (i + 1))
          case measure => omega
          case rel => exact ⟨i + 1, _, _, L, by omega, rfl, by go_num, rfl, N2, E2, by omega, B2⟩
        · have hz8 : z < 0 := by omega
          have hz9 : decide (0 ≤ z) = false := decide_eq_false hz0
          clear hz hd hz0
          go_wp2_with (first
            | (go_at_call 14; refine (CU _).mono ?_; rintro e w2 ⟨rfl, rfl⟩)
            | (go_at_call 13; refine (C _).mono ?_; rintro e w3 ⟨rfl, rfl⟩))
          go_roundg (60 - (i + 1))
          case measure => omega
          case rel => exact ⟨i + 1, _, _, L, by omega, rfl, by go_num, rfl, N2, E2, by omega, B2⟩
    · have hcs : n1 ≤ i ∨ (i < n1 ∧ n2 ≤ i) ∨ (i < n1 ∧ i < n2 ∧ 60 ≤ i) := by omega
      clear hlt HS HZ HB m1 m2
      have hl60 : L.length ≤ 60 := by omega
      rcases hcs with h | ⟨h, h'⟩ | ⟨h, h', h''⟩ <;>
      · go_wp2_with fail
        clear hl
        generalize hn : L.length = n at *
        go_loopg [11, 12, 13, 70] n (fun gg _ _ _ s70 wv => ∃ k : Nat, k ≤ n ∧ gg = n - k ∧ s70 = .int .i64 (k : Int) ∧ NetAt wv w.heap.size (L.drop k) 0 ∧ Bes w.heap.size wv (.slice ao n c) L ∧ Below w.heap.size w wv)
        case atStart => exact ⟨0, by omega, rfl, rfl, by rw [List.drop_zero]; exact N2, E2, B2⟩
        case round =>
          obtain ⟨k, hk, rfl, rfl, N3, E3, B3⟩ := hrel
          clear N2 E2 B2
          by_cases hlt : k < n
          · obtain ⟨g, cap, e, z1, z2, z3, z4, z5, z6, z7⟩ := E3.row.cells (by omega)
            rw [hn] at e
            simp only [Value.slice.injEq, true_and] at e
            obtain ⟨rfl, rfl⟩ := e
            obtain ⟨y0, y1, y2⟩ := z7 k (by omega)
            have hb := N3.lt
            have BA : Below wr.heap.size wr (wr.alloc (.cells #[.int .i64 (pc L k).to, .string (pc L k).fr, .bool (pc L k).tn] 38)) := (Below.refl _ _).alloc (Nat.le_refl _) _
            have N4 := N3.below BA
            have E4 := E3.below hb BA
            have X4 := blk_new wr 38 #[.int .i64 (pc L k).to, .string (pc L k).fr, .bool (pc L k).tn]
            have C := take_ok w.heap.size 0 (L.drop k) 0 _ N4 (by rw [List.length_drop]; omega) (by rw [List.length_drop]; omega)
            rw [drop_get, drop_erase] at C
            have S4 := beside_new N3 (.cells #[.int .i64 (pc L k).to, .string (pc L k).fr, .bool (pc L k).tn] 38)
            clear z5 z6 z7
            generalize pc L k = p at *
            obtain ⟨pt, pf, pn⟩ := p
            unfold Pc.val at C
            simp only at C y0 y1 y2 BA X4 S4 N4 E4
            go_wp2_with (go_at_call 15; refine C.mono ?_; rintro e w5 ⟨rfl, N5, T5⟩; have X5 := X4.of_block (S4.same T5); have E5 := E4.turns T5; have BC : Below w5.heap.size w5 (w5.alloc (.cells #[.int .i64 pt, .string pf, .bool pn] 38)) := (Below.refl _ _).alloc (Nat.le_refl _) _; have X6 := X5.below BC X5.lt; have v0 := X6.cell 0 (v := .int .i64 pt) rfl; have v1 := X6.cell 1 (v := .string pf) rfl; have v2 := X6.cell 2 (v := .bool pn) rfl)
            go_roundg (n - (k + 1))
            case measure => omega
            case rel => exact ⟨k + 1, by omega, rfl, by go_num, N5.below BC, E5.below N5.lt BC, ((B3.trans (BA.mono (by omega))).trans T5.below).trans (BC.mono (by have := N5.lt; omega))⟩
          · obtain rfl : k = n := by omega
            rw [← hn, List.drop_length] at N3
            go_wp2_with (first
              | (go_at_call 8; refine (A _).mono ?_; rintro e w2 ⟨rfl, B5⟩; have N5 := N3.below B5)
              | (go_at_call 10; refine (len_any _ _ _ _ N5).mono ?_; rintro e w3 ⟨rfl, rfl⟩)
              | (go_at_call 11; refine (lost_any _ _ _ _ N5).mono ?_; rintro e w4 ⟨rfl, rfl⟩))
            go_ret
            exact ⟨rfl, B3.trans (B5.mono (by have := N3.lt; omega))⟩
end Go.Proofs.Ytgbljkbiigcofaa
