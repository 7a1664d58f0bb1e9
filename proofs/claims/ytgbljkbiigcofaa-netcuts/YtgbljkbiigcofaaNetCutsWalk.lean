/- NetCuts: whatever frames and nodes, it answers true. -/
import Derived.Test.YtgbljkbiigcofaaNOrd
import Derived.Test.YtgbljkbiigcofaaNCut2
namespace Go.Proofs.Ytgbljkbiigcofaa
open Go.ChangeShapes Go.WideShapes Go.ChangeAt Go.RowKit
theorem rest_append (k : Int) (L M : List Pc) : rest k (L ++ M) = rest k L ++ rest k M := by unfold rest; rw [List.filter_append]
theorem rest_hit {k : Int} {p : Pc} (h : p.to = k) : rest k [p] = [] := by unfold rest Pc.hit; simp [h]
theorem rest_miss {k : Int} {p : Pc} (h : ¬ p.to = k) : rest k [p] = [p] := by unfold rest Pc.hit; simp [h]
theorem rest_rest (k : Int) (L : List Pc) : rest k (rest k L) = rest k L := by unfold rest; rw [List.filter_filter]; congr; funext p; simp
set_option maxHeartbeats 4000000 in
set_option maxRecDepth 100000 in
theorem netCuts_walk (a1 : Option Addr) (n1 c1 : Nat) (S : Nat → ByteArray) (a2 : Option Addr) (n2 c2 : Nat) (Z : Nat → Int) (nd : Int) (w : World) (hS : StrsAt w a1 n1 S) (hZ : IRow w a2 n2 Z) (_hnd : -9223372036854775808 ≤ nd ∧ nd ≤ 9223372036854775807) :
   Calls Try.prog 7 #[.slice a1 n1 c1, .slice a2 n2 c2, .int .i64 nd] w fun e w' => e = .returned (.bool true) ∧ Below w.heap.size w w' := by
  have A := nawake_any
  have HS : Hid _ := hS
  have HZ : Hid _ := hZ
  have m1 := hS.max
  have m2 := hZ.max
  have HB : Hid _ := hZ.small
  have N0 := net_new w
  have B0 : Below w.heap.size w (w.alloc (.cells #[.slice none 0 0, .int .i64 0] 25)) := (Below.refl _ _).alloc (Nat.le_refl _) _
  clear hS hZ
  generalize hw0 : w.alloc (.cells #[.slice none 0 0, .int .i64 0] 25) = w0 at *
  go_enter Try.func7, Try.ntmps7
  go_wp2_with fail
  have B1 : Below w0.heap.size w0 (w0.alloc (.cells #[] 38)) := (Below.refl _ _).alloc (Nat.le_refl _) _
  have N1 := N0.below B1
  have E1 := bes_new N0
  replace B1 := below_then B0 B1
  generalize hw1 : w0.alloc (.cells #[] 38) = w1 at *
  clear N0 B0 hw1 hw0
  go_loopg [8, 9, 10, 11] 60 (fun gg s8 s9 s10 _ wr => ∃ (i : Nat) (ao : Option Addr) (c gone : Nat) (L M : List Pc), i ≤ 60 ∧ gg = 60 - i ∧ s10 = .int .i64 (i : Int) ∧ s8 = .slice ao M.length c ∧ s9 = .int .i64 (gone : Int) ∧ NetAt wr w.heap.size L 0 ∧ Bes w.heap.size wr (.slice ao M.length c) M ∧ L.length ≤ i ∧ Hid (M = rest nd L ∧ gone + M.length = L.length ∧ ∀ p ∈ L, p.fr.size ≤ 40) ∧ Below w.heap.size w wr)
  case atStart => exact ⟨0, _, _, 0, [], [], by omega, rfl, rfl, rfl, rfl, N1, E1, by simp, ⟨rfl, rfl, fun p hp => by cases hp⟩, B1⟩
  case round =>
    obtain ⟨i, ao, c, gone, L, M, hi, rfl, rfl, rfl, rfl, N2, E2, hl, HM, B2⟩ := hrel
    clear N1 E1 B1
    obtain ⟨j1, j2, j3⟩ := HM.out
    have hgl : gone ≤ 60 := by omega
    have hml : M.length ≤ 60 := by omega
    by_cases hlt : i < n1 ∧ i < n2 ∧ i < 60
    · obtain ⟨t1, t2, t3⟩ := hlt
      obtain ⟨b1, o1, rfl, q1⟩ := HS.out.at t1
      obtain ⟨b2, o2, rfl, q2⟩ := HZ.out.at t2
      have x1 := q1 wr B2
      have x2 := q2 wr B2
      have Q2 : Hid _ := q2
      have zb := HB.out i
      have CU := fun W => cutF_any (S i) 40 W
      have zF : (cutF (S i) 40).size ≤ 40 := cutF_size _ _
      clear q1 q2
      generalize S i = F at *
      generalize cutF F 40 = G at *
      generalize Z i = z at *
      have hbw := N2.lt
      by_cases hz : 0 ≤ z ∧ z < 8
      · obtain ⟨hz1, hz2⟩ := hz
        have C := send_ok w.heap.size z G L 0 wr N2 hz1 hz2 (by omega) (by omega)
        by_cases he : z = nd
        · have H2 : Hid (M = rest nd (L ++ [(⟨z, G, false⟩ : Pc)]) ∧ gone + 1 + M.length = (L ++ [(⟨z, G, false⟩ : Pc)]).length ∧ ∀ p ∈ L ++ [(⟨z, G, false⟩ : Pc)], p.fr.size ≤ 40) := ⟨by rw [rest_append, rest_hit (by exact he), List.append_nil]; exact j1, by simp; omega, fun p hp => by
            rcases List.mem_append.1 hp with h | h
            · exact j3 p h
            · rw [List.mem_singleton.1 h]; exact zF⟩
          have he' : (z == nd) = true := by simp [he]
          have HLL : Hid ((L ++ [(⟨z, G, false⟩ : Pc)]).length ≤ i + 1) := by show _ ≤ _; simp; omega
          clear j1 j2 j3 HM he
          go_wp2_with (first
            | (go_at_call 14; refine (CU _).mono ?_; rintro e w2 ⟨rfl, rfl⟩)
            | (go_at_call 13; refine C.mono ?_; rintro e w3 ⟨rfl, N3, T3⟩; have B3 := B2.trans T3.below; have x3 := Q2.out w3 B3; have E3 := E2.turns T3))
          go_roundg (60 - (i + 1))
          case measure => omega
          case rel => exact ⟨i + 1, ao, c, gone + 1, _, M, by omega, rfl, by go_num, rfl, by go_num, N3, E3, HLL.out, H2, B3⟩
        · have e9 : (M ++ [(⟨z, G, false⟩ : Pc)]).length = M.length + 1 := by simp
          have H2 : Hid (M ++ [(⟨z, G, false⟩ : Pc)] = rest nd (L ++ [(⟨z, G, false⟩ : Pc)]) ∧ gone + (M ++ [(⟨z, G, false⟩ : Pc)]).length = (L ++ [(⟨z, G, false⟩ : Pc)]).length ∧ ∀ p ∈ L ++ [(⟨z, G, false⟩ : Pc)], p.fr.size ≤ 40) := ⟨by rw [rest_append, rest_miss (by exact he), j1], by simp; omega, fun p hp => by
            rcases List.mem_append.1 hp with h | h
            · exact j3 p h
            · rw [List.mem_singleton.1 h]; exact zF⟩
          have he' : (z == nd) = false := by simp [he]
          have HLL : Hid ((L ++ [(⟨z, G, false⟩ : Pc)]).length ≤ i + 1) := by show _ ≤ _; simp; omega
          have HE9 : Hid _ := e9
          clear j1 j2 j3 HM he e9
          go_wp2_with (first
            | (go_at_call 14; refine (CU _).mono ?_; rintro e w2 ⟨rfl, rfl⟩)
            | (go_at_call 13; refine C.mono ?_; rintro e w3 ⟨rfl, N3, T3⟩; have B3 := B2.trans T3.below; have x3 := Q2.out w3 B3; have E3 := E2.turns T3; have BA : Below w3.heap.size w3 (w3.alloc (.cells #[.int .i64 z, .string G, .bool false] 38)) := (Below.refl _ _).alloc (Nat.le_refl _) _; have N4 := N3.below BA; have E4 := E3.below N3.lt BA; have X4 := blk_new w3 38 #[.int .i64 z, .string G, .bool false])
            | (at_builtin; refine wpList_append_bes rfl _ _ rfl w.heap.size _ M _ 0 ⟨z, G, false⟩ w3.heap.size rfl rfl N4 E4 X4 (by omega) ?_; intro ao' c' w5 N5 E5 B5))
          go_roundg (60 - (i + 1))
          case measure => omega
          case rel =>
            rw [← HE9.out] at E5
            exact ⟨i + 1, ao', c', gone, _, _, by omega, rfl, by go_num, by rw [HE9.out], rfl, N5, E5, HLL.out, H2, (B3.trans (BA.mono (by have := N3.lt; omega))).trans B5⟩
      · have C := fun W => send_arg w.heap.size z G W (by omega)
        clear hz j1 j2 j3
        go_wp2_with (first
          | (go_at_call 14; refine (CU _).mono ?_; rintro e w2 ⟨rfl, rfl⟩)
          | (go_at_call 13; refine (C _).mono ?_; rintro e w3 ⟨rfl, rfl⟩))
        go_roundg (60 - (i + 1))
        case measure => omega
        case rel => exact ⟨i + 1, _, _, gone, L, M, by omega, rfl, by go_num, rfl, rfl, N2, E2, by omega, HM, B2⟩
    · have hcs : n1 ≤ i ∨ (i < n1 ∧ n2 ≤ i) ∨ (i < n1 ∧ i < n2 ∧ 60 ≤ i) := by omega
      clear hlt HS HZ HB m1 m2
      have hl60 : L.length ≤ 60 := by omega
      have C1 := ncut_any w.heap.size nd L 0 wr N2 (by omega) (by omega)
      have hgg : (L.length : Int) - (M.length : Int) = (gone : Int) := by omega
      rw [← j1] at C1
      rw [hgg] at C1
      have C2 := fun W hW => ncut_any w.heap.size nd M gone W hW (by omega) (by omega)
      have hMM : rest nd M = M := by rw [j1, rest_rest]
      rw [hMM] at C2
      have e0 : (M.length : Int) - (M.length : Int) = 0 := by omega
      have e0' : (gone : Int) + 0 = gone := by omega
      have e0'' : (0 : Int) + gone = gone := by omega
      rw [e0, e0'] at C2
      rw [e0''] at C1
      have HF : Hid (∀ k, k < M.length → (pc M k).fr.size ≤ 65536) := fun k hk => by
        have hmem : pc M k ∈ M := by rw [← pc_get hk]; exact List.getElem_mem _
        rw [j1] at hmem
        have := j3 _ (List.mem_filter.1 hmem).1
        rw [j1]
        omega
      clear j1 j2 j3 HM hMM e0 e0' e0'' hgg
      rcases hcs with h | ⟨h, h'⟩ | ⟨h, h', h''⟩ <;>
      · go_wp2_with fail
        refine C1.mono ?_
        rintro e w3 ⟨rfl, N3, T3⟩
        have E3 := E2.turns T3
        have B3 := B2.trans T3.below
        have hb3 := N3.lt
        clear C1 N2 E2 B2 T3
        go_wp2_with fail
        refine (lost_any _ _ _ _ N3).mono ?_
        rintro e w4 ⟨rfl, rfl⟩
        go_wp2_with fail
        refine (len_any _ _ _ _ N3).mono ?_
        rintro e w5 ⟨rfl, rfl⟩
        go_wp2_with fail
        refine (C2 _ N3).mono ?_
        rintro e w6 ⟨rfl, N6, T6⟩
        have E6 := E3.turns T6
        have B6 := B3.trans T6.below
        clear C2 N3 E3 B3 T6 hl
        generalize hn : M.length = n at *
        go_wp2_with fail
        go_loopg [12, 13, 14, 15, 84] n (fun gg _ _ _ _ s84 wv => ∃ k : Nat, k ≤ n ∧ gg = n - k ∧ s84 = .int .i64 (k : Int) ∧ NetAt wv w.heap.size M gone ∧ Bes w.heap.size wv (.slice ao n c) M ∧ Below w.heap.size w wv)
        case atStart => exact ⟨0, by omega, rfl, rfl, N6, E6, B6⟩
        case round =>
          obtain ⟨k, hk, rfl, rfl, N3, E3, B3⟩ := hrel
          clear N6 E6 B6
          by_cases hlt : k < n
          · obtain ⟨g, cap, e, z1, z2, z3, z4, z5, z6, z7⟩ := E3.row.cells (by omega)
            rw [hn] at e
            simp only [Value.slice.injEq, true_and] at e
            obtain ⟨rfl, rfl⟩ := e
            obtain ⟨y0, y1, y2⟩ := z7 k (by omega)
            have hb := N3.lt
            have BA : Below wr.heap.size wr (wr.alloc (.cells #[.int .i64 (pc M k).to, .string (pc M k).fr, .bool (pc M k).tn] 38)) := (Below.refl _ _).alloc (Nat.le_refl _) _
            have N4 := N3.below BA
            have E4 := E3.below hb BA
            have X4 := blk_new wr 38 #[.int .i64 (pc M k).to, .string (pc M k).fr, .bool (pc M k).tn]
            have C := look_ok w.heap.size k M gone _ N4 (by omega) (HF.out k hlt)
            clear z5 z6 z7
            generalize pc M k = p at *
            obtain ⟨pt, pf, pn⟩ := p
            unfold Pc.val at C
            simp only at C y0 y1 y2 BA X4 N4 E4
            go_wp2_with (go_at_call 12; refine C.mono ?_; rintro e w5 ⟨rfl, B5⟩; have X5 := X4.below B5 X4.lt; have N5 := N4.below B5; have E5 := E4.below N4.lt B5; have BC : Below w5.heap.size w5 (w5.alloc (.cells #[.int .i64 pt, .string pf, .bool pn] 38)) := (Below.refl _ _).alloc (Nat.le_refl _) _; have X6 := X5.below BC X5.lt; have v0 := X6.cell 0 (v := .int .i64 pt) rfl; have v1 := X6.cell 1 (v := .string pf) rfl; have v2 := X6.cell 2 (v := .bool pn) rfl)
            go_roundg (n - (k + 1))
            case measure => omega
            case rel => exact ⟨k + 1, by omega, rfl, by go_num, N5.below BC, E5.below N5.lt BC, ((B3.trans (BA.mono (by omega))).trans (B5.mono (by have := N4.lt; omega))).trans (BC.mono (by have := N5.lt; omega))⟩
          · obtain rfl : k = n := by omega
            go_wp2_with (go_at_call 8; refine (A _).mono ?_; rintro e w2 ⟨rfl, B5⟩)
            go_ret
            exact ⟨rfl, B3.trans (B5.mono (by have := N3.lt; omega))⟩
end Go.Proofs.Ytgbljkbiigcofaa
