/- NetPlays: whatever calls, it answers true. -/
import Derived.Test.YtgbljkbiigcofaaNDoesA
import Derived.Deep.CutBlock
import Derived.Deep.CutRange
namespace Go.Proofs.Ytgbljkbiigcofaa
open Go.ChangeShapes Go.WideShapes Go.ChangeAt Go.RowKit
theorem ActsAt.at {w : World} {ao : Option Addr} {n : Nat} {Z : Nat → Act5} (h : ActsAt w ao n Z) {i : Nat} (hi : i < n) : ∃ b o, ao = some ⟨b, o, none⟩ ∧ ∀ W, Below w.heap.size w W → W.cell? ⟨b, o + i * 5, none⟩ = some (.int .i64 (Z i).kind) ∧ W.cell? ⟨b, o + i * 5 + 1, none⟩ = some (.int .i64 (Z i).i) ∧ W.cell? ⟨b, o + i * 5 + 2, none⟩ = some (.int .i64 (Z i).at_) ∧ W.cell? ⟨b, o + i * 5 + 3, none⟩ = some (.string (Z i).fr) ∧ W.cell? ⟨b, o + i * 5 + 4, none⟩ = some (.int .u32 (Z i).bits) := by
  obtain ⟨b, o, e, hc⟩ := h.cells (by omega)
  refine ⟨b, o, e, fun W hb => ?_⟩
  obtain ⟨h0, h1, h2, h3, h4⟩ := hc i hi
  have go : ∀ k v, w.cell? ⟨b, k, none⟩ = some v → W.cell? ⟨b, k, none⟩ = some v := fun k v hv => by
    rw [World.cell?_of_block (w := w) (hb.block _ (World.block_lt_of_cell? w _ hv))]; exact hv
  exact ⟨go _ _ h0, go _ _ h1, go _ _ h2, go _ _ h3, go _ _ h4⟩
/-- A block of one of the document's nets is none of a net's. -/
theorem beside_ref {b k : Nat} {w : World} {L : List Pc} {lost : Int} {cs : Array Value} (N : NetAt w b L lost) (hk : Blk w k 28 cs) : Beside b w k := by
  obtain ⟨ao, c, h1, h2, h3⟩ := N.parts
  refine ⟨hk.lt, ?_, by rw [h3]; exact row_ne h2 hk (by decide)⟩
  rintro rfl
  unfold Blk at hk h1
  rw [h1] at hk
  simp at hk
set_option maxHeartbeats 4000000 in
set_option maxRecDepth 100000 in
theorem netPlays_walk (a1 : Option Addr) (n1 c1 : Nat) (Z : Nat → Act5) (w : World) (hZ : ActsAt w a1 n1 Z) :
   Calls Try.prog 3 #[.slice a1 n1 c1] w fun e w' => e = .returned (.bool true) ∧ Below w.heap.size w w' := by
  have A := nawake_any
  have HZ : Hid _ := hZ
  have m1 := hZ.max
  have HB : Hid _ := hZ.small
  have N0 := net_new w
  have B0 : Below w.heap.size w (w.alloc (.cells #[.slice none 0 0, .int .i64 0] 25)) := (Below.refl _ _).alloc (Nat.le_refl _) _
  have s0 : (w.alloc (.cells #[.slice none 0 0, .int .i64 0] 25)).heap.size = w.heap.size + 1 := by simp
  clear hZ
  generalize hw0 : w.alloc (.cells #[.slice none 0 0, .int .i64 0] 25) = w0 at *
  have B1 : Below w0.heap.size w0 (w0.alloc (.cells #[.slice none 0 0, .int .i64 0] 28)) := (Below.refl _ _).alloc (Nat.le_refl _) _
  have X1 := blk_new w0 28 #[.slice none 0 0, .int .i64 0]
  have N1 := N0.below B1
  have s1 : (w0.alloc (.cells #[.slice none 0 0, .int .i64 0] 28)).heap.size = w0.heap.size + 1 := by simp
  rw [s0] at X1
  generalize hw1 : w0.alloc (.cells #[.slice none 0 0, .int .i64 0] 28) = w1 at *
  have e0 := X1.cell 0 (v := .slice none 0 0) rfl
  have e1 := X1.cell 1 (v := .int .i64 0) rfl
  have f0 := X1.frozen 0
  have f1 := X1.frozen 1
  have X1' := put_n (a := .slice none 0 0) (b := .int .i64 0) X1
  have N1' := N1.put2 X1 (.slice none 0 0) (.int .i64 0)
  have B1' := below_put_n (below_then B0 B1) (g := w.heap.size + 1) (by omega) (.slice none 0 0) (.int .i64 0)
  go_enter Try.func3, Try.ntmps3
  go_wp2_with (go_at_call 8; refine (A _).mono ?_; rintro e w2 ⟨rfl, B2⟩)
  have N2 := N1'.below B2
  have X2 := X1'.below B2 X1'.lt
  have BZ : Below w.heap.size w w2 := below_then B1' B2
  have P2 : PI w.heap.size w2 none 0 [] 0 := ⟨N2, ⟨PRow.nil _ _ _, fun k hk => by cases hk⟩, fun p hp => by cases hp⟩
  clear N0 N1 X1 B0 B1 B2 hw0 hw1 s0 s1 N2 e0 e1 f0 f1 X1' N1' B1'
  go_loopg [5, 6, 7, 8, 9, 10] 60 (fun gg s5 _ _ _ _ _ wr => ∃ (i : Nat) (ao : Option Addr) (c lost : Nat) (L : List Pc), i ≤ 60 ∧ gg = 60 - i ∧ s5 = .int .i64 (i : Int) ∧ PI w.heap.size wr ao c L (lost : Int) ∧ Blk wr (w.heap.size + 1) 28 #[.slice ao L.length c, .int .i64 (lost : Int)] ∧ L.length ≤ i ∧ lost ≤ 61 * i ∧ Below w.heap.size w wr)
  case atStart => exact ⟨0, none, 0, 0, [], by omega, rfl, rfl, P2, X2, by simp, by omega, BZ⟩
  case round =>
    obtain ⟨i, ao, c, lost, L, hi, rfl, rfl, P3, X3, hl, hlo, B3⟩ := hrel
    clear P2 X2 BZ
    by_cases hlt : i < n1 ∧ i < 60
    · obtain ⟨t1, t2⟩ := hlt
      obtain ⟨b1, o1, rfl, q1⟩ := HZ.out.at t1
      obtain ⟨x0, x1, x2, x3, x4⟩ := q1 wr B3
      have C := fun W hW => does_any w.heap.size ao c L lost (Z i) W hW (by omega) (by omega) (HB.out i)
      have y0 := X3.cell 0 (v := .slice ao L.length c) rfl
      have y1 := X3.cell 1 (v := .int .i64 (lost : Int)) rfl
      have PD := P3.turns ((Below.refl _ _).drew)
      have HL : Hid (L.length ≤ i) := hl
      have HW : Hid (w.heap.size < wr.heap.size) := P3.net.lt
      clear hl
      generalize Z i = z at *
      obtain ⟨K, I, T, F, X⟩ := z
      simp only at x0 x1 x2 x3 x4 C
      generalize hn : L.length = n at *
      go_upto_region 8 with fail
      go_cut [6, 7] from 14 to 87 (fun s6 s7 wc => ∃ (gy : Nat) (ao4 : Option Addr) (c4 lo4 : Nat) (L4 : List Pc), s6 = .pointer (some ⟨gy, 0, none⟩) ∧ s7 = .bool true ∧ gy ≠ w.heap.size + 1 ∧ Blk wc gy 28 #[.slice ao4 L4.length c4, .int .i64 (lo4 : Int)] ∧ PI w.heap.size wc ao4 c4 L4 (lo4 : Int) ∧ Blk wc (w.heap.size + 1) 28 #[.slice ao n c, .int .i64 (lost : Int)] ∧ L4.length ≤ i + 1 ∧ lo4 ≤ 61 * (i + 1) ∧ Below w.heap.size w wc)
      case first =>
        have BZ : Below wr.heap.size wr (wr.alloc (.cells #[.slice none 0 0, .int .i64 0] 28)) := (Below.refl _ _).alloc (Nat.le_refl _) _
        have XZ := blk_new wr 28 #[.slice none 0 0, .int .i64 0]
        have XZd : Blk (wr.alloc (.cells #[.slice none 0 0, .int .i64 0] 28)).drew wr.heap.size 28 #[.slice none 0 0, .int .i64 0] := XZ
        have PE := P3.turns BZ.drew
        obtain ⟨e0, e1, e2, e3, e4⟩ := q1 _ (below_then B3 BZ)
        have XE := X3.below BZ X3.lt
        have ey0 := XE.cell 0 (v := .slice ao n c) rfl
        have ey1 := XE.cell 1 (v := .int .i64 (lost : Int)) rfl
        go_region_with (go_at_call 9; first
          | (refine (C _ PD).mono ?_; rintro e w4 hdr; obtain ⟨ao4, c4, L4, lost4, rfl, P4, h1, h2, h3, T4⟩ := hdr; have XA := blk_new w4 28 #[.slice ao4 L4.length c4, .int .i64 lost4]; have BA : Below w4.heap.size w4 (w4.alloc (.cells #[.slice ao4 L4.length c4, .int .i64 lost4] 28)) := (Below.refl _ _).alloc (Nat.le_refl _) _)
          | (refine (C _ PE).mono ?_; rintro e w4 hdr; obtain ⟨ao4, c4, L4, lost4, rfl, P4, h1, h2, h3, T4⟩ := hdr; have XQ := XZd.of_block ((beside_ref PE.net XZd).same T4); have g0 := XQ.cell 0 (v := .slice none 0 0) rfl; have g1 := XQ.cell 1 (v := .int .i64 0) rfl; have gf := XQ.frozen 0; have gg := XQ.frozen 1))
        all_goals
          go_wp2_with fail
          go_meet
          case rel =>
            have O3 := beside_ref P3.net X3
            have hl := HL.out
            have hk := X3.lt
            obtain ⟨lo4, rfl⟩ : ∃ lo4 : Nat, lost4 = lo4 := ⟨lost4.toNat, by omega⟩
            first
              | (have T5 := (Turns.of_below ((Below.refl _ wr).drew) P3.net.lt).trans T4
                 have X5 := (X3.of_block (O3.same T5)).below BA (O3.turns T5).lt
                 have hk2 := T5.below.size
                 exact ⟨w4.heap.size, ao4, c4, lo4, L4, rfl, rfl, by have := (O3.turns T5).lt; omega, XA, P4.turns BA, X5, by omega, by omega, (B3.trans T5.below).trans (BA.mono (by have := P4.net.lt; omega))⟩)
              | (have T5 := (Turns.of_below BZ.drew P3.net.lt).trans T4
                 have X5 := (X3.of_block (O3.same T5)).put_n (g := wr.heap.size) (by omega) (.slice ao4 L4.length c4) (.int .i64 (lo4 : Int))
                 have hk2 := P3.net.lt
                 exact ⟨wr.heap.size, ao4, c4, lo4, L4, rfl, rfl, by omega, put_n XQ, P4.put2 XQ _ _, X5, by omega, by omega, below_put_n (B3.trans T5.below) (by omega) _ _⟩)
      case rest =>
        obtain ⟨gy, ao4, c4, lo4, L4, rfl, rfl, gne, Y4, P4, X4, hl4, hlo4, B4⟩ := hcut
        clear P3 X3 B3 PD C y0 y1 x0 x1 x2 x3 x4 q1 hlo HL HW
        have y0 := Y4.cell 0 (v := .slice ao4 L4.length c4) rfl
        have y1 := Y4.cell 1 (v := .int .i64 (lo4 : Int)) rfl
        have z0 := X4.cell 0 (v := .slice ao n c) rfl
        have z1 := X4.cell 1 (v := .int .i64 (lost : Int)) rfl
        have zf := X4.frozen 0
        have zg := X4.frozen 1
        have P5 := P4.put2 X4 (.slice ao4 L4.length c4) (.int .i64 (lo4 : Int))
        have X5 := put_n (a := .slice ao4 L4.length c4) (b := .int .i64 (lo4 : Int)) X4
        have B5 := below_put_n B4 (g := w.heap.size + 1) (by omega) (.slice ao4 L4.length c4) (.int .i64 (lo4 : Int))
        go_upto_region 10 with fail
        clear y0 y1 z0 z1 zf zg P4 X4 B4 Y4
        generalize (wc.setCell ⟨w.heap.size + 1, 0, none⟩ (.slice ao4 L4.length c4)).setCell ⟨w.heap.size + 1, 1, none⟩ (.int .i64 (lo4 : Int)) = w6 at *
        have C1 := fun W hW => len_any w.heap.size L4 lo4 W hW
        have C2 := fun W hW => lost_any w.heap.size L4 lo4 W hW
        have hq : ∀ q, (w6.drewN q).cell? ⟨w.heap.size + 1, 0, none⟩ = some (.slice ao4 L4.length c4) ∧ (w6.drewN q).cell? ⟨w.heap.size + 1, 1, none⟩ = some (.int .i64 (lo4 : Int)) ∧ NetAt (w6.drewN q) w.heap.size L4 lo4 := fun q => ⟨(X5.below (below_drewN (Below.refl _ _) q) X5.lt).cell 0 rfl, (X5.below (below_drewN (Below.refl _ _) q) X5.lt).cell 1 rfl, P5.net.below (below_drewN (Below.refl _ _) q)⟩
        have HQ : Hid _ := hq
        have x0 : ∀ q, (w6.drewN q).cell? ⟨w.heap.size + 1, 0, none⟩ = some (.slice ao4 L4.length c4) := fun q => (hq q).1
        have x1 : ∀ q, (w6.drewN q).cell? ⟨w.heap.size + 1, 1, none⟩ = some (.int .i64 (lo4 : Int)) := fun q => (hq q).2.1
        have NN : ∀ q, NetAt (w6.drewN q) w.heap.size L4 lo4 := fun q => (hq q).2.2
        clear hq
        go_quiet (first
          | (go_at_call 10; refine Calls.quiet_of_same (C1 _ (NN _)))
          | (go_at_call 11; refine Calls.quiet_of_same (C2 _ (NN _))))
        have P7 := P5.turns (below_drewN (Below.refl _ _) nq)
        have X7 := X5.below (below_drewN (Below.refl _ _) nq) X5.lt
        have B7 := B5.trans (Below.mono (below_drewN (Below.refl w6.heap.size w6) nq) (Nat.le_of_lt P5.net.lt))
        clear P5 X5 B5 HQ x0 x1 NN C1 C2
        generalize w6.drewN nq = w7 at *
        have HF : Hid (∀ j, j < L4.length → (pc L4 j).fr.size ≤ 65536) := fun j hj => by have := P7.at hj; omega
        have HP : Hid (∀ W, Below w7.heap.size w7 W → PI w.heap.size W ao4 c4 L4 (lo4 : Int) ∧ Blk W (w.heap.size + 1) 28 #[.slice ao4 L4.length c4, .int .i64 (lo4 : Int)]) := fun W hW => ⟨P7.turns hW, X7.below hW X7.lt⟩
        generalize hm : L4.length = m at *
        have x7 := X7.cell 0 (v := .slice ao4 m c4) rfl
        go_wp2_with fail
        clear x7
        go_loopg [8, 9, 10] (m + 2) (fun gg s8 _ _ wv => ∃ q : Nat, q ≤ m + 2 ∧ gg = m + 2 - q ∧ s8 = .int .i64 ((q : Int) - 1) ∧ Below w7.heap.size w7 wv)
        case atStart => exact ⟨0, by omega, by omega, rfl, Below.refl _ _⟩
        case round =>
          obtain ⟨q, hq, rfl, rfl, BW⟩ := hrel
          obtain ⟨PW, XW⟩ := HP.out wr BW
          have xw := XW.cell 0 (v := .slice ao4 m c4) rfl
          by_cases hlt : q ≤ m + 1
          · by_cases he : q = 0 ∨ q = m + 1
            · have C := look_none w.heap.size ((q : Int) - 1) L4 lo4 wr PW.net (by omega)
              have e0 : (default : Pc).val = .agg #[.int .i64 0, .string ⟨#[]⟩, .bool false] := rfl
              rw [e0] at C
              have hcs : (q = 0) ∨ (decide ((q : Int) - 1 < 0) = false ∧ (((q : Int) - 1) == (m : Int)) = true) := by
                rcases he with h | h
                · exact Or.inl h
                · exact Or.inr ⟨decide_eq_false (by omega), by rw [beq_iff_eq]; omega⟩
              clear he
              rcases hcs with h | ⟨h, h'⟩
              · subst h
                simp only [Int.natCast_zero, Int.zero_sub] at C ⊢
                go_wp2_with (go_at_call 12; refine C.mono ?_; rintro e w8 ⟨rfl, B8⟩; have BA : Below w8.heap.size w8 (w8.alloc (.cells #[.int .i64 0, .string ⟨#[]⟩, .bool false] 38)) := (Below.refl _ _).alloc (Nat.le_refl _) _; have XA := blk_new w8 38 #[.int .i64 0, .string ⟨#[]⟩, .bool false]; obtain ⟨PA, XA2⟩ := HP.out _ (below_then (below_then BW B8) BA); have xa := XA2.cell 0 (v := .slice ao4 m c4) rfl)
                go_roundg (m + 2 - 1)
                case measure => omega
                case rel => exact ⟨1, by omega, rfl, by go_num, below_then (below_then BW B8) BA⟩
              · go_wp2_with (go_at_call 12; refine C.mono ?_; rintro e w8 ⟨rfl, B8⟩; have BA : Below w8.heap.size w8 (w8.alloc (.cells #[.int .i64 0, .string ⟨#[]⟩, .bool false] 38)) := (Below.refl _ _).alloc (Nat.le_refl _) _; have XA := blk_new w8 38 #[.int .i64 0, .string ⟨#[]⟩, .bool false]; obtain ⟨PA, XA2⟩ := HP.out _ (below_then (below_then BW B8) BA); have xa := XA2.cell 0 (v := .slice ao4 m c4) rfl)
                go_roundg (m + 2 - (q + 1))
                case measure => omega
                case rel => exact ⟨q + 1, by omega, rfl, by go_num, below_then (below_then BW B8) BA⟩
            · obtain ⟨j, rfl⟩ : ∃ j, q = j + 1 := ⟨q - 1, by omega⟩
              have hj : j < m := by omega
              have ej : ((j + 1 : Nat) : Int) - 1 = (j : Int) := by omega
              have C := look_ok w.heap.size j L4 lo4 wr PW.net (by omega) (HF.out j hj)
              obtain ⟨g, cap, e, z1, z2, z3, z4, z5, z6, z7⟩ := PRow.cells PW.ref.row (by omega)
              rw [hm] at e
              simp only [Value.slice.injEq, true_and] at e
              obtain ⟨rfl, rfl⟩ := e
              have z7j := z7 j (by omega)
              have HC : Hid (∀ W, Below wr.heap.size wr W → W.cell? ⟨g, j * 3, none⟩ = some (.int .i64 (pc L4 j).to) ∧ W.cell? ⟨g, j * 3 + 1, none⟩ = some (.string (pc L4 j).fr) ∧ W.cell? ⟨g, j * 3 + 2, none⟩ = some (.bool (pc L4 j).tn)) := fun W hW => by
                have go : ∀ k v, wr.cell? ⟨g, k, none⟩ = some v → W.cell? ⟨g, k, none⟩ = some v := fun k v hv => by
                  rw [World.cell?_of_block (w := wr) (hW.block _ z2)]; exact hv
                exact ⟨go _ _ z7j.1, go _ _ z7j.2.1, go _ _ z7j.2.2⟩
              have d1 : decide ((j : Int) < 0) = false := decide_eq_false (by omega)
              have d2 : ((j : Int) == (m : Int)) = false := by rw [beq_eq_false_iff_ne]; omega
              rw [ej]
              clear z5 z6 z7 z7j he ej
              generalize pc L4 j = p at *
              obtain ⟨pt, pf, pn⟩ := p
              unfold Pc.val at C
              simp only at C HC
              go_upto_region 19 with (go_at_call 12; refine C.mono ?_; rintro e w8 ⟨rfl, B8⟩; have BA : Below w8.heap.size w8 (w8.alloc (.cells #[.int .i64 pt, .string pf, .bool pn] 38)) := (Below.refl _ _).alloc (Nat.le_refl _) _; have XA := blk_new w8 38 #[.int .i64 pt, .string pf, .bool pn]; obtain ⟨PA, XA2⟩ := HP.out _ (below_then (below_then BW B8) BA); have xa := XA2.cell 0 (v := .slice (some ⟨g, 0, none⟩) m c4) rfl)
              generalize w8.alloc (.cells #[.int .i64 pt, .string pf, .bool pn] 38) = w9 at *
              have hb9 := fun nq => below_drewN (Below.refl w9.heap.size w9) nq
              have k0 : ∀ nq, (w9.drewN nq).cell? ⟨w8.heap.size, 0, none⟩ = some (.int .i64 pt) := fun nq => (XA.below (hb9 nq) XA.lt).cell 0 rfl
              have k1 : ∀ nq, (w9.drewN nq).cell? ⟨w8.heap.size, 1, none⟩ = some (.string pf) := fun nq => (XA.below (hb9 nq) XA.lt).cell 1 rfl
              have k2 : ∀ nq, (w9.drewN nq).cell? ⟨w8.heap.size, 2, none⟩ = some (.bool pn) := fun nq => (XA.below (hb9 nq) XA.lt).cell 2 rfl
              have k3 : ∀ nq, (w9.drewN nq).cell? ⟨w.heap.size + 1, 0, none⟩ = some (.slice (some ⟨g, 0, none⟩) m c4) := fun nq => (XA2.below (hb9 nq) XA2.lt).cell 0 rfl
              have k4 : ∀ nq, (w9.drewN nq).cell? ⟨g, j * 3, none⟩ = some (.int .i64 pt) := fun nq => (HC.out _ (below_then (below_then B8 BA) (hb9 nq))).1
              have k5 : ∀ nq, (w9.drewN nq).cell? ⟨g, j * 3 + 1, none⟩ = some (.string pf) := fun nq => (HC.out _ (below_then (below_then B8 BA) (hb9 nq))).2.1
              have k6 : ∀ nq, (w9.drewN nq).cell? ⟨g, j * 3 + 2, none⟩ = some (.bool pn) := fun nq => (HC.out _ (below_then (below_then B8 BA) (hb9 nq))).2.2
              have hj' : (j : Int) < (m : Int) := by omega
              go_quiet (fail)
              go_wp2_with fail
              go_roundg (m + 2 - (j + 2))
              case measure => omega
              case rel => exact ⟨j + 2, by omega, rfl, by go_num, below_then (below_then (below_then BW B8) BA) (hb9 _)⟩
          · obtain rfl : q = m + 2 := by omega
            have e2 : ((m + 2 : Nat) : Int) - 1 = (m : Int) + 1 := by omega
            rw [e2]
            go_wp2_with fail
            go_roundg (60 - (i + 1))
            case measure => omega
            case rel => exact ⟨i + 1, ao4, c4, lo4, L4, by omega, rfl, by go_num, PW, by rw [hm]; exact XW, by omega, hlo4, B7.trans (BW.mono (by have := P7.net.lt; omega))⟩
    · have hcs : n1 ≤ i ∨ (i < n1 ∧ 60 ≤ i) := by omega
      clear hlt
      rcases hcs with h | ⟨h, h'⟩ <;>
      · go_wp2_with fail
        go_ret
        exact ⟨rfl, B3⟩
end Go.Proofs.Ytgbljkbiigcofaa
