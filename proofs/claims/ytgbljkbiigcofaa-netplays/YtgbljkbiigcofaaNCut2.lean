/- A net's Cut, whole. -/
import Derived.Test.YtgbljkbiigcofaaNCut
namespace Go.Proofs.Ytgbljkbiigcofaa
open Go.ChangeShapes Go.WideShapes Go.ChangeAt Go.RowKit
set_option maxHeartbeats 4000000 in
set_option maxRecDepth 100000 in
theorem delf_any (c : Nat) (k : Int) (B : Nat) (v : Value) (L : List Pc) (w : World) (hR : PRow 38 w B v L) (hl : L.length ≤ 256) (hc : w.cell? ⟨c, 0, none⟩ = some (.int .i64 k)) (hg : ∀ g, v.ownBlock = some g → c ≠ g) :
   Calls Try.prog 29 #[v, .func (.func 30) #[] #[.pointer (some ⟨c, 0, none⟩)]] w fun e w' => ∃ ao cap, e = .returned (.slice ao (rest k L).length cap) ∧ PRow 38 w' B (.slice ao (rest k L).length cap) (rest k L) ∧ w.grownBy w' v.ownBlock ∧ (Value.slice ao (rest k L).length cap).ownBlock = v.ownBlock := by
  rcases hR.cases with ⟨rfl, rfl⟩ | ⟨g, cap, cs, rfl, h4, h5, h6, h7, h8, h9⟩
  · have hQ : Calls Try.prog 34 #[.slice none 0 0, .func (.func 30) #[] #[.pointer (some ⟨c, 0, none⟩)]] w fun e w' => e = .returned (.int .i64 (-1)) ∧ w' = w := by
      go_enter Try.func34, Try.ntmps34
      go_wp2
      refine wp_loop_rounds 1 ?_
      rw [rounds_succ]
      go_wp2
      go_ret
      exact ⟨rfl, rfl⟩
    clear hc
    go_enter Try.func29, Try.ntmps29
    go_wp2_with (go_at_call 34; refine hQ.mono ?_; rintro e w' ⟨rfl, rfl⟩)
    go_ret
    exact ⟨none, 0, rfl, PRow.nil _ _ _, grownBy_refl _ _, rfl⟩
  · have hcg := hg g rfl
    have hQ := pidx_any c k g cap cs L w h5 h9 hl h6 hc
    have hm : cap ≤ 9223372036854775807 := by simpa [maxLen] using h7
    rcases idxP_cases k L with ⟨e1, hall⟩ | ⟨k0, hk0, e1, e2, hall⟩
    · rw [e1] at hQ
      have HI : Hid _ := hR
      have HA : Hid (rest k L = L) := rest_none hall
      clear hR h9 hall hc h5
      go_enter Try.func29, Try.ntmps29
      go_wp2_with (go_at_call 34; refine hQ.mono ?_; rintro e w' ⟨rfl, B2⟩)
      go_ret
      refine ⟨some ⟨g, 0, none⟩, cap, by rw [HA.out]; rfl, by rw [HA.out]; exact PRow.below HI.out B2, ?_, rfl⟩
      exact grown_below (grownBy_refl _ _) B2
    · rw [e1] at hQ
      have M0 : Hid (Mid L k (k0 + 1) k0 cs) := mid_start hk0 e2 hall h9
      have hne1 : ((k0 : Int) == -1) = false := beq_eq_false_iff_ne.2 (by omega)
      have HC : Hid (∀ W, w.grownBy W (some g) → W.cell? ⟨c, 0, none⟩ = some (.int .i64 k)) := fun W hW => cell_of_grown hW hc hcg
      have HL : Hid (∀ i, i < L.length → (flat L)[i * 3]? = some (.int .i64 (pc L i).to) ∧ (flat L)[i * 3 + 1]? = some (.string (pc L i).fr) ∧ (flat L)[i * 3 + 2]? = some (.bool (pc L i).tn)) := flat_at L
      have h5l := h5.lt
      clear hR h9 hall e1 e2 hc
      generalize hn : L.length = n at *
      go_enter Try.func29, Try.ntmps29
      go_wp2_with (go_at_call 34; refine hQ.mono ?_; rintro e w' ⟨rfl, B2⟩)
      have h5' := h5.below B2 h5l
      clear hQ h5
      go_loopg [5, 6, 7] (n - (k0 + 1)) (fun gg s5 s6 _ wr => ∃ (p j : Nat) (ds : Array Value), s5 = .int .i64 p ∧ s6 = .int .i64 j ∧ j ≤ n ∧ gg = n - j ∧ Blk wr g 38 ds ∧ ds.size = cap * 3 ∧ w.grownBy wr (some g) ∧ Hid (Mid L k j p ds))
      case atStart => exact ⟨k0, k0 + 1, cs, rfl, by go_num, by omega, rfl, h5', h8, grown_below (grownBy_refl _ _) B2, M0⟩
      case round =>
        obtain ⟨p, j, ds, rfl, rfl, hjn, rfl, D1, D2, G1, M1⟩ := hrel
        have hpj := M1.out.lt
        by_cases hlt : j < n
        · obtain ⟨a0, a1, a2⟩ := HL.out j hlt
          have c0 := D1.cell (j * 3) (by rw [M1.out.high _ (by omega) (by rw [hn]; omega)]; exact a0)
          have c1 := D1.cell (j * 3 + 1) (by rw [M1.out.high _ (by omega) (by rw [hn]; omega)]; exact a1)
          have c2 := D1.cell (j * 3 + 2) (by rw [M1.out.high _ (by omega) (by rw [hn]; omega)]; exact a2)
          clear a0 a1 a2 h5'
          have BA : Below wr.heap.size wr (wr.alloc (.cells #[.int .i64 (pc L j).to, .string (pc L j).fr, .bool (pc L j).tn] 38)) := (Below.refl _ _).alloc (Nat.le_refl _) _
          have X4 := blk_new wr 38 #[.int .i64 (pc L j).to, .string (pc L j).fr, .bool (pc L j).tn]
          have G4 := grown_below G1 BA
          have D4 := D1.below BA D1.lt
          have hcall := cutHit_any (pc L j) k c _ (HC.out _ G4)
          cases hq : (pc L j).hit k with
          | true =>
            rw [hq] at hcall
            have M2 : Hid (Mid L k (j + 1) p ds) := M1.out.skip (by omega) hq
            clear hq M1
            generalize pc L j = q at *
            obtain ⟨pt, pf, pn⟩ := q
            unfold Pc.val at hcall
            simp only at c0 c1 c2 hcall X4 BA G4 D4
            go_wp2_with (go_at_call 30; refine hcall.mono ?_; rintro e w4 ⟨rfl, B4⟩)
            go_roundg (n - (j + 1))
            case measure => omega
            case rel => exact ⟨p, j + 1, ds, rfl, by go_num, by omega, rfl, D4.below B4 D4.lt, D2, grown_below G4 B4, M2⟩
          | false =>
            rw [hq] at hcall
            have M2 : Hid (Mid L k (j + 1) (p + 1) _) := M1.out.keep (by omega) hq (by omega)
            clear hq M1
            generalize pc L j = q at *
            obtain ⟨pt, pf, pn⟩ := q
            unfold Pc.val at hcall
            simp only at c0 c1 c2 hcall X4 BA G4 D4 M2
            go_wp2_with (go_at_call 30; refine hcall.mono ?_; rintro e w4 ⟨rfl, B4⟩; have X5 := X4.below B4 X4.lt; have D5 := D4.below B4 D4.lt; have u0 := X5.cell 0 (v := .int .i64 pt) rfl; have u1 := X5.cell 1 (v := .string pf) rfl; have u2 := X5.cell 2 (v := .bool pn) rfl; have f0 := D5.frozen (p * 3); have f1 := D5.frozen (p * 3 + 1); have f2 := D5.frozen (p * 3 + 2); have y0 := D5.cell (p * 3) (Array.getElem?_eq_getElem (by omega)); have y1 := D5.cell (p * 3 + 1) (Array.getElem?_eq_getElem (by omega)); have y2 := D5.cell (p * 3 + 2) (Array.getElem?_eq_getElem (by omega)))
            go_roundg (n - (j + 1))
            case measure => omega
            case rel => exact ⟨p + 1, j + 1, _, by go_num, by go_num, by omega, rfl, ((D5.set (p * 3) _).set (p * 3 + 1) _).set (p * 3 + 2) _, by simpa using D2, grownBy_set (grownBy_set (grownBy_set (grown_below G4 B4) _ _) _ _) _ _, M2⟩
        · obtain rfl : j = n := by omega
          have M := M1.out
          have e3 : rest k (L.take j) = rest k L := by rw [← hn, List.take_length]
          have hlen := M.len
          have hlow := M.low
          rw [e3] at hlen hlow
          have hcl : ∀ ty, (Builtin.clear_ #[23] ty #[.slice (some ⟨g, p * 3, none⟩) (j - p) (cap - p)]).run Try.prog wr = .ok (.tuple #[]) (wr.setCells g (p * 3) (zeros3 (j - p))) := fun ty =>
            run_clear3 wr ty g _ _ _ (by omega) (fun t ht => by rw [D1.cell _ (Array.getElem?_eq_getElem (by omega))]; rfl) (fun t _ => D1.frozen _)
          have Y1 := blk_setCells g _ (zeros3 (j - p)) (p * 3) wr ds D1 (by rw [zeros3_len]; omega)
          have G2 := grownBy_setCells g (zeros3 (j - p)) (p * 3) wr G1
          generalize wr.setCells g (p * 3) (zeros3 (j - p)) = w2 at *
          have FIN : Hid (PRow 38 w2 B (.slice (some ⟨g, 0, none⟩) p cap) (rest k L)) := by
            have := PRow.mk' (L := rest k L) h4 Y1 (by omega) h7 (by simp [zeros3_len]; omega) (by
              rw [hlen, List.append_assoc, List.take_append_of_le_length (by simp; omega), List.take_take, Nat.min_self]
              exact hlow)
            rw [hlen] at this
            exact this
          have HL2 : Hid ((rest k L).length = p) := hlen
          have hcp : ¬ cap = p := by omega
          clear M M1 e3 hlen hlow D1 Y1 G1 HL HC M0 h5'
          go_wp2
          go_ret
          exact ⟨some ⟨g, 0, none⟩, cap, by rw [HL2.out]; rfl, by rw [HL2.out]; exact FIN.out, G2, rfl⟩
theorem pcRow_other {w : World} {b : Nat} {v : Value} {L : List Pc} (h : PRow 38 w (b + 1) v L) (u : Value) (i : Nat) : PRow 38 (w.setCell ⟨b, i, none⟩ u) (b + 1) v L :=
  h.other (fun e => by have h9 := (h.lt _ e).1; simp only at h9; omega) u
set_option maxHeartbeats 2000000 in
theorem ncut_any (b : Nat) (k : Int) (L : List Pc) (lost : Int) (w : World) (h : NetAt w b L lost) (hl : L.length ≤ 256) (hq : 0 ≤ lost ∧ lost < 1000000) :
   Calls Try.prog 17 #[.pointer (some ⟨b, 0, none⟩), .int .i64 k] w fun e w' => e = .returned (.int .i64 ((L.length : Int) - ((rest k L).length : Int))) ∧ NetAt w' b (rest k L) (lost + ((L.length : Int) - ((rest k L).length : Int))) ∧ Turns b w w' := by
  have hb := h.lt
  have HR : Hid _ := h.row_lt
  have X0 := blk_new w 3 #[.int .i64 k]
  have B0 : Below w.heap.size w (w.alloc (.cells #[.int .i64 k] 3)) := (Below.refl _ _).alloc (Nat.le_refl _) _
  have s0 : (w.alloc (.cells #[.int .i64 k] 3)).heap.size = w.heap.size + 1 := by simp
  have h' := h.below B0
  obtain ⟨ao, c, k1, k2, k3⟩ := h'.parts
  rw [rowBlk_same (B0.block b hb)] at k3
  have K3 : Hid (rowBlk w b = (Value.slice ao L.length c).ownBlock) := k3
  have c0 := k1.cell 0 (v := .slice ao L.length c) rfl
  have hrl := rest_len k L
  have C := delf_any w.heap.size k (b + 1) (.slice ao L.length c) L _ k2 hl (X0.cell 0 rfl) (fun g hg => by have := HR.out g (k3.trans hg); omega)
  have HR2 : Hid (∀ g, (Value.slice ao L.length c).ownBlock = some g → b < g ∧ g < w.heap.size) := fun g hg => HR.out g (k3.trans hg)
  clear h h' k2 k3 X0 HR
  generalize hw0 : w.alloc (.cells #[.int .i64 k] 3) = w0 at *
  generalize hn : L.length = n at *
  generalize hm : (rest k L).length = m at *
  go_enter Try.func17, Try.ntmps17
  go_wp2_with (go_at_call 29; refine C.mono ?_; rintro e w3 ⟨ao', c', rfl, O3, G3, N3⟩; have YB := k1.of_block (G3.block b (by omega) (fun e => by have := HR2.out _ e.symm; omega)); have fb := YB.frozen 0; have fb1 := YB.frozen 1; have cb := YB.cell 0 (v := .slice ao n c) rfl; have cb1 := YB.cell 1 (v := .int .i64 lost) rfl)
  go_ret
  have T4 : Turns b w (w3.setCell ⟨b, 0, none⟩ (.slice ao' m c')) := turns_set B0 hb K3.out (fun g hg => (HR2.out g hg).1) G3 YB (fun g hg => Or.inl (N3 ▸ hg))
  have N4 : NetAt (w3.setCell ⟨b, 0, none⟩ (.slice ao' m c')) b (rest k L) lost := ⟨_, YB.set 0 _, pcRow_other O3 _ _⟩
  exact ⟨rfl, N4.set_lost _, T4.set_lost N4 _⟩
end Go.Proofs.Ytgbljkbiigcofaa
