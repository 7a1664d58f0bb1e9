/- The program's pool shows what the document's has. -/
import Derived.Test.YtfkmmjfahdpfcaaPDoes
namespace Go.Proofs.Ytfkmmjfahdpfcaa
open Go.ChangeShapes Go.WideShapes Go.ChangeAt Go.RowKit
set_option maxHeartbeats 16000000 in
set_option maxRecDepth 100000 in
theorem shows_any (O : Nat → Prop) (b : Nat) (p : RfV) (x : St) (key : Int) (w : World) (hI : In w b x) (hR : RfAt O w p x) :
   Calls Try.prog 11 #[.pointer (some ⟨b + 1, 0, none⟩), p.val x, .int .i64 key] w fun e w' => e = .returned (.bool true) ∧ Below w.heap.size w w' := by
  have X0 := rbox w p x
  have B0 : Below w.heap.size w (w.alloc (.cells #[.slice (some ⟨p.g, 0, none⟩) x.L.length p.cP, .slice p.aI x.I.length p.cI] 31)) := (Below.refl _ _).alloc (Nat.le_refl _) _
  have CC := fun (v : World) (hb : Below w.heap.size w v) => counts_ref O p x v (hR.below hb)
  have CF := fun (v : World) (hb : Below w.heap.size w v) => find_ref O p x key v (hR.below hb)
  have hF := find_in b key x
  simp only [RfV.val] at CC CF ⊢
  generalize hw0 : w.alloc (.cells #[.slice (some ⟨p.g, 0, none⟩) x.L.length p.cP, .slice p.aI x.I.length p.cI] 31) = w0 at *
  obtain ⟨f, m, j, ef, em, rfl, _, CP⟩ := counts_in (hI.below B0)
  rw [← ef, ← em] at CC
  have HX : Hid (∀ v, Below w0.heap.size w0 v → Blk v w.heap.size 31 #[.slice (some ⟨p.g, 0, none⟩) x.L.length p.cP, .slice p.aI x.I.length p.cI]) := fun v hb => X0.below hb X0.lt
  have hq : Qgs w p.g x.L := hR.pages
  have hlt := hq.lt
  have hfew := hR.few
  have CR := fun (k : Int) (hk : -9223372036854775808 ≤ k ∧ k ≤ 9223372036854775807) (v : World) (hb : Below w.heap.size w v) => refs_any b k x.L x.I v (hI.below hb).at' hk
  have CO := fun (k : Int) (hk : -9223372036854775808 ≤ k ∧ k ≤ 9223372036854775807) (v : World) (hb : Below w.heap.size w v) => open_any b k x.L x.I v (hI.below hb).at' hk
  clear ef em
  rcases hF with ⟨q, hq2, HC, _, eidx⟩ | ⟨HC, eidx⟩
  · rw [eidx] at CF
    clear eidx
    have hq' : (0 : Int) ≤ (q : Int) := by omega
    go_enter Try.func11, Try.ntmps11
    go_wp2_with first
      | (go_at_call 17; refine CP.mono ?_; rintro e w1 ⟨rfl, B1⟩; have b1 := below_then B0 B1; have X1 := HX.out _ B1; have u0 := X1.cell 0 rfl; have u1 := X1.cell 1 rfl)
      | (go_at_call 26; refine (CC _ b1).mono ?_; rintro e w2 ⟨rfl, B2⟩; have b2 := below_then b1 B2; have I2 := hI.below b2)
      | (go_at_call 18; refine (HC _ I2).mono ?_; rintro e w3 ⟨rfl, B3⟩; have b3 := below_then b2 B3; have X3 := (X1.below B2 X1.lt).below B3 (X1.below B2 X1.lt).lt; have u2 := X3.cell 0 rfl; have u3 := X3.cell 1 rfl)
      | (go_at_call 27; refine (CF _ b3).mono ?_; rintro e w4 ⟨rfl, B4⟩; have b4 := below_then b3 B4; have X4 := X3.below B4 X3.lt)
    clear CC CF CP HC HX B0 hw0 X0
    go_loopg [16] (x.L.length + 2) (fun gg s16 wr => ∃ t : Nat, t ≤ x.L.length + 2 ∧ gg = x.L.length + 2 - t ∧ s16 = .int .i64 ((t : Int) - 1) ∧ Blk wr w.heap.size 31 #[.slice (some ⟨p.g, 0, none⟩) x.L.length p.cP, .slice p.aI x.I.length p.cI] ∧ Below w.heap.size w wr)
    case atStart => exact ⟨0, by omega, by omega, rfl, X4, b4⟩
    case round =>
      obtain ⟨t, ht, rfl, rfl, Y, hB⟩ := hrel
      clear X4 b4
      have u0 := Y.cell 0 (v := .slice (some ⟨p.g, 0, none⟩) x.L.length p.cP) rfl
      by_cases hend : t = x.L.length + 2
      · have hk : ¬ ((t : Int) - 1) ≤ (x.L.length : Int) := by omega
        generalize (t : Int) - 1 = k at *
        go_wp2_with fail
        go_ret
        exact ⟨rfl, hB⟩
      · have hk : ((t : Int) - 1) ≤ (x.L.length : Int) := by omega
        have hk1 : (t : Int) - 1 + 1 = ((t + 1 : Nat) : Int) - 1 := by omega
        have C1 := CR ((t : Int) - 1) (by omega) _ hB
        have C2 := CO ((t : Int) - 1) (by omega)
        have hge : (-1 : Int) ≤ (t : Int) - 1 := by omega
        have HK : Hid ((t : Int) - 1 + 1 = ((t + 1 : Nat) : Int) - 1) := hk1
        have hin : (((t : Int) - 1 < 0 ∨ (t : Int) - 1 = (x.L.length : Int)) ∧ atN x.L ((t : Int) - 1) = default) ∨ ∃ j : Nat, (t : Int) - 1 = j ∧ j < x.L.length := by
          by_cases h1 : (t : Int) - 1 < 0
          · exact Or.inl ⟨Or.inl h1, atN_out _ _ (Or.inl h1)⟩
          by_cases h2 : (t : Int) - 1 = (x.L.length : Int)
          · exact Or.inl ⟨Or.inr h2, atN_out _ _ (Or.inr (by omega))⟩
          · exact Or.inr ⟨t - 1, by omega, by omega⟩
        clear hk1
        generalize (t : Int) - 1 = k at *
        rcases hin with ⟨hout, ea⟩ | ⟨jj, rfl, hj⟩
        · rw [ea] at C1 C2
          have er : (((default : Pg).r : Nat) : Int) = 0 := rfl
          have eo : (default : Pg).open = false := rfl
          rw [er] at C1
          rw [eo] at C2
          clear er eo ea
          rcases hout with h1 | h1
          · go_wp2_with first
              | (go_at_call 20; refine C1.mono ?_; rintro e w5 ⟨rfl, B5⟩; have b5 := hB.trans (B5.mono hB.size))
              | (go_at_call 19; refine (C2 _ b5).mono ?_; rintro e w6 ⟨rfl, B6⟩)
            go_roundg (x.L.length + 2 - (t + 1))
            case measure => omega
            case rel => exact ⟨t + 1, by omega, rfl, by rw [← HK.out], (Y.below B5 Y.lt).below B6 (Y.below B5 Y.lt).lt, b5.trans (B6.mono b5.size)⟩
          · subst h1
            go_wp2_with first
              | (go_at_call 20; refine C1.mono ?_; rintro e w5 ⟨rfl, B5⟩; have b5 := hB.trans (B5.mono hB.size))
              | (go_at_call 19; refine (C2 _ b5).mono ?_; rintro e w6 ⟨rfl, B6⟩)
            go_roundg (x.L.length + 2 - (t + 1))
            case measure => omega
            case rel => exact ⟨t + 1, by omega, rfl, by rw [← HK.out], (Y.below B5 Y.lt).below B6 (Y.below B5 Y.lt).lt, b5.trans (B6.mono b5.size)⟩
        · have Q1 := hq.of_block (hB.block _ hlt)
          have p0 := Q1.c0 hj
          have p1 := Q1.c1 hj
          rw [atN_nat] at C1 C2
          have hj' : (jj : Int) < (x.L.length : Int) := by omega
          clear Q1
          generalize pg x.L jj = z at *
          obtain ⟨zr, zs, zk⟩ := z
          simp only at p0 p1 C1
          unfold Pg.open at C2
          simp only at C2
          by_cases hz : 0 < zr
          · rw [decide_eq_true hz, Bool.true_and] at C2
            have hz' : (0 : Int) < (zr : Int) := by omega
            clear hz
            cases zs <;>
            · go_wp2_with first
                | (go_at_call 20; refine C1.mono ?_; rintro e w5 ⟨rfl, B5⟩; have b5 := hB.trans (B5.mono hB.size))
                | (go_at_call 19; refine (C2 _ b5).mono ?_; rintro e w6 ⟨rfl, B6⟩)
              go_roundg (x.L.length + 2 - (t + 1))
              case measure => omega
              case rel => exact ⟨t + 1, by omega, rfl, by rw [← HK.out], (Y.below B5 Y.lt).below B6 (Y.below B5 Y.lt).lt, b5.trans (B6.mono b5.size)⟩
          · have hz' : zr = 0 := by omega
            subst hz'
            rw [decide_eq_false hz, Bool.false_and] at C2
            simp only [Int.natCast_zero] at p0 C1
            clear hz
            go_wp2_with first
              | (go_at_call 20; refine C1.mono ?_; rintro e w5 ⟨rfl, B5⟩; have b5 := hB.trans (B5.mono hB.size))
              | (go_at_call 19; refine (C2 _ b5).mono ?_; rintro e w6 ⟨rfl, B6⟩)
            go_roundg (x.L.length + 2 - (t + 1))
            case measure => omega
            case rel => exact ⟨t + 1, by omega, rfl, by rw [← HK.out], (Y.below B5 Y.lt).below B6 (Y.below B5 Y.lt).lt, b5.trans (B6.mono b5.size)⟩
  · rw [eidx] at CF
    clear eidx
    go_enter Try.func11, Try.ntmps11
    go_wp2_with first
      | (go_at_call 17; refine CP.mono ?_; rintro e w1 ⟨rfl, B1⟩; have b1 := below_then B0 B1; have X1 := HX.out _ B1; have u0 := X1.cell 0 rfl; have u1 := X1.cell 1 rfl)
      | (go_at_call 26; refine (CC _ b1).mono ?_; rintro e w2 ⟨rfl, B2⟩; have b2 := below_then b1 B2; have I2 := hI.below b2)
      | (go_at_call 18; refine (HC _ I2).mono ?_; rintro e w3 ⟨rfl, B3⟩; have b3 := below_then b2 B3; have X3 := (X1.below B2 X1.lt).below B3 (X1.below B2 X1.lt).lt; have u2 := X3.cell 0 rfl; have u3 := X3.cell 1 rfl)
      | (go_at_call 27; refine (CF _ b3).mono ?_; rintro e w4 ⟨rfl, B4⟩; have b4 := below_then b3 B4; have X4 := X3.below B4 X3.lt)
    clear CC CF CP HC HX B0 hw0 X0
    go_loopg [16] (x.L.length + 2) (fun gg s16 wr => ∃ t : Nat, t ≤ x.L.length + 2 ∧ gg = x.L.length + 2 - t ∧ s16 = .int .i64 ((t : Int) - 1) ∧ Blk wr w.heap.size 31 #[.slice (some ⟨p.g, 0, none⟩) x.L.length p.cP, .slice p.aI x.I.length p.cI] ∧ Below w.heap.size w wr)
    case atStart => exact ⟨0, by omega, by omega, rfl, X4, b4⟩
    case round =>
      obtain ⟨t, ht, rfl, rfl, Y, hB⟩ := hrel
      clear X4 b4
      have u0 := Y.cell 0 (v := .slice (some ⟨p.g, 0, none⟩) x.L.length p.cP) rfl
      by_cases hend : t = x.L.length + 2
      · have hk : ¬ ((t : Int) - 1) ≤ (x.L.length : Int) := by omega
        generalize (t : Int) - 1 = k at *
        go_wp2_with fail
        go_ret
        exact ⟨rfl, hB⟩
      · have hk : ((t : Int) - 1) ≤ (x.L.length : Int) := by omega
        have hk1 : (t : Int) - 1 + 1 = ((t + 1 : Nat) : Int) - 1 := by omega
        have C1 := CR ((t : Int) - 1) (by omega) _ hB
        have C2 := CO ((t : Int) - 1) (by omega)
        have hge : (-1 : Int) ≤ (t : Int) - 1 := by omega
        have HK : Hid ((t : Int) - 1 + 1 = ((t + 1 : Nat) : Int) - 1) := hk1
        have hin : (((t : Int) - 1 < 0 ∨ (t : Int) - 1 = (x.L.length : Int)) ∧ atN x.L ((t : Int) - 1) = default) ∨ ∃ j : Nat, (t : Int) - 1 = j ∧ j < x.L.length := by
          by_cases h1 : (t : Int) - 1 < 0
          · exact Or.inl ⟨Or.inl h1, atN_out _ _ (Or.inl h1)⟩
          by_cases h2 : (t : Int) - 1 = (x.L.length : Int)
          · exact Or.inl ⟨Or.inr h2, atN_out _ _ (Or.inr (by omega))⟩
          · exact Or.inr ⟨t - 1, by omega, by omega⟩
        clear hk1
        generalize (t : Int) - 1 = k at *
        rcases hin with ⟨hout, ea⟩ | ⟨jj, rfl, hj⟩
        · rw [ea] at C1 C2
          have er : (((default : Pg).r : Nat) : Int) = 0 := rfl
          have eo : (default : Pg).open = false := rfl
          rw [er] at C1
          rw [eo] at C2
          clear er eo ea
          rcases hout with h1 | h1
          · go_wp2_with first
              | (go_at_call 20; refine C1.mono ?_; rintro e w5 ⟨rfl, B5⟩; have b5 := hB.trans (B5.mono hB.size))
              | (go_at_call 19; refine (C2 _ b5).mono ?_; rintro e w6 ⟨rfl, B6⟩)
            go_roundg (x.L.length + 2 - (t + 1))
            case measure => omega
            case rel => exact ⟨t + 1, by omega, rfl, by rw [← HK.out], (Y.below B5 Y.lt).below B6 (Y.below B5 Y.lt).lt, b5.trans (B6.mono b5.size)⟩
          · subst h1
            go_wp2_with first
              | (go_at_call 20; refine C1.mono ?_; rintro e w5 ⟨rfl, B5⟩; have b5 := hB.trans (B5.mono hB.size))
              | (go_at_call 19; refine (C2 _ b5).mono ?_; rintro e w6 ⟨rfl, B6⟩)
            go_roundg (x.L.length + 2 - (t + 1))
            case measure => omega
            case rel => exact ⟨t + 1, by omega, rfl, by rw [← HK.out], (Y.below B5 Y.lt).below B6 (Y.below B5 Y.lt).lt, b5.trans (B6.mono b5.size)⟩
        · have Q1 := hq.of_block (hB.block _ hlt)
          have p0 := Q1.c0 hj
          have p1 := Q1.c1 hj
          rw [atN_nat] at C1 C2
          have hj' : (jj : Int) < (x.L.length : Int) := by omega
          clear Q1
          generalize pg x.L jj = z at *
          obtain ⟨zr, zs, zk⟩ := z
          simp only at p0 p1 C1
          unfold Pg.open at C2
          simp only at C2
          by_cases hz : 0 < zr
          · rw [decide_eq_true hz, Bool.true_and] at C2
            have hz' : (0 : Int) < (zr : Int) := by omega
            clear hz
            cases zs <;>
            · go_wp2_with first
                | (go_at_call 20; refine C1.mono ?_; rintro e w5 ⟨rfl, B5⟩; have b5 := hB.trans (B5.mono hB.size))
                | (go_at_call 19; refine (C2 _ b5).mono ?_; rintro e w6 ⟨rfl, B6⟩)
              go_roundg (x.L.length + 2 - (t + 1))
              case measure => omega
              case rel => exact ⟨t + 1, by omega, rfl, by rw [← HK.out], (Y.below B5 Y.lt).below B6 (Y.below B5 Y.lt).lt, b5.trans (B6.mono b5.size)⟩
          · have hz' : zr = 0 := by omega
            subst hz'
            rw [decide_eq_false hz, Bool.false_and] at C2
            simp only [Int.natCast_zero] at p0 C1
            clear hz
            go_wp2_with first
              | (go_at_call 20; refine C1.mono ?_; rintro e w5 ⟨rfl, B5⟩; have b5 := hB.trans (B5.mono hB.size))
              | (go_at_call 19; refine (C2 _ b5).mono ?_; rintro e w6 ⟨rfl, B6⟩)
            go_roundg (x.L.length + 2 - (t + 1))
            case measure => omega
            case rel => exact ⟨t + 1, by omega, rfl, by rw [← HK.out], (Y.below B5 Y.lt).below B6 (Y.below B5 Y.lt).lt, b5.trans (B6.mono b5.size)⟩
end Go.Proofs.Ytfkmmjfahdpfcaa
