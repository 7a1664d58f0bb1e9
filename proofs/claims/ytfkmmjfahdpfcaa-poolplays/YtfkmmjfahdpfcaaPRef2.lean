/- The document's pool without a number in its row of idle pages; the page of a key; how many there are. -/
import Derived.Test.YtfkmmjfahdpfcaaPRef1
namespace Go.Proofs.Ytfkmmjfahdpfcaa
open Go.ChangeShapes Go.WideShapes Go.ChangeAt Go.RowKit
/-- append(row, j), row of the call's own. -/
theorem wpList_append_idl {w : World} {ops : Array Oper} {rest : List Oper} {o : Oper} {a : Act} {Q : Exit → Act → World → Prop} (hgd : o.guard = none) (s x : Operand)
    (ho : o.op = .call { callee := .builtin .append, args := #[s, x], argTypes := #[29, 29] })
    (B : Nat) (v : Value) (A : List Nat) (j g : Nat) (hs : a.eval s = v) (hx : a.eval x = .slice (some ⟨g, 0, none⟩) 1 1) (hc : w.cell? ⟨g, 0, none⟩ = some (.int .i64 (j : Int))) (hA : Idl w B v A) (hB : B ≤ w.heap.size) (hl : A.length ≤ 100)
    (h : ∀ ao c w', Idl w' B (.slice ao (A.length + 1) c) (A ++ [j]) → w.grownBy w' v.ownBlock → wpList Try.prog ops Q rest (a.put o.dst (.slice ao (A.length + 1) c)) w') : wpList Try.prog ops Q (o :: rest) a w := by
  obtain ⟨i0, hi, hz0, hz1, hz2⟩ := info_parts Try.infoInt
  refine wpList_append_own _ hgd s x 29 ho B 3 i0 (.int .i64 0) 1 8 Try.underlying29 hi hz0 hz1 hz2 rfl (by decide) v A.length _ hs hA ⟨g, 0, none⟩ 1 1 [.int .i64 (j : Int)] hx rfl (one_cell hc) (one_one _) (by unfold maxLen; omega) (by omega) hB ?_
  intro v' w5 O1 G1 N1
  have D1 : Idl w5 B v' (A ++ [j]) := idl_app j O1 rfl rfl
  obtain ⟨ao, c, rfl⟩ := D1.slice
  have e : (A ++ [j]).length = A.length + 1 := by simp
  rw [e] at D1 ⊢
  exact h ao c w5 D1 G1
theorem Idl.nilc {w : World} {B n c : Nat} {A : List Nat} (h : Idl w B (.slice none n c) A) : c = 0 := by
  rcases h.cases with ⟨h0, _⟩ | ⟨g, cap, cs, h0, _⟩
  · simp only [Value.slice.injEq, true_and] at h0; exact h0.2
  · cases h0
set_option maxHeartbeats 2000000 in
theorem less_ref (O : Nat → Prop) (p : RfV) (x : St) (i : Nat) (w : World) (h : RfAt O w p x) (hO : ∀ g, w.heap.size ≤ g → O g) : Calls Try.prog 36 #[p.val x, .int .i64 (i : Int)] w fun e w' => ∃ p', e = .returned (p'.val ⟨x.L, less x.I i⟩) ∧ RfAt O w' p' ⟨x.L, less x.I i⟩ ∧ Below w.heap.size w w' := by
  obtain ⟨gp, cP, aI, cI⟩ := p
  have X0 := rbox w ⟨gp, cP, aI, cI⟩ x
  simp only [RfV.val] at X0 ⊢
  have B0 : Below w.heap.size w (w.alloc (.cells #[.slice (some ⟨gp, 0, none⟩) x.L.length cP, .slice aI x.I.length cI] 31)) := (Below.refl _ _).alloc (Nat.le_refl _) _
  generalize hw0 : w.alloc (.cells #[.slice (some ⟨gp, 0, none⟩) x.L.length cP, .slice aI x.I.length cI] 31) = w0 at *
  have s0 : w0.heap.size = w.heap.size + 1 := by rw [← hw0]; simp
  have X1 := blk_new w0 31 #[.slice none 0 0, .slice none 0 0]
  have B1 : Below w0.heap.size w0 (w0.alloc (.cells #[.slice none 0 0, .slice none 0 0] 31)) := (Below.refl _ _).alloc (Nat.le_refl _) _
  generalize hw1 : w0.alloc (.cells #[.slice none 0 0, .slice none 0 0] 31) = w1 at *
  have s1 : w1.heap.size = w.heap.size + 2 := by rw [← hw1]; simp; omega
  have B2 : Below w1.heap.size w1 (w1.alloc (.cells #[] 3)) := (Below.refl _ _).alloc (Nat.le_refl _) _
  have O2 : Idl (w1.alloc (.cells #[] 3)) w1.heap.size (.slice (some ⟨w1.heap.size, 0, none⟩) 0 0) [] := World.ownsRow_made w1 #[] 0 (Nat.le_refl _) (by decide) rfl
  generalize hw2 : w1.alloc (.cells #[] 3) = w2 at *
  have s2 : w2.heap.size = w.heap.size + 3 := by rw [← hw2]; simp; omega
  rw [s1] at O2
  rw [s0] at X1
  have D2 := below_then (below_then B0 B1) B2
  replace X0 := X0.below (below_then B1 B2) (by omega)
  replace X1 := X1.below B2 (by omega)
  have c1 := X0.cell 1 (v := .slice aI x.I.length cI) rfl
  have hf2 := h.few2
  generalize hn : x.I.length = n at *
  go_enter Try.func36, Try.ntmps36
  go_wp2
  clear hw0 hw1 hw2 B0 B1 B2 c1
  go_loopg [5, 12] n (fun gg s5 s12 wr => ∃ (k : Nat) (ao : Option Addr) (c : Nat), k ≤ n ∧ gg = n - k ∧ s12 = .int .i64 (k : Int) ∧ s5 = .slice ao (less (x.I.take k) i).length c ∧ Idl wr (w.heap.size + 2) (.slice ao (less (x.I.take k) i).length c) (less (x.I.take k) i) ∧ Blk wr w.heap.size 31 #[.slice (some ⟨gp, 0, none⟩) x.L.length cP, .slice aI n cI] ∧ Blk wr (w.heap.size + 1) 31 #[.slice none 0 0, .slice none 0 0] ∧ w.heap.size + 3 ≤ wr.heap.size ∧ Below w.heap.size w wr)
  case atStart => exact ⟨0, _, _, by omega, by omega, rfl, rfl, O2, X0, X1, by omega, D2⟩
  case round =>
    obtain ⟨k, ao, c, hk, rfl, rfl, rfl, R1, Y0, Y1, hs, hB⟩ := hrel
    clear O2 X0 X1 D2
    by_cases hlt : k < n
    · obtain ⟨g, e, _, hc⟩ := (h.below hB).idle (by omega)
      have cc := hc k (by omega)
      have hsucc := less_take_succ (A := x.I) (i := i) (j := k) (by omega)
      have hll : (less (x.I.take k) i).length ≤ 64 := Nat.le_trans less_take_len (by omega)
      simp only at e
      subst e
      clear hc
      generalize x.I.getD k 0 = z at *
      by_cases hzi : z = i
      · subst hzi
        rw [if_pos rfl, List.append_nil] at hsucc
        have HS : Hid _ := hsucc
        clear hsucc
        go_wp2_with fail
        go_roundg (n - (k + 1))
        case measure => omega
        case rel => exact ⟨k + 1, ao, c, by omega, rfl, by go_num, by rw [HS.out], by rw [HS.out]; exact R1, Y0, Y1, hs, hB⟩
      · rw [if_neg hzi] at hsucc
        have HS : Hid _ := hsucc
        have hzi' : ¬ (z : Int) = (i : Int) := by omega
        have B6 : Below wr.heap.size wr (wr.alloc (.cells #[.int .i64 (z : Int)] 3)) := (Below.refl _ _).alloc (Nat.le_refl _) _
        have s6 : (wr.alloc (.cells #[.int .i64 (z : Int)] 3)).heap.size = wr.heap.size + 1 := by simp
        have R6 := R1.below B6
        have c6 := (blk_new wr 3 #[.int .i64 (z : Int)]).cell 0 (v := .int .i64 (z : Int)) rfl
        have Y0' := Y0.below B6 Y0.lt
        have Y1' := Y1.below B6 Y1.lt
        have b6 := hB.trans (B6.mono hB.size)
        clear hsucc hzi
        generalize hR2 : less (x.I.take k) i = R at *
        go_wp2_with (at_builtin; refine wpList_append_idl rfl _ _ rfl (w.heap.size + 2) _ R z wr.heap.size rfl rfl c6 R6 (by omega) (by omega) ?_; intro ao3 c3 w7 R7 G7)
        go_roundg (n - (k + 1))
        case measure => omega
        case rel =>
          have e9 : (R ++ [z]).length = R.length + 1 := by simp
          have hs' : less (x.I.take (k + 1)) i = R ++ [z] := HS.out
          have hr : ∀ g', (Value.slice ao R.length c).ownBlock = some g' → w.heap.size + 2 ≤ g' := fun g' hg' => (R6.lt g' hg').1
          have g8 := G7.size
          refine ⟨k + 1, ao3, c3, by omega, rfl, by go_num, by rw [hs', e9], by rw [hs', e9]; exact R7, Y0'.of_block (G7.block _ Y0'.lt fun e => by have := hr _ e.symm; omega), Y1'.of_block (G7.block _ Y1'.lt fun e => by have := hr _ e.symm; omega), by omega, ?_⟩
          exact b6.grown G7 b6.size (fun g' hg' => by have := hr g' hg'; omega)
    · obtain rfl : k = n := by omega
      have e1 : x.I.take k = x.I := by rw [← hn, List.take_length]
      rw [e1] at R1 ⊢
      have u0 := Y0.cell 0 rfl
      have u1 := Y0.cell 1 rfl
      have u2 := Y1.cell 0 rfl
      have u3 := Y1.cell 1 rfl
      have f0 := Y0.frozen 1
      have f1 := Y1.frozen 0
      have f2 := Y1.frozen 1
      go_wp2_with fail
      have k2 : w.heap.size + 1 ≠ w.heap.size := by omega
      have k4 : w.heap.size ≤ w.heap.size + 1 := by omega
      have Z1 := ((Y1.other (a := ⟨w.heap.size, 1, none⟩) k2 (.slice ao (less x.I i).length c)).set 0 (.slice (some ⟨gp, 0, none⟩) x.L.length cP)).set 1 (.slice ao (less x.I i).length c)
      refine bodyPost_ret (results_cell_row rfl _ _ (w.heap.size + 1) 31 _ _ _ rfl Z1 Try.underlying31 rfl Try.infoRPool) rfl ?_
      have B6 := ((hB.setCell (p := ⟨w.heap.size, 1, none⟩) (Nat.le_refl _) (.slice ao (less x.I i).length c)).setCell (p := ⟨w.heap.size + 1, 0, none⟩) k4 (.slice (some ⟨gp, 0, none⟩) x.L.length cP)).setCell (p := ⟨w.heap.size + 1, 1, none⟩) k4 (.slice ao (less x.I i).length c)
      have h6 := h.below B6
      have k5 : w.heap.size < w.heap.size + 2 := by omega
      have k6 : w.heap.size + 1 < w.heap.size + 2 := by omega
      have R8 := ((R1.other (a := ⟨w.heap.size, 1, none⟩) k5 (.slice ao (less x.I i).length c)).other (a := ⟨w.heap.size + 1, 0, none⟩) k6 (.slice (some ⟨gp, 0, none⟩) x.L.length cP)).other (a := ⟨w.heap.size + 1, 1, none⟩) k6 (.slice ao (less x.I i).length c)
      refine ⟨⟨gp, cP, ao, c⟩, rfl, ⟨h6.pages, h.og, fun hq => ?_, fun e => ?_, h.few, Nat.le_trans (List.length_filter_le _ _) h.few2, h.some'⟩, B6⟩
      · simp only at hq ⊢
        rcases R8.cases with ⟨_, h0⟩ | ⟨g, cp, cs, h0, hg, _⟩
        · rw [h0] at hq; simp at hq
        · simp only [Value.slice.injEq] at h0
          obtain ⟨rfl, _, rfl⟩ := h0
          exact ⟨g, rfl, hO g (by omega), fun t ht => R8.cell ht⟩
      · simp only at e
        subst e
        exact R1.nilc
end Go.Proofs.Ytfkmmjfahdpfcaa
