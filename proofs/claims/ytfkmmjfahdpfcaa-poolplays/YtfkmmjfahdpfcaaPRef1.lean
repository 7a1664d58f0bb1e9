/- The document's pool: with another page; without a number in its row; a key's page. -/
import Derived.Test.YtfkmmjfahdpfcaaPRef0
namespace Go.Proofs.Ytfkmmjfahdpfcaa
open Go.ChangeShapes Go.WideShapes Go.ChangeAt Go.RowKit
theorem inN_free (L : List Pg) (i : Int) : (inN L i && !(atN L i).free) = !(atN L i).free := by
  unfold inN
  by_cases h : 0 ≤ i ∧ i < L.length
  · rw [decide_eq_true h]; rfl
  · rw [decide_eq_false h, atN_out L i (by omega)]; rfl
theorem rbox (w : World) (p : RfV) (x : St) : Blk (w.alloc (.cells #[.slice (some ⟨p.g, 0, none⟩) x.L.length p.cP, .slice p.aI x.I.length p.cI] 31)) w.heap.size 31 #[.slice (some ⟨p.g, 0, none⟩) x.L.length p.cP, .slice p.aI x.I.length p.cI] := blk_new _ _ _
theorem there_ref (O : Nat → Prop) (p : RfV) (x : St) (i : Int) (w : World) (h : RfAt O w p x) : Calls Try.prog 37 #[p.val x, .int .i64 i] w fun e w' => e = .returned (.bool (!(atN x.L i).free)) ∧ Below w.heap.size w w' := by
  have B0 : Below w.heap.size w (w.alloc (.cells #[.slice (some ⟨p.g, 0, none⟩) x.L.length p.cP, .slice p.aI x.I.length p.cI] 31)) := (Below.refl _ _).alloc (Nat.le_refl _) _
  have C := free_ref O p x i _ (h.below B0)
  have hf := h.few
  unfold RfV.val at *
  rw [← inN_free]
  clear h
  by_cases h0 : i < 0
  · have e : inN x.L i = false := by unfold inN; rw [decide_eq_false (by omega)]
    rw [e]
    clear C e
    go_enter Try.func37, Try.ntmps37
    go_wp2
    go_ret
    exact ⟨rfl, B0⟩
  obtain ⟨j, rfl⟩ : ∃ j : Nat, i = j := ⟨i.toNat, by omega⟩
  by_cases h1 : j < x.L.length
  · have e : inN x.L j = true := by unfold inN; rw [decide_eq_true (by omega)]
    rw [e] at C ⊢
    generalize (atN x.L j).free = f at *
    simp only [Bool.true_and] at C ⊢
    have h1' : (j : Int) < (x.L.length : Int) := by omega
    clear e
    generalize hw0 : w.alloc (.cells #[.slice (some ⟨p.g, 0, none⟩) x.L.length p.cP, .slice p.aI x.I.length p.cI] 31) = w0 at *
    have X0 : Blk w0 w.heap.size 31 #[.slice (some ⟨p.g, 0, none⟩) x.L.length p.cP, .slice p.aI x.I.length p.cI] := by rw [← hw0]; exact blk_new _ _ _
    have c0 := X0.cell 0 rfl
    have c1 := X0.cell 1 rfl
    cases f <;>
    · go_enter Try.func37, Try.ntmps37
      go_wp2_with (go_at_call 34; refine C.mono ?_; rintro e w1 ⟨rfl, B1⟩)
      go_ret
      exact ⟨rfl, below_then B0 B1⟩
  · have e : inN x.L j = false := by unfold inN; rw [decide_eq_false (by omega)]
    rw [e]
    have h1' : ¬ (j : Int) < (x.L.length : Int) := by omega
    clear C e
    go_enter Try.func37, Try.ntmps37
    go_wp2
    go_ret
    exact ⟨rfl, B0⟩
theorem own_ne {a c n m : Nat} (h : a ≠ c) : some a ≠ (Value.slice (some ⟨c, 0, none⟩) n m).ownBlock := fun e => h (Option.some.inj e)
theorem Try.infoRPage : (Try.prog.info? 61).map (fun i => (i.zero, i.size, i.bytes)) = some (some (.agg #[.int .i64 0, .bool false, .int .i64 0]), 3, 24) := by kernel_rfl
theorem Try.infoRPool : (Try.prog.info? 31).map (·.size) = some 2 := by kernel_rfl
set_option maxHeartbeats 2000000 in
theorem with_ref (O : Nat → Prop) (p : RfV) (x : St) (j : Nat) (q : Pg) (w : World) (h : RfAt O w p x) (hO : ∀ g, w.heap.size ≤ g → O g) (hj : j < x.L.length) : Calls Try.prog 35 #[p.val x, .int .i64 (j : Int), q.val] w fun e w' => ∃ p', e = .returned (p'.val ⟨x.L.set j q, x.I⟩) ∧ RfAt O w' p' ⟨x.L.set j q, x.I⟩ ∧ Below w.heap.size w w' := by
  obtain ⟨r, s, k⟩ := q
  unfold RfV.val Pg.val
  have X0 := rbox w p x
  have B0 : Below w.heap.size w (w.alloc (.cells #[.slice (some ⟨p.g, 0, none⟩) x.L.length p.cP, .slice p.aI x.I.length p.cI] 31)) := (Below.refl _ _).alloc (Nat.le_refl _) _
  generalize hw0 : w.alloc (.cells #[.slice (some ⟨p.g, 0, none⟩) x.L.length p.cP, .slice p.aI x.I.length p.cI] 31) = w0 at *
  have s0 : w0.heap.size = w.heap.size + 1 := by rw [← hw0]; simp
  have X1 := blk_new w0 61 #[.int .i64 (r : Int), .bool s, .int .i64 k]
  have B1 : Below w0.heap.size w0 (w0.alloc (.cells #[.int .i64 (r : Int), .bool s, .int .i64 k] 61)) := (Below.refl _ _).alloc (Nat.le_refl _) _
  generalize hw1 : w0.alloc (.cells #[.int .i64 (r : Int), .bool s, .int .i64 k] 61) = w1 at *
  have s1 : w1.heap.size = w.heap.size + 2 := by rw [← hw1]; simp; omega
  have X2 := blk_new w1 31 #[.slice none 0 0, .slice none 0 0]
  have B2 : Below w1.heap.size w1 (w1.alloc (.cells #[.slice none 0 0, .slice none 0 0] 31)) := (Below.refl _ _).alloc (Nat.le_refl _) _
  generalize hw2 : w1.alloc (.cells #[.slice none 0 0, .slice none 0 0] 31) = w2 at *
  have s2 : w2.heap.size = w.heap.size + 3 := by rw [← hw2]; simp; omega
  have B3 : Below w2.heap.size w2 (w2.alloc (.cells #[] 61)) := (Below.refl _ _).alloc (Nat.le_refl _) _
  have O3 : (w2.alloc (.cells #[] 61)).ownsRow w2.heap.size 61 3 (.slice (some ⟨w2.heap.size, 0, none⟩) 0 0) 0 [] := World.ownsRow_made w2 #[] 0 (Nat.le_refl _) (by decide) rfl
  generalize hw3 : w2.alloc (.cells #[] 61) = w3 at *
  have s3 : w3.heap.size = w.heap.size + 4 := by rw [← hw3]; simp; omega
  rw [s2] at O3
  rw [s0] at X1
  rw [s1] at X2
  have D3 := below_then (below_then (below_then B0 B1) B2) B3
  have h3 := h.below D3
  replace X0 := X0.below (below_then (below_then B1 B2) B3) (by omega)
  replace X1 := X1.below (below_then B2 B3) (by omega)
  replace X2 := X2.below B3 (by omega)
  have c0 := X0.cell 0 rfl
  have c1 := X0.cell 1 rfl
  obtain ⟨i0, hi, hz0, hz1, hz2⟩ := info_parts Try.infoRPage
  have hcl := pcells_cells h3.pages
  have hf := h.few
  simp only
  go_enter Try.func35, Try.ntmps35
  go_wp2_with (at_builtin; refine wpList_append_own _ rfl _ _ 28 rfl (w.heap.size + 3) 61 i0 _ 3 24 Try.underlying28 hi hz0 hz1 hz2 rfl (by decide) _ 0 [] rfl O3 ⟨p.g, 0, none⟩ x.L.length p.cP (pcells x.L) rfl (pcells_len _) hcl (pcells_one _) (by unfold maxLen; omega) (by omega) (by omega) ?_; (intro v' w5 O1 G1 N1; rw [List.nil_append, Nat.zero_add] at O1; obtain ⟨g, cap, rfl, hg, hcap, Q5⟩ := qgs_own O1 h.some'; have Y0 := X0.of_block (G1.block _ X0.lt (own_ne (by omega))); have Y1 := X1.of_block (G1.block _ X1.lt (own_ne (by omega))); have Y2 := X2.of_block (G1.block _ X2.lt (own_ne (by omega))); have y0 := Y0.cell 0 rfl; have y1 := Y0.cell 1 rfl; have y2 := Y1.cell 0 rfl; have y3 := Y1.cell 1 rfl; have y4 := Y1.cell 2 rfl; have y5 := Y2.cell 0 rfl; have y6 := Y2.cell 1 rfl; have f0 := Y0.frozen 0; have f1 := Y2.frozen 0; have f2 := Y2.frozen 1; have q0 := Q5.c0 hj; have q1 := Q5.c1 hj; have q2 := Q5.c2 hj; have f3 := Q5.frozen (j * 3); have f4 := Q5.frozen (j * 3 + 1); have f5 := Q5.frozen (j * 3 + 2); have n1 : g ≠ w.heap.size := (by omega); have n2 : g ≠ w.heap.size + 2 := (by omega)))
  have k1 : w.heap.size + 2 ≠ g := by omega
  have k2 : w.heap.size + 2 ≠ w.heap.size := by omega
  have Z2 := ((((((Y2.other (a := ⟨g, j * 3, none⟩) k1 (.int .i64 (r : Int))).other (a := ⟨g, j * 3 + 1, none⟩) k1 (.bool s)).other (a := ⟨g, j * 3 + 2, none⟩) k1 (.int .i64 k)).other (a := ⟨w.heap.size, 0, none⟩) k2 (.slice (some ⟨g, 0, none⟩) x.L.length cap)).set 0 (.slice (some ⟨g, 0, none⟩) x.L.length cap)).set 1 (.slice p.aI x.I.length p.cI))
  have B5 : Below w.heap.size w w5 := D3.grown G1 (by omega) (fun k hk => by have := Option.some.inj hk; simp at this; omega)
  have k3 : w.heap.size ≤ g := by omega
  have k4 : w.heap.size ≤ w.heap.size + 2 := by omega
  have B6 := (((((B5.setCell (p := ⟨g, j * 3, none⟩) k3 (.int .i64 (r : Int))).setCell (p := ⟨g, j * 3 + 1, none⟩) k3 (.bool s)).setCell (p := ⟨g, j * 3 + 2, none⟩) k3 (.int .i64 k)).setCell (p := ⟨w.heap.size, 0, none⟩) (Nat.le_refl _) (.slice (some ⟨g, 0, none⟩) x.L.length cap)).setCell (p := ⟨w.heap.size + 2, 0, none⟩) k4 (.slice (some ⟨g, 0, none⟩) x.L.length cap)).setCell (p := ⟨w.heap.size + 2, 1, none⟩) k4 (.slice p.aI x.I.length p.cI)
  have Q6 := (((Q5.put hj ⟨r, s, k⟩).other (a := ⟨w.heap.size, 0, none⟩) n1 (.slice (some ⟨g, 0, none⟩) x.L.length cap)).other (a := ⟨w.heap.size + 2, 0, none⟩) n2 (.slice (some ⟨g, 0, none⟩) x.L.length cap)).other (a := ⟨w.heap.size + 2, 1, none⟩) n2 (.slice p.aI x.I.length p.cI)
  refine bodyPost_ret (results_cell_row rfl _ _ (w.heap.size + 2) 31 _ _ _ rfl Z2 Try.underlying31 rfl Try.infoRPool) rfl ?_
  have h6 := h.below B6
  exact ⟨⟨g, cap, p.aI, p.cI⟩, by rw [List.length_set]; rfl, ⟨Q6, hO g (by omega), h6.idle, h6.nil, by rw [List.length_set]; exact h.few, h.few2, by rw [List.length_set]; exact h.some'⟩, B6⟩
end Go.Proofs.Ytfkmmjfahdpfcaa
