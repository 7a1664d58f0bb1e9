/- The document's weights. -/
import Derived.Test.YtjcacejkiaepnaaDoorSoftR
namespace Go.Proofs.YtjcacejkiaepnaaDoor
open Go.ChangeShapes Go.WideShapes Go.ChangeAt Go.RowKit
theorem Tryd.infoI64 : (Tryd.prog.info? 2).map (fun i => (i.zero, i.size, i.bytes)) = some (some (.int .i64 0), 1, 8) := by kernel_rfl
/-- Block g is a row of the call's own, of numbers of 64 bits. -/
structure Own64 (w : World) (B g n cap : Nat) (A : List Int) : Prop where
  own : w.ownsRow B 2 1 (.slice (some ⟨g, 0, none⟩) n cap) n (A.map (Value.int .i64))
  base : B ≤ g
theorem Own64.cell {w : World} {B g n cap : Nat} {A : List Int} (h : Own64 w B g n cap A) {t : Nat} (ht : t < n) : w.cell? ⟨g, t, none⟩ = some (.int .i64 (el A t)) := by
  have hl : A.length = n := by simpa using h.own.1
  have := h.own.cells (g := g) rfl t (.int .i64 (el A t)) (by unfold el; simp [List.getD_eq_getElem?_getD, List.getElem?_eq_getElem (show t < A.length by omega)])
  have e2 : (Addr.mk g 0 none).add t = ⟨g, t, none⟩ := by simp [Addr.add]; intro h; exact h.symm
  rwa [e2] at this
theorem Own64.below {w w' : World} {B g n cap : Nat} {A : List Int} (h : Own64 w B g n cap A) (hb : Below w.heap.size w w') : Own64 w' B g n cap A := ⟨owns_below h.own hb, h.base⟩
theorem Own64.of_block {w w' : World} {B g n cap : Nat} {A : List Int} (h : Own64 w B g n cap A) (e : w'.heap[g]? = w.heap[g]?) : Own64 w' B g n cap A := by
  obtain ⟨h1, h2⟩ := h.own
  refine ⟨⟨h1, ?_⟩, h.base⟩
  rcases h2 with h2 | ⟨g', c, cur, hv, hg, hh, r⟩
  · exact Or.inl h2
  · refine Or.inr ⟨g', c, cur, hv, hg, ?_, r⟩
    simp only [Value.slice.injEq, Option.some.injEq, Addr.mk.injEq, and_true] at hv
    obtain ⟨rfl, -⟩ := hv
    exact e.trans hh
theorem Own64.lt {w : World} {B g n cap : Nat} {A : List Int} (h : Own64 w B g n cap A) : g < w.heap.size := by
  obtain ⟨h1, h2⟩ := h.own
  rcases h2 with ⟨h2, _⟩ | ⟨g', c, cur, hv, hg, hh, r⟩
  · cases h2
  · simp only [Value.slice.injEq, Option.some.injEq, Addr.mk.injEq, and_true] at hv
    obtain ⟨rfl, -⟩ := hv
    exact (Array.getElem?_eq_some_iff.1 hh).1
theorem own64_empty (w : World) : Own64 (w.alloc (.cells #[] 2)) w.heap.size w.heap.size 0 0 [] :=
  ⟨⟨rfl, Or.inr ⟨w.heap.size, 0, #[], rfl, Nat.le_refl _, heap_alloc_new _ _, Nat.le_refl _, by decide, rfl, rfl⟩⟩, Nat.le_refl _⟩
/-- append(out, x), out a row of 64 bits of the call's own. -/
theorem wpList_append_64 {w : World} {ops : Array Oper} {rest : List Oper} {o : Oper} {a : Act} {Q : Exit → Act → World → Prop} (hgd : o.guard = none) (s x : Operand)
    (ho : o.op = .call { callee := .builtin .append, args := #[s, x], argTypes := #[56, 56] })
    (B g n cap : Nat) (A : List Int) (hs : a.eval s = .slice (some ⟨g, 0, none⟩) n cap) (hF : Own64 w B g n cap A)
    (bo : Nat) (y : Int) (hx : a.eval x = .slice (some ⟨bo, 0, none⟩) 1 1) (hX : w.cell? ⟨bo, 0, none⟩ = some (.int .i64 y))
    (hlen : n + 1 ≤ 1048576) (hB : B ≤ w.heap.size)
    (h : ∀ g' cap' w', Own64 w' B g' (n + 1) cap' (A ++ [y]) → Below B w w' → wpList Tryd.prog ops Q rest (a.put o.dst (.slice (some ⟨g', 0, none⟩) (n + 1) cap')) w') : wpList Tryd.prog ops Q (o :: rest) a w := by
  obtain ⟨i0, hi, hz0, hz1, hz2⟩ := info_parts Tryd.infoI64
  refine wpList_append_own w hgd s x 56 ho B 2 i0 (.int .i64 0) 1 8 Tryd.underlying56 hi hz0 hz1 hz2 rfl (by decide) _ n _ hs hF.own ⟨bo, 0, none⟩ 1 1 [.int .i64 y] hx rfl ?_ (ints_oneCell .i64 [y]) (by unfold maxLen; omega) (by omega) hB ?_
  · intro j u hj
    match j, hj with
    | 0, hj =>
      simp at hj
      subst hj
      have e2 : (Addr.mk bo 0 none).add 0 = ⟨bo, 0, none⟩ := by simp [Addr.add]
      rw [e2, hX]
  · intro v' w' hown hg hnil
    have hb : Below B w w' := (Below.refl _ _).grown hg hB (fun k hk => by simp [Value.ownBlock] at hk; subst hk; exact hF.base)
    obtain ⟨h1, h2⟩ := hown
    rcases h2 with ⟨h3, h4⟩ | ⟨g', c', cur, hv, hg2, hr⟩
    · omega
    · subst hv
      have e : A.map (Value.int .i64) ++ [.int .i64 y] = (A ++ [y]).map (Value.int .i64) := by simp
      rw [e] at h1 hr
      exact h g' c' w' ⟨⟨h1, Or.inr ⟨g', c', cur, rfl, hg2, hr⟩⟩, hg2⟩ hb
theorem cell64_new (w : World) (x : Int) : (w.alloc (.cells #[.int .i64 x] 2)).cell? ⟨w.heap.size, 0, none⟩ = some (.int .i64 x) := by
  have e := heap_alloc_new w (.cells #[.int .i64 x] 2)
  unfold World.cell?
  simp only [e]
  rfl
set_option maxHeartbeats 1600000 in
theorem refWeights_any (ao : Option Addr) (n ca : Nat) (A : List Int) (w : World) (hA : RowAt w ao n A) (h1 : 1 ≤ n) (h5 : n ≤ 5000) :
   Calls Tryd.prog 22 #[.slice ao n ca] w fun e w' => ∃ g cap, e = .returned (.slice (some ⟨g, 0, none⟩) n cap) ∧ Fresh w' w.heap.size g n cap (tab n (wgt A n)) ∧ Below w.heap.size w w' := by
  obtain ⟨x1, x2⟩ := amax_max A h1
  have x3 := amax_bd A n
  obtain ⟨b, o, rfl, hc⟩ := hA.cells (by omega)
  have c0 := hc (amax A n).toNat (by omega)
  rw [x2] at c0
  have mb := maxTo_bd hA.small n
  go_enter Tryd.func22, Tryd.ntmps22
  go_wp2_with fail
  refine (refArgmax_any _ _ _ _ _ hA).mono ?_
  rintro e w0 ⟨rfl, m0, hw0⟩
  have B0 : Below w.heap.size w w0 := hw0 ▸ below_drewN (Below.refl _ _) m0
  have c1 : w0.cell? ⟨b, o + (amax A n).toNat, none⟩ = some (.int .i32 (maxTo A n)) := by rw [hw0]; exact c0
  clear hw0 c0 hc x2
  have F0 := own64_empty w0
  have B1 : Below w.heap.size w (w0.alloc (.cells #[] 2)) := B0.alloc B0.size _
  have s0 := B0.size
  go_wp2
  generalize w0.alloc (.cells #[] 2) = w1 at *
  clear c1 x1 x3
  go_loopg [4, 5, 6] n (fun r s q i wr => ∃ (k g cap : Nat), k ≤ n ∧ r = n - k ∧ i = .int .i64 k ∧ s = .slice (some ⟨g, 0, none⟩) k cap ∧ q = .int .i64 (psum A n k) ∧ Own64 wr w0.heap.size g k cap (tab k (powW A n)) ∧ Below w.heap.size w wr ∧ w0.heap.size ≤ wr.heap.size)
  case atStart => exact ⟨0, _, _, by omega, by omega, rfl, rfl, rfl, F0, B1, by have := F0.lt; omega⟩
  case round =>
    obtain ⟨k, g, cap, hk, rfl, rfl, rfl, rfl, F2, B2, s2⟩ := hrel
    clear F0 B0 B1
    by_cases hlt : k < n
    · obtain ⟨b2, o2, e2, hc⟩ := (hA.below B2).cells (by omega)
      simp only [Option.some.injEq, Addr.mk.injEq, and_true] at e2
      obtain ⟨rfl, rfl⟩ := e2
      have a1 := hA.small.el k
      have c1 := hc k hlt
      have HP : Hid (powI (sat (el A k - maxTo A n)) = powW A n k) := rfl
      have HS : Hid (tab (k + 1) (powW A n) = tab k (powW A n) ++ [powW A n k]) := tab_snoc1 k _
      have HQ : Hid (psum A n (k + 1) = psum A n k + powW A n k) := psum_succ A n k
      have pb := powW_bd A n k
      have qb := psum_bd A n k
      have sb := sat_bd (el A k - maxTo A n)
      generalize maxTo A n = top at *
      generalize el A k = x at *
      clear hc hA
      go_wp2_with (first | (go_at_call 29; refine (refSat_any _ _ (by omega) (by omega)).mono ?_; rintro e wr ⟨rfl, rfl⟩) | (go_at_call 36; refine (refPow_any _ _ (by omega) (by omega)).mono ?_; rintro e w2 ⟨rfl, B3⟩; rw [HP.out]; have c3 := cell64_new w2 (powW A n k); have B4 : Below w2.heap.size w2 (w2.alloc (.cells #[.int .i64 (powW A n k)] 2)) := (Below.refl _ _).alloc (Nat.le_refl _) _; have s3 := B3.size; have s4 := B4.size; have F4 := (F2.below B3).below B4; have B5 := below_then (below_then B2 B3) B4; generalize hw4 : w2.alloc (.cells #[.int .i64 (powW A n k)] 2) = w4 at *; generalize powW A n k = y at *) | (at_builtin; refine wpList_append_64 rfl _ _ rfl w0.heap.size g k cap _ rfl (by exact F4) w2.heap.size y rfl (by exact c3) (by omega) (by omega) ?_; intro g' cap' w' F7 B7))
      go_roundg (n - (k + 1))
      case measure => omega
      case rel => exact ⟨k + 1, _, _, by omega, rfl, by go_num, rfl, by rw [HQ.out], by rw [HS.out]; exact F7, B5.trans (B7.mono (by omega)), by have := B7.size; omega⟩
    · obtain rfl : k = n := by omega
      generalize wr = w2 at *
      have F3 := fresh_empty w2
      have B3 : Below w2.heap.size w2 (w2.alloc (.cells #[] 35)) := (Below.refl _ _).alloc (Nat.le_refl _) _
      have F4 := F2.below B3
      have g1 := F2.lt
      have s3 := B3.size
      replace B3 := below_then B2 B3
      have qb := psum_bd A k k
      have qt := psum_top A h1
      have qn : psum A k k ≠ 0 := by omega
      go_wp2
      clear F2 B2
      generalize w2.alloc (.cells #[] 35) = w3 at *
      go_loopg [8, 9] k (fun r s i wr => ∃ (j g' cap' : Nat), j ≤ k ∧ r = k - j ∧ i = .int .i64 j ∧ s = .slice (some ⟨g', 0, none⟩) j cap' ∧ Fresh wr w2.heap.size g' j cap' (tab j (wgt A k)) ∧ Own64 wr w0.heap.size g k cap (tab k (powW A k)) ∧ Below w.heap.size w wr ∧ w2.heap.size ≤ wr.heap.size)
      case atStart => exact ⟨0, _, _, by omega, by omega, rfl, rfl, F3, F4, B3, s3⟩
      case round =>
        obtain ⟨j, g', cap', hj, rfl, rfl, rfl, F5, F6, B6, s6⟩ := hrel
        clear F3 F4 B3
        by_cases hlj : j < k
        · have c1 := F6.cell hlj
          rw [el_tab hlj] at c1
          have pb := powW_bd A k j
          have HW : Hid (65536 * powW A k j / psum A k k = wgt A k j) := rfl
          have wb := wgt_bd A hlj
          have E9 : Hid (wrap32 (wgt A k j) = wgt A k j) := by show _ = _; unfold wrap32; omega
          have HS : Hid (tab (j + 1) (wgt A k) = tab j (wgt A k) ++ [wgt A k j]) := tab_snoc1 j _
          have R := rowAt_one wr (wgt A k j) (by omega)
          have BA : Below wr.heap.size wr (wr.alloc (.cells #[.int .i32 (wgt A k j)] 35)) := (Below.refl _ _).alloc (Nat.le_refl _) _
          have F7 := F5.below BA
          have F8 := F6.below BA
          have s8 := BA.size
          replace BA := below_then B6 BA
          have E10 : wrap32 (65536 * powW A k j / psum A k k) = wgt A k j := E9.out
          generalize hw7 : wr.alloc (.cells #[.int .i32 (wgt A k j)] 35) = w7 at *
          generalize wgt A k j = z at *
          clear F5 F6 B6 HW E9
          go_wp2_with (at_builtin; refine wpList_append_row rfl _ _ rfl w2.heap.size g' j cap' _ rfl (by exact F7) (some ⟨wr.heap.size, 0, none⟩) 1 1 _ rfl (by exact R) (fun h => by cases h) (by omega) (by omega) ?_; intro g'' cap'' w' F9 B9)
          go_roundg (k - (j + 1))
          case measure => omega
          case rel => exact ⟨j + 1, _, _, by omega, rfl, by go_num, rfl, by rw [HS.out]; exact F9, F8.of_block (B9.block _ (by omega)), BA.trans (B9.mono (by omega)), by have := B9.size; omega⟩
        · obtain rfl : j = k := by omega
          go_wp2
          go_ret
          exact ⟨_, _, rfl, F5.mono (by omega), B6⟩
end Go.Proofs.YtjcacejkiaepnaaDoor
