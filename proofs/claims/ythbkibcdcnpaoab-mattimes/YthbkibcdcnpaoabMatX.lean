/- The document's product of matrices. -/
import Derived.Test.YthbkibcdcnpaoabMatU
import Derived.Deep.RegionLaw
import Derived.Deep.CutRange
namespace Go.Proofs.Ythbkibcdcnpaoab
open Go.ChangeShapes Go.WideShapes Go.ChangeAt Go.RowKit
/-- append of one number onto a row of the call's own, or nil, as one step of a region that draws. -/
theorem step_append_one {ops : Array Oper} {o : Oper} {a : Act} {w : World} {K : Act → World → Prop} {Q : Exit → Act → World → Prop} {E : Prop}
    (hg : o.guard = none) (s x : Operand) (hop : o.op = .call { callee := .builtin .append, args := #[s, x], argTypes := #[22, 22] })
    (B : Nat) (ao : Option Addr) (n cap : Nat) (A : List Int) (hs : a.eval s = .slice ao n cap) (hown : w.ownsRow B 33 1 (.slice ao n cap) n (A.map (Value.int .i32)))
    (bo : Nat) (y : Int) (hx : a.eval x = .slice (some ⟨bo, 0, none⟩) 1 1) (hX : RowAt w (some ⟨bo, 0, none⟩) 1 [y]) (hlen : n + 1 ≤ 1048576) (hB : B ≤ w.heap.size)
    (h : ∀ g' cap' w', w'.ownsRow B 33 1 (.slice (some ⟨g', 0, none⟩) (n + 1) cap') (n + 1) ((A ++ [y]).map (Value.int .i32)) → Below B w w' → B ≤ g' → K (a.put o.dst (.slice (some ⟨g', 0, none⟩) (n + 1) cap')) w') :
    if Region.wanted o (yielded ops a.tmps) = true then Oper.wp Try.prog o a w K Q else E := by
  have hw : Region.wanted o (yielded ops a.tmps) = true := by simp [Region.wanted, hg]
  rw [if_pos hw]
  obtain ⟨i0, hi, hz0, hz1, hz2⟩ := info_parts Try.infoNum
  refine wp_append_own w s x 22 hop B 33 i0 (.int .i32 0) 1 4 Try.underlying22 hi hz0 hz1 hz2 rfl (by decide) _ n _ hs hown ⟨bo, 0, none⟩ 1 1 [.int .i32 y] hx rfl ?_ (ints_oneCell .i32 [y]) (by unfold maxLen; omega) (by omega) hB ?_
  · intro j u hj
    obtain ⟨b, o', e, hcell⟩ := hX.cells (by omega)
    simp only [Option.some.injEq, Addr.mk.injEq, and_true] at e
    obtain ⟨rfl, rfl⟩ := e
    match j, hj with
    | 0, hj =>
      have h0 := hcell 0 (by omega)
      simp at hj
      subst hj
      have e2 : (Addr.mk bo 0 none).add 0 = ⟨bo, 0 + 0, none⟩ := by simp [Addr.add]
      rw [e2, h0]
      rfl
  · intro v' w' hown' hgr hnil
    have hb : Below B w w' := (Below.refl _ _).grown hgr hB (fun k hk => by
      cases ao with
      | none => simp [Value.ownBlock] at hk
      | some ad =>
        obtain ⟨_, h2⟩ := hown
        rcases h2 with ⟨h3, _⟩ | ⟨g, c', cur, hv, hg2, _⟩
        · cases h3
        · simp only [Value.slice.injEq] at hv
          obtain ⟨e1, _⟩ := hv
          rw [Option.some.inj e1] at hk
          simp [Value.ownBlock] at hk
          omega)
    obtain ⟨h1, h2⟩ := hown'
    rcases h2 with ⟨h3, h4⟩ | ⟨g', c', cur, hv, hg2, hr⟩
    · omega
    · subst hv
      have e : A.map (Value.int .i32) ++ [.int .i32 y] = (A ++ [y]).map (Value.int .i32) := by simp
      rw [e] at h1 hr
      exact h g' c' w' ⟨h1, Or.inr ⟨g', c', cur, rfl, hg2, hr⟩⟩ hb hg2
theorem Box.set2 {w : World} {g : Nat} {r c : Int} {ao : Option Addr} {n ca : Nat} (h : Box w g r c ao n ca) (ao' : Option Addr) (n' ca' : Nat) : Box (w.setCell ⟨g, 2, none⟩ (.slice ao' n' ca')) g r c ao' n' ca' := by
  unfold Box at *
  rw [heap_setCell_at h]
  rfl
theorem owns_below {w w' : World} {B n : Nat} {e : TypeId} {v : Value} {xs : List Value} (h : w.ownsRow B e 1 v n xs) (hb : Below w.heap.size w w') : w'.ownsRow B e 1 v n xs := by
  obtain ⟨h1, h2⟩ := h
  refine ⟨h1, ?_⟩
  rcases h2 with h2 | ⟨g, cap, cur, hv, hg, hh, r⟩
  · exact Or.inl h2
  · exact Or.inr ⟨g, cap, cur, hv, hg, by rw [hb.block g (Array.getElem?_eq_some_iff.1 hh).1]; exact hh, r⟩
set_option maxHeartbeats 3200000 in
theorem refTimes_any (r m c b1 o1 n1 ca1 b2 o2 n2 ca2 : Nat) (A B : List Int) (w : World) (hA : MatAt w r m b1 o1 n1 ca1 A) (hB : MatAt w m c b2 o2 n2 ca2 B) :
   Calls Try.prog 14 #[matV r m (some ⟨b1, o1, none⟩) n1 ca1, matV m c (some ⟨b2, o2, none⟩) n2 ca2] w fun e w' => ∃ g cap, e = .returned (matV r c (some ⟨g, 0, none⟩) (r * c) cap) ∧ Fresh w' w.heap.size g (r * c) cap (prodN A B r m c) ∧ Below w.heap.size w w' := by
  have hr1 := hA.r1
  have hr2 := hA.r2
  have hm1 := hA.c1
  have hm2 := hA.c2
  have hc1 := hB.c1
  have hc2 := hB.c2
  have hsz := size_le hr2 hc2
  obtain ⟨w0, w1, w2, hw0, hw1, hw2, hs0, hs1, X0, X1, X2, B2⟩ := times_start w r m m c (some ⟨b1, o1, none⟩) (some ⟨b2, o2, none⟩) n1 ca1 n2 ca2
  have hs2 : w2.heap.size = w.heap.size + 3 := by rw [← hw2]; simp [hs1]
  have X3 := box_new w2 r c none 0 0
  have B3 : Below w2.heap.size w2 (w2.alloc (.cells #[.int .i64 r, .int .i64 c, .slice none 0 0] 24)) := (Below.refl _ _).alloc (Nat.le_refl _) _
  generalize hw3 : w2.alloc (.cells #[.int .i64 r, .int .i64 c, .slice none 0 0] 24) = w3 at X3 B3
  have q0 := X0.c0
  have q1 := X0.c1
  have p0 := X1.c0
  have p1 := X1.c1
  rw [hs2] at X3
  have z2 := X3.c2
  have vf := X3.frozen 2
  replace X0 := (X0.below B3).block (Below.heap_setCell w3 ⟨w.heap.size + 3, 2, none⟩ (.slice none 0 0) _ (by show w.heap.size ≠ w.heap.size + 3; omega))
  replace X1 := (X1.below B3).block (Below.heap_setCell w3 ⟨w.heap.size + 3, 2, none⟩ (.slice none 0 0) _ (by show w.heap.size + 1 ≠ w.heap.size + 3; omega))
  replace X2 := (X2.below B3).block (Below.heap_setCell w3 ⟨w.heap.size + 3, 2, none⟩ (.slice none 0 0) _ (by show w.heap.size + 2 ≠ w.heap.size + 3; omega))
  replace X3 := X3.set2 none 0 0
  replace B3 := (below_then B2 B3).setCell (p := ⟨w.heap.size + 3, 2, none⟩) (by show w.heap.size ≤ w.heap.size + 3; omega) (.slice none 0 0)
  generalize hw4 : w3.setCell ⟨w.heap.size + 3, 2, none⟩ (.slice none 0 0) = w4 at X0 X1 X2 X3 B3
  go_enter Try.func14, Try.ntmps14
  unfold matV
  go_wp2_with fail
  clear hw0 hw1 hw2 hw3 hw4 q0 q1 p0 p1 B2 hs0 hs1 hs2 z2 vf
  have i3 := X3.lt
  go_loopg [6] r (fun k0 ii wr => ∃ (i : Nat) (ao : Option Addr) (cap : Nat), i ≤ r ∧ k0 = r - i ∧ ii = .int .i64 i ∧ wr.ownsRow (w.heap.size + 4) 33 1 (.slice ao (i * c) cap) (i * c) ((tab (i * c) (prodF A B m c)).map (Value.int .i32)) ∧ Box wr w.heap.size r m (some ⟨b1, o1, none⟩) n1 ca1 ∧ Box wr (w.heap.size + 1) m c (some ⟨b2, o2, none⟩) n2 ca2 ∧ Box wr (w.heap.size + 2) 0 0 none 0 0 ∧ Box wr (w.heap.size + 3) r c ao (i * c) cap ∧ Below w.heap.size w wr)
  case atStart => exact ⟨0, none, 0, by omega, by omega, rfl, by rw [Nat.zero_mul]; exact World.ownsRow_nil _ _ _ _, X0, X1, X2, by rw [Nat.zero_mul]; exact X3, B3⟩
  case round =>
    clear X0 X1 X2 X3 B3 i3
    obtain ⟨i, ao, cap, hi, rfl, rfl, O1, X0, X1, X2, X3, B4⟩ := hrel
    have q0 := X0.c0
    by_cases hlt : i < r
    · go_wp2_with fail
      clear q0
      go_loopg [7] c (fun k0 ii wr => ∃ (j : Nat) (ao : Option Addr) (cap : Nat), j ≤ c ∧ k0 = c - j ∧ ii = .int .i64 j ∧ wr.ownsRow (w.heap.size + 4) 33 1 (.slice ao (i * c + j) cap) (i * c + j) ((tab (i * c + j) (prodF A B m c)).map (Value.int .i32)) ∧ Box wr w.heap.size r m (some ⟨b1, o1, none⟩) n1 ca1 ∧ Box wr (w.heap.size + 1) m c (some ⟨b2, o2, none⟩) n2 ca2 ∧ Box wr (w.heap.size + 2) 0 0 none 0 0 ∧ Box wr (w.heap.size + 3) r c ao (i * c + j) cap ∧ Below w.heap.size w wr)
      case atStart => exact ⟨0, ao, cap, by omega, by omega, rfl, O1, X0, X1, X2, X3, B4⟩
      case round =>
        clear O1 X0 X1 X2 X3 B4
        obtain ⟨j, ao, cap, hj, rfl, rfl, O1, X0, X1, X2, X3, B4⟩ := hrel
        by_cases hjc : j < c
        · have hq : i * c + j < r * c := by have := row_in (c := c) hlt; omega
          have HF : Hid (dotN (rowN A m i) (colN B m c j) m = prodF A B m c (i * c + j)) := (prodF_at A B m c i j hjc).symm
          have bx := prodF_bd A B m c (i * c + j)
          have HS : Hid (tab (i * c + j) (prodF A B m c) ++ [prodF A B m c (i * c + j)] = tab (i * c + (j + 1)) (prodF A B m c)) := (tab_snoc (i * c + j) (prodF A B m c)).symm
          have HA : Hid (∀ wv, Below w.heap.size w wv → MatAt wv r m b1 o1 n1 ca1 A) := fun wv hb => hA.below hb
          have HB : Hid (∀ wv, Below w.heap.size w wv → MatAt wv m c b2 o2 n2 ca2 B) := fun wv hb => hB.below hb
          have y0 := X0.c0
          have y1 := X0.c1
          have y2 := X0.c2
          have y3 := X1.c0
          have y4 := X1.c1
          have y5 := X1.c2
          have y6 := X3.c2
          have s4 := B4.size
          have i3 := X3.lt
          generalize hk : i * c + j = k at *
          have HK : Hid (i * c + (j + 1) = k + 1) := by show _ = _; omega
          have hk1 : k + 1 ≤ 1048576 := by omega
          clear hk hq
          generalize hx : prodF A B m c k = x at *
          clear hx
          go_wp2_with fail
          have BD : Below wr.heap.size wr wr.drew := (Below.refl _ _).drew
          go_region_law (first
            | (refine step_append_one rfl (.tmp 26) (.tmp 34) rfl (w.heap.size + 4) ao k cap (tab k (prodF A B m c)) (by first | rfl | simp [Act.eval, Act.put]) (by exact OO) w12.heap.size x (by first | rfl | simp [Act.eval, Act.put]) (by exact RR) hk1 (by exact ss) ?_; intro g' cap' w13 O13 B13 hg13; have X3' := (X3.below BA).block (B13.block _ (by omega)); have t2 := X3'.c2; have tf := X3'.frozen 2; have X0' := (X0.below BA).block (B13.block _ (by omega)); have X1' := (X1.below BA).block (B13.block _ (by omega)); have X2' := (X2.below BA).block (B13.block _ (by omega)); have BB := (below_then B4 BA).trans (B13.mono (by omega)))
            | (go_simp; first
              | (go_at_call 27; refine (refRow_any r m b1 o1 n1 ca1 A i _ (by exact HA.out _ (below_then B4 BD)) hlt).mono ?_; rintro e w10 ⟨g10, k10, rfl, F10, B10⟩; replace B10 : Below wr.heap.size wr w10 := BD.trans B10; have u3 := (X1.below B10).c0; have u4 := (X1.below B10).c1; have u5 := (X1.below B10).c2; have u6 := (X3.below B10).c2)
              | (go_at_call 28; refine (refColumn_any m c b2 o2 n2 ca2 B j _ (by exact HB.out _ (below_then B4 B10)) hjc).mono ?_; rintro e w11 ⟨g11, k11, rfl, F11, B11⟩; have F10' := F10.below B11; replace B11 := below_then B10 B11; have v6 := (X3.below B11).c2)
              | (go_at_call 26; refine (refDot_any _ _ m _ _ (rowN A m i) (colN B m c j) _ (by exact F10'.rowAt) (by exact F11.rowAt)).mono ?_; rintro e w12 ⟨rfl, m12, hw12⟩; have B12 : Below wr.heap.size wr w12 := hw12 ▸ below_drewN B11 m12; clear hw12; rw [HF.out]; have BL : Below w12.heap.size w12 (w12.alloc (.cells #[.int .i32 x] 33)) := (Below.refl _ _).alloc (Nat.le_refl _) _; have BA := below_then B12 BL; have t6 := (X3.below B12).c2; have t7 := (X3.below BA).c2; have OO := owns_below O1 BA; have RR := rowAt_one w12 x (by omega); have ss : w.heap.size + 4 ≤ (w12.alloc (.cells #[.int .i32 x] 33)).heap.size := by have := BA.size; omega)))
          all_goals
            have O14 := ownsRow_setCell_below O13 (a := ⟨w.heap.size + 3, 2, none⟩) (by show w.heap.size + 3 < w.heap.size + 4; omega) (.slice (some ⟨g', 0, none⟩) (k + 1) cap')
            go_wp2
            go_roundg (c - (j + 1))
            case measure => omega
            case rel => exact ⟨j + 1, some ⟨g', 0, none⟩, cap', by omega, rfl, by go_num, by rw [← HS.out, HK.out]; exact O14, X0'.block (Below.heap_setCell _ _ _ _ (by show w.heap.size ≠ w.heap.size + 3; omega)), X1'.block (Below.heap_setCell _ _ _ _ (by show w.heap.size + 1 ≠ w.heap.size + 3; omega)), X2'.block (Below.heap_setCell _ _ _ _ (by show w.heap.size + 2 ≠ w.heap.size + 3; omega)), by rw [HK.out]; exact X3'.set2 _ _ _, BB.setCell (p := ⟨w.heap.size + 3, 2, none⟩) (by show w.heap.size ≤ w.heap.size + 3; omega) _⟩
        · obtain rfl : j = c := by omega
          rw [show i * j + j = (i + 1) * j by rw [Nat.add_mul, Nat.one_mul]] at O1 X3
          have q1 := X1.c1
          go_wp2
          go_roundg (r - (i + 1))
          case measure => omega
          case rel => exact ⟨i + 1, ao, cap, by omega, rfl, by go_num, O1, X0, X1, X2, X3, B4⟩
    · obtain rfl : i = r := by omega
      have hpos : 0 < i * c := Nat.mul_pos hr1 hc1
      have hne : ao ≠ none := by
        rintro rfl
        obtain ⟨_, h2⟩ := O1
        rcases h2 with ⟨_, h3⟩ | ⟨g, cp, cur, hv, _⟩
        · omega
        · cases hv
      obtain ⟨g, rfl, FF⟩ := fresh_of_owns O1 (small_tab fun q _ => by have := prodF_bd A B m c q; omega) hne
      have bg := FF.base
      have p0 := X3.c0
      have p1 := X3.c1
      have p2 := X3.c2
      have u0 := X2.c0
      have u1 := X2.c1
      have u2 := X2.c2
      have f0 := X2.frozen 0
      have f1 := X2.frozen 1
      have f2 := X2.frozen 2
      clear hpos hne O1
      go_wp2
      refine bodyPost_ret (results_cell_row rfl _ _ (w.heap.size + 2) _ _ _ _ rfl (X2.put _ _ _ _ _) Try.underlying24 rfl (by kernel_rfl)) rfl ?_
      exact ⟨g, cap, rfl, (FF.mono (by omega)).put (by omega) _ _ _, Below.put B4 (by omega) _ _ _⟩
end Go.Proofs.Ythbkibcdcnpaoab
