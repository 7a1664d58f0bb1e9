/- The document's mixes, and rows that are cut and copied. -/
import Derived.Test.YtmocofkcaamnoaaDoorSoftM
import Derived.Test.YtmocofkcaamnoaaDoorVecL
import Derived.Test.YtmocofkcaamnoaaDoorApp1
namespace Go.Proofs.YtmocofkcaamnoaaDoor
open Go.ChangeShapes Go.WideShapes Go.ChangeAt Go.RowKit
set_option maxHeartbeats 800000 in
theorem refMixed_any (ao bo : Option Addr) (n m ca cb : Nat) (R : List (List Int)) (w : World) (hn : n ≤ 9223372036854775807) (hR : GridAt w bo m R) :
   Calls Tryd.prog 21 #[.slice ao n ca, .slice bo m cb] w fun e w' => e = .returned (.int .i64 (mixedN n R)) ∧ w' = w := by
  have hm := hR.max
  have hl := hR.len
  by_cases c1 : n = 0
  · subst c1
    have HF : Hid (mixedN 0 R = 8) := by show _ = _; unfold mixedN; rw [if_pos (Or.inl rfl)]
    go_enter Tryd.func21, Tryd.ntmps21
    go_wp2
    go_ret
    exact ⟨ret_int HF.out.symm, rfl⟩
  have z1 : ((n : Int) == 0) = false := by simp; omega
  by_cases c2 : m = 0
  · subst c2
    have HF : Hid (mixedN n R = 8) := by show _ = _; unfold mixedN; rw [if_pos (Or.inr hl)]
    clear hl
    go_enter Tryd.func21, Tryd.ntmps21
    go_wp2
    go_ret
    exact ⟨ret_int HF.out.symm, rfl⟩
  have z2 : ((m : Int) == 0) = false := by simp; omega
  by_cases c3 : 4096 < n
  · have HF : Hid (mixedN n R = 2) := by show _ = _; unfold mixedN; rw [if_neg (by omega), if_pos c3]
    clear hl
    go_enter Tryd.func21, Tryd.ntmps21
    go_wp2
    go_ret
    exact ⟨ret_int HF.out.symm, rfl⟩
  rcases Decidable.em (m = n) with rfl | c4
  · have HF : Hid (mixedN m R = if alike R m = true then 0 else 6) := by show _ = _; unfold mixedN; rw [if_neg (by omega), if_neg c3, if_neg (by omega)]
    clear hl
    obtain ⟨b, o, rfl, hc⟩ := hR.cells (by omega)
    obtain ⟨r0, m0, k0, q0, A0⟩ := hc 0 (by omega)
    rw [Nat.add_zero] at q0
    have l0 := A0.row.len
    have x0 := A0.row.max
    go_enter Tryd.func21, Tryd.ntmps21
    go_wp2
    go_loopg [25] m (fun r i wr => ∃ k : Nat, k ≤ m ∧ r = m - k ∧ i = .int .i64 k ∧ alike R k = true ∧ wr = w)
    case atStart => exact ⟨0, by omega, by omega, rfl, rfl, rfl⟩
    case round =>
      obtain ⟨k, hk, rfl, rfl, hal, rfl⟩ := hrel
      by_cases hlt : k < m
      · obtain ⟨r1, m1, k1, q1, A1⟩ := hc k hlt
        have l1 := A1.row.len
        have x1 := A1.row.max
        rcases Decidable.em (m1 = m0) with rfl | hne
        · have HA : Hid (alike R (k + 1) = true) := by show _ = _; unfold alike; rw [hal, l1, l0]; simp
          clear hR hc A0 A1 hal l0 l1
          go_wp2
          go_roundg (m - (k + 1))
          case measure => omega
          case rel => exact ⟨k + 1, by omega, rfl, by go_num, HA.out, rfl⟩
        · have HA : Hid (mixedN m R = 6) := by show _ = _; rw [HF.out, alike_not hlt (by omega)]; rfl
          have z3 : ((m1 : Int) == (m0 : Int)) = false := by simp; omega
          clear hR hc A0 A1 hal l0 l1 HF
          go_wp2
          go_ret
          exact ⟨ret_int HA.out.symm, rfl⟩
      · obtain rfl : k = m := by omega
        have HA : Hid (mixedN k R = 0) := by show _ = _; rw [HF.out, hal]; rfl
        clear hR hc A0 hal l0 HF
        go_wp2
        go_ret
        exact ⟨ret_int HA.out.symm, rfl⟩
  · have HF : Hid (mixedN n R = 6) := by show _ = _; unfold mixedN; rw [if_neg (by omega), if_neg c3, if_pos (by omega)]
    have z3 : ((n : Int) == (m : Int)) = false := by simp; omega
    clear hl
    go_enter Tryd.func21, Tryd.ntmps21
    go_wp2
    go_ret
    exact ⟨ret_int HF.out.symm, rfl⟩
theorem Tryd.infoRow : (Tryd.prog.info? 22).map (fun i => (i.zero, i.size, i.bytes)) = some (some (.slice none 0 0), 1, 24) := by kernel_rfl
theorem rowOf_snoc (R : List (List Int)) (Y : List Int) (t : Nat) : rowOf (R ++ [Y]) t = if t < R.length then rowOf R t else if t = R.length then Y else [] := by
  unfold rowOf
  simp only [List.getD_eq_getElem?_getD]
  by_cases h : t < R.length
  · rw [if_pos h, List.getElem?_append_left h]
  · rw [if_neg h, List.getElem?_append_right (by omega)]
    by_cases e : t = R.length
    · subst e; simp
    · rw [if_neg e, List.getElem?_eq_none (by simp; omega)]; rfl
/-- Block g is a row of rows, all of the call's own. -/
structure OwnGrid (w : World) (B g k cap : Nat) (R : List (List Int)) : Prop where
  base : B ≤ g
  len : R.length = k
  own : ∃ vs, w.ownsRow B 22 1 (.slice (some ⟨g, 0, none⟩) k cap) k vs ∧ ∀ t, t < k → ∃ g' m c, vs[t]? = some (.slice (some ⟨g', 0, none⟩) m c) ∧ Fresh w B g' m c (rowOf R t)
theorem own_block {w : World} {B e g k cap : Nat} {vs : List Value} (h : w.ownsRow B e 1 (.slice (some ⟨g, 0, none⟩) k cap) k vs) : B ≤ g ∧ ∃ cur, w.heap[g]? = some (.cells cur e (0, 0)) := by
  rcases h.2 with ⟨h3, _⟩ | ⟨g', c', cur, hv, hg, hh, _⟩
  · cases h3
  · simp only [Value.slice.injEq, Option.some.injEq, Addr.mk.injEq, and_true] at hv
    obtain ⟨rfl, -⟩ := hv
    exact ⟨hg, cur, hh⟩
theorem OwnGrid.grid {w : World} {B g k cap : Nat} {R : List (List Int)} (h : OwnGrid w B g k cap R) (hk : k ≤ 9223372036854775807) : GridAt w (some ⟨g, 0, none⟩) k R := by
  obtain ⟨vs, h1, h2⟩ := h.own
  refine ⟨h.len, hk, fun _ => ⟨g, 0, rfl, fun t ht => ?_⟩⟩
  obtain ⟨g', m, c, e, F⟩ := h2 t ht
  have hc := h1.cells (g := g) rfl t _ e
  have e2 : (Addr.mk g 0 none).add t = ⟨g, t, none⟩ := by simp [Addr.add]; intro h; exact h.symm
  rw [e2] at hc
  exact ⟨_, _, _, by rw [Nat.zero_add]; exact hc, F.arg⟩
theorem OwnGrid.below {w w' : World} {B g k cap : Nat} {R : List (List Int)} (h : OwnGrid w B g k cap R) (hb : Below w.heap.size w w') : OwnGrid w' B g k cap R := by
  obtain ⟨vs, h1, h2⟩ := h.own
  exact ⟨h.base, h.len, vs, owns_below h1 hb, fun t ht => let ⟨g', m, c, e, F⟩ := h2 t ht; ⟨g', m, c, e, F.below hb⟩⟩
theorem ownGrid_empty (w : World) : OwnGrid (w.alloc (.cells #[] 22)) w.heap.size w.heap.size 0 0 [] :=
  ⟨Nat.le_refl _, rfl, [], ⟨rfl, Or.inr ⟨w.heap.size, 0, #[], rfl, Nat.le_refl _, heap_alloc_new _ _, Nat.le_refl _, by decide, rfl, rfl⟩⟩, fun t ht => by omega⟩
/-- append(out, row), out a row of rows of the call's own. -/
theorem wpList_append_grid {w : World} {ops : Array Oper} {rest : List Oper} {o : Oper} {a : Act} {Q : Exit → Act → World → Prop} (hgd : o.guard = none) (s x : Operand)
    (ho : o.op = .call { callee := .builtin .append, args := #[s, x], argTypes := #[38, 38] })
    (B g k cap : Nat) (R : List (List Int)) (hs : a.eval s = .slice (some ⟨g, 0, none⟩) k cap) (hF : OwnGrid w B g k cap R)
    (bo g1 m1 c1 : Nat) (Y : List Int) (hx : a.eval x = .slice (some ⟨bo, 0, none⟩) 1 1) (hX : w.cell? ⟨bo, 0, none⟩ = some (.slice (some ⟨g1, 0, none⟩) m1 c1)) (hY : Fresh w B g1 m1 c1 Y)
    (hlen : k + 1 ≤ 1048576) (hB : B ≤ w.heap.size)
    (h : ∀ g' cap' w', OwnGrid w' B g' (k + 1) cap' (R ++ [Y]) → Below B w w' → wpList Tryd.prog ops Q rest (a.put o.dst (.slice (some ⟨g', 0, none⟩) (k + 1) cap')) w') : wpList Tryd.prog ops Q (o :: rest) a w := by
  obtain ⟨i0, hi, hz0, hz1, hz2⟩ := info_parts Tryd.infoRow
  obtain ⟨vs, h1, h2⟩ := hF.own
  refine wpList_append_own w hgd s x 38 ho B 22 i0 (.slice none 0 0) 1 24 Tryd.underlying38 hi hz0 hz1 hz2 rfl (by decide) _ k _ hs h1 ⟨bo, 0, none⟩ 1 1 [.slice (some ⟨g1, 0, none⟩) m1 c1] hx rfl ?_ (by intro u hu; simp at hu; subst hu; rfl) (by unfold maxLen; omega) (by omega) hB ?_
  · intro j u hj
    match j, hj with
    | 0, hj =>
      simp at hj
      subst hj
      have e2 : (Addr.mk bo 0 none).add 0 = ⟨bo, 0, none⟩ := by simp [Addr.add]
      rw [e2, hX]
  · intro v' w' hown hg hnil
    have hb : Below B w w' := (Below.refl _ _).grown hg hB (fun k hk => by simp [Value.ownBlock] at hk; subst hk; exact hF.base)
    obtain ⟨_, cur, hcur⟩ := own_block h1
    have keep : ∀ {b m c : Nat} {Z : List Int}, Fresh w B b m c Z → Fresh w' B b m c Z := fun {b m c Z} F => F.of_block (hg.block b F.lt (by
      intro e
      simp [Value.ownBlock] at e
      subst e
      obtain ⟨c2, hb2, _⟩ := F.row
      rw [hcur] at hb2
      simp at hb2))
    have hlv : vs.length = k := by have := h1.1; omega
    have hown2 := hown
    obtain ⟨_, h4⟩ := hown2
    rcases h4 with ⟨_, h5⟩ | ⟨g', c', cur', hv, hg2, hr⟩
    · omega
    · subst hv
      refine h g' c' w' ⟨hg2, by simp [hF.len], _, hown, fun t ht => ?_⟩ hb
      rw [rowOf_snoc, hF.len]
      by_cases htk : t < k
      · obtain ⟨g3, m3, c3, e3, F3⟩ := h2 t htk
        rw [if_pos htk]
        exact ⟨g3, m3, c3, by rw [List.getElem?_append_left (by omega)]; exact e3, keep F3⟩
      · obtain rfl : t = k := by omega
        rw [if_neg (by omega), if_pos rfl]
        exact ⟨g1, m1, c1, by rw [List.getElem?_append_right (by omega), hlv]; simp, keep hY⟩
theorem cellRow_new (w : World) (v : Value) : (w.alloc (.cells #[v] 22)).cell? ⟨w.heap.size, 0, none⟩ = some v := by
  have e := heap_alloc_new w (.cells #[v] 22)
  unfold World.cell?
  simp only [e]
  rfl
theorem take_snoc {R : List (List Int)} {k : Nat} (hk : k < R.length) : (R.take (k + 1)).map (List.take 40) = (R.take k).map (List.take 40) ++ [(rowOf R k).take 40] := by
  unfold rowOf
  rw [List.take_add_one, List.map_append, List.getD_eq_getElem?_getD, List.getElem?_eq_getElem hk]
  rfl
set_option maxHeartbeats 1600000 in
theorem rows_any (ao : Option Addr) (n ca : Nat) (R : List (List Int)) (w : World) (hR : GridAt w ao n R) :
   Calls Tryd.prog 19 #[.slice ao n ca, .int .i64 60] w fun e w' => ∃ g k cap, e = .returned (.slice (some ⟨g, 0, none⟩) k cap) ∧ k ≤ 60 ∧ GridAt w' (some ⟨g, 0, none⟩) k ((R.take 60).map (List.take 40)) ∧ Below w.heap.size w w' := by
  have hn := hR.max
  have hl := hR.len
  have F0 := ownGrid_empty w
  have B0 : Below w.heap.size w (w.alloc (.cells #[] 22)) := (Below.refl _ _).alloc (Nat.le_refl _) _
  have HR : Hid (∀ wv, Below w.heap.size w wv → GridAt wv ao n R) := fun wv hb => hR.below hb
  go_enter Tryd.func19, Tryd.ntmps19
  go_wp2
  generalize w.alloc (.cells #[] 22) = w0 at *
  clear hR
  go_loopg [5, 6] 60 (fun r s i wr => ∃ (k g cap : Nat), k ≤ 60 ∧ k ≤ n ∧ r = 60 - k ∧ i = .int .i64 k ∧ s = .slice (some ⟨g, 0, none⟩) k cap ∧ OwnGrid wr w.heap.size g k cap ((R.take k).map (List.take 40)) ∧ Below w.heap.size w wr)
  case atStart => exact ⟨0, _, _, by omega, by omega, by omega, rfl, rfl, by rw [List.take_zero]; exact F0, B0⟩
  case round =>
    obtain ⟨k, g, cap, hk, hkn, rfl, rfl, rfl, F2, B2⟩ := hrel
    clear F0 B0
    by_cases hlt : k < n
    · by_cases h6 : k < 60
      · obtain ⟨b, o, rfl, hc⟩ := (HR.out _ B2).cells (by omega)
        obtain ⟨ro, m1, c1, q1, A1⟩ := hc k hlt
        have HS : Hid ((R.take (k + 1)).map (List.take 40) = (R.take k).map (List.take 40) ++ [(rowOf R k).take 40]) := take_snoc (by omega)
        have s2 := B2.size
        clear hc
        go_wp2_with (first | (go_at_call 9; refine (few_any _ _ _ _ 40 _ _ rfl A1 (by omega)).mono ?_; rintro e w3 ⟨g3, n3, c3, rfl, hm3, F3, B3⟩; have BL : Below w3.heap.size w3 (w3.alloc (.cells #[.slice (some ⟨g3, 0, none⟩) n3 c3] 22)) := (Below.refl _ _).alloc (Nat.le_refl _) _; have cX := cellRow_new w3 (.slice (some ⟨g3, 0, none⟩) n3 c3); have F4 := (F3.mono s2).below BL; have G4 := (F2.below B3).below BL; have s3 := B3.size; have s4 := BL.size; have B4 := below_then (below_then B2 B3) BL; generalize hw4 : w3.alloc (.cells #[.slice (some ⟨g3, 0, none⟩) n3 c3] 22) = w4 at *) | (at_builtin; refine wpList_append_grid rfl _ _ rfl w.heap.size g k cap _ rfl (by exact G4) w3.heap.size g3 n3 c3 _ rfl (by exact cX) (by exact F4) (by omega) (by omega) ?_; intro g' cap' w' F7 B7))
        go_roundg (60 - (k + 1))
        case measure => omega
        case rel => exact ⟨k + 1, _, _, by omega, by omega, rfl, by go_num, rfl, by rw [HS.out]; exact F7, B4.trans B7⟩
      · obtain rfl : k = 60 := by omega
        have G2 := F2.grid (by omega)
        go_wp2
        go_ret
        exact ⟨_, _, _, rfl, Nat.le_refl _, G2, B2⟩
    · obtain rfl : k = n := by omega
      have G2 := F2.grid (by omega)
      have e : R.take k = R.take 60 := by rw [List.take_of_length_le (by omega), List.take_of_length_le (by omega)]
      rw [e] at G2
      clear e
      go_wp2
      go_ret
      exact ⟨_, _, _, rfl, hk, G2, B2⟩
set_option maxHeartbeats 1600000 in
theorem refMix_any (ao bo : Option Addr) (n m ca cb : Nat) (A : List Int) (R : List (List Int)) (w : World) (hA : RowAt w ao n A) (hR : GridAt w bo m R) (hf : mixedN n R = 0) (hc4 : (rowOf R 0).length ≤ 4096) :
   Calls Tryd.prog 22 #[.slice ao n ca, .slice bo m cb] w fun e w' => ∃ g cap, e = .returned (.slice (some ⟨g, 0, none⟩) (rowOf R 0).length cap) ∧ Fresh w' w.heap.size g (rowOf R 0).length cap (tab (rowOf R 0).length fun j => dotN A (colOf R n j) n) ∧ Below w.heap.size w w' := by
  obtain ⟨h1, h4, hl, hal⟩ := mixedN_ok hf
  obtain rfl : m = n := by rw [← hl]; exact hR.len.symm
  obtain ⟨b, o, rfl, hc⟩ := hR.cells (by omega)
  obtain ⟨r0, m0, k0, q0, A0⟩ := hc 0 (by omega)
  rw [Nat.add_zero] at q0
  have l0 := A0.row.len
  rw [l0] at hal hc4 ⊢
  have F0 := fresh_empty w
  have B0 : Below w.heap.size w (w.alloc (.cells #[] 24)) := (Below.refl _ _).alloc (Nat.le_refl _) _
  have q0' := (B0.cell (p := ⟨b, o, none⟩) (by simpa using World.block_lt_of_cell? w _ q0)).trans q0
  have HR : Hid (∀ wv, Below w.heap.size w wv → GridAt wv (some ⟨b, o, none⟩) m R) := fun wv hb => hR.below hb
  have HA : Hid (∀ wv, Below w.heap.size w wv → RowAt wv ao m A) := fun wv hb => hA.below hb
  clear hf hR hA hc A0 q0 l0
  go_enter Tryd.func22, Tryd.ntmps22
  generalize hw0 : w.alloc (.cells #[] 24) = w0 at *
  go_wp2
  clear hw0 q0'
  go_loopg [5, 14] m0 (fun r s i wr => ∃ (j g cap : Nat), j ≤ m0 ∧ r = m0 - j ∧ i = .int .i64 j ∧ s = .slice (some ⟨g, 0, none⟩) j cap ∧ Fresh wr w.heap.size g j cap (tab j fun i => dotN A (colOf R m i) m) ∧ Below w.heap.size w wr)
  case atStart => exact ⟨0, _, _, by omega, by omega, rfl, rfl, F0, B0⟩
  case round =>
    obtain ⟨j, g, cap, hj, rfl, rfl, rfl, F1, B1⟩ := hrel
    clear F0 B0
    by_cases hlj : j < m0
    · generalize wr = w1 at *
      have F2 := fresh_empty w1
      have B2 : Below w1.heap.size w1 (w1.alloc (.cells #[] 24)) := (Below.refl _ _).alloc (Nat.le_refl _) _
      have s1 := B1.size
      have s2 := B2.size
      have g1 := F1.lt
      go_wp2_with fail
      generalize w1.alloc (.cells #[] 24) = w2 at *
      go_loopg [7, 20] m (fun r s i wr => ∃ (k g2 cap2 : Nat), k ≤ m ∧ r = m - k ∧ i = .int .i64 k ∧ s = .slice (some ⟨g2, 0, none⟩) k cap2 ∧ Fresh wr w1.heap.size g2 k cap2 (tab k fun i => el (rowOf R i) j) ∧ Below w1.heap.size w1 wr)
      case atStart => exact ⟨0, _, _, by omega, by omega, rfl, rfl, F2, B2⟩
      case round =>
        obtain ⟨k, g2, cap2, hk, rfl, rfl, rfl, F3, B3⟩ := hrel
        clear F2 B2
        have B4 := below_then B1 B3
        by_cases hlt : k < m
        · obtain ⟨b2, o2, e2, hc⟩ := (HR.out _ B4).cells (by omega)
          simp only [Option.some.injEq, Addr.mk.injEq, and_true] at e2
          obtain ⟨rfl, rfl⟩ := e2
          obtain ⟨ro, m1, k1, q1, AR⟩ := hc k hlt
          have l1 := AR.row.len
          rw [hal k hlt] at l1
          subst l1
          obtain ⟨b3, o3, rfl, hc3⟩ := AR.row.cells (by omega)
          have q2 := hc3 j hlj
          have bx := AR.row.small.el j
          have HX : Hid (tab (k + 1) (fun i => el (rowOf R i) j) = tab k (fun i => el (rowOf R i) j) ++ [el (rowOf R k) j]) := tab_snoc1 k _
          have RR := rowAt_one wr (el (rowOf R k) j) (by omega)
          have BA : Below wr.heap.size wr (wr.alloc (.cells #[.int .i32 (el (rowOf R k) j)] 24)) := (Below.refl _ _).alloc (Nat.le_refl _) _
          have F5 := F3.below BA
          have s3 := B3.size
          have s5 := BA.size
          have B5 := below_then B3 BA
          generalize hx : el (rowOf R k) j = x at *
          generalize hw5 : wr.alloc (.cells #[.int .i32 x] 24) = w5 at *
          clear hc hc3 AR HR HA hal
          go_wp2_with (at_builtin; refine wpList_append_row rfl _ _ rfl w1.heap.size g2 k cap2 _ rfl (by exact F5) (some ⟨wr.heap.size, 0, none⟩) 1 1 _ rfl (by exact RR) (fun h => by cases h) (by omega) (by omega) ?_; intro g' cap' w' F7 B7)
          go_roundg (m - (k + 1))
          case measure => omega
          case rel => exact ⟨k + 1, _, _, by omega, rfl, by go_num, rfl, by rw [HX.out]; exact F7, B5.trans B7⟩
        · obtain rfl : k = m := by omega
          generalize wr = w3 at *
          have A3 := HA.out _ B4
          have e9 : (tab k fun i => el (rowOf R i) j) = colOf R k j := rfl
          rw [e9] at F3
          have HX : Hid (tab (j + 1) (fun i => dotN A (colOf R k i) k) = tab j (fun i => dotN A (colOf R k i) k) ++ [dotN A (colOf R k j) k]) := tab_snoc1 j _
          have bx := dotN_bd A (colOf R k j) k
          have G1 := F1.below B3
          have s3 := B3.size
          generalize hx : dotN A (colOf R k j) k = x at *
          clear e9 hal
          go_wp2_with (first | (go_at_call 39; refine (refDot_any _ _ _ _ _ _ _ _ A3 F3.rowAt).mono ?_; rintro e w4 ⟨rfl, m4, hw4⟩; rw [hx]; have BD : Below w3.heap.size w3 w4 := hw4 ▸ below_drewN (Below.refl _ _) m4; clear hw4; have RR := rowAt_one w4 x (by omega); have BA : Below w4.heap.size w4 (w4.alloc (.cells #[.int .i32 x] 24)) := (Below.refl _ _).alloc (Nat.le_refl _) _; have G5 := (G1.below BD).below BA; have s4 := BD.size; have s5 := BA.size; have B5 := below_then (below_then B4 BD) BA; generalize hw5 : w4.alloc (.cells #[.int .i32 x] 24) = w5 at *) | (at_builtin; refine wpList_append_row rfl _ _ rfl w.heap.size g j cap _ rfl (by exact G5) (some ⟨w4.heap.size, 0, none⟩) 1 1 _ rfl (by exact RR) (fun h => by cases h) (by omega) (by omega) ?_; intro g' cap' w' F7 B7))
          go_roundg (m0 - (j + 1))
          case measure => omega
          case rel => exact ⟨j + 1, _, _, by omega, rfl, by go_num, rfl, by rw [HX.out]; exact F7, B5.trans B7⟩
    · obtain rfl : j = m0 := by omega
      go_wp2
      go_ret
      exact ⟨_, _, rfl, F1, B1⟩
end Go.Proofs.YtmocofkcaamnoaaDoor
