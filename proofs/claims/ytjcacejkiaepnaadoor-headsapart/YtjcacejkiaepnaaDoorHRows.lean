/- Rows of rows of the call's own: a copy of at most so many rows of at most 40 numbers. -/
import Derived.Test.YtjcacejkiaepnaaDoorHeads
import Derived.Test.YtjcacejkiaepnaaDoorVecL
import Derived.Test.YtjcacejkiaepnaaDoorApp1
namespace Go.Proofs.YtjcacejkiaepnaaDoor
open Go.ChangeShapes Go.WideShapes Go.ChangeAt Go.RowKit
theorem rowOf_snoc (R : List (List Int)) (Y : List Int) (t : Nat) : rowOf (R ++ [Y]) t = if t < R.length then rowOf R t else if t = R.length then Y else [] := by
  unfold rowOf
  simp only [List.getD_eq_getElem?_getD]
  by_cases h : t < R.length
  · rw [if_pos h, List.getElem?_append_left h]
  · rw [if_neg h, List.getElem?_append_right (by omega)]
    by_cases e : t = R.length
    · subst e; simp
    · rw [if_neg e, List.getElem?_eq_none (by simp; omega)]; rfl
/-- Block g is a row of rows, all of the call's own, one above the other. -/
structure OwnGrid (w : World) (B g k cap : Nat) (R : List (List Int)) : Prop where
  base : B ≤ g
  len : R.length = k
  own : ∃ vs, w.ownsRow B 22 1 (.slice (some ⟨g, 0, none⟩) k cap) k vs ∧ ∃ gs : Nat → Nat, (∀ t, t < k → ∃ m c, vs[t]? = some (.slice (some ⟨gs t, 0, none⟩) m c) ∧ Fresh w B (gs t) m c (rowOf R t)) ∧ ∀ t u, t < u → u < k → gs t < gs u
theorem own_block {w : World} {B e g k cap : Nat} {vs : List Value} (h : w.ownsRow B e 1 (.slice (some ⟨g, 0, none⟩) k cap) k vs) : B ≤ g ∧ ∃ cur, w.heap[g]? = some (.cells cur e (0, 0)) := by
  rcases h.2 with ⟨h3, _⟩ | ⟨g', c', cur, hv, hg, hh, _⟩
  · cases h3
  · simp only [Value.slice.injEq, Option.some.injEq, Addr.mk.injEq, and_true] at hv
    obtain ⟨rfl, -⟩ := hv
    exact ⟨hg, cur, hh⟩
theorem OwnGrid.grid {w : World} {B g k cap : Nat} {R : List (List Int)} (h : OwnGrid w B g k cap R) (hk : k ≤ 9223372036854775807) : GridAt w (some ⟨g, 0, none⟩) k R := by
  obtain ⟨vs, h1, gs, h2, _⟩ := h.own
  refine ⟨h.len, hk, fun _ => ⟨g, 0, rfl, fun t ht => ?_⟩⟩
  obtain ⟨m, c, e, F⟩ := h2 t ht
  have hc := h1.cells (g := g) rfl t _ e
  have e2 : (Addr.mk g 0 none).add t = ⟨g, t, none⟩ := by simp [Addr.add]; intro h; exact h.symm
  rw [e2] at hc
  exact ⟨_, _, _, by rw [Nat.zero_add]; exact hc, F.arg⟩
theorem OwnGrid.below {w w' : World} {B g k cap : Nat} {R : List (List Int)} (h : OwnGrid w B g k cap R) (hb : Below w.heap.size w w') : OwnGrid w' B g k cap R := by
  obtain ⟨vs, h1, gs, h2, h3⟩ := h.own
  exact ⟨h.base, h.len, vs, owns_below h1 hb, gs, fun t ht => let ⟨m, c, e, F⟩ := h2 t ht; ⟨m, c, e, F.below hb⟩, h3⟩
theorem ownGrid_empty (w : World) : OwnGrid (w.alloc (.cells #[] 22)) w.heap.size w.heap.size 0 0 [] :=
  ⟨Nat.le_refl _, rfl, [], ⟨rfl, Or.inr ⟨w.heap.size, 0, #[], rfl, Nat.le_refl _, heap_alloc_new _ _, Nat.le_refl _, by decide, rfl, rfl⟩⟩, fun t => t, fun t ht => by omega, fun t u _ hu => by omega⟩
/-- append(out, row), out a row of rows of the call's own, the row a newer one. -/
theorem wpList_append_grid {w : World} {ops : Array Oper} {rest : List Oper} {o : Oper} {a : Act} {Q : Exit → Act → World → Prop} (hgd : o.guard = none) (s x : Operand)
    (ho : o.op = .call { callee := .builtin .append, args := #[s, x], argTypes := #[23, 23] })
    (B g k cap : Nat) (R : List (List Int)) (hs : a.eval s = .slice (some ⟨g, 0, none⟩) k cap) (hF : OwnGrid w B g k cap R) (w1 : World) (hF1 : OwnGrid w1 B g k cap R) (hold : Below w1.heap.size w1 w)
    (bo g1 m1 c1 : Nat) (Y : List Int) (hx : a.eval x = .slice (some ⟨bo, 0, none⟩) 1 1) (hX : w.cell? ⟨bo, 0, none⟩ = some (.slice (some ⟨g1, 0, none⟩) m1 c1)) (hY : Fresh w B g1 m1 c1 Y) (hg1 : w1.heap.size ≤ g1)
    (hlen : k + 1 ≤ 1048576) (hB : B ≤ w.heap.size)
    (h : ∀ g' cap' w', OwnGrid w' B g' (k + 1) cap' (R ++ [Y]) → Below B w w' → wpList Tryd.prog ops Q rest (a.put o.dst (.slice (some ⟨g', 0, none⟩) (k + 1) cap')) w') : wpList Tryd.prog ops Q (o :: rest) a w := by
  obtain ⟨i0, hi, hz0, hz1, hz2⟩ := info_parts Tryd.infoRow
  obtain ⟨vs, h1', gs, h2', h3⟩ := hF1.own
  have h1 := owns_below h1' hold
  have h2 : ∀ t, t < k → ∃ m c, vs[t]? = some (.slice (some ⟨gs t, 0, none⟩) m c) ∧ Fresh w B (gs t) m c (rowOf R t) := fun t ht => let ⟨m, c, e, F⟩ := h2' t ht; ⟨m, c, e, F.below hold⟩
  have hlt : ∀ t, t < k → gs t < w1.heap.size := fun t ht => let ⟨m, c, e, F⟩ := h2' t ht; F.lt
  refine wpList_append_own w hgd s x 23 ho B 22 i0 (.slice none 0 0) 1 24 Tryd.underlying23 hi hz0 hz1 hz2 rfl (by decide) _ k _ hs h1 ⟨bo, 0, none⟩ 1 1 [.slice (some ⟨g1, 0, none⟩) m1 c1] hx rfl ?_ (by intro u hu; simp at hu; subst hu; rfl) (by unfold maxLen; omega) (by omega) hB ?_
  · intro j u hj
    match j, hj with
    | 0, hj =>
      simp at hj
      subst hj
      have e2 : (Addr.mk bo 0 none).add 0 = ⟨bo, 0, none⟩ := by simp [Addr.add]
      rw [e2, hX]
  · intro v' w' hown hg hnil
    have hb : Below B w w' := (Below.refl _ _).grown hg hB (fun k hk => by simp [Value.ownBlock] at hk; subst hk; exact hF.base)
    obtain ⟨_, cur, hcur⟩ := own_block h1
    have keep : ∀ {b m c : Nat} {Z : List Int}, Fresh w B b m c Z → Fresh w' B b m c Z := fun {b m c Z} F => F.of_block (hg.block b F.lt (by
      intro e
      simp [Value.ownBlock] at e
      subst e
      obtain ⟨c2, hb2, _⟩ := F.row
      rw [hcur] at hb2
      simp at hb2))
    have hlv : vs.length = k := by have := h1.1; omega
    have hown2 := hown
    obtain ⟨_, h4⟩ := hown2
    rcases h4 with ⟨_, h5⟩ | ⟨g', c', cur', hv, hg2, hr⟩
    · omega
    · subst hv
      refine h g' c' w' ⟨hg2, by simp [hF.len], _, hown, fun t => if t < k then gs t else g1, fun t ht => ?_, fun t u htu hu => ?_⟩ hb
      · rw [rowOf_snoc, hF.len]
        by_cases htk : t < k
        · obtain ⟨m3, c3, e3, F3⟩ := h2 t htk
          simp only [if_pos htk]
          exact ⟨m3, c3, by rw [List.getElem?_append_left (by omega)]; exact e3, keep F3⟩
        · obtain rfl : t = k := by omega
          simp only [Nat.lt_irrefl, if_false, if_pos]
          exact ⟨m1, c1, by rw [List.getElem?_append_right (by omega), hlv]; simp, keep hY⟩
      · simp only []
        rw [if_pos (show t < k by omega)]
        by_cases huk : u < k
        · rw [if_pos huk]; exact h3 t u htu huk
        · rw [if_neg huk]; have := hlt t (by omega); omega
theorem cellRow_new (w : World) (v : Value) : (w.alloc (.cells #[v] 22)).cell? ⟨w.heap.size, 0, none⟩ = some v := by
  have e := heap_alloc_new w (.cells #[v] 22)
  unfold World.cell?
  simp only [e]
  rfl
theorem take_snoc {R : List (List Int)} {k : Nat} (hk : k < R.length) : (R.take (k + 1)).map (List.take 40) = (R.take k).map (List.take 40) ++ [(rowOf R k).take 40] := by
  unfold rowOf
  rw [List.take_add_one, List.map_append, List.getD_eq_getElem?_getD, List.getElem?_eq_getElem hk]
  rfl
/-- At most lim rows of at most 40 numbers. -/
def rowsN (R : List (List Int)) (lim : Nat) : List (List Int) := (R.take lim).map (List.take 40)
set_option maxHeartbeats 1600000 in
theorem hrows_any (ao : Option Addr) (n ca : Nat) (R : List (List Int)) (lim : Nat) (li : Int) (w : World) (hli : li = lim) (hR : GridAt w ao n R) (hlim : lim ≤ 5000) :
   Calls Tryd.prog 10 #[.slice ao n ca, .int .i64 li] w fun e w' => ∃ g k cap, e = .returned (.slice (some ⟨g, 0, none⟩) k cap) ∧ k ≤ lim ∧ OwnGrid w' w.heap.size g k cap (rowsN R lim) ∧ Below w.heap.size w w' := by
  subst hli
  have hn := hR.max
  have hl := hR.len
  have F0 := ownGrid_empty w
  have B0 : Below w.heap.size w (w.alloc (.cells #[] 22)) := (Below.refl _ _).alloc (Nat.le_refl _) _
  have HR : Hid (∀ wv, Below w.heap.size w wv → GridAt wv ao n R) := fun wv hb => hR.below hb
  go_enter Tryd.func10, Tryd.ntmps10
  go_wp2
  generalize w.alloc (.cells #[] 22) = w0 at *
  clear hR
  go_loopg [5, 6] lim (fun r s i wr => ∃ (k g cap : Nat), k ≤ lim ∧ k ≤ n ∧ r = lim - k ∧ i = .int .i64 k ∧ s = .slice (some ⟨g, 0, none⟩) k cap ∧ OwnGrid wr w.heap.size g k cap (rowsN R k) ∧ Below w.heap.size w wr)
  case atStart => exact ⟨0, _, _, by omega, by omega, by omega, rfl, rfl, by unfold rowsN; rw [List.take_zero]; exact F0, B0⟩
  case round =>
    obtain ⟨k, g, cap, hk, hkn, rfl, rfl, rfl, F2, B2⟩ := hrel
    clear F0 B0
    by_cases hlt : k < n
    · by_cases h6 : k < lim
      · obtain ⟨b, o, rfl, hc⟩ := (HR.out _ B2).cells (by omega)
        obtain ⟨ro, m1, c1, q1, A1⟩ := hc k hlt
        have HS : Hid (rowsN R (k + 1) = rowsN R k ++ [(rowOf R k).take 40]) := take_snoc (by omega)
        have s2 := B2.size
        clear hc
        go_wp2_with (first | (go_at_call 9; refine (few_any _ _ _ _ 40 _ _ rfl A1 (by omega)).mono ?_; rintro e w3 ⟨g3, n3, c3, rfl, hm3, F3, B3⟩; have BL : Below w3.heap.size w3 (w3.alloc (.cells #[.slice (some ⟨g3, 0, none⟩) n3 c3] 22)) := (Below.refl _ _).alloc (Nat.le_refl _) _; have cX := cellRow_new w3 (.slice (some ⟨g3, 0, none⟩) n3 c3); have F4 := (F3.mono s2).below BL; have G4 := (F2.below B3).below BL; have s3 := B3.size; have s4 := BL.size; have B4 := below_then (below_then B2 B3) BL; have BO := below_then B3 BL; have hg3 := F3.base; generalize hw4 : w3.alloc (.cells #[.slice (some ⟨g3, 0, none⟩) n3 c3] 22) = w4 at *) | (at_builtin; refine wpList_append_grid rfl _ _ rfl w.heap.size g k cap _ rfl (by exact G4) _ (by exact F2) (by exact BO) w3.heap.size g3 n3 c3 _ rfl (by exact cX) (by exact F4) (by exact hg3) (by omega) (by omega) ?_; intro g' cap' w' F7 B7))
        go_roundg (lim - (k + 1))
        case measure => omega
        case rel => exact ⟨k + 1, _, _, by omega, by omega, rfl, by go_num, rfl, by rw [HS.out]; exact F7, B4.trans B7⟩
      · obtain rfl : k = lim := by omega
        go_wp2
        go_ret
        exact ⟨_, _, _, rfl, Nat.le_refl _, F2, B2⟩
    · obtain rfl : k = n := by omega
      have e : rowsN R k = rowsN R lim := by unfold rowsN; rw [List.take_of_length_le (by omega), List.take_of_length_le (by omega)]
      rw [e] at F2
      clear e
      go_wp2
      go_ret
      exact ⟨_, _, _, rfl, hk, F2, B2⟩
theorem rowsN_len (R : List (List Int)) (lim t : Nat) : (rowOf (rowsN R lim) t).length ≤ 40 := by
  unfold rowOf rowsN
  rw [List.getD_eq_getElem?_getD]
  cases e : ((R.take lim).map (List.take 40))[t]? with
  | none => simp
  | some x =>
    obtain ⟨y, _, rfl⟩ := List.mem_map.1 (List.mem_of_getElem? e)
    simp
    omega
end Go.Proofs.YtjcacejkiaepnaaDoor
