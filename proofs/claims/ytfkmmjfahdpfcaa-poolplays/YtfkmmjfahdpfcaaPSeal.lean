/- The pool's calls: Forget, Seal. -/
import Derived.Test.YtfkmmjfahdpfcaaPHold
namespace Go.Proofs.Ytfkmmjfahdpfcaa
open Go.ChangeShapes Go.WideShapes Go.ChangeAt Go.RowKit
theorem forget_none (b : Nat) (i : Int) (L : List Pg) (I : List Nat) (w : World) (h : PoolAt w b L I) (hi : -9223372036854775808 ≤ i ∧ i ≤ 9223372036854775807) (hf : (atN L i).idle = false) :
   Calls Try.prog 16 #[.pointer (some ⟨b + 1, 0, none⟩), .int .i64 i] w fun e w' => e = .returned (.int .i64 8) ∧ Below w.heap.size w w' := by
  have C := at_any b i L I w h hi
  have D := isIdle_any (atN L i)
  rw [hf] at D
  generalize atN L i = p at *
  clear h hf
  generalize p.val = v at *
  go_enter Try.func16, Try.ntmps16
  go_wp2_with first
    | (go_at_call 31; refine C.mono ?_; rintro e w2 ⟨rfl, B2⟩)
    | (go_at_call 32; refine (D _).mono ?_; rintro e w3 ⟨rfl, B3⟩)
  go_ret
  exact ⟨rfl, below_then B2 B3⟩
set_option maxHeartbeats 1000000 in
theorem forget_ok (b j : Nat) (L : List Pg) (I : List Nat) (w : World) (h : PoolAt w b L I) (hI : I.length ≤ 64) (hl : L.length ≤ 64) (hj : j < L.length) (hf : (pg L j).idle = true) :
   Calls Try.prog 16 #[.pointer (some ⟨b + 1, 0, none⟩), .int .i64 (j : Int)] w fun e w' => e = .returned (.int .i64 0) ∧ PoolAt w' b (L.set j default) (less I j) ∧ Turns b w w' := by
  have C := at_any b j L I w h (by omega)
  rw [atN_nat] at C
  have D := isIdle_any (pg L j)
  rw [hf] at D
  have HH : Hid _ := h
  have hs := h.size
  clear hf h
  generalize (pg L j).val = v at *
  go_enter Try.func16, Try.ntmps16
  go_wp2_with first
    | (go_at_call 31; refine C.mono ?_; rintro e w2 ⟨rfl, B2⟩)
    | (go_at_call 32; refine (D _).mono ?_; rintro e w3 ⟨rfl, B3⟩; have B4 := below_then B2 B3; have h3 := HH.out.below B4; have C2 := leave_any b j L I w3 h3 hI)
    | (go_at_call 30; refine C2.mono ?_; rintro e w4 ⟨rfl, h4, B5⟩; have x0 := h4.box0; have y0 := h4.pages.c0 hj; have y1 := h4.pages.c1 hj; have y2 := h4.pages.c2 hj; have f0 := h4.pages.frozen (j * 3); have f1 := h4.pages.frozen (j * 3 + 1); have f2 := h4.pages.frozen (j * 3 + 2))
  go_ret
  exact ⟨rfl, h4.put hj default, ((Turns.of_below B4 (by omega)).trans B5).put _ _ _⟩
theorem seal_none (b : Nat) (i key : Int) (L : List Pg) (I : List Nat) (w : World) (h : PoolAt w b L I) (hi : -9223372036854775808 ≤ i ∧ i ≤ 9223372036854775807) (hf : (atN L i).free = true) :
   Calls Try.prog 14 #[.pointer (some ⟨b + 1, 0, none⟩), .int .i64 i, .int .i64 key] w fun e w' => e = .returned (.int .i64 8) ∧ Below w.heap.size w w' := by
  have C := at_any b i L I w h hi
  have D := isFree_any (atN L i)
  rw [hf] at D
  generalize atN L i = p at *
  obtain ⟨r, s, k⟩ := p
  unfold Pg.val at C D
  clear h hf
  go_enter Try.func14, Try.ntmps14
  go_wp2_with first
    | (go_at_call 31; refine C.mono ?_; rintro e w2 ⟨rfl, B2⟩)
    | (go_at_call 29; refine (D _).mono ?_; rintro e w3 ⟨rfl, B3⟩)
  go_ret
  exact ⟨rfl, below_then (below_then B2 ((Below.refl _ _).alloc (Nat.le_refl _) _)) B3⟩
set_option maxHeartbeats 1000000 in
theorem seal_there (b : Nat) (i key : Int) (L : List Pg) (I : List Nat) (w : World) (h : PoolAt w b L I) (hl : L.length ≤ 64) (hi : -9223372036854775808 ≤ i ∧ i ≤ 9223372036854775807) (hf : (atN L i).free = false) (ht : 0 ≤ idxN (Pg.hit key) L ∨ (atN L i).s = true) :
   Calls Try.prog 14 #[.pointer (some ⟨b + 1, 0, none⟩), .int .i64 i, .int .i64 key] w fun e w' => e = .returned (.int .i64 9) ∧ Below w.heap.size w w' := by
  have C := at_any b i L I w h hi
  have D := isFree_any (atN L i)
  have HH : Hid _ := h
  rw [hf] at D
  generalize atN L i = p at *
  obtain ⟨r, s, k⟩ := p
  unfold Pg.val at C D
  simp only at ht
  have E := fun w (h : PoolAt w b L I) => find_any b key L I w h hl
  generalize max (idxN (Pg.hit key) L) 0 = m at *
  have X : ∀ w2 : World, Blk (w2.alloc (.cells #[.int .i64 (r : Int), .bool s, .int .i64 k] 64)) w2.heap.size 64 #[.int .i64 (r : Int), .bool s, .int .i64 k] := fun w2 => blk_new _ _ _
  clear h hf
  by_cases h0 : 0 ≤ idxN (Pg.hit key) L
  · rw [decide_eq_true h0] at E
    clear ht h0
    go_enter Try.func14, Try.ntmps14
    go_wp2_with first
      | (go_at_call 31; refine C.mono ?_; rintro e w2 ⟨rfl, B2⟩)
      | (go_at_call 29; refine (D _).mono ?_; rintro e w3 ⟨rfl, B3⟩; have B4 := below_then (below_then B2 ((Below.refl _ _).alloc (Nat.le_refl _) _)) B3; have h3 := HH.out.below B4; have C3 := E w3 h3)
      | (go_at_call 18; refine C3.mono ?_; rintro e w4 ⟨rfl, B5⟩)
    go_ret
    exact ⟨rfl, below_then B4 B5⟩
  · have hs : s = true := ht.resolve_left h0
    subst hs
    rw [decide_eq_false h0] at E
    clear ht h0
    go_enter Try.func14, Try.ntmps14
    go_wp2_with first
      | (go_at_call 31; refine C.mono ?_; rintro e w2 ⟨rfl, B2⟩)
      | (go_at_call 29; refine (D _).mono ?_; rintro e w3 ⟨rfl, B3⟩; have B4 := below_then (below_then B2 ((Below.refl _ _).alloc (Nat.le_refl _) _)) B3; have h3 := HH.out.below B4; have C3 := E w3 h3; have X3 := (X w2).below B3 (X w2).lt)
      | (go_at_call 18; refine C3.mono ?_; rintro e w4 ⟨rfl, B5⟩; have x1 := (X3.below B5 X3.lt).cell 1 rfl)
    go_ret
    exact ⟨rfl, below_then B4 B5⟩
set_option maxHeartbeats 1000000 in
theorem seal_ok (b j : Nat) (key : Int) (L : List Pg) (I : List Nat) (w : World) (h : PoolAt w b L I) (hl : L.length ≤ 64) (hj : j < L.length) (hf : (pg L j).free = false) (hs : (pg L j).s = false) (ht : idxN (Pg.hit key) L = -1) :
   Calls Try.prog 14 #[.pointer (some ⟨b + 1, 0, none⟩), .int .i64 (j : Int), .int .i64 key] w fun e w' => e = .returned (.int .i64 0) ∧ PoolAt w' b (L.set j ⟨(pg L j).r, true, key⟩) I ∧ Turns b w w' := by
  have C := at_any b j L I w h (by omega)
  rw [atN_nat] at C
  have D := isFree_any (pg L j)
  have HH : Hid _ := h
  have hz := h.size
  rw [hf] at D
  have E := fun w (h : PoolAt w b L I) => find_any b key L I w h hl
  rw [ht] at E
  have HS : Hid (∀ w3, PoolAt w3 b L I → PoolAt ((w3.setCell ⟨b, j * 3 + 1, none⟩ (.bool true)).setCell ⟨b, j * 3 + 2, none⟩ (.int .i64 key)) b (L.set j ⟨(pg L j).r, true, key⟩) I) := fun w3 h3 => by
    have h5 := (h3.set1 hj true).set2 (i := j) (by simpa using hj) key
    rw [List.set_set, pg_set hj, if_pos rfl] at h5
    exact h5
  generalize hp : pg L j = p at *
  obtain ⟨r, s, k⟩ := p
  unfold Pg.val at C D
  simp only at hs
  subst hs
  have X : ∀ w2 : World, Blk (w2.alloc (.cells #[.int .i64 (r : Int), .bool false, .int .i64 k] 64)) w2.heap.size 64 #[.int .i64 (r : Int), .bool false, .int .i64 k] := fun w2 => blk_new _ _ _
  clear h hf ht hp
  go_enter Try.func14, Try.ntmps14
  go_wp2_with first
    | (go_at_call 31; refine C.mono ?_; rintro e w2 ⟨rfl, B2⟩)
    | (go_at_call 29; refine (D _).mono ?_; rintro e w3 ⟨rfl, B3⟩; have B4 := below_then (below_then B2 ((Below.refl _ _).alloc (Nat.le_refl _) _)) B3; have h3 := HH.out.below B4; have C3 := E w3 h3; have X3 := (X w2).below B3 (X w2).lt)
    | (go_at_call 18; refine C3.mono ?_; rintro e w4 ⟨rfl, B5⟩; have x1 := (X3.below B5 X3.lt).cell 1 rfl; have h4 := h3.below B5; have d0 := h4.box0; have d1 := h4.pages.c1 hj; have d2 := h4.pages.c2 hj; have f1 := h4.pages.frozen (j * 3 + 1); have f2 := h4.pages.frozen (j * 3 + 2))
  clear C D E X C3 X3 x1 B3
  go_region
  go_wp2
  go_ret
  have B6 : Turns b w w4 := Turns.of_below (below_then B4 B5) (by omega)
  exact ⟨rfl, (HS.out w4 h4).below ((Below.refl _ _).drew), ((B6.set _ _).set _ _).drew⟩
end Go.Proofs.Ytfkmmjfahdpfcaa
