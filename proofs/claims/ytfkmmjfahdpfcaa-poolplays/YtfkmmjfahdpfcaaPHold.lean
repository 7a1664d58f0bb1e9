/- The pool's calls: Hold, Forget, Seal. -/
import Derived.Test.YtfkmmjfahdpfcaaPTake
namespace Go.Proofs.Ytfkmmjfahdpfcaa
open Go.ChangeShapes Go.WideShapes Go.ChangeAt Go.RowKit
theorem hold_none (b : Nat) (i : Int) (L : List Pg) (I : List Nat) (w : World) (h : PoolAt w b L I) (hi : -9223372036854775808 ≤ i ∧ i ≤ 9223372036854775807) (hf : (atN L i).free = true) :
   Calls Try.prog 13 #[.pointer (some ⟨b + 1, 0, none⟩), .int .i64 i] w fun e w' => e = .returned (.int .i64 8) ∧ Below w.heap.size w w' := by
  have C := at_any b i L I w h hi
  have D := isFree_any (atN L i)
  rw [hf] at D
  generalize atN L i = p at *
  obtain ⟨r, s, k⟩ := p
  unfold Pg.val at C D
  clear h hf
  go_enter Try.func13, Try.ntmps13
  go_wp2_with first
    | (go_at_call 31; refine C.mono ?_; rintro e w2 ⟨rfl, B2⟩)
    | (go_at_call 29; refine (D _).mono ?_; rintro e w3 ⟨rfl, B3⟩)
  go_ret
  exact ⟨rfl, below_then (below_then B2 ((Below.refl _ _).alloc (Nat.le_refl _) _)) B3⟩
theorem hold_big (b : Nat) (i : Int) (L : List Pg) (I : List Nat) (w : World) (h : PoolAt w b L I) (hi : -9223372036854775808 ≤ i ∧ i ≤ 9223372036854775807) (hf : 1000 ≤ (atN L i).r) :
   Calls Try.prog 13 #[.pointer (some ⟨b + 1, 0, none⟩), .int .i64 i] w fun e w' => e = .returned (.int .i64 2) ∧ Below w.heap.size w w' := by
  have C := at_any b i L I w h hi
  have D := isFree_any (atN L i)
  have hf2 : (atN L i).free = false := by unfold Pg.free; rw [decide_eq_false (by omega)]; rfl
  rw [hf2] at D
  clear hf2
  generalize atN L i = p at *
  obtain ⟨r, s, k⟩ := p
  unfold Pg.val at C D
  simp only at hf
  have hf' : (1000 : Int) ≤ (r : Int) := by omega
  have hf3 : ¬ ((r : Int) < 1000) := by omega
  clear h hf
  have X : ∀ w2 : World, Blk (w2.alloc (.cells #[.int .i64 (r : Int), .bool s, .int .i64 k] 64)) w2.heap.size 64 #[.int .i64 (r : Int), .bool s, .int .i64 k] := fun w2 => blk_new _ _ _
  go_enter Try.func13, Try.ntmps13
  go_wp2_with first
    | (go_at_call 31; refine C.mono ?_; rintro e w2 ⟨rfl, B2⟩)
    | (go_at_call 29; refine (D _).mono ?_; rintro e w3 ⟨rfl, B3⟩; have x0 := ((X w2).below B3 (X w2).lt).cell 0 rfl)
  go_ret
  exact ⟨rfl, below_then (below_then B2 ((Below.refl _ _).alloc (Nat.le_refl _) _)) B3⟩
set_option maxHeartbeats 1000000 in
set_option maxRecDepth 100000 in
theorem hold_ok (b j : Nat) (L : List Pg) (I : List Nat) (w : World) (h : PoolAt w b L I) (hI : I.length ≤ 64) (hl : L.length ≤ 64) (hj : j < L.length) (hf : (pg L j).free = false) (hr : (pg L j).r < 1000) :
   Calls Try.prog 13 #[.pointer (some ⟨b + 1, 0, none⟩), .int .i64 (j : Int)] w fun e w' => e = .returned (.int .i64 0) ∧ PoolAt w' b (L.set j { pg L j with r := (pg L j).r + 1 }) (less I j) ∧ Turns b w w' := by
  have C := at_any b j L I w h (by omega)
  rw [atN_nat] at C
  have D := isFree_any (pg L j)
  rw [hf] at D
  have HH : Hid _ := h
  have hs := h.size
  have HS : Hid (∀ w3, PoolAt w3 b L (less I j) → w3.cell? ⟨b, j * 3, none⟩ = some (.int .i64 ((pg L j).r : Int)) ∧ PoolAt (w3.setCell ⟨b, j * 3, none⟩ (.int .i64 ((((pg L j).r + 1 : Nat)) : Int))) b (L.set j { pg L j with r := (pg L j).r + 1 }) (less I j)) := fun w3 h3 => ⟨h3.pages.c0 hj, h3.set0 hj _⟩
  generalize pg L j = p at *
  obtain ⟨r, s, k⟩ := p
  unfold Pg.val at C D
  simp only at hr
  have hr' : (r : Int) < 1000 := by omega
  have hr3 : ¬ (1000 : Int) ≤ (r : Int) := by omega
  clear h hf hr
  have X : ∀ w2 : World, Blk (w2.alloc (.cells #[.int .i64 (r : Int), .bool s, .int .i64 k] 64)) w2.heap.size 64 #[.int .i64 (r : Int), .bool s, .int .i64 k] := fun w2 => blk_new _ _ _
  go_enter Try.func13, Try.ntmps13
  go_wp2_with first
    | (go_at_call 31; refine C.mono ?_; rintro e w2 ⟨rfl, B2⟩)
    | (go_at_call 29; refine (D _).mono ?_; rintro e w3 ⟨rfl, B3⟩; have x0 := ((X w2).below B3 (X w2).lt).cell 0 rfl; have B4 := below_then (below_then B2 ((Below.refl _ _).alloc (Nat.le_refl _) _)) B3; have h3 := HH.out.below B4; have C2 := leave_any b j L I w3 h3 hI)
    | (go_at_call 30; refine C2.mono ?_; rintro e w4 ⟨rfl, h4, B5⟩; have y0 := h4.box0; have f0 := h4.pages.frozen (j * 3); obtain ⟨y1, h5⟩ := HS.out w4 h4)
  go_ret
  exact ⟨rfl, by simpa using h5, ((Turns.of_below B4 (by omega)).trans B5).set _ _⟩
end Go.Proofs.Ytfkmmjfahdpfcaa
