/- A new pool; a page of it; a page that leaves the row of idle ones. -/
import Derived.Test.YtfkmmjfahdpfcaaPDel
namespace Go.Proofs.Ytfkmmjfahdpfcaa
open Go.ChangeShapes Go.WideShapes Go.ChangeAt Go.RowKit
theorem Try.infoPage : (Try.prog.info? 64).map (fun i => (i.zero, i.size, i.bytes)) = some (some (.agg #[.int .i64 0, .bool false, .int .i64 0]), 3, 24) := by kernel_rfl
theorem Try.infoPageS : (Try.prog.info? 64).map (·.size) = some 3 := by kernel_rfl
theorem run_make_pages (n : Nat) (hn : n ≤ 64) (w : World) : (Instr.makeSlice 50 (.int .i64 (n : Int)) (.int .i64 (n : Int))).run Try.prog w = .ok (.slice (some ⟨w.heap.size, 0, none⟩) n n) (w.alloc (.cells (madeCells #[.int .i64 0, .bool false, .int .i64 0] (n * 3)) 64)) := by
  obtain ⟨i, hi, hzz⟩ := Option.map_eq_some_iff.1 Try.infoPage
  simp only [Prod.mk.injEq] at hzz
  obtain ⟨hz, hs, hb⟩ := hzz
  have hr := run_make (P := Try.prog) w 50 64 i _ Try.underlying50 hi hz .i64 .i64 n n (by omega) (Int.le_refl _) (by rw [hb]; omega) (by omega)
  simp only [Int.toNat_natCast, hs] at hr
  exact hr
theorem pgs_made (w : World) (n : Nat) : Pgs (w.alloc (.cells (madeCells #[.int .i64 0, .bool false, .int .i64 0] (n * 3)) 64)) w.heap.size (List.replicate n default) := by
  refine ⟨_, blk_new _ _ _, by rw [size_madeCells]; simp, fun i hi => ?_⟩
  simp only [List.length_replicate] at hi
  have e : pg (List.replicate n default) i = default := by unfold pg; simp [List.getD_eq_getElem?_getD, hi]
  rw [e]
  have hk : ∀ k, k < n * 3 → (madeCells #[.int .i64 0, .bool false, .int .i64 0] (n * 3))[k]? = some ((#[Value.int .i64 0, .bool false, .int .i64 0] : Array Value)[k % 3]!) := fun k hk => by
    unfold madeCells
    simp [hk]
  refine ⟨?_, ?_, ?_⟩
  · rw [hk _ (by omega), show i * 3 % 3 = 0 by omega]; rfl
  · rw [hk _ (by omega), show (i * 3 + 1) % 3 = 1 by omega]; rfl
  · rw [hk _ (by omega), show (i * 3 + 2) % 3 = 2 by omega]; rfl
theorem pnew_any (n : Nat) (w : World) (h1 : 1 ≤ n) (h2 : n ≤ 64) : Calls Try.prog 8 #[.int .i64 (n : Int)] w fun e w' => e = .returned (.tuple #[.pointer (some ⟨w.heap.size + 1, 0, none⟩), .int .i64 0]) ∧ PoolAt w' w.heap.size (List.replicate n default) [] ∧ Below w.heap.size w w' := by
  have hmk := run_make_pages n h2
  have P0 := pgs_made w n
  have B0 : Below w.heap.size w (w.alloc (.cells (madeCells #[.int .i64 0, .bool false, .int .i64 0] (n * 3)) 64)) := (Below.refl _ _).alloc (Nat.le_refl _) _
  have s0 : (w.alloc (.cells (madeCells #[.int .i64 0, .bool false, .int .i64 0] (n * 3)) 64)).heap.size = w.heap.size + 1 := by simp
  go_enter Try.func8, Try.ntmps8
  go_wp2
  clear hmk
  generalize w.alloc (.cells (madeCells #[.int .i64 0, .bool false, .int .i64 0] (n * 3)) 64) = w0 at *
  go_ret2
  refine ⟨rfl, ⟨P0.below ((Below.refl _ _).alloc (Nat.le_refl _) _) P0.lt, _, ?_, Idl.nil _ _⟩, below_then B0 ((Below.refl _ _).alloc (Nat.le_refl _) _)⟩
  rw [← s0, List.length_replicate]
  exact blk_new _ _ _
theorem pnew_few (n : Int) (w : World) (h1 : n < 1) : Calls Try.prog 8 #[.int .i64 n] w fun e w' => e = .returned (.tuple #[.pointer none, .int .i64 1]) ∧ w' = w := by
  go_enter Try.func8, Try.ntmps8
  go_wp2
  go_ret2
  exact ⟨rfl, rfl⟩
theorem pnew_many (n : Int) (w : World) (h1 : 64 < n) : Calls Try.prog 8 #[.int .i64 n] w fun e w' => e = .returned (.tuple #[.pointer none, .int .i64 2]) ∧ w' = w := by
  have h2 : ¬ n < 1 := by omega
  go_enter Try.func8, Try.ntmps8
  go_wp2
  go_ret2
  exact ⟨rfl, rfl⟩
theorem PoolAt.box0 {w : World} {b : Nat} {L : List Pg} {I : List Nat} (h : PoolAt w b L I) : w.cell? ⟨b + 1, 0, none⟩ = some (.slice (some ⟨b, 0, none⟩) L.length L.length) := by
  obtain ⟨vi, h1, _⟩ := h.box
  exact h1.cell 0 rfl
set_option maxHeartbeats 800000 in
theorem at_any (b : Nat) (i : Int) (L : List Pg) (I : List Nat) (w : World) (h : PoolAt w b L I) (hi : -9223372036854775808 ≤ i ∧ i ≤ 9223372036854775807) :
   Calls Try.prog 31 #[.pointer (some ⟨b + 1, 0, none⟩), .int .i64 i] w fun e w' => e = .returned (atN L i).val ∧ Below w.heap.size w w' := by
  have X0 := blk_new w 64 #[.int .i64 0, .bool false, .int .i64 0]
  have B0 : Below w.heap.size w (w.alloc (.cells #[.int .i64 0, .bool false, .int .i64 0] 64)) := (Below.refl _ _).alloc (Nat.le_refl _) _
  have h' := h.below B0
  have c0 := h'.box0
  have f0 := X0.frozen 0
  have f1 := X0.frozen 1
  have f2 := X0.frozen 2
  have u0 := X0.cell 0 (v := .int .i64 0) rfl
  have u1 := X0.cell 1 (v := .bool false) rfl
  have u2 := X0.cell 2 (v := .int .i64 0) rfl
  generalize hw0 : w.alloc (.cells #[.int .i64 0, .bool false, .int .i64 0] 64) = w0 at *
  generalize hn : L.length = n at *
  by_cases h0 : i < 0
  · have HE : Hid (atN L i = default) := atN_out L i (Or.inl h0)
    clear h h'
    go_enter Try.func31, Try.ntmps31
    go_wp2
    refine bodyPost_ret (results_cell_row rfl _ _ w.heap.size 64 _ _ _ rfl (((X0.set 0 _).set 1 _).set 2 _) Try.underlying64 rfl Try.infoPageS) rfl ?_
    exact ⟨by rw [HE.out]; rfl, ((B0.setCell (Nat.le_refl _) _).setCell (Nat.le_refl _) _).setCell (Nat.le_refl _) _⟩
  · obtain ⟨j, rfl⟩ : ∃ j : Nat, i = j := ⟨i.toNat, by omega⟩
    by_cases h1 : j < n
    · have p0 := h'.pages.c0 (i := j) (by omega)
      have p1 := h'.pages.c1 (i := j) (by omega)
      have p2 := h'.pages.c2 (i := j) (by omega)
      have HE : Hid (atN L j = pg L j) := atN_nat L j
      have hb := h'.pages.lt
      have hne : b ≠ w.heap.size := by have := h.size; omega
      clear h h'
      generalize pg L j = z at *
      obtain ⟨zr, zs, zk⟩ := z
      simp only at p0 p1 p2
      go_enter Try.func31, Try.ntmps31
      go_wp2
      refine bodyPost_ret (results_cell_row rfl _ _ w.heap.size 64 _ _ _ rfl (((X0.set 0 _).set 1 _).set 2 _) Try.underlying64 rfl Try.infoPageS) rfl ?_
      exact ⟨by rw [HE.out]; rfl, ((B0.setCell (Nat.le_refl _) _).setCell (Nat.le_refl _) _).setCell (Nat.le_refl _) _⟩
    · have HE : Hid (atN L j = default) := atN_out L j (Or.inr (by omega))
      clear h h'
      go_enter Try.func31, Try.ntmps31
      go_wp2
      refine bodyPost_ret (results_cell_row rfl _ _ w.heap.size 64 _ _ _ rfl (((X0.set 0 _).set 1 _).set 2 _) Try.underlying64 rfl Try.infoPageS) rfl ?_
      exact ⟨by rw [HE.out]; rfl, ((B0.setCell (Nat.le_refl _) _).setCell (Nat.le_refl _) _).setCell (Nat.le_refl _) _⟩
theorem Idl.slice {w : World} {B : Nat} {v : Value} {A : List Nat} (h : Idl w B v A) : ∃ ao c, v = .slice ao A.length c := by
  rcases h.cases with ⟨rfl, rfl⟩ | ⟨g, cap, cs, rfl, _⟩
  · exact ⟨none, 0, rfl⟩
  · exact ⟨_, _, rfl⟩
theorem PoolAt.idle {w : World} {b : Nat} {L : List Pg} {I : List Nat} (h : PoolAt w b L I) : ∃ vi, Blk w (b + 1) 52 #[.slice (some ⟨b, 0, none⟩) L.length L.length, vi] ∧ Idl w (b + 2) vi I ∧ ∀ g, vi.ownBlock = some g → b + 2 ≤ g ∧ g < w.heap.size := by
  obtain ⟨vi, h1, h2⟩ := h.box
  exact ⟨vi, h1, h2, fun g hg => World.ownsRow.lt h2 g hg⟩
/-- The block of the row of idle pages. -/
def idleBlk (w : World) (b : Nat) : Option Nat := (w.cell? ⟨b + 1, 1, none⟩).bind Value.ownBlock
theorem idleBlk_of {w : World} {b : Nat} {v : Value} (h : w.cell? ⟨b + 1, 1, none⟩ = some v) : idleBlk w b = v.ownBlock := by unfold idleBlk; rw [h]; rfl
theorem idleBlk_same {w w' : World} {b : Nat} (h : w'.heap[b + 1]? = w.heap[b + 1]?) : idleBlk w' b = idleBlk w b := by
  unfold idleBlk
  rw [World.cell?_of_block (w := w) (w' := w') (a := ⟨b + 1, 1, none⟩) h]
/-- Of what was there, only the pool from b on may have turned; its row of idle pages stays in its block or goes into a new one. -/
structure Turns (b : Nat) (w w' : World) : Prop where
  below : Below b w w'
  block : ∀ k, k < w.heap.size → k ≠ b → k ≠ b + 1 → idleBlk w b ≠ some k → w'.heap[k]? = w.heap[k]?
  idle : idleBlk w' b = idleBlk w b ∨ ∃ k, idleBlk w' b = some k ∧ w.heap.size ≤ k
theorem Turns.of_below {b : Nat} {w w' : World} (h : Below w.heap.size w w') (hb : b + 1 < w.heap.size) : Turns b w w' :=
  ⟨h.mono (by omega), fun k hk _ _ _ => h.block k hk, Or.inl (idleBlk_same (h.block _ hb))⟩
theorem Turns.trans {b : Nat} {w w1 w2 : World} (h : Turns b w w1) (k : Turns b w1 w2) : Turns b w w2 := by
  refine ⟨h.below.trans k.below, fun j hj h1 h2 h3 => ?_, ?_⟩
  · rw [k.block j (Nat.lt_of_lt_of_le hj h.below.size) h1 h2 ?_]
    · exact h.block j hj h1 h2 h3
    · rcases h.idle with e | ⟨q, e, hq⟩
      · rw [e]; exact h3
      · rw [e]; intro e2; simp at e2; omega
  · rcases k.idle with e | ⟨q, e, hq⟩
    · rw [e]; exact h.idle
    · exact Or.inr ⟨q, e, Nat.le_trans h.below.size hq⟩
theorem Turns.set {b : Nat} {w w' : World} (h : Turns b w w') (k : Nat) (v : Value) : Turns b w (w'.setCell ⟨b, k, none⟩ v) := by
  refine ⟨h.below.setCell (Nat.le_refl _) _, fun j hj h1 h2 h3 => ?_, ?_⟩
  · rw [Below.heap_setCell _ _ _ _ h1]; exact h.block j hj h1 h2 h3
  · rw [idleBlk_same (w := w') (Below.heap_setCell _ _ _ _ (by show b + 1 ≠ b; omega))]; exact h.idle
theorem Turns.drew {b : Nat} {w w' : World} (h : Turns b w w') : Turns b w w'.drew := ⟨h.below.drew, h.block, h.idle⟩
theorem Turns.put {b i : Nat} {w w' : World} (h : Turns b w w') (v0 v1 v2 : Value) : Turns b w (((w'.setCell ⟨b, i * 3, none⟩ v0).setCell ⟨b, i * 3 + 1, none⟩ v1).setCell ⟨b, i * 3 + 2, none⟩ v2) := ((h.set _ _).set _ _).set _ _
theorem turns_idle {b : Nat} {w w0 w2 : World} {r : Option Nat} {v v0 v1 : Value} (B0 : Below w.heap.size w w0) (hs : b + 2 ≤ w.heap.size) (hr : idleBlk w b = r) (hr2 : ∀ g, r = some g → b + 2 ≤ g) (G1 : w0.grownBy w2 r) (hb : Blk w2 (b + 1) 52 #[v0, v1]) (hv : ∀ g, v.ownBlock = some g → r = some g ∨ w.heap.size ≤ g) (hn : v.ownBlock = none → r = none) : Turns b w (w2.setCell ⟨b + 1, 1, none⟩ v) := by
  refine ⟨((B0.mono (by omega)).grown G1 (by have := B0.size; omega) (fun k hk => by have := hr2 k hk; omega)).setCell (by show b ≤ b + 1; omega) _, fun k hk h1 h2 h3 => ?_, ?_⟩
  · rw [Below.heap_setCell _ _ _ _ h2, G1.block k (Nat.lt_of_lt_of_le hk B0.size) (by rw [← hr]; exact fun e => h3 e.symm)]
    exact B0.block k hk
  · have e : idleBlk (w2.setCell ⟨b + 1, 1, none⟩ v) b = v.ownBlock := idleBlk_of ((hb.set 1 v).cell 1 rfl)
    rw [e, hr]
    cases hq : v.ownBlock with
    | none => exact Or.inl (hn hq).symm
    | some g =>
      rcases hv g hq with e2 | e2
      · exact Or.inl e2.symm
      · exact Or.inr ⟨g, rfl, e2⟩
set_option maxHeartbeats 800000 in
theorem leave_any (b i : Nat) (L : List Pg) (I : List Nat) (w : World) (h : PoolAt w b L I) (hl : I.length ≤ 64) :
   Calls Try.prog 30 #[.pointer (some ⟨b + 1, 0, none⟩), .int .i64 (i : Int)] w fun e w' => e = .returned (.tuple #[]) ∧ PoolAt w' b L (less I i) ∧ Turns b w w' := by
  have hs := h.size
  have X0 := blk_new w 3 #[.int .i64 (i : Int)]
  have B0 : Below w.heap.size w (w.alloc (.cells #[.int .i64 (i : Int)] 3)) := (Below.refl _ _).alloc (Nat.le_refl _) _
  have h' := h.below B0
  have s0 : (w.alloc (.cells #[.int .i64 (i : Int)] 3)).heap.size = w.heap.size + 1 := by simp
  obtain ⟨vi, K1, K2, K3⟩ := h.idle
  have HI : Hid (idleBlk w b = vi.ownBlock) := idleBlk_of (K1.cell 1 rfl)
  replace K1 := K1.below B0 K1.lt
  replace K2 := K2.below B0
  have k3' : ∀ g, vi.ownBlock = some g → g ≠ w.heap.size := fun g hg => by have := K3 g hg; omega
  have C := del_any w.heap.size i (b + 2) vi I _ K2 hl (X0.cell 0 rfl) k3'
  have c1 := K1.cell 1 (v := vi) rfl
  have P0 := h'.pages
  generalize hw0 : w.alloc (.cells #[.int .i64 (i : Int)] 3) = w0 at *
  clear h h' K2 X0 k3'
  go_enter Try.func30, Try.ntmps30
  go_wp2_with (go_at_call 38; refine C.mono ?_; rintro e w2 ⟨v', rfl, D1, G1, N1⟩; obtain ⟨ao', c', rfl⟩ := D1.slice; have g1 := (K1.of_block (G1.block (b + 1) K1.lt (fun e => by have := K3 _ e.symm; omega))); have f1 := g1.frozen 1; have f2 := g1.cell 1 (v := vi) rfl)
  refine bodyPost_end (results_none rfl _ _ _) rfl ?_
  have P2 := P0.of_block (G1.block b P0.lt (fun e => by have := K3 _ e.symm; omega))
  refine ⟨rfl, ⟨P2.other (by show b ≠ b + 1; omega) _, _, g1.set 1 _, D1.other (by show b + 1 < b + 2; omega) _⟩, ?_⟩
  exact turns_idle B0 hs HI.out (fun g hg => (K3 g hg).1) G1 g1 (fun g hg => Or.inl (N1 ▸ hg)) (fun hg => by rw [← N1]; exact hg)
end Go.Proofs.Ytfkmmjfahdpfcaa
