/- A model's source of numbers: one layer. Laid by tools/genblock.py. -/
import Derived.Test.YtklgaokhillinaaMdSrc
namespace Go.Proofs.Ytklgaokhillinaa
open Go.ChangeShapes Go.WideShapes Go.ChangeAt Go.RowKit
/-- The cells of a layer. -/
def bcs (a0 a1 a2 a3 a4 a5 a6 a7 a8 a9 a10 a11 a12 a13 a14 a15 a16 a17 a18 a19 : Value) : Array Value := #[a0, a1, a2, a3, a4, a5, a6, a7, a8, a9, a10, a11, a12, a13, a14, a15, a16, a17, a18, a19]
/-- A row of the call's own, as a value. -/
def rv (g n : Nat) : Value := .slice (some ⟨g, 0, none⟩) n n
/-- The cells of a layer that was made. -/
def madeB (D H f q k v o s u d : Nat) : Array Value := bcs (rv f D) (.int .i64 D) (.int .i64 D) (rv q (D * D)) (.int .i64 D) (.int .i64 D) (rv k (D * D)) (.int .i64 D) (.int .i64 D) (rv v (D * D)) (.int .i64 D) (.int .i64 D) (rv o (D * D)) (rv s D) (.int .i64 H) (.int .i64 D) (rv u (H * D)) (.int .i64 D) (.int .i64 H) (rv d (D * H))
/-- How many numbers a layer has. -/
def lenB (D H : Nat) : Nat := D + D * D + D * D + D * D + D * D + D + H * D + D * H
/-- Rows of gains and of a matrix, from number i on. -/
def gainR (seed i n : Nat) : List Int := tab n fun j => 65536 + numN seed (i + j) 16384
def numR (seed i n m : Nat) : List Int := tab n fun j => numN seed (i + j) m
/-- A made layer's rows. -/
structure MadeB (w : World) (B seed i D H f q k v o s u d : Nat) : Prop where
  f : Fresh w B f D D (gainR seed i D)
  q : Fresh w B q (D * D) (D * D) (numR seed (i + D) (D * D) 65536)
  k : Fresh w B k (D * D) (D * D) (numR seed (i + D + D * D) (D * D) 65536)
  v : Fresh w B v (D * D) (D * D) (numR seed (i + D + D * D + D * D) (D * D) 65536)
  o : Fresh w B o (D * D) (D * D) (numR seed (i + D + D * D + D * D + D * D) (D * D) 65536)
  s : Fresh w B s D D (gainR seed (i + D + D * D + D * D + D * D + D * D) D)
  u : Fresh w B u (H * D) (H * D) (numR seed (i + D + D * D + D * D + D * D + D * D + D) (H * D) 65536)
  d : Fresh w B d (D * H) (D * H) (numR seed (i + D + D * D + D * D + D * D + D * D + D + H * D) (D * H) 65536)
/-- A configuration's cells. -/
def cfgC (V D Hd H L : Int) : Array Value := #[.int .i64 V, .int .i64 D, .int .i64 Hd, .int .i64 H, .int .i64 L]

theorem Try.infoB : (Try.prog.info? 57).map (·.size) = some 20 := by kernel_rfl
theorem But.row {g : Nat} {w w' : World} (h : But g w w') {b : Nat} (hb : w.heap.size ≤ b) (cs : Array Value) : But g w (w'.setRow b cs) :=
  ⟨h.os, h.tape, h.output, by simpa using h.size, fun k hk hn => by rw [setRow_other _ _ _ _ (by omega)]; exact h.block k hk hn⟩
theorem Fresh.rowOther {w : World} {B g n cap : Nat} {A : List Int} (h : Fresh w B g n cap A) {b : Nat} (hb : g ≠ b) (cs : Array Value) : Fresh (w.setRow b cs) B g n cap A := h.of_block (setRow_other _ _ _ _ hb)
set_option maxRecDepth 100000 in
set_option maxHeartbeats 3200000 in
theorem block_any (g seed i D H : Nat) (V Hd Ly : Int) (w : World) (hS : SrcAt w g (stN seed i)) (h1 : D ≤ 128) (h2 : H ≤ 128) :
   Calls Try.prog 28 #[.pointer (some ⟨g, 0, none⟩), .agg (cfgC V D Hd H Ly)] w fun e w' => ∃ f q k v o s u d, e = .returned (.agg (madeB D H f q k v o s u d)) ∧ MadeB w' w.heap.size seed i D H f q k v o s u d ∧ SrcAt w' g (stN seed (i + lenB D H)) ∧ But g w w' := by
  have hg := Blk.lt hS
  have X0 := blk_new w 23 (cfgC V D Hd H Ly)
  have B0 : Below w.heap.size w (w.alloc (.cells (cfgC V D Hd H Ly) 23)) := (Below.refl _ _).alloc (Nat.le_refl _) _
  have s0 : (w.alloc (.cells (cfgC V D Hd H Ly) 23)).heap.size = w.heap.size + 1 := by simp
  unfold cfgC at *
  generalize hw0 : w.alloc (.cells #[.int .i64 V, .int .i64 D, .int .i64 Hd, .int .i64 H, .int .i64 Ly] 23) = w0 at *
  have X1 := blk_new w0 57 #[.slice none 0 0, .int .i64 0, .int .i64 0, .slice none 0 0, .int .i64 0, .int .i64 0, .slice none 0 0, .int .i64 0, .int .i64 0, .slice none 0 0, .int .i64 0, .int .i64 0, .slice none 0 0, .slice none 0 0, .int .i64 0, .int .i64 0, .slice none 0 0, .int .i64 0, .int .i64 0, .slice none 0 0]
  have B1 : Below w0.heap.size w0 (w0.alloc (.cells #[.slice none 0 0, .int .i64 0, .int .i64 0, .slice none 0 0, .int .i64 0, .int .i64 0, .slice none 0 0, .int .i64 0, .int .i64 0, .slice none 0 0, .int .i64 0, .int .i64 0, .slice none 0 0, .slice none 0 0, .int .i64 0, .int .i64 0, .slice none 0 0, .int .i64 0, .int .i64 0, .slice none 0 0] 57)) := (Below.refl _ _).alloc (Nat.le_refl _) _
  have s1 : (w0.alloc (.cells #[.slice none 0 0, .int .i64 0, .int .i64 0, .slice none 0 0, .int .i64 0, .int .i64 0, .slice none 0 0, .int .i64 0, .int .i64 0, .slice none 0 0, .int .i64 0, .int .i64 0, .slice none 0 0, .slice none 0 0, .int .i64 0, .int .i64 0, .slice none 0 0, .int .i64 0, .int .i64 0, .slice none 0 0] 57)).heap.size = w0.heap.size + 1 := by simp
  rw [s0] at X1 s1
  generalize hw1 : w0.alloc (.cells #[.slice none 0 0, .int .i64 0, .int .i64 0, .slice none 0 0, .int .i64 0, .int .i64 0, .slice none 0 0, .int .i64 0, .int .i64 0, .slice none 0 0, .int .i64 0, .int .i64 0, .slice none 0 0, .slice none 0 0, .int .i64 0, .int .i64 0, .slice none 0 0, .int .i64 0, .int .i64 0, .slice none 0 0] 57) = w1 at *
  have X2 := blk_new w1 57 #[.slice none 0 0, .int .i64 0, .int .i64 0, .slice none 0 0, .int .i64 0, .int .i64 0, .slice none 0 0, .int .i64 0, .int .i64 0, .slice none 0 0, .int .i64 0, .int .i64 0, .slice none 0 0, .slice none 0 0, .int .i64 0, .int .i64 0, .slice none 0 0, .int .i64 0, .int .i64 0, .slice none 0 0]
  have B2 : Below w1.heap.size w1 (w1.alloc (.cells #[.slice none 0 0, .int .i64 0, .int .i64 0, .slice none 0 0, .int .i64 0, .int .i64 0, .slice none 0 0, .int .i64 0, .int .i64 0, .slice none 0 0, .int .i64 0, .int .i64 0, .slice none 0 0, .slice none 0 0, .int .i64 0, .int .i64 0, .slice none 0 0, .int .i64 0, .int .i64 0, .slice none 0 0] 57)) := (Below.refl _ _).alloc (Nat.le_refl _) _
  rw [s1] at X2
  generalize hw2 : w1.alloc (.cells #[.slice none 0 0, .int .i64 0, .int .i64 0, .slice none 0 0, .int .i64 0, .int .i64 0, .slice none 0 0, .int .i64 0, .int .i64 0, .slice none 0 0, .int .i64 0, .int .i64 0, .slice none 0 0, .slice none 0 0, .int .i64 0, .int .i64 0, .slice none 0 0, .int .i64 0, .int .i64 0, .slice none 0 0] 57) = w2 at *
  replace X0 := (X0.below B1).below B2
  replace X1 := X1.below B2
  have K2 : But g w w2 := But.of_below (below_then (below_then B0 B1) B2)
  have S2 : SrcAt w2 g (stN seed i) := Blk.below hS (below_then (below_then B0 B1) B2)
  have c1 : w2.cell? ⟨w.heap.size, 1, none⟩ = some (.int .i64 D) := X0.cell 1 rfl
  go_enter Try.func28, Try.ntmps28
  go_wp2_with fail
  clear hw0 hw1 hw2 s0 s1 B0 B1 B2 hS
  refine (gains_any g seed (i) D _ S2 (by omega)).mono ?_
  rintro e v0 ⟨f, rfl, Ff, S3, K3⟩
  replace Ff := Ff.mono K2.size
  replace X0 := X0.but K3 (by omega)
  replace X1 := X1.but K3 (by omega)
  replace X2 := X2.but K3 (by omega)
  replace K2 := K2.trans K3
  clear S2 K3 c1
  have fr0 := X2.frozen 0
  have cc0 : v0.cell? ⟨w.heap.size + 1 + 1, 0, none⟩ = some (.slice none 0 0) := X2.cell 0 rfl
  have X3 : Blk (v0.setCell ⟨w.heap.size + 1 + 1, 0, none⟩ (.slice (some ⟨f, 0, none⟩) (D) (D))) (w.heap.size + 1 + 1) 57 #[.slice (some ⟨f, 0, none⟩) (D) (D), .int .i64 0, .int .i64 0, .slice none 0 0, .int .i64 0, .int .i64 0, .slice none 0 0, .int .i64 0, .int .i64 0, .slice none 0 0, .int .i64 0, .int .i64 0, .slice none 0 0, .slice none 0 0, .int .i64 0, .int .i64 0, .slice none 0 0, .int .i64 0, .int .i64 0, .slice none 0 0] := (X2.set 0 (.slice (some ⟨f, 0, none⟩) (D) (D)))
  have Y0 := (Blk.other (a := ⟨w.heap.size + 1 + 1, 0, none⟩) X0 (by show w.heap.size ≠ w.heap.size + 1 + 1; omega) (.slice (some ⟨f, 0, none⟩) (D) (D)))
  have Y1 := (Blk.other (a := ⟨w.heap.size + 1 + 1, 0, none⟩) X1 (by show w.heap.size + 1 ≠ w.heap.size + 1 + 1; omega) (.slice (some ⟨f, 0, none⟩) (D) (D)))
  have S4 : SrcAt (v0.setCell ⟨w.heap.size + 1 + 1, 0, none⟩ (.slice (some ⟨f, 0, none⟩) (D) (D))) g _ := (Blk.other (a := ⟨w.heap.size + 1 + 1, 0, none⟩) S3 (by show g ≠ w.heap.size + 1 + 1; omega) (.slice (some ⟨f, 0, none⟩) (D) (D)))
  have K4 := (K2.set (a := ⟨w.heap.size + 1 + 1, 0, none⟩) (Or.inr (by show w.heap.size ≤ w.heap.size + 1 + 1; omega)) (.slice (some ⟨f, 0, none⟩) (D) (D)))
  have nef : f ≠ w.heap.size + 1 + 1 := by rintro rfl; obtain ⟨c9, h9, _⟩ := Ff.row; rw [X2] at h9; simp at h9
  have Gf := (Ff.setOther (a := ⟨w.heap.size + 1 + 1, 0, none⟩) nef (.slice (some ⟨f, 0, none⟩) (D) (D)))
  replace Y0 : Blk (v0.setCell ⟨w.heap.size + 1 + 1, 0, none⟩ (.slice (some ⟨f, 0, none⟩) (D) (D))) w.heap.size _ _ := Y0
  replace Y1 : Blk (v0.setCell ⟨w.heap.size + 1 + 1, 0, none⟩ (.slice (some ⟨f, 0, none⟩) (D) (D))) (w.heap.size + 1) _ _ := Y1
  generalize hx0 : v0.setCell ⟨w.heap.size + 1 + 1, 0, none⟩ (.slice (some ⟨f, 0, none⟩) (D) (D)) = x0 at *
  clear X0 X1 X2 S3 K2 Ff nef
  have X0 := Y0
  clear Y0
  have X1 := Y1
  clear Y1
  have X2 := X3
  clear X3
  have S2 := S4
  clear S4
  have K2 := K4
  clear K4
  have Ff := Gf
  clear Gf
  have c1 : x0.cell? ⟨w.heap.size, 1, none⟩ = some (.int .i64 D) := X0.cell 1 rfl
  go_wp2_with fail
  clear hx0
  refine (matrix_any g seed (i + D) D D 65536 _ S2 (by omega) (by omega) (by omega) (by omega)).mono ?_
  rintro e v1 ⟨q, rfl, Fq, S3, K3⟩
  unfold matV
  replace Fq := Fq.mono K2.size
  replace Ff := Ff.but K3 hg
  replace X0 := X0.but K3 (by omega)
  replace X1 := X1.but K3 (by omega)
  replace X2 := X2.but K3 (by omega)
  replace K2 := K2.trans K3
  clear S2 K3 c1
  have fr0 := X2.frozen 1
  have cc0 : v1.cell? ⟨w.heap.size + 1 + 1, 1, none⟩ = some (.int .i64 0) := X2.cell 1 rfl
  have fr1 := X2.frozen 2
  have cc1 : v1.cell? ⟨w.heap.size + 1 + 1, 2, none⟩ = some (.int .i64 0) := X2.cell 2 rfl
  have fr2 := X2.frozen 3
  have cc2 : v1.cell? ⟨w.heap.size + 1 + 1, 3, none⟩ = some (.slice none 0 0) := X2.cell 3 rfl
  have X3 : Blk (((v1.setCell ⟨w.heap.size + 1 + 1, 1, none⟩ (.int .i64 D)).setCell ⟨w.heap.size + 1 + 1, 2, none⟩ (.int .i64 D)).setCell ⟨w.heap.size + 1 + 1, 3, none⟩ (.slice (some ⟨q, 0, none⟩) (D * D) (D * D))) (w.heap.size + 1 + 1) 57 #[.slice (some ⟨f, 0, none⟩) (D) (D), .int .i64 D, .int .i64 D, .slice (some ⟨q, 0, none⟩) (D * D) (D * D), .int .i64 0, .int .i64 0, .slice none 0 0, .int .i64 0, .int .i64 0, .slice none 0 0, .int .i64 0, .int .i64 0, .slice none 0 0, .slice none 0 0, .int .i64 0, .int .i64 0, .slice none 0 0, .int .i64 0, .int .i64 0, .slice none 0 0] := (((X2.set 1 (.int .i64 D)).set 2 (.int .i64 D)).set 3 (.slice (some ⟨q, 0, none⟩) (D * D) (D * D)))
  have Y0 := (Blk.other (a := ⟨w.heap.size + 1 + 1, 3, none⟩) (Blk.other (a := ⟨w.heap.size + 1 + 1, 2, none⟩) (Blk.other (a := ⟨w.heap.size + 1 + 1, 1, none⟩) X0 (by show w.heap.size ≠ w.heap.size + 1 + 1; omega) (.int .i64 D)) (by show w.heap.size ≠ w.heap.size + 1 + 1; omega) (.int .i64 D)) (by show w.heap.size ≠ w.heap.size + 1 + 1; omega) (.slice (some ⟨q, 0, none⟩) (D * D) (D * D)))
  have Y1 := (Blk.other (a := ⟨w.heap.size + 1 + 1, 3, none⟩) (Blk.other (a := ⟨w.heap.size + 1 + 1, 2, none⟩) (Blk.other (a := ⟨w.heap.size + 1 + 1, 1, none⟩) X1 (by show w.heap.size + 1 ≠ w.heap.size + 1 + 1; omega) (.int .i64 D)) (by show w.heap.size + 1 ≠ w.heap.size + 1 + 1; omega) (.int .i64 D)) (by show w.heap.size + 1 ≠ w.heap.size + 1 + 1; omega) (.slice (some ⟨q, 0, none⟩) (D * D) (D * D)))
  have S4 : SrcAt (((v1.setCell ⟨w.heap.size + 1 + 1, 1, none⟩ (.int .i64 D)).setCell ⟨w.heap.size + 1 + 1, 2, none⟩ (.int .i64 D)).setCell ⟨w.heap.size + 1 + 1, 3, none⟩ (.slice (some ⟨q, 0, none⟩) (D * D) (D * D))) g _ := (Blk.other (a := ⟨w.heap.size + 1 + 1, 3, none⟩) (Blk.other (a := ⟨w.heap.size + 1 + 1, 2, none⟩) (Blk.other (a := ⟨w.heap.size + 1 + 1, 1, none⟩) S3 (by show g ≠ w.heap.size + 1 + 1; omega) (.int .i64 D)) (by show g ≠ w.heap.size + 1 + 1; omega) (.int .i64 D)) (by show g ≠ w.heap.size + 1 + 1; omega) (.slice (some ⟨q, 0, none⟩) (D * D) (D * D)))
  have K4 := (((K2.set (a := ⟨w.heap.size + 1 + 1, 1, none⟩) (Or.inr (by show w.heap.size ≤ w.heap.size + 1 + 1; omega)) (.int .i64 D)).set (a := ⟨w.heap.size + 1 + 1, 2, none⟩) (Or.inr (by show w.heap.size ≤ w.heap.size + 1 + 1; omega)) (.int .i64 D)).set (a := ⟨w.heap.size + 1 + 1, 3, none⟩) (Or.inr (by show w.heap.size ≤ w.heap.size + 1 + 1; omega)) (.slice (some ⟨q, 0, none⟩) (D * D) (D * D)))
  have nef : f ≠ w.heap.size + 1 + 1 := by rintro rfl; obtain ⟨c9, h9, _⟩ := Ff.row; rw [X2] at h9; simp at h9
  have Gf := (((Ff.setOther (a := ⟨w.heap.size + 1 + 1, 1, none⟩) nef (.int .i64 D)).setOther (a := ⟨w.heap.size + 1 + 1, 2, none⟩) nef (.int .i64 D)).setOther (a := ⟨w.heap.size + 1 + 1, 3, none⟩) nef (.slice (some ⟨q, 0, none⟩) (D * D) (D * D)))
  have neq : q ≠ w.heap.size + 1 + 1 := by rintro rfl; obtain ⟨c9, h9, _⟩ := Fq.row; rw [X2] at h9; simp at h9
  have Gq := (((Fq.setOther (a := ⟨w.heap.size + 1 + 1, 1, none⟩) neq (.int .i64 D)).setOther (a := ⟨w.heap.size + 1 + 1, 2, none⟩) neq (.int .i64 D)).setOther (a := ⟨w.heap.size + 1 + 1, 3, none⟩) neq (.slice (some ⟨q, 0, none⟩) (D * D) (D * D)))
  replace Y0 : Blk (((v1.setCell ⟨w.heap.size + 1 + 1, 1, none⟩ (.int .i64 D)).setCell ⟨w.heap.size + 1 + 1, 2, none⟩ (.int .i64 D)).setCell ⟨w.heap.size + 1 + 1, 3, none⟩ (.slice (some ⟨q, 0, none⟩) (D * D) (D * D))) w.heap.size _ _ := Y0
  replace Y1 : Blk (((v1.setCell ⟨w.heap.size + 1 + 1, 1, none⟩ (.int .i64 D)).setCell ⟨w.heap.size + 1 + 1, 2, none⟩ (.int .i64 D)).setCell ⟨w.heap.size + 1 + 1, 3, none⟩ (.slice (some ⟨q, 0, none⟩) (D * D) (D * D))) (w.heap.size + 1) _ _ := Y1
  generalize hx1 : ((v1.setCell ⟨w.heap.size + 1 + 1, 1, none⟩ (.int .i64 D)).setCell ⟨w.heap.size + 1 + 1, 2, none⟩ (.int .i64 D)).setCell ⟨w.heap.size + 1 + 1, 3, none⟩ (.slice (some ⟨q, 0, none⟩) (D * D) (D * D)) = x1 at *
  clear X0 X1 X2 S3 K2 Ff Fq nef neq
  have X0 := Y0
  clear Y0
  have X1 := Y1
  clear Y1
  have X2 := X3
  clear X3
  have S2 := S4
  clear S4
  have K2 := K4
  clear K4
  have Ff := Gf
  clear Gf
  have Fq := Gq
  clear Gq
  have c1 : x1.cell? ⟨w.heap.size, 1, none⟩ = some (.int .i64 D) := X0.cell 1 rfl
  go_wp2_with fail
  clear hx1
  refine (matrix_any g seed (i + D + D * D) D D 65536 _ S2 (by omega) (by omega) (by omega) (by omega)).mono ?_
  rintro e v2 ⟨k, rfl, Fk, S3, K3⟩
  unfold matV
  replace Fk := Fk.mono K2.size
  replace Ff := Ff.but K3 hg
  replace Fq := Fq.but K3 hg
  replace X0 := X0.but K3 (by omega)
  replace X1 := X1.but K3 (by omega)
  replace X2 := X2.but K3 (by omega)
  replace K2 := K2.trans K3
  clear S2 K3 c1
  have fr0 := X2.frozen 4
  have cc0 : v2.cell? ⟨w.heap.size + 1 + 1, 4, none⟩ = some (.int .i64 0) := X2.cell 4 rfl
  have fr1 := X2.frozen 5
  have cc1 : v2.cell? ⟨w.heap.size + 1 + 1, 5, none⟩ = some (.int .i64 0) := X2.cell 5 rfl
  have fr2 := X2.frozen 6
  have cc2 : v2.cell? ⟨w.heap.size + 1 + 1, 6, none⟩ = some (.slice none 0 0) := X2.cell 6 rfl
  have X3 : Blk (((v2.setCell ⟨w.heap.size + 1 + 1, 4, none⟩ (.int .i64 D)).setCell ⟨w.heap.size + 1 + 1, 5, none⟩ (.int .i64 D)).setCell ⟨w.heap.size + 1 + 1, 6, none⟩ (.slice (some ⟨k, 0, none⟩) (D * D) (D * D))) (w.heap.size + 1 + 1) 57 #[.slice (some ⟨f, 0, none⟩) (D) (D), .int .i64 D, .int .i64 D, .slice (some ⟨q, 0, none⟩) (D * D) (D * D), .int .i64 D, .int .i64 D, .slice (some ⟨k, 0, none⟩) (D * D) (D * D), .int .i64 0, .int .i64 0, .slice none 0 0, .int .i64 0, .int .i64 0, .slice none 0 0, .slice none 0 0, .int .i64 0, .int .i64 0, .slice none 0 0, .int .i64 0, .int .i64 0, .slice none 0 0] := (((X2.set 4 (.int .i64 D)).set 5 (.int .i64 D)).set 6 (.slice (some ⟨k, 0, none⟩) (D * D) (D * D)))
  have Y0 := (Blk.other (a := ⟨w.heap.size + 1 + 1, 6, none⟩) (Blk.other (a := ⟨w.heap.size + 1 + 1, 5, none⟩) (Blk.other (a := ⟨w.heap.size + 1 + 1, 4, none⟩) X0 (by show w.heap.size ≠ w.heap.size + 1 + 1; omega) (.int .i64 D)) (by show w.heap.size ≠ w.heap.size + 1 + 1; omega) (.int .i64 D)) (by show w.heap.size ≠ w.heap.size + 1 + 1; omega) (.slice (some ⟨k, 0, none⟩) (D * D) (D * D)))
  have Y1 := (Blk.other (a := ⟨w.heap.size + 1 + 1, 6, none⟩) (Blk.other (a := ⟨w.heap.size + 1 + 1, 5, none⟩) (Blk.other (a := ⟨w.heap.size + 1 + 1, 4, none⟩) X1 (by show w.heap.size + 1 ≠ w.heap.size + 1 + 1; omega) (.int .i64 D)) (by show w.heap.size + 1 ≠ w.heap.size + 1 + 1; omega) (.int .i64 D)) (by show w.heap.size + 1 ≠ w.heap.size + 1 + 1; omega) (.slice (some ⟨k, 0, none⟩) (D * D) (D * D)))
  have S4 : SrcAt (((v2.setCell ⟨w.heap.size + 1 + 1, 4, none⟩ (.int .i64 D)).setCell ⟨w.heap.size + 1 + 1, 5, none⟩ (.int .i64 D)).setCell ⟨w.heap.size + 1 + 1, 6, none⟩ (.slice (some ⟨k, 0, none⟩) (D * D) (D * D))) g _ := (Blk.other (a := ⟨w.heap.size + 1 + 1, 6, none⟩) (Blk.other (a := ⟨w.heap.size + 1 + 1, 5, none⟩) (Blk.other (a := ⟨w.heap.size + 1 + 1, 4, none⟩) S3 (by show g ≠ w.heap.size + 1 + 1; omega) (.int .i64 D)) (by show g ≠ w.heap.size + 1 + 1; omega) (.int .i64 D)) (by show g ≠ w.heap.size + 1 + 1; omega) (.slice (some ⟨k, 0, none⟩) (D * D) (D * D)))
  have K4 := (((K2.set (a := ⟨w.heap.size + 1 + 1, 4, none⟩) (Or.inr (by show w.heap.size ≤ w.heap.size + 1 + 1; omega)) (.int .i64 D)).set (a := ⟨w.heap.size + 1 + 1, 5, none⟩) (Or.inr (by show w.heap.size ≤ w.heap.size + 1 + 1; omega)) (.int .i64 D)).set (a := ⟨w.heap.size + 1 + 1, 6, none⟩) (Or.inr (by show w.heap.size ≤ w.heap.size + 1 + 1; omega)) (.slice (some ⟨k, 0, none⟩) (D * D) (D * D)))
  have nef : f ≠ w.heap.size + 1 + 1 := by rintro rfl; obtain ⟨c9, h9, _⟩ := Ff.row; rw [X2] at h9; simp at h9
  have Gf := (((Ff.setOther (a := ⟨w.heap.size + 1 + 1, 4, none⟩) nef (.int .i64 D)).setOther (a := ⟨w.heap.size + 1 + 1, 5, none⟩) nef (.int .i64 D)).setOther (a := ⟨w.heap.size + 1 + 1, 6, none⟩) nef (.slice (some ⟨k, 0, none⟩) (D * D) (D * D)))
  have neq : q ≠ w.heap.size + 1 + 1 := by rintro rfl; obtain ⟨c9, h9, _⟩ := Fq.row; rw [X2] at h9; simp at h9
  have Gq := (((Fq.setOther (a := ⟨w.heap.size + 1 + 1, 4, none⟩) neq (.int .i64 D)).setOther (a := ⟨w.heap.size + 1 + 1, 5, none⟩) neq (.int .i64 D)).setOther (a := ⟨w.heap.size + 1 + 1, 6, none⟩) neq (.slice (some ⟨k, 0, none⟩) (D * D) (D * D)))
  have nek : k ≠ w.heap.size + 1 + 1 := by rintro rfl; obtain ⟨c9, h9, _⟩ := Fk.row; rw [X2] at h9; simp at h9
  have Gk := (((Fk.setOther (a := ⟨w.heap.size + 1 + 1, 4, none⟩) nek (.int .i64 D)).setOther (a := ⟨w.heap.size + 1 + 1, 5, none⟩) nek (.int .i64 D)).setOther (a := ⟨w.heap.size + 1 + 1, 6, none⟩) nek (.slice (some ⟨k, 0, none⟩) (D * D) (D * D)))
  replace Y0 : Blk (((v2.setCell ⟨w.heap.size + 1 + 1, 4, none⟩ (.int .i64 D)).setCell ⟨w.heap.size + 1 + 1, 5, none⟩ (.int .i64 D)).setCell ⟨w.heap.size + 1 + 1, 6, none⟩ (.slice (some ⟨k, 0, none⟩) (D * D) (D * D))) w.heap.size _ _ := Y0
  replace Y1 : Blk (((v2.setCell ⟨w.heap.size + 1 + 1, 4, none⟩ (.int .i64 D)).setCell ⟨w.heap.size + 1 + 1, 5, none⟩ (.int .i64 D)).setCell ⟨w.heap.size + 1 + 1, 6, none⟩ (.slice (some ⟨k, 0, none⟩) (D * D) (D * D))) (w.heap.size + 1) _ _ := Y1
  generalize hx2 : ((v2.setCell ⟨w.heap.size + 1 + 1, 4, none⟩ (.int .i64 D)).setCell ⟨w.heap.size + 1 + 1, 5, none⟩ (.int .i64 D)).setCell ⟨w.heap.size + 1 + 1, 6, none⟩ (.slice (some ⟨k, 0, none⟩) (D * D) (D * D)) = x2 at *
  clear X0 X1 X2 S3 K2 Ff Fq Fk nef neq nek
  have X0 := Y0
  clear Y0
  have X1 := Y1
  clear Y1
  have X2 := X3
  clear X3
  have S2 := S4
  clear S4
  have K2 := K4
  clear K4
  have Ff := Gf
  clear Gf
  have Fq := Gq
  clear Gq
  have Fk := Gk
  clear Gk
  have c1 : x2.cell? ⟨w.heap.size, 1, none⟩ = some (.int .i64 D) := X0.cell 1 rfl
  go_wp2_with fail
  clear hx2
  refine (matrix_any g seed (i + D + D * D + D * D) D D 65536 _ S2 (by omega) (by omega) (by omega) (by omega)).mono ?_
  rintro e v3 ⟨v, rfl, Fv, S3, K3⟩
  unfold matV
  replace Fv := Fv.mono K2.size
  replace Ff := Ff.but K3 hg
  replace Fq := Fq.but K3 hg
  replace Fk := Fk.but K3 hg
  replace X0 := X0.but K3 (by omega)
  replace X1 := X1.but K3 (by omega)
  replace X2 := X2.but K3 (by omega)
  replace K2 := K2.trans K3
  clear S2 K3 c1
  have fr0 := X2.frozen 7
  have cc0 : v3.cell? ⟨w.heap.size + 1 + 1, 7, none⟩ = some (.int .i64 0) := X2.cell 7 rfl
  have fr1 := X2.frozen 8
  have cc1 : v3.cell? ⟨w.heap.size + 1 + 1, 8, none⟩ = some (.int .i64 0) := X2.cell 8 rfl
  have fr2 := X2.frozen 9
  have cc2 : v3.cell? ⟨w.heap.size + 1 + 1, 9, none⟩ = some (.slice none 0 0) := X2.cell 9 rfl
  have X3 : Blk (((v3.setCell ⟨w.heap.size + 1 + 1, 7, none⟩ (.int .i64 D)).setCell ⟨w.heap.size + 1 + 1, 8, none⟩ (.int .i64 D)).setCell ⟨w.heap.size + 1 + 1, 9, none⟩ (.slice (some ⟨v, 0, none⟩) (D * D) (D * D))) (w.heap.size + 1 + 1) 57 #[.slice (some ⟨f, 0, none⟩) (D) (D), .int .i64 D, .int .i64 D, .slice (some ⟨q, 0, none⟩) (D * D) (D * D), .int .i64 D, .int .i64 D, .slice (some ⟨k, 0, none⟩) (D * D) (D * D), .int .i64 D, .int .i64 D, .slice (some ⟨v, 0, none⟩) (D * D) (D * D), .int .i64 0, .int .i64 0, .slice none 0 0, .slice none 0 0, .int .i64 0, .int .i64 0, .slice none 0 0, .int .i64 0, .int .i64 0, .slice none 0 0] := (((X2.set 7 (.int .i64 D)).set 8 (.int .i64 D)).set 9 (.slice (some ⟨v, 0, none⟩) (D * D) (D * D)))
  have Y0 := (Blk.other (a := ⟨w.heap.size + 1 + 1, 9, none⟩) (Blk.other (a := ⟨w.heap.size + 1 + 1, 8, none⟩) (Blk.other (a := ⟨w.heap.size + 1 + 1, 7, none⟩) X0 (by show w.heap.size ≠ w.heap.size + 1 + 1; omega) (.int .i64 D)) (by show w.heap.size ≠ w.heap.size + 1 + 1; omega) (.int .i64 D)) (by show w.heap.size ≠ w.heap.size + 1 + 1; omega) (.slice (some ⟨v, 0, none⟩) (D * D) (D * D)))
  have Y1 := (Blk.other (a := ⟨w.heap.size + 1 + 1, 9, none⟩) (Blk.other (a := ⟨w.heap.size + 1 + 1, 8, none⟩) (Blk.other (a := ⟨w.heap.size + 1 + 1, 7, none⟩) X1 (by show w.heap.size + 1 ≠ w.heap.size + 1 + 1; omega) (.int .i64 D)) (by show w.heap.size + 1 ≠ w.heap.size + 1 + 1; omega) (.int .i64 D)) (by show w.heap.size + 1 ≠ w.heap.size + 1 + 1; omega) (.slice (some ⟨v, 0, none⟩) (D * D) (D * D)))
  have S4 : SrcAt (((v3.setCell ⟨w.heap.size + 1 + 1, 7, none⟩ (.int .i64 D)).setCell ⟨w.heap.size + 1 + 1, 8, none⟩ (.int .i64 D)).setCell ⟨w.heap.size + 1 + 1, 9, none⟩ (.slice (some ⟨v, 0, none⟩) (D * D) (D * D))) g _ := (Blk.other (a := ⟨w.heap.size + 1 + 1, 9, none⟩) (Blk.other (a := ⟨w.heap.size + 1 + 1, 8, none⟩) (Blk.other (a := ⟨w.heap.size + 1 + 1, 7, none⟩) S3 (by show g ≠ w.heap.size + 1 + 1; omega) (.int .i64 D)) (by show g ≠ w.heap.size + 1 + 1; omega) (.int .i64 D)) (by show g ≠ w.heap.size + 1 + 1; omega) (.slice (some ⟨v, 0, none⟩) (D * D) (D * D)))
  have K4 := (((K2.set (a := ⟨w.heap.size + 1 + 1, 7, none⟩) (Or.inr (by show w.heap.size ≤ w.heap.size + 1 + 1; omega)) (.int .i64 D)).set (a := ⟨w.heap.size + 1 + 1, 8, none⟩) (Or.inr (by show w.heap.size ≤ w.heap.size + 1 + 1; omega)) (.int .i64 D)).set (a := ⟨w.heap.size + 1 + 1, 9, none⟩) (Or.inr (by show w.heap.size ≤ w.heap.size + 1 + 1; omega)) (.slice (some ⟨v, 0, none⟩) (D * D) (D * D)))
  have nef : f ≠ w.heap.size + 1 + 1 := by rintro rfl; obtain ⟨c9, h9, _⟩ := Ff.row; rw [X2] at h9; simp at h9
  have Gf := (((Ff.setOther (a := ⟨w.heap.size + 1 + 1, 7, none⟩) nef (.int .i64 D)).setOther (a := ⟨w.heap.size + 1 + 1, 8, none⟩) nef (.int .i64 D)).setOther (a := ⟨w.heap.size + 1 + 1, 9, none⟩) nef (.slice (some ⟨v, 0, none⟩) (D * D) (D * D)))
  have neq : q ≠ w.heap.size + 1 + 1 := by rintro rfl; obtain ⟨c9, h9, _⟩ := Fq.row; rw [X2] at h9; simp at h9
  have Gq := (((Fq.setOther (a := ⟨w.heap.size + 1 + 1, 7, none⟩) neq (.int .i64 D)).setOther (a := ⟨w.heap.size + 1 + 1, 8, none⟩) neq (.int .i64 D)).setOther (a := ⟨w.heap.size + 1 + 1, 9, none⟩) neq (.slice (some ⟨v, 0, none⟩) (D * D) (D * D)))
  have nek : k ≠ w.heap.size + 1 + 1 := by rintro rfl; obtain ⟨c9, h9, _⟩ := Fk.row; rw [X2] at h9; simp at h9
  have Gk := (((Fk.setOther (a := ⟨w.heap.size + 1 + 1, 7, none⟩) nek (.int .i64 D)).setOther (a := ⟨w.heap.size + 1 + 1, 8, none⟩) nek (.int .i64 D)).setOther (a := ⟨w.heap.size + 1 + 1, 9, none⟩) nek (.slice (some ⟨v, 0, none⟩) (D * D) (D * D)))
  have nev : v ≠ w.heap.size + 1 + 1 := by rintro rfl; obtain ⟨c9, h9, _⟩ := Fv.row; rw [X2] at h9; simp at h9
  have Gv := (((Fv.setOther (a := ⟨w.heap.size + 1 + 1, 7, none⟩) nev (.int .i64 D)).setOther (a := ⟨w.heap.size + 1 + 1, 8, none⟩) nev (.int .i64 D)).setOther (a := ⟨w.heap.size + 1 + 1, 9, none⟩) nev (.slice (some ⟨v, 0, none⟩) (D * D) (D * D)))
  replace Y0 : Blk (((v3.setCell ⟨w.heap.size + 1 + 1, 7, none⟩ (.int .i64 D)).setCell ⟨w.heap.size + 1 + 1, 8, none⟩ (.int .i64 D)).setCell ⟨w.heap.size + 1 + 1, 9, none⟩ (.slice (some ⟨v, 0, none⟩) (D * D) (D * D))) w.heap.size _ _ := Y0
  replace Y1 : Blk (((v3.setCell ⟨w.heap.size + 1 + 1, 7, none⟩ (.int .i64 D)).setCell ⟨w.heap.size + 1 + 1, 8, none⟩ (.int .i64 D)).setCell ⟨w.heap.size + 1 + 1, 9, none⟩ (.slice (some ⟨v, 0, none⟩) (D * D) (D * D))) (w.heap.size + 1) _ _ := Y1
  generalize hx3 : ((v3.setCell ⟨w.heap.size + 1 + 1, 7, none⟩ (.int .i64 D)).setCell ⟨w.heap.size + 1 + 1, 8, none⟩ (.int .i64 D)).setCell ⟨w.heap.size + 1 + 1, 9, none⟩ (.slice (some ⟨v, 0, none⟩) (D * D) (D * D)) = x3 at *
  clear X0 X1 X2 S3 K2 Ff Fq Fk Fv nef neq nek nev
  have X0 := Y0
  clear Y0
  have X1 := Y1
  clear Y1
  have X2 := X3
  clear X3
  have S2 := S4
  clear S4
  have K2 := K4
  clear K4
  have Ff := Gf
  clear Gf
  have Fq := Gq
  clear Gq
  have Fk := Gk
  clear Gk
  have Fv := Gv
  clear Gv
  have c1 : x3.cell? ⟨w.heap.size, 1, none⟩ = some (.int .i64 D) := X0.cell 1 rfl
  go_wp2_with fail
  clear hx3
  refine (matrix_any g seed (i + D + D * D + D * D + D * D) D D 65536 _ S2 (by omega) (by omega) (by omega) (by omega)).mono ?_
  rintro e v4 ⟨o, rfl, Fo, S3, K3⟩
  unfold matV
  replace Fo := Fo.mono K2.size
  replace Ff := Ff.but K3 hg
  replace Fq := Fq.but K3 hg
  replace Fk := Fk.but K3 hg
  replace Fv := Fv.but K3 hg
  replace X0 := X0.but K3 (by omega)
  replace X1 := X1.but K3 (by omega)
  replace X2 := X2.but K3 (by omega)
  replace K2 := K2.trans K3
  clear S2 K3 c1
  have fr0 := X2.frozen 10
  have cc0 : v4.cell? ⟨w.heap.size + 1 + 1, 10, none⟩ = some (.int .i64 0) := X2.cell 10 rfl
  have fr1 := X2.frozen 11
  have cc1 : v4.cell? ⟨w.heap.size + 1 + 1, 11, none⟩ = some (.int .i64 0) := X2.cell 11 rfl
  have fr2 := X2.frozen 12
  have cc2 : v4.cell? ⟨w.heap.size + 1 + 1, 12, none⟩ = some (.slice none 0 0) := X2.cell 12 rfl
  have X3 : Blk (((v4.setCell ⟨w.heap.size + 1 + 1, 10, none⟩ (.int .i64 D)).setCell ⟨w.heap.size + 1 + 1, 11, none⟩ (.int .i64 D)).setCell ⟨w.heap.size + 1 + 1, 12, none⟩ (.slice (some ⟨o, 0, none⟩) (D * D) (D * D))) (w.heap.size + 1 + 1) 57 #[.slice (some ⟨f, 0, none⟩) (D) (D), .int .i64 D, .int .i64 D, .slice (some ⟨q, 0, none⟩) (D * D) (D * D), .int .i64 D, .int .i64 D, .slice (some ⟨k, 0, none⟩) (D * D) (D * D), .int .i64 D, .int .i64 D, .slice (some ⟨v, 0, none⟩) (D * D) (D * D), .int .i64 D, .int .i64 D, .slice (some ⟨o, 0, none⟩) (D * D) (D * D), .slice none 0 0, .int .i64 0, .int .i64 0, .slice none 0 0, .int .i64 0, .int .i64 0, .slice none 0 0] := (((X2.set 10 (.int .i64 D)).set 11 (.int .i64 D)).set 12 (.slice (some ⟨o, 0, none⟩) (D * D) (D * D)))
  have Y0 := (Blk.other (a := ⟨w.heap.size + 1 + 1, 12, none⟩) (Blk.other (a := ⟨w.heap.size + 1 + 1, 11, none⟩) (Blk.other (a := ⟨w.heap.size + 1 + 1, 10, none⟩) X0 (by show w.heap.size ≠ w.heap.size + 1 + 1; omega) (.int .i64 D)) (by show w.heap.size ≠ w.heap.size + 1 + 1; omega) (.int .i64 D)) (by show w.heap.size ≠ w.heap.size + 1 + 1; omega) (.slice (some ⟨o, 0, none⟩) (D * D) (D * D)))
  have Y1 := (Blk.other (a := ⟨w.heap.size + 1 + 1, 12, none⟩) (Blk.other (a := ⟨w.heap.size + 1 + 1, 11, none⟩) (Blk.other (a := ⟨w.heap.size + 1 + 1, 10, none⟩) X1 (by show w.heap.size + 1 ≠ w.heap.size + 1 + 1; omega) (.int .i64 D)) (by show w.heap.size + 1 ≠ w.heap.size + 1 + 1; omega) (.int .i64 D)) (by show w.heap.size + 1 ≠ w.heap.size + 1 + 1; omega) (.slice (some ⟨o, 0, none⟩) (D * D) (D * D)))
  have S4 : SrcAt (((v4.setCell ⟨w.heap.size + 1 + 1, 10, none⟩ (.int .i64 D)).setCell ⟨w.heap.size + 1 + 1, 11, none⟩ (.int .i64 D)).setCell ⟨w.heap.size + 1 + 1, 12, none⟩ (.slice (some ⟨o, 0, none⟩) (D * D) (D * D))) g _ := (Blk.other (a := ⟨w.heap.size + 1 + 1, 12, none⟩) (Blk.other (a := ⟨w.heap.size + 1 + 1, 11, none⟩) (Blk.other (a := ⟨w.heap.size + 1 + 1, 10, none⟩) S3 (by show g ≠ w.heap.size + 1 + 1; omega) (.int .i64 D)) (by show g ≠ w.heap.size + 1 + 1; omega) (.int .i64 D)) (by show g ≠ w.heap.size + 1 + 1; omega) (.slice (some ⟨o, 0, none⟩) (D * D) (D * D)))
  have K4 := (((K2.set (a := ⟨w.heap.size + 1 + 1, 10, none⟩) (Or.inr (by show w.heap.size ≤ w.heap.size + 1 + 1; omega)) (.int .i64 D)).set (a := ⟨w.heap.size + 1 + 1, 11, none⟩) (Or.inr (by show w.heap.size ≤ w.heap.size + 1 + 1; omega)) (.int .i64 D)).set (a := ⟨w.heap.size + 1 + 1, 12, none⟩) (Or.inr (by show w.heap.size ≤ w.heap.size + 1 + 1; omega)) (.slice (some ⟨o, 0, none⟩) (D * D) (D * D)))
  have nef : f ≠ w.heap.size + 1 + 1 := by rintro rfl; obtain ⟨c9, h9, _⟩ := Ff.row; rw [X2] at h9; simp at h9
  have Gf := (((Ff.setOther (a := ⟨w.heap.size + 1 + 1, 10, none⟩) nef (.int .i64 D)).setOther (a := ⟨w.heap.size + 1 + 1, 11, none⟩) nef (.int .i64 D)).setOther (a := ⟨w.heap.size + 1 + 1, 12, none⟩) nef (.slice (some ⟨o, 0, none⟩) (D * D) (D * D)))
  have neq : q ≠ w.heap.size + 1 + 1 := by rintro rfl; obtain ⟨c9, h9, _⟩ := Fq.row; rw [X2] at h9; simp at h9
  have Gq := (((Fq.setOther (a := ⟨w.heap.size + 1 + 1, 10, none⟩) neq (.int .i64 D)).setOther (a := ⟨w.heap.size + 1 + 1, 11, none⟩) neq (.int .i64 D)).setOther (a := ⟨w.heap.size + 1 + 1, 12, none⟩) neq (.slice (some ⟨o, 0, none⟩) (D * D) (D * D)))
  have nek : k ≠ w.heap.size + 1 + 1 := by rintro rfl; obtain ⟨c9, h9, _⟩ := Fk.row; rw [X2] at h9; simp at h9
  have Gk := (((Fk.setOther (a := ⟨w.heap.size + 1 + 1, 10, none⟩) nek (.int .i64 D)).setOther (a := ⟨w.heap.size + 1 + 1, 11, none⟩) nek (.int .i64 D)).setOther (a := ⟨w.heap.size + 1 + 1, 12, none⟩) nek (.slice (some ⟨o, 0, none⟩) (D * D) (D * D)))
  have nev : v ≠ w.heap.size + 1 + 1 := by rintro rfl; obtain ⟨c9, h9, _⟩ := Fv.row; rw [X2] at h9; simp at h9
  have Gv := (((Fv.setOther (a := ⟨w.heap.size + 1 + 1, 10, none⟩) nev (.int .i64 D)).setOther (a := ⟨w.heap.size + 1 + 1, 11, none⟩) nev (.int .i64 D)).setOther (a := ⟨w.heap.size + 1 + 1, 12, none⟩) nev (.slice (some ⟨o, 0, none⟩) (D * D) (D * D)))
  have neo : o ≠ w.heap.size + 1 + 1 := by rintro rfl; obtain ⟨c9, h9, _⟩ := Fo.row; rw [X2] at h9; simp at h9
  have Go := (((Fo.setOther (a := ⟨w.heap.size + 1 + 1, 10, none⟩) neo (.int .i64 D)).setOther (a := ⟨w.heap.size + 1 + 1, 11, none⟩) neo (.int .i64 D)).setOther (a := ⟨w.heap.size + 1 + 1, 12, none⟩) neo (.slice (some ⟨o, 0, none⟩) (D * D) (D * D)))
  replace Y0 : Blk (((v4.setCell ⟨w.heap.size + 1 + 1, 10, none⟩ (.int .i64 D)).setCell ⟨w.heap.size + 1 + 1, 11, none⟩ (.int .i64 D)).setCell ⟨w.heap.size + 1 + 1, 12, none⟩ (.slice (some ⟨o, 0, none⟩) (D * D) (D * D))) w.heap.size _ _ := Y0
  replace Y1 : Blk (((v4.setCell ⟨w.heap.size + 1 + 1, 10, none⟩ (.int .i64 D)).setCell ⟨w.heap.size + 1 + 1, 11, none⟩ (.int .i64 D)).setCell ⟨w.heap.size + 1 + 1, 12, none⟩ (.slice (some ⟨o, 0, none⟩) (D * D) (D * D))) (w.heap.size + 1) _ _ := Y1
  generalize hx4 : ((v4.setCell ⟨w.heap.size + 1 + 1, 10, none⟩ (.int .i64 D)).setCell ⟨w.heap.size + 1 + 1, 11, none⟩ (.int .i64 D)).setCell ⟨w.heap.size + 1 + 1, 12, none⟩ (.slice (some ⟨o, 0, none⟩) (D * D) (D * D)) = x4 at *
  clear X0 X1 X2 S3 K2 Ff Fq Fk Fv Fo nef neq nek nev neo
  have X0 := Y0
  clear Y0
  have X1 := Y1
  clear Y1
  have X2 := X3
  clear X3
  have S2 := S4
  clear S4
  have K2 := K4
  clear K4
  have Ff := Gf
  clear Gf
  have Fq := Gq
  clear Gq
  have Fk := Gk
  clear Gk
  have Fv := Gv
  clear Gv
  have Fo := Go
  clear Go
  have c1 : x4.cell? ⟨w.heap.size, 1, none⟩ = some (.int .i64 D) := X0.cell 1 rfl
  go_wp2_with fail
  clear hx4
  refine (gains_any g seed (i + D + D * D + D * D + D * D + D * D) D _ S2 (by omega)).mono ?_
  rintro e v5 ⟨s, rfl, Fs, S3, K3⟩
  replace Fs := Fs.mono K2.size
  replace Ff := Ff.but K3 hg
  replace Fq := Fq.but K3 hg
  replace Fk := Fk.but K3 hg
  replace Fv := Fv.but K3 hg
  replace Fo := Fo.but K3 hg
  replace X0 := X0.but K3 (by omega)
  replace X1 := X1.but K3 (by omega)
  replace X2 := X2.but K3 (by omega)
  replace K2 := K2.trans K3
  clear S2 K3 c1
  have fr0 := X2.frozen 13
  have cc0 : v5.cell? ⟨w.heap.size + 1 + 1, 13, none⟩ = some (.slice none 0 0) := X2.cell 13 rfl
  have X3 : Blk (v5.setCell ⟨w.heap.size + 1 + 1, 13, none⟩ (.slice (some ⟨s, 0, none⟩) (D) (D))) (w.heap.size + 1 + 1) 57 #[.slice (some ⟨f, 0, none⟩) (D) (D), .int .i64 D, .int .i64 D, .slice (some ⟨q, 0, none⟩) (D * D) (D * D), .int .i64 D, .int .i64 D, .slice (some ⟨k, 0, none⟩) (D * D) (D * D), .int .i64 D, .int .i64 D, .slice (some ⟨v, 0, none⟩) (D * D) (D * D), .int .i64 D, .int .i64 D, .slice (some ⟨o, 0, none⟩) (D * D) (D * D), .slice (some ⟨s, 0, none⟩) (D) (D), .int .i64 0, .int .i64 0, .slice none 0 0, .int .i64 0, .int .i64 0, .slice none 0 0] := (X2.set 13 (.slice (some ⟨s, 0, none⟩) (D) (D)))
  have Y0 := (Blk.other (a := ⟨w.heap.size + 1 + 1, 13, none⟩) X0 (by show w.heap.size ≠ w.heap.size + 1 + 1; omega) (.slice (some ⟨s, 0, none⟩) (D) (D)))
  have Y1 := (Blk.other (a := ⟨w.heap.size + 1 + 1, 13, none⟩) X1 (by show w.heap.size + 1 ≠ w.heap.size + 1 + 1; omega) (.slice (some ⟨s, 0, none⟩) (D) (D)))
  have S4 : SrcAt (v5.setCell ⟨w.heap.size + 1 + 1, 13, none⟩ (.slice (some ⟨s, 0, none⟩) (D) (D))) g _ := (Blk.other (a := ⟨w.heap.size + 1 + 1, 13, none⟩) S3 (by show g ≠ w.heap.size + 1 + 1; omega) (.slice (some ⟨s, 0, none⟩) (D) (D)))
  have K4 := (K2.set (a := ⟨w.heap.size + 1 + 1, 13, none⟩) (Or.inr (by show w.heap.size ≤ w.heap.size + 1 + 1; omega)) (.slice (some ⟨s, 0, none⟩) (D) (D)))
  have nef : f ≠ w.heap.size + 1 + 1 := by rintro rfl; obtain ⟨c9, h9, _⟩ := Ff.row; rw [X2] at h9; simp at h9
  have Gf := (Ff.setOther (a := ⟨w.heap.size + 1 + 1, 13, none⟩) nef (.slice (some ⟨s, 0, none⟩) (D) (D)))
  have neq : q ≠ w.heap.size + 1 + 1 := by rintro rfl; obtain ⟨c9, h9, _⟩ := Fq.row; rw [X2] at h9; simp at h9
  have Gq := (Fq.setOther (a := ⟨w.heap.size + 1 + 1, 13, none⟩) neq (.slice (some ⟨s, 0, none⟩) (D) (D)))
  have nek : k ≠ w.heap.size + 1 + 1 := by rintro rfl; obtain ⟨c9, h9, _⟩ := Fk.row; rw [X2] at h9; simp at h9
  have Gk := (Fk.setOther (a := ⟨w.heap.size + 1 + 1, 13, none⟩) nek (.slice (some ⟨s, 0, none⟩) (D) (D)))
  have nev : v ≠ w.heap.size + 1 + 1 := by rintro rfl; obtain ⟨c9, h9, _⟩ := Fv.row; rw [X2] at h9; simp at h9
  have Gv := (Fv.setOther (a := ⟨w.heap.size + 1 + 1, 13, none⟩) nev (.slice (some ⟨s, 0, none⟩) (D) (D)))
  have neo : o ≠ w.heap.size + 1 + 1 := by rintro rfl; obtain ⟨c9, h9, _⟩ := Fo.row; rw [X2] at h9; simp at h9
  have Go := (Fo.setOther (a := ⟨w.heap.size + 1 + 1, 13, none⟩) neo (.slice (some ⟨s, 0, none⟩) (D) (D)))
  have nes : s ≠ w.heap.size + 1 + 1 := by rintro rfl; obtain ⟨c9, h9, _⟩ := Fs.row; rw [X2] at h9; simp at h9
  have Gs := (Fs.setOther (a := ⟨w.heap.size + 1 + 1, 13, none⟩) nes (.slice (some ⟨s, 0, none⟩) (D) (D)))
  replace Y0 : Blk (v5.setCell ⟨w.heap.size + 1 + 1, 13, none⟩ (.slice (some ⟨s, 0, none⟩) (D) (D))) w.heap.size _ _ := Y0
  replace Y1 : Blk (v5.setCell ⟨w.heap.size + 1 + 1, 13, none⟩ (.slice (some ⟨s, 0, none⟩) (D) (D))) (w.heap.size + 1) _ _ := Y1
  generalize hx5 : v5.setCell ⟨w.heap.size + 1 + 1, 13, none⟩ (.slice (some ⟨s, 0, none⟩) (D) (D)) = x5 at *
  clear X0 X1 X2 S3 K2 Ff Fq Fk Fv Fo Fs nef neq nek nev neo nes
  have X0 := Y0
  clear Y0
  have X1 := Y1
  clear Y1
  have X2 := X3
  clear X3
  have S2 := S4
  clear S4
  have K2 := K4
  clear K4
  have Ff := Gf
  clear Gf
  have Fq := Gq
  clear Gq
  have Fk := Gk
  clear Gk
  have Fv := Gv
  clear Gv
  have Fo := Go
  clear Go
  have Fs := Gs
  clear Gs
  have c1 : x5.cell? ⟨w.heap.size, 1, none⟩ = some (.int .i64 D) := X0.cell 1 rfl
  have c3 : x5.cell? ⟨w.heap.size, 3, none⟩ = some (.int .i64 H) := X0.cell 3 rfl
  go_wp2_with fail
  clear hx5
  refine (matrix_any g seed (i + D + D * D + D * D + D * D + D * D + D) H D 65536 _ S2 (by omega) (by omega) (by omega) (by omega)).mono ?_
  rintro e v6 ⟨u, rfl, Fu, S3, K3⟩
  unfold matV
  replace Fu := Fu.mono K2.size
  replace Ff := Ff.but K3 hg
  replace Fq := Fq.but K3 hg
  replace Fk := Fk.but K3 hg
  replace Fv := Fv.but K3 hg
  replace Fo := Fo.but K3 hg
  replace Fs := Fs.but K3 hg
  replace X0 := X0.but K3 (by omega)
  replace X1 := X1.but K3 (by omega)
  replace X2 := X2.but K3 (by omega)
  replace K2 := K2.trans K3
  clear S2 K3 c1 c3
  have fr0 := X2.frozen 14
  have cc0 : v6.cell? ⟨w.heap.size + 1 + 1, 14, none⟩ = some (.int .i64 0) := X2.cell 14 rfl
  have fr1 := X2.frozen 15
  have cc1 : v6.cell? ⟨w.heap.size + 1 + 1, 15, none⟩ = some (.int .i64 0) := X2.cell 15 rfl
  have fr2 := X2.frozen 16
  have cc2 : v6.cell? ⟨w.heap.size + 1 + 1, 16, none⟩ = some (.slice none 0 0) := X2.cell 16 rfl
  have X3 : Blk (((v6.setCell ⟨w.heap.size + 1 + 1, 14, none⟩ (.int .i64 H)).setCell ⟨w.heap.size + 1 + 1, 15, none⟩ (.int .i64 D)).setCell ⟨w.heap.size + 1 + 1, 16, none⟩ (.slice (some ⟨u, 0, none⟩) (H * D) (H * D))) (w.heap.size + 1 + 1) 57 #[.slice (some ⟨f, 0, none⟩) (D) (D), .int .i64 D, .int .i64 D, .slice (some ⟨q, 0, none⟩) (D * D) (D * D), .int .i64 D, .int .i64 D, .slice (some ⟨k, 0, none⟩) (D * D) (D * D), .int .i64 D, .int .i64 D, .slice (some ⟨v, 0, none⟩) (D * D) (D * D), .int .i64 D, .int .i64 D, .slice (some ⟨o, 0, none⟩) (D * D) (D * D), .slice (some ⟨s, 0, none⟩) (D) (D), .int .i64 H, .int .i64 D, .slice (some ⟨u, 0, none⟩) (H * D) (H * D), .int .i64 0, .int .i64 0, .slice none 0 0] := (((X2.set 14 (.int .i64 H)).set 15 (.int .i64 D)).set 16 (.slice (some ⟨u, 0, none⟩) (H * D) (H * D)))
  have Y0 := (Blk.other (a := ⟨w.heap.size + 1 + 1, 16, none⟩) (Blk.other (a := ⟨w.heap.size + 1 + 1, 15, none⟩) (Blk.other (a := ⟨w.heap.size + 1 + 1, 14, none⟩) X0 (by show w.heap.size ≠ w.heap.size + 1 + 1; omega) (.int .i64 H)) (by show w.heap.size ≠ w.heap.size + 1 + 1; omega) (.int .i64 D)) (by show w.heap.size ≠ w.heap.size + 1 + 1; omega) (.slice (some ⟨u, 0, none⟩) (H * D) (H * D)))
  have Y1 := (Blk.other (a := ⟨w.heap.size + 1 + 1, 16, none⟩) (Blk.other (a := ⟨w.heap.size + 1 + 1, 15, none⟩) (Blk.other (a := ⟨w.heap.size + 1 + 1, 14, none⟩) X1 (by show w.heap.size + 1 ≠ w.heap.size + 1 + 1; omega) (.int .i64 H)) (by show w.heap.size + 1 ≠ w.heap.size + 1 + 1; omega) (.int .i64 D)) (by show w.heap.size + 1 ≠ w.heap.size + 1 + 1; omega) (.slice (some ⟨u, 0, none⟩) (H * D) (H * D)))
  have S4 : SrcAt (((v6.setCell ⟨w.heap.size + 1 + 1, 14, none⟩ (.int .i64 H)).setCell ⟨w.heap.size + 1 + 1, 15, none⟩ (.int .i64 D)).setCell ⟨w.heap.size + 1 + 1, 16, none⟩ (.slice (some ⟨u, 0, none⟩) (H * D) (H * D))) g _ := (Blk.other (a := ⟨w.heap.size + 1 + 1, 16, none⟩) (Blk.other (a := ⟨w.heap.size + 1 + 1, 15, none⟩) (Blk.other (a := ⟨w.heap.size + 1 + 1, 14, none⟩) S3 (by show g ≠ w.heap.size + 1 + 1; omega) (.int .i64 H)) (by show g ≠ w.heap.size + 1 + 1; omega) (.int .i64 D)) (by show g ≠ w.heap.size + 1 + 1; omega) (.slice (some ⟨u, 0, none⟩) (H * D) (H * D)))
  have K4 := (((K2.set (a := ⟨w.heap.size + 1 + 1, 14, none⟩) (Or.inr (by show w.heap.size ≤ w.heap.size + 1 + 1; omega)) (.int .i64 H)).set (a := ⟨w.heap.size + 1 + 1, 15, none⟩) (Or.inr (by show w.heap.size ≤ w.heap.size + 1 + 1; omega)) (.int .i64 D)).set (a := ⟨w.heap.size + 1 + 1, 16, none⟩) (Or.inr (by show w.heap.size ≤ w.heap.size + 1 + 1; omega)) (.slice (some ⟨u, 0, none⟩) (H * D) (H * D)))
  have nef : f ≠ w.heap.size + 1 + 1 := by rintro rfl; obtain ⟨c9, h9, _⟩ := Ff.row; rw [X2] at h9; simp at h9
  have Gf := (((Ff.setOther (a := ⟨w.heap.size + 1 + 1, 14, none⟩) nef (.int .i64 H)).setOther (a := ⟨w.heap.size + 1 + 1, 15, none⟩) nef (.int .i64 D)).setOther (a := ⟨w.heap.size + 1 + 1, 16, none⟩) nef (.slice (some ⟨u, 0, none⟩) (H * D) (H * D)))
  have neq : q ≠ w.heap.size + 1 + 1 := by rintro rfl; obtain ⟨c9, h9, _⟩ := Fq.row; rw [X2] at h9; simp at h9
  have Gq := (((Fq.setOther (a := ⟨w.heap.size + 1 + 1, 14, none⟩) neq (.int .i64 H)).setOther (a := ⟨w.heap.size + 1 + 1, 15, none⟩) neq (.int .i64 D)).setOther (a := ⟨w.heap.size + 1 + 1, 16, none⟩) neq (.slice (some ⟨u, 0, none⟩) (H * D) (H * D)))
  have nek : k ≠ w.heap.size + 1 + 1 := by rintro rfl; obtain ⟨c9, h9, _⟩ := Fk.row; rw [X2] at h9; simp at h9
  have Gk := (((Fk.setOther (a := ⟨w.heap.size + 1 + 1, 14, none⟩) nek (.int .i64 H)).setOther (a := ⟨w.heap.size + 1 + 1, 15, none⟩) nek (.int .i64 D)).setOther (a := ⟨w.heap.size + 1 + 1, 16, none⟩) nek (.slice (some ⟨u, 0, none⟩) (H * D) (H * D)))
  have nev : v ≠ w.heap.size + 1 + 1 := by rintro rfl; obtain ⟨c9, h9, _⟩ := Fv.row; rw [X2] at h9; simp at h9
  have Gv := (((Fv.setOther (a := ⟨w.heap.size + 1 + 1, 14, none⟩) nev (.int .i64 H)).setOther (a := ⟨w.heap.size + 1 + 1, 15, none⟩) nev (.int .i64 D)).setOther (a := ⟨w.heap.size + 1 + 1, 16, none⟩) nev (.slice (some ⟨u, 0, none⟩) (H * D) (H * D)))
  have neo : o ≠ w.heap.size + 1 + 1 := by rintro rfl; obtain ⟨c9, h9, _⟩ := Fo.row; rw [X2] at h9; simp at h9
  have Go := (((Fo.setOther (a := ⟨w.heap.size + 1 + 1, 14, none⟩) neo (.int .i64 H)).setOther (a := ⟨w.heap.size + 1 + 1, 15, none⟩) neo (.int .i64 D)).setOther (a := ⟨w.heap.size + 1 + 1, 16, none⟩) neo (.slice (some ⟨u, 0, none⟩) (H * D) (H * D)))
  have nes : s ≠ w.heap.size + 1 + 1 := by rintro rfl; obtain ⟨c9, h9, _⟩ := Fs.row; rw [X2] at h9; simp at h9
  have Gs := (((Fs.setOther (a := ⟨w.heap.size + 1 + 1, 14, none⟩) nes (.int .i64 H)).setOther (a := ⟨w.heap.size + 1 + 1, 15, none⟩) nes (.int .i64 D)).setOther (a := ⟨w.heap.size + 1 + 1, 16, none⟩) nes (.slice (some ⟨u, 0, none⟩) (H * D) (H * D)))
  have neu : u ≠ w.heap.size + 1 + 1 := by rintro rfl; obtain ⟨c9, h9, _⟩ := Fu.row; rw [X2] at h9; simp at h9
  have Gu := (((Fu.setOther (a := ⟨w.heap.size + 1 + 1, 14, none⟩) neu (.int .i64 H)).setOther (a := ⟨w.heap.size + 1 + 1, 15, none⟩) neu (.int .i64 D)).setOther (a := ⟨w.heap.size + 1 + 1, 16, none⟩) neu (.slice (some ⟨u, 0, none⟩) (H * D) (H * D)))
  replace Y0 : Blk (((v6.setCell ⟨w.heap.size + 1 + 1, 14, none⟩ (.int .i64 H)).setCell ⟨w.heap.size + 1 + 1, 15, none⟩ (.int .i64 D)).setCell ⟨w.heap.size + 1 + 1, 16, none⟩ (.slice (some ⟨u, 0, none⟩) (H * D) (H * D))) w.heap.size _ _ := Y0
  replace Y1 : Blk (((v6.setCell ⟨w.heap.size + 1 + 1, 14, none⟩ (.int .i64 H)).setCell ⟨w.heap.size + 1 + 1, 15, none⟩ (.int .i64 D)).setCell ⟨w.heap.size + 1 + 1, 16, none⟩ (.slice (some ⟨u, 0, none⟩) (H * D) (H * D))) (w.heap.size + 1) _ _ := Y1
  generalize hx6 : ((v6.setCell ⟨w.heap.size + 1 + 1, 14, none⟩ (.int .i64 H)).setCell ⟨w.heap.size + 1 + 1, 15, none⟩ (.int .i64 D)).setCell ⟨w.heap.size + 1 + 1, 16, none⟩ (.slice (some ⟨u, 0, none⟩) (H * D) (H * D)) = x6 at *
  clear X0 X1 X2 S3 K2 Ff Fq Fk Fv Fo Fs Fu nef neq nek nev neo nes neu
  have X0 := Y0
  clear Y0
  have X1 := Y1
  clear Y1
  have X2 := X3
  clear X3
  have S2 := S4
  clear S4
  have K2 := K4
  clear K4
  have Ff := Gf
  clear Gf
  have Fq := Gq
  clear Gq
  have Fk := Gk
  clear Gk
  have Fv := Gv
  clear Gv
  have Fo := Go
  clear Go
  have Fs := Gs
  clear Gs
  have Fu := Gu
  clear Gu
  have c1 : x6.cell? ⟨w.heap.size, 1, none⟩ = some (.int .i64 D) := X0.cell 1 rfl
  have c3 : x6.cell? ⟨w.heap.size, 3, none⟩ = some (.int .i64 H) := X0.cell 3 rfl
  go_wp2_with fail
  clear hx6
  refine (matrix_any g seed (i + D + D * D + D * D + D * D + D * D + D + H * D) D H 65536 _ S2 (by omega) (by omega) (by omega) (by omega)).mono ?_
  rintro e v7 ⟨d, rfl, Fd, S3, K3⟩
  unfold matV
  replace Fd := Fd.mono K2.size
  replace Ff := Ff.but K3 hg
  replace Fq := Fq.but K3 hg
  replace Fk := Fk.but K3 hg
  replace Fv := Fv.but K3 hg
  replace Fo := Fo.but K3 hg
  replace Fs := Fs.but K3 hg
  replace Fu := Fu.but K3 hg
  replace X0 := X0.but K3 (by omega)
  replace X1 := X1.but K3 (by omega)
  replace X2 := X2.but K3 (by omega)
  replace K2 := K2.trans K3
  clear S2 K3 c1 c3
  have fr0 := X2.frozen 17
  have cc0 : v7.cell? ⟨w.heap.size + 1 + 1, 17, none⟩ = some (.int .i64 0) := X2.cell 17 rfl
  have fr1 := X2.frozen 18
  have cc1 : v7.cell? ⟨w.heap.size + 1 + 1, 18, none⟩ = some (.int .i64 0) := X2.cell 18 rfl
  have fr2 := X2.frozen 19
  have cc2 : v7.cell? ⟨w.heap.size + 1 + 1, 19, none⟩ = some (.slice none 0 0) := X2.cell 19 rfl
  have X3 : Blk (((v7.setCell ⟨w.heap.size + 1 + 1, 17, none⟩ (.int .i64 D)).setCell ⟨w.heap.size + 1 + 1, 18, none⟩ (.int .i64 H)).setCell ⟨w.heap.size + 1 + 1, 19, none⟩ (.slice (some ⟨d, 0, none⟩) (D * H) (D * H))) (w.heap.size + 1 + 1) 57 #[.slice (some ⟨f, 0, none⟩) (D) (D), .int .i64 D, .int .i64 D, .slice (some ⟨q, 0, none⟩) (D * D) (D * D), .int .i64 D, .int .i64 D, .slice (some ⟨k, 0, none⟩) (D * D) (D * D), .int .i64 D, .int .i64 D, .slice (some ⟨v, 0, none⟩) (D * D) (D * D), .int .i64 D, .int .i64 D, .slice (some ⟨o, 0, none⟩) (D * D) (D * D), .slice (some ⟨s, 0, none⟩) (D) (D), .int .i64 H, .int .i64 D, .slice (some ⟨u, 0, none⟩) (H * D) (H * D), .int .i64 D, .int .i64 H, .slice (some ⟨d, 0, none⟩) (D * H) (D * H)] := (((X2.set 17 (.int .i64 D)).set 18 (.int .i64 H)).set 19 (.slice (some ⟨d, 0, none⟩) (D * H) (D * H)))
  have Y0 := (Blk.other (a := ⟨w.heap.size + 1 + 1, 19, none⟩) (Blk.other (a := ⟨w.heap.size + 1 + 1, 18, none⟩) (Blk.other (a := ⟨w.heap.size + 1 + 1, 17, none⟩) X0 (by show w.heap.size ≠ w.heap.size + 1 + 1; omega) (.int .i64 D)) (by show w.heap.size ≠ w.heap.size + 1 + 1; omega) (.int .i64 H)) (by show w.heap.size ≠ w.heap.size + 1 + 1; omega) (.slice (some ⟨d, 0, none⟩) (D * H) (D * H)))
  have Y1 := (Blk.other (a := ⟨w.heap.size + 1 + 1, 19, none⟩) (Blk.other (a := ⟨w.heap.size + 1 + 1, 18, none⟩) (Blk.other (a := ⟨w.heap.size + 1 + 1, 17, none⟩) X1 (by show w.heap.size + 1 ≠ w.heap.size + 1 + 1; omega) (.int .i64 D)) (by show w.heap.size + 1 ≠ w.heap.size + 1 + 1; omega) (.int .i64 H)) (by show w.heap.size + 1 ≠ w.heap.size + 1 + 1; omega) (.slice (some ⟨d, 0, none⟩) (D * H) (D * H)))
  have S4 : SrcAt (((v7.setCell ⟨w.heap.size + 1 + 1, 17, none⟩ (.int .i64 D)).setCell ⟨w.heap.size + 1 + 1, 18, none⟩ (.int .i64 H)).setCell ⟨w.heap.size + 1 + 1, 19, none⟩ (.slice (some ⟨d, 0, none⟩) (D * H) (D * H))) g _ := (Blk.other (a := ⟨w.heap.size + 1 + 1, 19, none⟩) (Blk.other (a := ⟨w.heap.size + 1 + 1, 18, none⟩) (Blk.other (a := ⟨w.heap.size + 1 + 1, 17, none⟩) S3 (by show g ≠ w.heap.size + 1 + 1; omega) (.int .i64 D)) (by show g ≠ w.heap.size + 1 + 1; omega) (.int .i64 H)) (by show g ≠ w.heap.size + 1 + 1; omega) (.slice (some ⟨d, 0, none⟩) (D * H) (D * H)))
  have K4 := (((K2.set (a := ⟨w.heap.size + 1 + 1, 17, none⟩) (Or.inr (by show w.heap.size ≤ w.heap.size + 1 + 1; omega)) (.int .i64 D)).set (a := ⟨w.heap.size + 1 + 1, 18, none⟩) (Or.inr (by show w.heap.size ≤ w.heap.size + 1 + 1; omega)) (.int .i64 H)).set (a := ⟨w.heap.size + 1 + 1, 19, none⟩) (Or.inr (by show w.heap.size ≤ w.heap.size + 1 + 1; omega)) (.slice (some ⟨d, 0, none⟩) (D * H) (D * H)))
  have nef : f ≠ w.heap.size + 1 + 1 := by rintro rfl; obtain ⟨c9, h9, _⟩ := Ff.row; rw [X2] at h9; simp at h9
  have Gf := (((Ff.setOther (a := ⟨w.heap.size + 1 + 1, 17, none⟩) nef (.int .i64 D)).setOther (a := ⟨w.heap.size + 1 + 1, 18, none⟩) nef (.int .i64 H)).setOther (a := ⟨w.heap.size + 1 + 1, 19, none⟩) nef (.slice (some ⟨d, 0, none⟩) (D * H) (D * H)))
  have neq : q ≠ w.heap.size + 1 + 1 := by rintro rfl; obtain ⟨c9, h9, _⟩ := Fq.row; rw [X2] at h9; simp at h9
  have Gq := (((Fq.setOther (a := ⟨w.heap.size + 1 + 1, 17, none⟩) neq (.int .i64 D)).setOther (a := ⟨w.heap.size + 1 + 1, 18, none⟩) neq (.int .i64 H)).setOther (a := ⟨w.heap.size + 1 + 1, 19, none⟩) neq (.slice (some ⟨d, 0, none⟩) (D * H) (D * H)))
  have nek : k ≠ w.heap.size + 1 + 1 := by rintro rfl; obtain ⟨c9, h9, _⟩ := Fk.row; rw [X2] at h9; simp at h9
  have Gk := (((Fk.setOther (a := ⟨w.heap.size + 1 + 1, 17, none⟩) nek (.int .i64 D)).setOther (a := ⟨w.heap.size + 1 + 1, 18, none⟩) nek (.int .i64 H)).setOther (a := ⟨w.heap.size + 1 + 1, 19, none⟩) nek (.slice (some ⟨d, 0, none⟩) (D * H) (D * H)))
  have nev : v ≠ w.heap.size + 1 + 1 := by rintro rfl; obtain ⟨c9, h9, _⟩ := Fv.row; rw [X2] at h9; simp at h9
  have Gv := (((Fv.setOther (a := ⟨w.heap.size + 1 + 1, 17, none⟩) nev (.int .i64 D)).setOther (a := ⟨w.heap.size + 1 + 1, 18, none⟩) nev (.int .i64 H)).setOther (a := ⟨w.heap.size + 1 + 1, 19, none⟩) nev (.slice (some ⟨d, 0, none⟩) (D * H) (D * H)))
  have neo : o ≠ w.heap.size + 1 + 1 := by rintro rfl; obtain ⟨c9, h9, _⟩ := Fo.row; rw [X2] at h9; simp at h9
  have Go := (((Fo.setOther (a := ⟨w.heap.size + 1 + 1, 17, none⟩) neo (.int .i64 D)).setOther (a := ⟨w.heap.size + 1 + 1, 18, none⟩) neo (.int .i64 H)).setOther (a := ⟨w.heap.size + 1 + 1, 19, none⟩) neo (.slice (some ⟨d, 0, none⟩) (D * H) (D * H)))
  have nes : s ≠ w.heap.size + 1 + 1 := by rintro rfl; obtain ⟨c9, h9, _⟩ := Fs.row; rw [X2] at h9; simp at h9
  have Gs := (((Fs.setOther (a := ⟨w.heap.size + 1 + 1, 17, none⟩) nes (.int .i64 D)).setOther (a := ⟨w.heap.size + 1 + 1, 18, none⟩) nes (.int .i64 H)).setOther (a := ⟨w.heap.size + 1 + 1, 19, none⟩) nes (.slice (some ⟨d, 0, none⟩) (D * H) (D * H)))
  have neu : u ≠ w.heap.size + 1 + 1 := by rintro rfl; obtain ⟨c9, h9, _⟩ := Fu.row; rw [X2] at h9; simp at h9
  have Gu := (((Fu.setOther (a := ⟨w.heap.size + 1 + 1, 17, none⟩) neu (.int .i64 D)).setOther (a := ⟨w.heap.size + 1 + 1, 18, none⟩) neu (.int .i64 H)).setOther (a := ⟨w.heap.size + 1 + 1, 19, none⟩) neu (.slice (some ⟨d, 0, none⟩) (D * H) (D * H)))
  have ned : d ≠ w.heap.size + 1 + 1 := by rintro rfl; obtain ⟨c9, h9, _⟩ := Fd.row; rw [X2] at h9; simp at h9
  have Gd := (((Fd.setOther (a := ⟨w.heap.size + 1 + 1, 17, none⟩) ned (.int .i64 D)).setOther (a := ⟨w.heap.size + 1 + 1, 18, none⟩) ned (.int .i64 H)).setOther (a := ⟨w.heap.size + 1 + 1, 19, none⟩) ned (.slice (some ⟨d, 0, none⟩) (D * H) (D * H)))
  replace Y0 : Blk (((v7.setCell ⟨w.heap.size + 1 + 1, 17, none⟩ (.int .i64 D)).setCell ⟨w.heap.size + 1 + 1, 18, none⟩ (.int .i64 H)).setCell ⟨w.heap.size + 1 + 1, 19, none⟩ (.slice (some ⟨d, 0, none⟩) (D * H) (D * H))) w.heap.size _ _ := Y0
  replace Y1 : Blk (((v7.setCell ⟨w.heap.size + 1 + 1, 17, none⟩ (.int .i64 D)).setCell ⟨w.heap.size + 1 + 1, 18, none⟩ (.int .i64 H)).setCell ⟨w.heap.size + 1 + 1, 19, none⟩ (.slice (some ⟨d, 0, none⟩) (D * H) (D * H))) (w.heap.size + 1) _ _ := Y1
  generalize hx7 : ((v7.setCell ⟨w.heap.size + 1 + 1, 17, none⟩ (.int .i64 D)).setCell ⟨w.heap.size + 1 + 1, 18, none⟩ (.int .i64 H)).setCell ⟨w.heap.size + 1 + 1, 19, none⟩ (.slice (some ⟨d, 0, none⟩) (D * H) (D * H)) = x7 at *
  clear X0 X1 X2 S3 K2 Ff Fq Fk Fv Fo Fs Fu Fd nef neq nek nev neo nes neu ned
  have X0 := Y0
  clear Y0
  have X1 := Y1
  clear Y1
  have X2 := X3
  clear X3
  have S2 := S4
  clear S4
  have K2 := K4
  clear K4
  have Ff := Gf
  clear Gf
  have Fq := Gq
  clear Gq
  have Fk := Gk
  clear Gk
  have Fv := Gv
  clear Gv
  have Fo := Go
  clear Go
  have Fs := Gs
  clear Gs
  have Fu := Gu
  clear Gu
  have Fd := Gd
  clear Gd
  have hall : Array.all (#[.slice (some ⟨f, 0, none⟩) (D) (D), .int .i64 D, .int .i64 D, .slice (some ⟨q, 0, none⟩) (D * D) (D * D), .int .i64 D, .int .i64 D, .slice (some ⟨k, 0, none⟩) (D * D) (D * D), .int .i64 D, .int .i64 D, .slice (some ⟨v, 0, none⟩) (D * D) (D * D), .int .i64 D, .int .i64 D, .slice (some ⟨o, 0, none⟩) (D * D) (D * D), .slice (some ⟨s, 0, none⟩) (D) (D), .int .i64 H, .int .i64 D, .slice (some ⟨u, 0, none⟩) (H * D) (H * D), .int .i64 D, .int .i64 H, .slice (some ⟨d, 0, none⟩) (D * H) (D * H)] : Array Value) (fun v => v.oneCell') = true := by simp [Value.oneCell']
  go_wp2_with (first | (refine wpList_load_row rfl 57 _ rfl (w.heap.size + 1 + 1) rfl 57 #[.slice (some ⟨f, 0, none⟩) (D) (D), .int .i64 D, .int .i64 D, .slice (some ⟨q, 0, none⟩) (D * D) (D * D), .int .i64 D, .int .i64 D, .slice (some ⟨k, 0, none⟩) (D * D) (D * D), .int .i64 D, .int .i64 D, .slice (some ⟨v, 0, none⟩) (D * D) (D * D), .int .i64 D, .int .i64 D, .slice (some ⟨o, 0, none⟩) (D * D) (D * D), .slice (some ⟨s, 0, none⟩) (D) (D), .int .i64 H, .int .i64 D, .slice (some ⟨u, 0, none⟩) (H * D) (H * D), .int .i64 D, .int .i64 H, .slice (some ⟨d, 0, none⟩) (D * H) (D * H)] (0, 0) _ X2 Try.underlying57 rfl Try.infoB ?_) | (refine wpList_store_row rfl 57 _ _ rfl (w.heap.size + 1) #[.slice (some ⟨f, 0, none⟩) (D) (D), .int .i64 D, .int .i64 D, .slice (some ⟨q, 0, none⟩) (D * D) (D * D), .int .i64 D, .int .i64 D, .slice (some ⟨k, 0, none⟩) (D * D) (D * D), .int .i64 D, .int .i64 D, .slice (some ⟨v, 0, none⟩) (D * D) (D * D), .int .i64 D, .int .i64 D, .slice (some ⟨o, 0, none⟩) (D * D) (D * D), .slice (some ⟨s, 0, none⟩) (D) (D), .int .i64 H, .int .i64 D, .slice (some ⟨u, 0, none⟩) (H * D) (H * D), .int .i64 D, .int .i64 H, .slice (some ⟨d, 0, none⟩) (D * H) (D * H)] rfl rfl 57 _ X1 Try.infoB rfl hall ?_))
  have nef : f ≠ w.heap.size + 1 := by rintro rfl; obtain ⟨c9, h9, _⟩ := Ff.row; rw [X1] at h9; simp at h9
  have neq : q ≠ w.heap.size + 1 := by rintro rfl; obtain ⟨c9, h9, _⟩ := Fq.row; rw [X1] at h9; simp at h9
  have nek : k ≠ w.heap.size + 1 := by rintro rfl; obtain ⟨c9, h9, _⟩ := Fk.row; rw [X1] at h9; simp at h9
  have nev : v ≠ w.heap.size + 1 := by rintro rfl; obtain ⟨c9, h9, _⟩ := Fv.row; rw [X1] at h9; simp at h9
  have neo : o ≠ w.heap.size + 1 := by rintro rfl; obtain ⟨c9, h9, _⟩ := Fo.row; rw [X1] at h9; simp at h9
  have nes : s ≠ w.heap.size + 1 := by rintro rfl; obtain ⟨c9, h9, _⟩ := Fs.row; rw [X1] at h9; simp at h9
  have neu : u ≠ w.heap.size + 1 := by rintro rfl; obtain ⟨c9, h9, _⟩ := Fu.row; rw [X1] at h9; simp at h9
  have ned : d ≠ w.heap.size + 1 := by rintro rfl; obtain ⟨c9, h9, _⟩ := Fd.row; rw [X1] at h9; simp at h9
  refine bodyPost_ret (results_cell_row rfl _ _ (w.heap.size + 1) 57 #[.slice (some ⟨f, 0, none⟩) (D) (D), .int .i64 D, .int .i64 D, .slice (some ⟨q, 0, none⟩) (D * D) (D * D), .int .i64 D, .int .i64 D, .slice (some ⟨k, 0, none⟩) (D * D) (D * D), .int .i64 D, .int .i64 D, .slice (some ⟨v, 0, none⟩) (D * D) (D * D), .int .i64 D, .int .i64 D, .slice (some ⟨o, 0, none⟩) (D * D) (D * D), .slice (some ⟨s, 0, none⟩) (D) (D), .int .i64 H, .int .i64 D, .slice (some ⟨u, 0, none⟩) (H * D) (H * D), .int .i64 D, .int .i64 H, .slice (some ⟨d, 0, none⟩) (D * H) (D * H)] _ _ rfl (X1.row #[.slice (some ⟨f, 0, none⟩) (D) (D), .int .i64 D, .int .i64 D, .slice (some ⟨q, 0, none⟩) (D * D) (D * D), .int .i64 D, .int .i64 D, .slice (some ⟨k, 0, none⟩) (D * D) (D * D), .int .i64 D, .int .i64 D, .slice (some ⟨v, 0, none⟩) (D * D) (D * D), .int .i64 D, .int .i64 D, .slice (some ⟨o, 0, none⟩) (D * D) (D * D), .slice (some ⟨s, 0, none⟩) (D) (D), .int .i64 H, .int .i64 D, .slice (some ⟨u, 0, none⟩) (H * D) (H * D), .int .i64 D, .int .i64 H, .slice (some ⟨d, 0, none⟩) (D * H) (D * H)]) Try.underlying57 rfl Try.infoB) rfl ?_
  refine ⟨f, q, k, v, o, s, u, d, rfl, ⟨Ff.rowOther nef _, Fq.rowOther neq _, Fk.rowOther nek _, Fv.rowOther nev _, Fo.rowOther neo _, Fs.rowOther nes _, Fu.rowOther neu _, Fd.rowOther ned _⟩, ?_, K2.row (by omega) _⟩
  have e9 : i + lenB D H = i + D + D * D + D * D + D * D + D * D + D + H * D + D * H := by unfold lenB; omega
  rw [e9]
  exact Blk.of_block S2 (setRow_other _ _ _ _ (by omega))
end Go.Proofs.Ytklgaokhillinaa
