/- Contracts of the program's functions, part 4 of 13: what each call returns and leaves of memory. -/
import Derived.Test.YtcanjlofnpnhkaaGreatDoorPk3
import Derived.Deep.MidRow
import Derived.Laws.ResultCell
import Derived.Laws.CopyOwn
import Derived.Deep.RegionLaw
import Derived.Laws.MakeOwn
import Derived.Test.YtcanjlofnpnhkaaGreatDoorPk2
import Derived.ProofKit
import Derived.Carry
import Derived.OpenShut
import Derived.Lib.SmallJoins
/- A model's source of numbers: one layer. Laid by tools/genblock.py. -/
namespace Go.Proofs.YtcanjlofnpnhkaaGreatDoor
open Go.ChangeShapes Go.WideShapes Go.ChangeAt Go.RowKit
/-- The cells of a layer. -/
def bcs (a0 a1 a2 a3 a4 a5 a6 a7 a8 a9 a10 a11 a12 a13 a14 a15 a16 a17 a18 a19 : Value) : Array Value := #[a0, a1, a2, a3, a4, a5, a6, a7, a8, a9, a10, a11, a12, a13, a14, a15, a16, a17, a18, a19]
/-- A row of the call's own, as a value. -/
def rv (g n : Nat) : Value := .slice (some ⟨g, 0, none⟩) n n
/-- The cells of a layer that was made. -/
def madeB (D H f q k v o s u d : Nat) : Array Value := bcs (rv f D) (.int .i64 D) (.int .i64 D) (rv q (D * D)) (.int .i64 D) (.int .i64 D) (rv k (D * D)) (.int .i64 D) (.int .i64 D) (rv v (D * D)) (.int .i64 D) (.int .i64 D) (rv o (D * D)) (rv s D) (.int .i64 H) (.int .i64 D) (rv u (H * D)) (.int .i64 D) (.int .i64 H) (rv d (D * H))
/-- How many numbers a layer has. -/
def lenB (D H : Nat) : Nat := D + D * D + D * D + D * D + D * D + D + H * D + D * H
/-- Rows of gains and of a matrix, from number i on. -/
def gainR (seed i n : Nat) : List Int := tab n fun j => 65536 + numN seed (i + j) 16384
def numR (seed i n m : Nat) : List Int := tab n fun j => numN seed (i + j) m
/-- A made layer's rows. -/
structure MadeB (w : World) (B seed i D H f q k v o s u d : Nat) : Prop where
  f : Fresh w B f D D (gainR seed i D)
  q : Fresh w B q (D * D) (D * D) (numR seed (i + D) (D * D) 65536)
  k : Fresh w B k (D * D) (D * D) (numR seed (i + D + D * D) (D * D) 65536)
  v : Fresh w B v (D * D) (D * D) (numR seed (i + D + D * D + D * D) (D * D) 65536)
  o : Fresh w B o (D * D) (D * D) (numR seed (i + D + D * D + D * D + D * D) (D * D) 65536)
  s : Fresh w B s D D (gainR seed (i + D + D * D + D * D + D * D + D * D) D)
  u : Fresh w B u (H * D) (H * D) (numR seed (i + D + D * D + D * D + D * D + D * D + D) (H * D) 65536)
  d : Fresh w B d (D * H) (D * H) (numR seed (i + D + D * D + D * D + D * D + D * D + D + H * D) (D * H) 65536)
/-- A configuration's cells. -/
def cfgC (V D Hd H L : Int) : Array Value := #[.int .i64 V, .int .i64 D, .int .i64 Hd, .int .i64 H, .int .i64 L]

theorem Tryz.infoB : (Tryz.prog.info? 80).map (·.size) = some 20 := by kernel_rfl
theorem But.row {g : Nat} {w w' : World} (h : But g w w') {b : Nat} (hb : w.heap.size ≤ b) (cs : Array Value) : But g w (w'.setRow b cs) :=
  ⟨h.os, h.tape, h.output, by simpa using h.size, fun k hk hn => by rw [setRow_other _ _ _ _ (by omega)]; exact h.block k hk hn⟩
theorem Fresh.rowOther {w : World} {B g n cap : Nat} {A : List Int} (h : Fresh w B g n cap A) {b : Nat} (hb : g ≠ b) (cs : Array Value) : Fresh (w.setRow b cs) B g n cap A := h.of_block (setRow_other _ _ _ _ hb)
set_option maxRecDepth 100000 in
set_option maxHeartbeats 3200000 in
theorem block_any (g seed i D H : Nat) (V Hd Ly : Int) (w : World) (hS : SrcAt w g (stN seed i)) (h1 : D ≤ 128) (h2 : H ≤ 128) :
   Calls Tryz.prog 24 #[.pointer (some ⟨g, 0, none⟩), .agg (cfgC V D Hd H Ly)] w fun e w' => ∃ f q k v o s u d, e = .returned (.agg (madeB D H f q k v o s u d)) ∧ MadeB w' w.heap.size seed i D H f q k v o s u d ∧ SrcAt w' g (stN seed (i + lenB D H)) ∧ But g w w' := by
  have hg := Blk.lt hS
  have X0 := blk_new w 23 (cfgC V D Hd H Ly)
  have B0 : Below w.heap.size w (w.alloc (.cells (cfgC V D Hd H Ly) 23)) := (Below.refl _ _).alloc (Nat.le_refl _) _
  have s0 : (w.alloc (.cells (cfgC V D Hd H Ly) 23)).heap.size = w.heap.size + 1 := by simp
  unfold cfgC at *
  generalize hw0 : w.alloc (.cells #[.int .i64 V, .int .i64 D, .int .i64 Hd, .int .i64 H, .int .i64 Ly] 23) = w0 at *
  have X1 := blk_new w0 80 #[.slice none 0 0, .int .i64 0, .int .i64 0, .slice none 0 0, .int .i64 0, .int .i64 0, .slice none 0 0, .int .i64 0, .int .i64 0, .slice none 0 0, .int .i64 0, .int .i64 0, .slice none 0 0, .slice none 0 0, .int .i64 0, .int .i64 0, .slice none 0 0, .int .i64 0, .int .i64 0, .slice none 0 0]
  have B1 : Below w0.heap.size w0 (w0.alloc (.cells #[.slice none 0 0, .int .i64 0, .int .i64 0, .slice none 0 0, .int .i64 0, .int .i64 0, .slice none 0 0, .int .i64 0, .int .i64 0, .slice none 0 0, .int .i64 0, .int .i64 0, .slice none 0 0, .slice none 0 0, .int .i64 0, .int .i64 0, .slice none 0 0, .int .i64 0, .int .i64 0, .slice none 0 0] 80)) := (Below.refl _ _).alloc (Nat.le_refl _) _
  have s1 : (w0.alloc (.cells #[.slice none 0 0, .int .i64 0, .int .i64 0, .slice none 0 0, .int .i64 0, .int .i64 0, .slice none 0 0, .int .i64 0, .int .i64 0, .slice none 0 0, .int .i64 0, .int .i64 0, .slice none 0 0, .slice none 0 0, .int .i64 0, .int .i64 0, .slice none 0 0, .int .i64 0, .int .i64 0, .slice none 0 0] 80)).heap.size = w0.heap.size + 1 := by simp
  rw [s0] at X1 s1
  generalize hw1 : w0.alloc (.cells #[.slice none 0 0, .int .i64 0, .int .i64 0, .slice none 0 0, .int .i64 0, .int .i64 0, .slice none 0 0, .int .i64 0, .int .i64 0, .slice none 0 0, .int .i64 0, .int .i64 0, .slice none 0 0, .slice none 0 0, .int .i64 0, .int .i64 0, .slice none 0 0, .int .i64 0, .int .i64 0, .slice none 0 0] 80) = w1 at *
  have X2 := blk_new w1 80 #[.slice none 0 0, .int .i64 0, .int .i64 0, .slice none 0 0, .int .i64 0, .int .i64 0, .slice none 0 0, .int .i64 0, .int .i64 0, .slice none 0 0, .int .i64 0, .int .i64 0, .slice none 0 0, .slice none 0 0, .int .i64 0, .int .i64 0, .slice none 0 0, .int .i64 0, .int .i64 0, .slice none 0 0]
  have B2 : Below w1.heap.size w1 (w1.alloc (.cells #[.slice none 0 0, .int .i64 0, .int .i64 0, .slice none 0 0, .int .i64 0, .int .i64 0, .slice none 0 0, .int .i64 0, .int .i64 0, .slice none 0 0, .int .i64 0, .int .i64 0, .slice none 0 0, .slice none 0 0, .int .i64 0, .int .i64 0, .slice none 0 0, .int .i64 0, .int .i64 0, .slice none 0 0] 80)) := (Below.refl _ _).alloc (Nat.le_refl _) _
  rw [s1] at X2
  generalize hw2 : w1.alloc (.cells #[.slice none 0 0, .int .i64 0, .int .i64 0, .slice none 0 0, .int .i64 0, .int .i64 0, .slice none 0 0, .int .i64 0, .int .i64 0, .slice none 0 0, .int .i64 0, .int .i64 0, .slice none 0 0, .slice none 0 0, .int .i64 0, .int .i64 0, .slice none 0 0, .int .i64 0, .int .i64 0, .slice none 0 0] 80) = w2 at *
  replace X0 := (X0.below B1).below B2
  replace X1 := X1.below B2
  have K2 : But g w w2 := But.of_below (below_then (below_then B0 B1) B2)
  have S2 : SrcAt w2 g (stN seed i) := Blk.below hS (below_then (below_then B0 B1) B2)
  have c1 : w2.cell? ⟨w.heap.size, 1, none⟩ = some (.int .i64 D) := X0.cell 1 rfl
  go_enter Tryz.func24, Tryz.ntmps24
  go_wp2_with fail
  clear hw0 hw1 hw2 s0 s1 B0 B1 B2 hS
  refine (gains_any g seed (i) D _ S2 (by omega)).mono ?_
  rintro e v0 ⟨f, rfl, Ff, S3, K3⟩
  replace Ff := Ff.mono K2.size
  replace X0 := X0.but K3 (by omega)
  replace X1 := X1.but K3 (by omega)
  replace X2 := X2.but K3 (by omega)
  replace K2 := K2.trans K3
  clear S2 K3 c1
  have fr0 := X2.frozen 0
  have cc0 : v0.cell? ⟨w.heap.size + 1 + 1, 0, none⟩ = some (.slice none 0 0) := X2.cell 0 rfl
  have X3 : Blk (v0.setCell ⟨w.heap.size + 1 + 1, 0, none⟩ (.slice (some ⟨f, 0, none⟩) (D) (D))) (w.heap.size + 1 + 1) 80 #[.slice (some ⟨f, 0, none⟩) (D) (D), .int .i64 0, .int .i64 0, .slice none 0 0, .int .i64 0, .int .i64 0, .slice none 0 0, .int .i64 0, .int .i64 0, .slice none 0 0, .int .i64 0, .int .i64 0, .slice none 0 0, .slice none 0 0, .int .i64 0, .int .i64 0, .slice none 0 0, .int .i64 0, .int .i64 0, .slice none 0 0] := (X2.set 0 (.slice (some ⟨f, 0, none⟩) (D) (D)))
  have Y0 := (Blk.other (a := ⟨w.heap.size + 1 + 1, 0, none⟩) X0 (by show w.heap.size ≠ w.heap.size + 1 + 1; omega) (.slice (some ⟨f, 0, none⟩) (D) (D)))
  have Y1 := (Blk.other (a := ⟨w.heap.size + 1 + 1, 0, none⟩) X1 (by show w.heap.size + 1 ≠ w.heap.size + 1 + 1; omega) (.slice (some ⟨f, 0, none⟩) (D) (D)))
  have S4 : SrcAt (v0.setCell ⟨w.heap.size + 1 + 1, 0, none⟩ (.slice (some ⟨f, 0, none⟩) (D) (D))) g _ := (Blk.other (a := ⟨w.heap.size + 1 + 1, 0, none⟩) S3 (by show g ≠ w.heap.size + 1 + 1; omega) (.slice (some ⟨f, 0, none⟩) (D) (D)))
  have K4 := (K2.set (a := ⟨w.heap.size + 1 + 1, 0, none⟩) (Or.inr (by show w.heap.size ≤ w.heap.size + 1 + 1; omega)) (.slice (some ⟨f, 0, none⟩) (D) (D)))
  have nef : f ≠ w.heap.size + 1 + 1 := by rintro rfl; obtain ⟨c9, h9, _⟩ := Ff.row; rw [X2] at h9; simp at h9
  have Gf := (Ff.setOther (a := ⟨w.heap.size + 1 + 1, 0, none⟩) nef (.slice (some ⟨f, 0, none⟩) (D) (D)))
  replace Y0 : Blk (v0.setCell ⟨w.heap.size + 1 + 1, 0, none⟩ (.slice (some ⟨f, 0, none⟩) (D) (D))) w.heap.size _ _ := Y0
  replace Y1 : Blk (v0.setCell ⟨w.heap.size + 1 + 1, 0, none⟩ (.slice (some ⟨f, 0, none⟩) (D) (D))) (w.heap.size + 1) _ _ := Y1
  generalize hx0 : v0.setCell ⟨w.heap.size + 1 + 1, 0, none⟩ (.slice (some ⟨f, 0, none⟩) (D) (D)) = x0 at *
  clear X0 X1 X2 S3 K2 Ff nef
  have X0 := Y0
  clear Y0
  have X1 := Y1
  clear Y1
  have X2 := X3
  clear X3
  have S2 := S4
  clear S4
  have K2 := K4
  clear K4
  have Ff := Gf
  clear Gf
  have c1 : x0.cell? ⟨w.heap.size, 1, none⟩ = some (.int .i64 D) := X0.cell 1 rfl
  go_wp2_with fail
  clear hx0
  refine (matrix_any g seed (i + D) D D 65536 _ S2 (by omega) (by omega) (by omega) (by omega)).mono ?_
  rintro e v1 ⟨q, rfl, Fq, S3, K3⟩
  unfold matV
  replace Fq := Fq.mono K2.size
  replace Ff := Ff.but K3 hg
  replace X0 := X0.but K3 (by omega)
  replace X1 := X1.but K3 (by omega)
  replace X2 := X2.but K3 (by omega)
  replace K2 := K2.trans K3
  clear S2 K3 c1
  have fr0 := X2.frozen 1
  have cc0 : v1.cell? ⟨w.heap.size + 1 + 1, 1, none⟩ = some (.int .i64 0) := X2.cell 1 rfl
  have fr1 := X2.frozen 2
  have cc1 : v1.cell? ⟨w.heap.size + 1 + 1, 2, none⟩ = some (.int .i64 0) := X2.cell 2 rfl
  have fr2 := X2.frozen 3
  have cc2 : v1.cell? ⟨w.heap.size + 1 + 1, 3, none⟩ = some (.slice none 0 0) := X2.cell 3 rfl
  have X3 : Blk (((v1.setCell ⟨w.heap.size + 1 + 1, 1, none⟩ (.int .i64 D)).setCell ⟨w.heap.size + 1 + 1, 2, none⟩ (.int .i64 D)).setCell ⟨w.heap.size + 1 + 1, 3, none⟩ (.slice (some ⟨q, 0, none⟩) (D * D) (D * D))) (w.heap.size + 1 + 1) 80 #[.slice (some ⟨f, 0, none⟩) (D) (D), .int .i64 D, .int .i64 D, .slice (some ⟨q, 0, none⟩) (D * D) (D * D), .int .i64 0, .int .i64 0, .slice none 0 0, .int .i64 0, .int .i64 0, .slice none 0 0, .int .i64 0, .int .i64 0, .slice none 0 0, .slice none 0 0, .int .i64 0, .int .i64 0, .slice none 0 0, .int .i64 0, .int .i64 0, .slice none 0 0] := (((X2.set 1 (.int .i64 D)).set 2 (.int .i64 D)).set 3 (.slice (some ⟨q, 0, none⟩) (D * D) (D * D)))
  have Y0 := (Blk.other (a := ⟨w.heap.size + 1 + 1, 3, none⟩) (Blk.other (a := ⟨w.heap.size + 1 + 1, 2, none⟩) (Blk.other (a := ⟨w.heap.size + 1 + 1, 1, none⟩) X0 (by show w.heap.size ≠ w.heap.size + 1 + 1; omega) (.int .i64 D)) (by show w.heap.size ≠ w.heap.size + 1 + 1; omega) (.int .i64 D)) (by show w.heap.size ≠ w.heap.size + 1 + 1; omega) (.slice (some ⟨q, 0, none⟩) (D * D) (D * D)))
  have Y1 := (Blk.other (a := ⟨w.heap.size + 1 + 1, 3, none⟩) (Blk.other (a := ⟨w.heap.size + 1 + 1, 2, none⟩) (Blk.other (a := ⟨w.heap.size + 1 + 1, 1, none⟩) X1 (by show w.heap.size + 1 ≠ w.heap.size + 1 + 1; omega) (.int .i64 D)) (by show w.heap.size + 1 ≠ w.heap.size + 1 + 1; omega) (.int .i64 D)) (by show w.heap.size + 1 ≠ w.heap.size + 1 + 1; omega) (.slice (some ⟨q, 0, none⟩) (D * D) (D * D)))
  have S4 : SrcAt (((v1.setCell ⟨w.heap.size + 1 + 1, 1, none⟩ (.int .i64 D)).setCell ⟨w.heap.size + 1 + 1, 2, none⟩ (.int .i64 D)).setCell ⟨w.heap.size + 1 + 1, 3, none⟩ (.slice (some ⟨q, 0, none⟩) (D * D) (D * D))) g _ := (Blk.other (a := ⟨w.heap.size + 1 + 1, 3, none⟩) (Blk.other (a := ⟨w.heap.size + 1 + 1, 2, none⟩) (Blk.other (a := ⟨w.heap.size + 1 + 1, 1, none⟩) S3 (by show g ≠ w.heap.size + 1 + 1; omega) (.int .i64 D)) (by show g ≠ w.heap.size + 1 + 1; omega) (.int .i64 D)) (by show g ≠ w.heap.size + 1 + 1; omega) (.slice (some ⟨q, 0, none⟩) (D * D) (D * D)))
  have K4 := (((K2.set (a := ⟨w.heap.size + 1 + 1, 1, none⟩) (Or.inr (by show w.heap.size ≤ w.heap.size + 1 + 1; omega)) (.int .i64 D)).set (a := ⟨w.heap.size + 1 + 1, 2, none⟩) (Or.inr (by show w.heap.size ≤ w.heap.size + 1 + 1; omega)) (.int .i64 D)).set (a := ⟨w.heap.size + 1 + 1, 3, none⟩) (Or.inr (by show w.heap.size ≤ w.heap.size + 1 + 1; omega)) (.slice (some ⟨q, 0, none⟩) (D * D) (D * D)))
  have nef : f ≠ w.heap.size + 1 + 1 := by rintro rfl; obtain ⟨c9, h9, _⟩ := Ff.row; rw [X2] at h9; simp at h9
  have Gf := (((Ff.setOther (a := ⟨w.heap.size + 1 + 1, 1, none⟩) nef (.int .i64 D)).setOther (a := ⟨w.heap.size + 1 + 1, 2, none⟩) nef (.int .i64 D)).setOther (a := ⟨w.heap.size + 1 + 1, 3, none⟩) nef (.slice (some ⟨q, 0, none⟩) (D * D) (D * D)))
  have neq : q ≠ w.heap.size + 1 + 1 := by rintro rfl; obtain ⟨c9, h9, _⟩ := Fq.row; rw [X2] at h9; simp at h9
  have Gq := (((Fq.setOther (a := ⟨w.heap.size + 1 + 1, 1, none⟩) neq (.int .i64 D)).setOther (a := ⟨w.heap.size + 1 + 1, 2, none⟩) neq (.int .i64 D)).setOther (a := ⟨w.heap.size + 1 + 1, 3, none⟩) neq (.slice (some ⟨q, 0, none⟩) (D * D) (D * D)))
  replace Y0 : Blk (((v1.setCell ⟨w.heap.size + 1 + 1, 1, none⟩ (.int .i64 D)).setCell ⟨w.heap.size + 1 + 1, 2, none⟩ (.int .i64 D)).setCell ⟨w.heap.size + 1 + 1, 3, none⟩ (.slice (some ⟨q, 0, none⟩) (D * D) (D * D))) w.heap.size _ _ := Y0
  replace Y1 : Blk (((v1.setCell ⟨w.heap.size + 1 + 1, 1, none⟩ (.int .i64 D)).setCell ⟨w.heap.size + 1 + 1, 2, none⟩ (.int .i64 D)).setCell ⟨w.heap.size + 1 + 1, 3, none⟩ (.slice (some ⟨q, 0, none⟩) (D * D) (D * D))) (w.heap.size + 1) _ _ := Y1
  generalize hx1 : ((v1.setCell ⟨w.heap.size + 1 + 1, 1, none⟩ (.int .i64 D)).setCell ⟨w.heap.size + 1 + 1, 2, none⟩ (.int .i64 D)).setCell ⟨w.heap.size + 1 + 1, 3, none⟩ (.slice (some ⟨q, 0, none⟩) (D * D) (D * D)) = x1 at *
  clear X0 X1 X2 S3 K2 Ff Fq nef neq
  have X0 := Y0
  clear Y0
  have X1 := Y1
  clear Y1
  have X2 := X3
  clear X3
  have S2 := S4
  clear S4
  have K2 := K4
  clear K4
  have Ff := Gf
  clear Gf
  have Fq := Gq
  clear Gq
  have c1 : x1.cell? ⟨w.heap.size, 1, none⟩ = some (.int .i64 D) := X0.cell 1 rfl
  go_wp2_with fail
  clear hx1
  refine (matrix_any g seed (i + D + D * D) D D 65536 _ S2 (by omega) (by omega) (by omega) (by omega)).mono ?_
  rintro e v2 ⟨k, rfl, Fk, S3, K3⟩
  unfold matV
  replace Fk := Fk.mono K2.size
  replace Ff := Ff.but K3 hg
  replace Fq := Fq.but K3 hg
  replace X0 := X0.but K3 (by omega)
  replace X1 := X1.but K3 (by omega)
  replace X2 := X2.but K3 (by omega)
  replace K2 := K2.trans K3
  clear S2 K3 c1
  have fr0 := X2.frozen 4
  have cc0 : v2.cell? ⟨w.heap.size + 1 + 1, 4, none⟩ = some (.int .i64 0) := X2.cell 4 rfl
  have fr1 := X2.frozen 5
  have cc1 : v2.cell? ⟨w.heap.size + 1 + 1, 5, none⟩ = some (.int .i64 0) := X2.cell 5 rfl
  have fr2 := X2.frozen 6
  have cc2 : v2.cell? ⟨w.heap.size + 1 + 1, 6, none⟩ = some (.slice none 0 0) := X2.cell 6 rfl
  have X3 : Blk (((v2.setCell ⟨w.heap.size + 1 + 1, 4, none⟩ (.int .i64 D)).setCell ⟨w.heap.size + 1 + 1, 5, none⟩ (.int .i64 D)).setCell ⟨w.heap.size + 1 + 1, 6, none⟩ (.slice (some ⟨k, 0, none⟩) (D * D) (D * D))) (w.heap.size + 1 + 1) 80 #[.slice (some ⟨f, 0, none⟩) (D) (D), .int .i64 D, .int .i64 D, .slice (some ⟨q, 0, none⟩) (D * D) (D * D), .int .i64 D, .int .i64 D, .slice (some ⟨k, 0, none⟩) (D * D) (D * D), .int .i64 0, .int .i64 0, .slice none 0 0, .int .i64 0, .int .i64 0, .slice none 0 0, .slice none 0 0, .int .i64 0, .int .i64 0, .slice none 0 0, .int .i64 0, .int .i64 0, .slice none 0 0] := (((X2.set 4 (.int .i64 D)).set 5 (.int .i64 D)).set 6 (.slice (some ⟨k, 0, none⟩) (D * D) (D * D)))
  have Y0 := (Blk.other (a := ⟨w.heap.size + 1 + 1, 6, none⟩) (Blk.other (a := ⟨w.heap.size + 1 + 1, 5, none⟩) (Blk.other (a := ⟨w.heap.size + 1 + 1, 4, none⟩) X0 (by show w.heap.size ≠ w.heap.size + 1 + 1; omega) (.int .i64 D)) (by show w.heap.size ≠ w.heap.size + 1 + 1; omega) (.int .i64 D)) (by show w.heap.size ≠ w.heap.size + 1 + 1; omega) (.slice (some ⟨k, 0, none⟩) (D * D) (D * D)))
  have Y1 := (Blk.other (a := ⟨w.heap.size + 1 + 1, 6, none⟩) (Blk.other (a := ⟨w.heap.size + 1 + 1, 5, none⟩) (Blk.other (a := ⟨w.heap.size + 1 + 1, 4, none⟩) X1 (by show w.heap.size + 1 ≠ w.heap.size + 1 + 1; omega) (.int .i64 D)) (by show w.heap.size + 1 ≠ w.heap.size + 1 + 1; omega) (.int .i64 D)) (by show w.heap.size + 1 ≠ w.heap.size + 1 + 1; omega) (.slice (some ⟨k, 0, none⟩) (D * D) (D * D)))
  have S4 : SrcAt (((v2.setCell ⟨w.heap.size + 1 + 1, 4, none⟩ (.int .i64 D)).setCell ⟨w.heap.size + 1 + 1, 5, none⟩ (.int .i64 D)).setCell ⟨w.heap.size + 1 + 1, 6, none⟩ (.slice (some ⟨k, 0, none⟩) (D * D) (D * D))) g _ := (Blk.other (a := ⟨w.heap.size + 1 + 1, 6, none⟩) (Blk.other (a := ⟨w.heap.size + 1 + 1, 5, none⟩) (Blk.other (a := ⟨w.heap.size + 1 + 1, 4, none⟩) S3 (by show g ≠ w.heap.size + 1 + 1; omega) (.int .i64 D)) (by show g ≠ w.heap.size + 1 + 1; omega) (.int .i64 D)) (by show g ≠ w.heap.size + 1 + 1; omega) (.slice (some ⟨k, 0, none⟩) (D * D) (D * D)))
  have K4 := (((K2.set (a := ⟨w.heap.size + 1 + 1, 4, none⟩) (Or.inr (by show w.heap.size ≤ w.heap.size + 1 + 1; omega)) (.int .i64 D)).set (a := ⟨w.heap.size + 1 + 1, 5, none⟩) (Or.inr (by show w.heap.size ≤ w.heap.size + 1 + 1; omega)) (.int .i64 D)).set (a := ⟨w.heap.size + 1 + 1, 6, none⟩) (Or.inr (by show w.heap.size ≤ w.heap.size + 1 + 1; omega)) (.slice (some ⟨k, 0, none⟩) (D * D) (D * D)))
  have nef : f ≠ w.heap.size + 1 + 1 := by rintro rfl; obtain ⟨c9, h9, _⟩ := Ff.row; rw [X2] at h9; simp at h9
  have Gf := (((Ff.setOther (a := ⟨w.heap.size + 1 + 1, 4, none⟩) nef (.int .i64 D)).setOther (a := ⟨w.heap.size + 1 + 1, 5, none⟩) nef (.int .i64 D)).setOther (a := ⟨w.heap.size + 1 + 1, 6, none⟩) nef (.slice (some ⟨k, 0, none⟩) (D * D) (D * D)))
  have neq : q ≠ w.heap.size + 1 + 1 := by rintro rfl; obtain ⟨c9, h9, _⟩ := Fq.row; rw [X2] at h9; simp at h9
  have Gq := (((Fq.setOther (a := ⟨w.heap.size + 1 + 1, 4, none⟩) neq (.int .i64 D)).setOther (a := ⟨w.heap.size + 1 + 1, 5, none⟩) neq (.int .i64 D)).setOther (a := ⟨w.heap.size + 1 + 1, 6, none⟩) neq (.slice (some ⟨k, 0, none⟩) (D * D) (D * D)))
  have nek : k ≠ w.heap.size + 1 + 1 := by rintro rfl; obtain ⟨c9, h9, _⟩ := Fk.row; rw [X2] at h9; simp at h9
  have Gk := (((Fk.setOther (a := ⟨w.heap.size + 1 + 1, 4, none⟩) nek (.int .i64 D)).setOther (a := ⟨w.heap.size + 1 + 1, 5, none⟩) nek (.int .i64 D)).setOther (a := ⟨w.heap.size + 1 + 1, 6, none⟩) nek (.slice (some ⟨k, 0, none⟩) (D * D) (D * D)))
  replace Y0 : Blk (((v2.setCell ⟨w.heap.size + 1 + 1, 4, none⟩ (.int .i64 D)).setCell ⟨w.heap.size + 1 + 1, 5, none⟩ (.int .i64 D)).setCell ⟨w.heap.size + 1 + 1, 6, none⟩ (.slice (some ⟨k, 0, none⟩) (D * D) (D * D))) w.heap.size _ _ := Y0
  replace Y1 : Blk (((v2.setCell ⟨w.heap.size + 1 + 1, 4, none⟩ (.int .i64 D)).setCell ⟨w.heap.size + 1 + 1, 5, none⟩ (.int .i64 D)).setCell ⟨w.heap.size + 1 + 1, 6, none⟩ (.slice (some ⟨k, 0, none⟩) (D * D) (D * D))) (w.heap.size + 1) _ _ := Y1
  generalize hx2 : ((v2.setCell ⟨w.heap.size + 1 + 1, 4, none⟩ (.int .i64 D)).setCell ⟨w.heap.size + 1 + 1, 5, none⟩ (.int .i64 D)).setCell ⟨w.heap.size + 1 + 1, 6, none⟩ (.slice (some ⟨k, 0, none⟩) (D * D) (D * D)) = x2 at *
  clear X0 X1 X2 S3 K2 Ff Fq Fk nef neq nek
  have X0 := Y0
  clear Y0
  have X1 := Y1
  clear Y1
  have X2 := X3
  clear X3
  have S2 := S4
  clear S4
  have K2 := K4
  clear K4
  have Ff := Gf
  clear Gf
  have Fq := Gq
  clear Gq
  have Fk := Gk
  clear Gk
  have c1 : x2.cell? ⟨w.heap.size, 1, none⟩ = some (.int .i64 D) := X0.cell 1 rfl
  go_wp2_with fail
  clear hx2
  refine (matrix_any g seed (i + D + D * D + D * D) D D 65536 _ S2 (by omega) (by omega) (by omega) (by omega)).mono ?_
  rintro e v3 ⟨v, rfl, Fv, S3, K3⟩
  unfold matV
  replace Fv := Fv.mono K2.size
  replace Ff := Ff.but K3 hg
  replace Fq := Fq.but K3 hg
  replace Fk := Fk.but K3 hg
  replace X0 := X0.but K3 (by omega)
  replace X1 := X1.but K3 (by omega)
  replace X2 := X2.but K3 (by omega)
  replace K2 := K2.trans K3
  clear S2 K3 c1
  have fr0 := X2.frozen 7
  have cc0 : v3.cell? ⟨w.heap.size + 1 + 1, 7, none⟩ = some (.int .i64 0) := X2.cell 7 rfl
  have fr1 := X2.frozen 8
  have cc1 : v3.cell? ⟨w.heap.size + 1 + 1, 8, none⟩ = some (.int .i64 0) := X2.cell 8 rfl
  have fr2 := X2.frozen 9
  have cc2 : v3.cell? ⟨w.heap.size + 1 + 1, 9, none⟩ = some (.slice none 0 0) := X2.cell 9 rfl
  have X3 : Blk (((v3.setCell ⟨w.heap.size + 1 + 1, 7, none⟩ (.int .i64 D)).setCell ⟨w.heap.size + 1 + 1, 8, none⟩ (.int .i64 D)).setCell ⟨w.heap.size + 1 + 1, 9, none⟩ (.slice (some ⟨v, 0, none⟩) (D * D) (D * D))) (w.heap.size + 1 + 1) 80 #[.slice (some ⟨f, 0, none⟩) (D) (D), .int .i64 D, .int .i64 D, .slice (some ⟨q, 0, none⟩) (D * D) (D * D), .int .i64 D, .int .i64 D, .slice (some ⟨k, 0, none⟩) (D * D) (D * D), .int .i64 D, .int .i64 D, .slice (some ⟨v, 0, none⟩) (D * D) (D * D), .int .i64 0, .int .i64 0, .slice none 0 0, .slice none 0 0, .int .i64 0, .int .i64 0, .slice none 0 0, .int .i64 0, .int .i64 0, .slice none 0 0] := (((X2.set 7 (.int .i64 D)).set 8 (.int .i64 D)).set 9 (.slice (some ⟨v, 0, none⟩) (D * D) (D * D)))
  have Y0 := (Blk.other (a := ⟨w.heap.size + 1 + 1, 9, none⟩) (Blk.other (a := ⟨w.heap.size + 1 + 1, 8, none⟩) (Blk.other (a := ⟨w.heap.size + 1 + 1, 7, none⟩) X0 (by show w.heap.size ≠ w.heap.size + 1 + 1; omega) (.int .i64 D)) (by show w.heap.size ≠ w.heap.size + 1 + 1; omega) (.int .i64 D)) (by show w.heap.size ≠ w.heap.size + 1 + 1; omega) (.slice (some ⟨v, 0, none⟩) (D * D) (D * D)))
  have Y1 := (Blk.other (a := ⟨w.heap.size + 1 + 1, 9, none⟩) (Blk.other (a := ⟨w.heap.size + 1 + 1, 8, none⟩) (Blk.other (a := ⟨w.heap.size + 1 + 1, 7, none⟩) X1 (by show w.heap.size + 1 ≠ w.heap.size + 1 + 1; omega) (.int .i64 D)) (by show w.heap.size + 1 ≠ w.heap.size + 1 + 1; omega) (.int .i64 D)) (by show w.heap.size + 1 ≠ w.heap.size + 1 + 1; omega) (.slice (some ⟨v, 0, none⟩) (D * D) (D * D)))
  have S4 : SrcAt (((v3.setCell ⟨w.heap.size + 1 + 1, 7, none⟩ (.int .i64 D)).setCell ⟨w.heap.size + 1 + 1, 8, none⟩ (.int .i64 D)).setCell ⟨w.heap.size + 1 + 1, 9, none⟩ (.slice (some ⟨v, 0, none⟩) (D * D) (D * D))) g _ := (Blk.other (a := ⟨w.heap.size + 1 + 1, 9, none⟩) (Blk.other (a := ⟨w.heap.size + 1 + 1, 8, none⟩) (Blk.other (a := ⟨w.heap.size + 1 + 1, 7, none⟩) S3 (by show g ≠ w.heap.size + 1 + 1; omega) (.int .i64 D)) (by show g ≠ w.heap.size + 1 + 1; omega) (.int .i64 D)) (by show g ≠ w.heap.size + 1 + 1; omega) (.slice (some ⟨v, 0, none⟩) (D * D) (D * D)))
  have K4 := (((K2.set (a := ⟨w.heap.size + 1 + 1, 7, none⟩) (Or.inr (by show w.heap.size ≤ w.heap.size + 1 + 1; omega)) (.int .i64 D)).set (a := ⟨w.heap.size + 1 + 1, 8, none⟩) (Or.inr (by show w.heap.size ≤ w.heap.size + 1 + 1; omega)) (.int .i64 D)).set (a := ⟨w.heap.size + 1 + 1, 9, none⟩) (Or.inr (by show w.heap.size ≤ w.heap.size + 1 + 1; omega)) (.slice (some ⟨v, 0, none⟩) (D * D) (D * D)))
  have nef : f ≠ w.heap.size + 1 + 1 := by rintro rfl; obtain ⟨c9, h9, _⟩ := Ff.row; rw [X2] at h9; simp at h9
  have Gf := (((Ff.setOther (a := ⟨w.heap.size + 1 + 1, 7, none⟩) nef (.int .i64 D)).setOther (a := ⟨w.heap.size + 1 + 1, 8, none⟩) nef (.int .i64 D)).setOther (a := ⟨w.heap.size + 1 + 1, 9, none⟩) nef (.slice (some ⟨v, 0, none⟩) (D * D) (D * D)))
  have neq : q ≠ w.heap.size + 1 + 1 := by rintro rfl; obtain ⟨c9, h9, _⟩ := Fq.row; rw [X2] at h9; simp at h9
  have Gq := (((Fq.setOther (a := ⟨w.heap.size + 1 + 1, 7, none⟩) neq (.int .i64 D)).setOther (a := ⟨w.heap.size + 1 + 1, 8, none⟩) neq (.int .i64 D)).setOther (a := ⟨w.heap.size + 1 + 1, 9, none⟩) neq (.slice (some ⟨v, 0, none⟩) (D * D) (D * D)))
  have nek : k ≠ w.heap.size + 1 + 1 := by rintro rfl; obtain ⟨c9, h9, _⟩ := Fk.row; rw [X2] at h9; simp at h9
  have Gk := (((Fk.setOther (a := ⟨w.heap.size + 1 + 1, 7, none⟩) nek (.int .i64 D)).setOther (a := ⟨w.heap.size + 1 + 1, 8, none⟩) nek (.int .i64 D)).setOther (a := ⟨w.heap.size + 1 + 1, 9, none⟩) nek (.slice (some ⟨v, 0, none⟩) (D * D) (D * D)))
  have nev : v ≠ w.heap.size + 1 + 1 := by rintro rfl; obtain ⟨c9, h9, _⟩ := Fv.row; rw [X2] at h9; simp at h9
  have Gv := (((Fv.setOther (a := ⟨w.heap.size + 1 + 1, 7, none⟩) nev (.int .i64 D)).setOther (a := ⟨w.heap.size + 1 + 1, 8, none⟩) nev (.int .i64 D)).setOther (a := ⟨w.heap.size + 1 + 1, 9, none⟩) nev (.slice (some ⟨v, 0, none⟩) (D * D) (D * D)))
  replace Y0 : Blk (((v3.setCell ⟨w.heap.size + 1 + 1, 7, none⟩ (.int .i64 D)).setCell ⟨w.heap.size + 1 + 1, 8, none⟩ (.int .i64 D)).setCell ⟨w.heap.size + 1 + 1, 9, none⟩ (.slice (some ⟨v, 0, none⟩) (D * D) (D * D))) w.heap.size _ _ := Y0
  replace Y1 : Blk (((v3.setCell ⟨w.heap.size + 1 + 1, 7, none⟩ (.int .i64 D)).setCell ⟨w.heap.size + 1 + 1, 8, none⟩ (.int .i64 D)).setCell ⟨w.heap.size + 1 + 1, 9, none⟩ (.slice (some ⟨v, 0, none⟩) (D * D) (D * D))) (w.heap.size + 1) _ _ := Y1
  generalize hx3 : ((v3.setCell ⟨w.heap.size + 1 + 1, 7, none⟩ (.int .i64 D)).setCell ⟨w.heap.size + 1 + 1, 8, none⟩ (.int .i64 D)).setCell ⟨w.heap.size + 1 + 1, 9, none⟩ (.slice (some ⟨v, 0, none⟩) (D * D) (D * D)) = x3 at *
  clear X0 X1 X2 S3 K2 Ff Fq Fk Fv nef neq nek nev
  have X0 := Y0
  clear Y0
  have X1 := Y1
  clear Y1
  have X2 := X3
  clear X3
  have S2 := S4
  clear S4
  have K2 := K4
  clear K4
  have Ff := Gf
  clear Gf
  have Fq := Gq
  clear Gq
  have Fk := Gk
  clear Gk
  have Fv := Gv
  clear Gv
  have c1 : x3.cell? ⟨w.heap.size, 1, none⟩ = some (.int .i64 D) := X0.cell 1 rfl
  go_wp2_with fail
  clear hx3
  refine (matrix_any g seed (i + D + D * D + D * D + D * D) D D 65536 _ S2 (by omega) (by omega) (by omega) (by omega)).mono ?_
  rintro e v4 ⟨o, rfl, Fo, S3, K3⟩
  unfold matV
  replace Fo := Fo.mono K2.size
  replace Ff := Ff.but K3 hg
  replace Fq := Fq.but K3 hg
  replace Fk := Fk.but K3 hg
  replace Fv := Fv.but K3 hg
  replace X0 := X0.but K3 (by omega)
  replace X1 := X1.but K3 (by omega)
  replace X2 := X2.but K3 (by omega)
  replace K2 := K2.trans K3
  clear S2 K3 c1
  have fr0 := X2.frozen 10
  have cc0 : v4.cell? ⟨w.heap.size + 1 + 1, 10, none⟩ = some (.int .i64 0) := X2.cell 10 rfl
  have fr1 := X2.frozen 11
  have cc1 : v4.cell? ⟨w.heap.size + 1 + 1, 11, none⟩ = some (.int .i64 0) := X2.cell 11 rfl
  have fr2 := X2.frozen 12
  have cc2 : v4.cell? ⟨w.heap.size + 1 + 1, 12, none⟩ = some (.slice none 0 0) := X2.cell 12 rfl
  have X3 : Blk (((v4.setCell ⟨w.heap.size + 1 + 1, 10, none⟩ (.int .i64 D)).setCell ⟨w.heap.size + 1 + 1, 11, none⟩ (.int .i64 D)).setCell ⟨w.heap.size + 1 + 1, 12, none⟩ (.slice (some ⟨o, 0, none⟩) (D * D) (D * D))) (w.heap.size + 1 + 1) 80 #[.slice (some ⟨f, 0, none⟩) (D) (D), .int .i64 D, .int .i64 D, .slice (some ⟨q, 0, none⟩) (D * D) (D * D), .int .i64 D, .int .i64 D, .slice (some ⟨k, 0, none⟩) (D * D) (D * D), .int .i64 D, .int .i64 D, .slice (some ⟨v, 0, none⟩) (D * D) (D * D), .int .i64 D, .int .i64 D, .slice (some ⟨o, 0, none⟩) (D * D) (D * D), .slice none 0 0, .int .i64 0, .int .i64 0, .slice none 0 0, .int .i64 0, .int .i64 0, .slice none 0 0] := (((X2.set 10 (.int .i64 D)).set 11 (.int .i64 D)).set 12 (.slice (some ⟨o, 0, none⟩) (D * D) (D * D)))
  have Y0 := (Blk.other (a := ⟨w.heap.size + 1 + 1, 12, none⟩) (Blk.other (a := ⟨w.heap.size + 1 + 1, 11, none⟩) (Blk.other (a := ⟨w.heap.size + 1 + 1, 10, none⟩) X0 (by show w.heap.size ≠ w.heap.size + 1 + 1; omega) (.int .i64 D)) (by show w.heap.size ≠ w.heap.size + 1 + 1; omega) (.int .i64 D)) (by show w.heap.size ≠ w.heap.size + 1 + 1; omega) (.slice (some ⟨o, 0, none⟩) (D * D) (D * D)))
  have Y1 := (Blk.other (a := ⟨w.heap.size + 1 + 1, 12, none⟩) (Blk.other (a := ⟨w.heap.size + 1 + 1, 11, none⟩) (Blk.other (a := ⟨w.heap.size + 1 + 1, 10, none⟩) X1 (by show w.heap.size + 1 ≠ w.heap.size + 1 + 1; omega) (.int .i64 D)) (by show w.heap.size + 1 ≠ w.heap.size + 1 + 1; omega) (.int .i64 D)) (by show w.heap.size + 1 ≠ w.heap.size + 1 + 1; omega) (.slice (some ⟨o, 0, none⟩) (D * D) (D * D)))
  have S4 : SrcAt (((v4.setCell ⟨w.heap.size + 1 + 1, 10, none⟩ (.int .i64 D)).setCell ⟨w.heap.size + 1 + 1, 11, none⟩ (.int .i64 D)).setCell ⟨w.heap.size + 1 + 1, 12, none⟩ (.slice (some ⟨o, 0, none⟩) (D * D) (D * D))) g _ := (Blk.other (a := ⟨w.heap.size + 1 + 1, 12, none⟩) (Blk.other (a := ⟨w.heap.size + 1 + 1, 11, none⟩) (Blk.other (a := ⟨w.heap.size + 1 + 1, 10, none⟩) S3 (by show g ≠ w.heap.size + 1 + 1; omega) (.int .i64 D)) (by show g ≠ w.heap.size + 1 + 1; omega) (.int .i64 D)) (by show g ≠ w.heap.size + 1 + 1; omega) (.slice (some ⟨o, 0, none⟩) (D * D) (D * D)))
  have K4 := (((K2.set (a := ⟨w.heap.size + 1 + 1, 10, none⟩) (Or.inr (by show w.heap.size ≤ w.heap.size + 1 + 1; omega)) (.int .i64 D)).set (a := ⟨w.heap.size + 1 + 1, 11, none⟩) (Or.inr (by show w.heap.size ≤ w.heap.size + 1 + 1; omega)) (.int .i64 D)).set (a := ⟨w.heap.size + 1 + 1, 12, none⟩) (Or.inr (by show w.heap.size ≤ w.heap.size + 1 + 1; omega)) (.slice (some ⟨o, 0, none⟩) (D * D) (D * D)))
  have nef : f ≠ w.heap.size + 1 + 1 := by rintro rfl; obtain ⟨c9, h9, _⟩ := Ff.row; rw [X2] at h9; simp at h9
  have Gf := (((Ff.setOther (a := ⟨w.heap.size + 1 + 1, 10, none⟩) nef (.int .i64 D)).setOther (a := ⟨w.heap.size + 1 + 1, 11, none⟩) nef (.int .i64 D)).setOther (a := ⟨w.heap.size + 1 + 1, 12, none⟩) nef (.slice (some ⟨o, 0, none⟩) (D * D) (D * D)))
  have neq : q ≠ w.heap.size + 1 + 1 := by rintro rfl; obtain ⟨c9, h9, _⟩ := Fq.row; rw [X2] at h9; simp at h9
  have Gq := (((Fq.setOther (a := ⟨w.heap.size + 1 + 1, 10, none⟩) neq (.int .i64 D)).setOther (a := ⟨w.heap.size + 1 + 1, 11, none⟩) neq (.int .i64 D)).setOther (a := ⟨w.heap.size + 1 + 1, 12, none⟩) neq (.slice (some ⟨o, 0, none⟩) (D * D) (D * D)))
  have nek : k ≠ w.heap.size + 1 + 1 := by rintro rfl; obtain ⟨c9, h9, _⟩ := Fk.row; rw [X2] at h9; simp at h9
  have Gk := (((Fk.setOther (a := ⟨w.heap.size + 1 + 1, 10, none⟩) nek (.int .i64 D)).setOther (a := ⟨w.heap.size + 1 + 1, 11, none⟩) nek (.int .i64 D)).setOther (a := ⟨w.heap.size + 1 + 1, 12, none⟩) nek (.slice (some ⟨o, 0, none⟩) (D * D) (D * D)))
  have nev : v ≠ w.heap.size + 1 + 1 := by rintro rfl; obtain ⟨c9, h9, _⟩ := Fv.row; rw [X2] at h9; simp at h9
  have Gv := (((Fv.setOther (a := ⟨w.heap.size + 1 + 1, 10, none⟩) nev (.int .i64 D)).setOther (a := ⟨w.heap.size + 1 + 1, 11, none⟩) nev (.int .i64 D)).setOther (a := ⟨w.heap.size + 1 + 1, 12, none⟩) nev (.slice (some ⟨o, 0, none⟩) (D * D) (D * D)))
  have neo : o ≠ w.heap.size + 1 + 1 := by rintro rfl; obtain ⟨c9, h9, _⟩ := Fo.row; rw [X2] at h9; simp at h9
  have Go := (((Fo.setOther (a := ⟨w.heap.size + 1 + 1, 10, none⟩) neo (.int .i64 D)).setOther (a := ⟨w.heap.size + 1 + 1, 11, none⟩) neo (.int .i64 D)).setOther (a := ⟨w.heap.size + 1 + 1, 12, none⟩) neo (.slice (some ⟨o, 0, none⟩) (D * D) (D * D)))
  replace Y0 : Blk (((v4.setCell ⟨w.heap.size + 1 + 1, 10, none⟩ (.int .i64 D)).setCell ⟨w.heap.size + 1 + 1, 11, none⟩ (.int .i64 D)).setCell ⟨w.heap.size + 1 + 1, 12, none⟩ (.slice (some ⟨o, 0, none⟩) (D * D) (D * D))) w.heap.size _ _ := Y0
  replace Y1 : Blk (((v4.setCell ⟨w.heap.size + 1 + 1, 10, none⟩ (.int .i64 D)).setCell ⟨w.heap.size + 1 + 1, 11, none⟩ (.int .i64 D)).setCell ⟨w.heap.size + 1 + 1, 12, none⟩ (.slice (some ⟨o, 0, none⟩) (D * D) (D * D))) (w.heap.size + 1) _ _ := Y1
  generalize hx4 : ((v4.setCell ⟨w.heap.size + 1 + 1, 10, none⟩ (.int .i64 D)).setCell ⟨w.heap.size + 1 + 1, 11, none⟩ (.int .i64 D)).setCell ⟨w.heap.size + 1 + 1, 12, none⟩ (.slice (some ⟨o, 0, none⟩) (D * D) (D * D)) = x4 at *
  clear X0 X1 X2 S3 K2 Ff Fq Fk Fv Fo nef neq nek nev neo
  have X0 := Y0
  clear Y0
  have X1 := Y1
  clear Y1
  have X2 := X3
  clear X3
  have S2 := S4
  clear S4
  have K2 := K4
  clear K4
  have Ff := Gf
  clear Gf
  have Fq := Gq
  clear Gq
  have Fk := Gk
  clear Gk
  have Fv := Gv
  clear Gv
  have Fo := Go
  clear Go
  have c1 : x4.cell? ⟨w.heap.size, 1, none⟩ = some (.int .i64 D) := X0.cell 1 rfl
  go_wp2_with fail
  clear hx4
  refine (gains_any g seed (i + D + D * D + D * D + D * D + D * D) D _ S2 (by omega)).mono ?_
  rintro e v5 ⟨s, rfl, Fs, S3, K3⟩
  replace Fs := Fs.mono K2.size
  replace Ff := Ff.but K3 hg
  replace Fq := Fq.but K3 hg
  replace Fk := Fk.but K3 hg
  replace Fv := Fv.but K3 hg
  replace Fo := Fo.but K3 hg
  replace X0 := X0.but K3 (by omega)
  replace X1 := X1.but K3 (by omega)
  replace X2 := X2.but K3 (by omega)
  replace K2 := K2.trans K3
  clear S2 K3 c1
  have fr0 := X2.frozen 13
  have cc0 : v5.cell? ⟨w.heap.size + 1 + 1, 13, none⟩ = some (.slice none 0 0) := X2.cell 13 rfl
  have X3 : Blk (v5.setCell ⟨w.heap.size + 1 + 1, 13, none⟩ (.slice (some ⟨s, 0, none⟩) (D) (D))) (w.heap.size + 1 + 1) 80 #[.slice (some ⟨f, 0, none⟩) (D) (D), .int .i64 D, .int .i64 D, .slice (some ⟨q, 0, none⟩) (D * D) (D * D), .int .i64 D, .int .i64 D, .slice (some ⟨k, 0, none⟩) (D * D) (D * D), .int .i64 D, .int .i64 D, .slice (some ⟨v, 0, none⟩) (D * D) (D * D), .int .i64 D, .int .i64 D, .slice (some ⟨o, 0, none⟩) (D * D) (D * D), .slice (some ⟨s, 0, none⟩) (D) (D), .int .i64 0, .int .i64 0, .slice none 0 0, .int .i64 0, .int .i64 0, .slice none 0 0] := (X2.set 13 (.slice (some ⟨s, 0, none⟩) (D) (D)))
  have Y0 := (Blk.other (a := ⟨w.heap.size + 1 + 1, 13, none⟩) X0 (by show w.heap.size ≠ w.heap.size + 1 + 1; omega) (.slice (some ⟨s, 0, none⟩) (D) (D)))
  have Y1 := (Blk.other (a := ⟨w.heap.size + 1 + 1, 13, none⟩) X1 (by show w.heap.size + 1 ≠ w.heap.size + 1 + 1; omega) (.slice (some ⟨s, 0, none⟩) (D) (D)))
  have S4 : SrcAt (v5.setCell ⟨w.heap.size + 1 + 1, 13, none⟩ (.slice (some ⟨s, 0, none⟩) (D) (D))) g _ := (Blk.other (a := ⟨w.heap.size + 1 + 1, 13, none⟩) S3 (by show g ≠ w.heap.size + 1 + 1; omega) (.slice (some ⟨s, 0, none⟩) (D) (D)))
  have K4 := (K2.set (a := ⟨w.heap.size + 1 + 1, 13, none⟩) (Or.inr (by show w.heap.size ≤ w.heap.size + 1 + 1; omega)) (.slice (some ⟨s, 0, none⟩) (D) (D)))
  have nef : f ≠ w.heap.size + 1 + 1 := by rintro rfl; obtain ⟨c9, h9, _⟩ := Ff.row; rw [X2] at h9; simp at h9
  have Gf := (Ff.setOther (a := ⟨w.heap.size + 1 + 1, 13, none⟩) nef (.slice (some ⟨s, 0, none⟩) (D) (D)))
  have neq : q ≠ w.heap.size + 1 + 1 := by rintro rfl; obtain ⟨c9, h9, _⟩ := Fq.row; rw [X2] at h9; simp at h9
  have Gq := (Fq.setOther (a := ⟨w.heap.size + 1 + 1, 13, none⟩) neq (.slice (some ⟨s, 0, none⟩) (D) (D)))
  have nek : k ≠ w.heap.size + 1 + 1 := by rintro rfl; obtain ⟨c9, h9, _⟩ := Fk.row; rw [X2] at h9; simp at h9
  have Gk := (Fk.setOther (a := ⟨w.heap.size + 1 + 1, 13, none⟩) nek (.slice (some ⟨s, 0, none⟩) (D) (D)))
  have nev : v ≠ w.heap.size + 1 + 1 := by rintro rfl; obtain ⟨c9, h9, _⟩ := Fv.row; rw [X2] at h9; simp at h9
  have Gv := (Fv.setOther (a := ⟨w.heap.size + 1 + 1, 13, none⟩) nev (.slice (some ⟨s, 0, none⟩) (D) (D)))
  have neo : o ≠ w.heap.size + 1 + 1 := by rintro rfl; obtain ⟨c9, h9, _⟩ := Fo.row; rw [X2] at h9; simp at h9
  have Go := (Fo.setOther (a := ⟨w.heap.size + 1 + 1, 13, none⟩) neo (.slice (some ⟨s, 0, none⟩) (D) (D)))
  have nes : s ≠ w.heap.size + 1 + 1 := by rintro rfl; obtain ⟨c9, h9, _⟩ := Fs.row; rw [X2] at h9; simp at h9
  have Gs := (Fs.setOther (a := ⟨w.heap.size + 1 + 1, 13, none⟩) nes (.slice (some ⟨s, 0, none⟩) (D) (D)))
  replace Y0 : Blk (v5.setCell ⟨w.heap.size + 1 + 1, 13, none⟩ (.slice (some ⟨s, 0, none⟩) (D) (D))) w.heap.size _ _ := Y0
  replace Y1 : Blk (v5.setCell ⟨w.heap.size + 1 + 1, 13, none⟩ (.slice (some ⟨s, 0, none⟩) (D) (D))) (w.heap.size + 1) _ _ := Y1
  generalize hx5 : v5.setCell ⟨w.heap.size + 1 + 1, 13, none⟩ (.slice (some ⟨s, 0, none⟩) (D) (D)) = x5 at *
  clear X0 X1 X2 S3 K2 Ff Fq Fk Fv Fo Fs nef neq nek nev neo nes
  have X0 := Y0
  clear Y0
  have X1 := Y1
  clear Y1
  have X2 := X3
  clear X3
  have S2 := S4
  clear S4
  have K2 := K4
  clear K4
  have Ff := Gf
  clear Gf
  have Fq := Gq
  clear Gq
  have Fk := Gk
  clear Gk
  have Fv := Gv
  clear Gv
  have Fo := Go
  clear Go
  have Fs := Gs
  clear Gs
  have c1 : x5.cell? ⟨w.heap.size, 1, none⟩ = some (.int .i64 D) := X0.cell 1 rfl
  have c3 : x5.cell? ⟨w.heap.size, 3, none⟩ = some (.int .i64 H) := X0.cell 3 rfl
  go_wp2_with fail
  clear hx5
  refine (matrix_any g seed (i + D + D * D + D * D + D * D + D * D + D) H D 65536 _ S2 (by omega) (by omega) (by omega) (by omega)).mono ?_
  rintro e v6 ⟨u, rfl, Fu, S3, K3⟩
  unfold matV
  replace Fu := Fu.mono K2.size
  replace Ff := Ff.but K3 hg
  replace Fq := Fq.but K3 hg
  replace Fk := Fk.but K3 hg
  replace Fv := Fv.but K3 hg
  replace Fo := Fo.but K3 hg
  replace Fs := Fs.but K3 hg
  replace X0 := X0.but K3 (by omega)
  replace X1 := X1.but K3 (by omega)
  replace X2 := X2.but K3 (by omega)
  replace K2 := K2.trans K3
  clear S2 K3 c1 c3
  have fr0 := X2.frozen 14
  have cc0 : v6.cell? ⟨w.heap.size + 1 + 1, 14, none⟩ = some (.int .i64 0) := X2.cell 14 rfl
  have fr1 := X2.frozen 15
  have cc1 : v6.cell? ⟨w.heap.size + 1 + 1, 15, none⟩ = some (.int .i64 0) := X2.cell 15 rfl
  have fr2 := X2.frozen 16
  have cc2 : v6.cell? ⟨w.heap.size + 1 + 1, 16, none⟩ = some (.slice none 0 0) := X2.cell 16 rfl
  have X3 : Blk (((v6.setCell ⟨w.heap.size + 1 + 1, 14, none⟩ (.int .i64 H)).setCell ⟨w.heap.size + 1 + 1, 15, none⟩ (.int .i64 D)).setCell ⟨w.heap.size + 1 + 1, 16, none⟩ (.slice (some ⟨u, 0, none⟩) (H * D) (H * D))) (w.heap.size + 1 + 1) 80 #[.slice (some ⟨f, 0, none⟩) (D) (D), .int .i64 D, .int .i64 D, .slice (some ⟨q, 0, none⟩) (D * D) (D * D), .int .i64 D, .int .i64 D, .slice (some ⟨k, 0, none⟩) (D * D) (D * D), .int .i64 D, .int .i64 D, .slice (some ⟨v, 0, none⟩) (D * D) (D * D), .int .i64 D, .int .i64 D, .slice (some ⟨o, 0, none⟩) (D * D) (D * D), .slice (some ⟨s, 0, none⟩) (D) (D), .int .i64 H, .int .i64 D, .slice (some ⟨u, 0, none⟩) (H * D) (H * D), .int .i64 0, .int .i64 0, .slice none 0 0] := (((X2.set 14 (.int .i64 H)).set 15 (.int .i64 D)).set 16 (.slice (some ⟨u, 0, none⟩) (H * D) (H * D)))
  have Y0 := (Blk.other (a := ⟨w.heap.size + 1 + 1, 16, none⟩) (Blk.other (a := ⟨w.heap.size + 1 + 1, 15, none⟩) (Blk.other (a := ⟨w.heap.size + 1 + 1, 14, none⟩) X0 (by show w.heap.size ≠ w.heap.size + 1 + 1; omega) (.int .i64 H)) (by show w.heap.size ≠ w.heap.size + 1 + 1; omega) (.int .i64 D)) (by show w.heap.size ≠ w.heap.size + 1 + 1; omega) (.slice (some ⟨u, 0, none⟩) (H * D) (H * D)))
  have Y1 := (Blk.other (a := ⟨w.heap.size + 1 + 1, 16, none⟩) (Blk.other (a := ⟨w.heap.size + 1 + 1, 15, none⟩) (Blk.other (a := ⟨w.heap.size + 1 + 1, 14, none⟩) X1 (by show w.heap.size + 1 ≠ w.heap.size + 1 + 1; omega) (.int .i64 H)) (by show w.heap.size + 1 ≠ w.heap.size + 1 + 1; omega) (.int .i64 D)) (by show w.heap.size + 1 ≠ w.heap.size + 1 + 1; omega) (.slice (some ⟨u, 0, none⟩) (H * D) (H * D)))
  have S4 : SrcAt (((v6.setCell ⟨w.heap.size + 1 + 1, 14, none⟩ (.int .i64 H)).setCell ⟨w.heap.size + 1 + 1, 15, none⟩ (.int .i64 D)).setCell ⟨w.heap.size + 1 + 1, 16, none⟩ (.slice (some ⟨u, 0, none⟩) (H * D) (H * D))) g _ := (Blk.other (a := ⟨w.heap.size + 1 + 1, 16, none⟩) (Blk.other (a := ⟨w.heap.size + 1 + 1, 15, none⟩) (Blk.other (a := ⟨w.heap.size + 1 + 1, 14, none⟩) S3 (by show g ≠ w.heap.size + 1 + 1; omega) (.int .i64 H)) (by show g ≠ w.heap.size + 1 + 1; omega) (.int .i64 D)) (by show g ≠ w.heap.size + 1 + 1; omega) (.slice (some ⟨u, 0, none⟩) (H * D) (H * D)))
  have K4 := (((K2.set (a := ⟨w.heap.size + 1 + 1, 14, none⟩) (Or.inr (by show w.heap.size ≤ w.heap.size + 1 + 1; omega)) (.int .i64 H)).set (a := ⟨w.heap.size + 1 + 1, 15, none⟩) (Or.inr (by show w.heap.size ≤ w.heap.size + 1 + 1; omega)) (.int .i64 D)).set (a := ⟨w.heap.size + 1 + 1, 16, none⟩) (Or.inr (by show w.heap.size ≤ w.heap.size + 1 + 1; omega)) (.slice (some ⟨u, 0, none⟩) (H * D) (H * D)))
  have nef : f ≠ w.heap.size + 1 + 1 := by rintro rfl; obtain ⟨c9, h9, _⟩ := Ff.row; rw [X2] at h9; simp at h9
  have Gf := (((Ff.setOther (a := ⟨w.heap.size + 1 + 1, 14, none⟩) nef (.int .i64 H)).setOther (a := ⟨w.heap.size + 1 + 1, 15, none⟩) nef (.int .i64 D)).setOther (a := ⟨w.heap.size + 1 + 1, 16, none⟩) nef (.slice (some ⟨u, 0, none⟩) (H * D) (H * D)))
  have neq : q ≠ w.heap.size + 1 + 1 := by rintro rfl; obtain ⟨c9, h9, _⟩ := Fq.row; rw [X2] at h9; simp at h9
  have Gq := (((Fq.setOther (a := ⟨w.heap.size + 1 + 1, 14, none⟩) neq (.int .i64 H)).setOther (a := ⟨w.heap.size + 1 + 1, 15, none⟩) neq (.int .i64 D)).setOther (a := ⟨w.heap.size + 1 + 1, 16, none⟩) neq (.slice (some ⟨u, 0, none⟩) (H * D) (H * D)))
  have nek : k ≠ w.heap.size + 1 + 1 := by rintro rfl; obtain ⟨c9, h9, _⟩ := Fk.row; rw [X2] at h9; simp at h9
  have Gk := (((Fk.setOther (a := ⟨w.heap.size + 1 + 1, 14, none⟩) nek (.int .i64 H)).setOther (a := ⟨w.heap.size + 1 + 1, 15, none⟩) nek (.int .i64 D)).setOther (a := ⟨w.heap.size + 1 + 1, 16, none⟩) nek (.slice (some ⟨u, 0, none⟩) (H * D) (H * D)))
  have nev : v ≠ w.heap.size + 1 + 1 := by rintro rfl; obtain ⟨c9, h9, _⟩ := Fv.row; rw [X2] at h9; simp at h9
  have Gv := (((Fv.setOther (a := ⟨w.heap.size + 1 + 1, 14, none⟩) nev (.int .i64 H)).setOther (a := ⟨w.heap.size + 1 + 1, 15, none⟩) nev (.int .i64 D)).setOther (a := ⟨w.heap.size + 1 + 1, 16, none⟩) nev (.slice (some ⟨u, 0, none⟩) (H * D) (H * D)))
  have neo : o ≠ w.heap.size + 1 + 1 := by rintro rfl; obtain ⟨c9, h9, _⟩ := Fo.row; rw [X2] at h9; simp at h9
  have Go := (((Fo.setOther (a := ⟨w.heap.size + 1 + 1, 14, none⟩) neo (.int .i64 H)).setOther (a := ⟨w.heap.size + 1 + 1, 15, none⟩) neo (.int .i64 D)).setOther (a := ⟨w.heap.size + 1 + 1, 16, none⟩) neo (.slice (some ⟨u, 0, none⟩) (H * D) (H * D)))
  have nes : s ≠ w.heap.size + 1 + 1 := by rintro rfl; obtain ⟨c9, h9, _⟩ := Fs.row; rw [X2] at h9; simp at h9
  have Gs := (((Fs.setOther (a := ⟨w.heap.size + 1 + 1, 14, none⟩) nes (.int .i64 H)).setOther (a := ⟨w.heap.size + 1 + 1, 15, none⟩) nes (.int .i64 D)).setOther (a := ⟨w.heap.size + 1 + 1, 16, none⟩) nes (.slice (some ⟨u, 0, none⟩) (H * D) (H * D)))
  have neu : u ≠ w.heap.size + 1 + 1 := by rintro rfl; obtain ⟨c9, h9, _⟩ := Fu.row; rw [X2] at h9; simp at h9
  have Gu := (((Fu.setOther (a := ⟨w.heap.size + 1 + 1, 14, none⟩) neu (.int .i64 H)).setOther (a := ⟨w.heap.size + 1 + 1, 15, none⟩) neu (.int .i64 D)).setOther (a := ⟨w.heap.size + 1 + 1, 16, none⟩) neu (.slice (some ⟨u, 0, none⟩) (H * D) (H * D)))
  replace Y0 : Blk (((v6.setCell ⟨w.heap.size + 1 + 1, 14, none⟩ (.int .i64 H)).setCell ⟨w.heap.size + 1 + 1, 15, none⟩ (.int .i64 D)).setCell ⟨w.heap.size + 1 + 1, 16, none⟩ (.slice (some ⟨u, 0, none⟩) (H * D) (H * D))) w.heap.size _ _ := Y0
  replace Y1 : Blk (((v6.setCell ⟨w.heap.size + 1 + 1, 14, none⟩ (.int .i64 H)).setCell ⟨w.heap.size + 1 + 1, 15, none⟩ (.int .i64 D)).setCell ⟨w.heap.size + 1 + 1, 16, none⟩ (.slice (some ⟨u, 0, none⟩) (H * D) (H * D))) (w.heap.size + 1) _ _ := Y1
  generalize hx6 : ((v6.setCell ⟨w.heap.size + 1 + 1, 14, none⟩ (.int .i64 H)).setCell ⟨w.heap.size + 1 + 1, 15, none⟩ (.int .i64 D)).setCell ⟨w.heap.size + 1 + 1, 16, none⟩ (.slice (some ⟨u, 0, none⟩) (H * D) (H * D)) = x6 at *
  clear X0 X1 X2 S3 K2 Ff Fq Fk Fv Fo Fs Fu nef neq nek nev neo nes neu
  have X0 := Y0
  clear Y0
  have X1 := Y1
  clear Y1
  have X2 := X3
  clear X3
  have S2 := S4
  clear S4
  have K2 := K4
  clear K4
  have Ff := Gf
  clear Gf
  have Fq := Gq
  clear Gq
  have Fk := Gk
  clear Gk
  have Fv := Gv
  clear Gv
  have Fo := Go
  clear Go
  have Fs := Gs
  clear Gs
  have Fu := Gu
  clear Gu
  have c1 : x6.cell? ⟨w.heap.size, 1, none⟩ = some (.int .i64 D) := X0.cell 1 rfl
  have c3 : x6.cell? ⟨w.heap.size, 3, none⟩ = some (.int .i64 H) := X0.cell 3 rfl
  go_wp2_with fail
  clear hx6
  refine (matrix_any g seed (i + D + D * D + D * D + D * D + D * D + D + H * D) D H 65536 _ S2 (by omega) (by omega) (by omega) (by omega)).mono ?_
  rintro e v7 ⟨d, rfl, Fd, S3, K3⟩
  unfold matV
  replace Fd := Fd.mono K2.size
  replace Ff := Ff.but K3 hg
  replace Fq := Fq.but K3 hg
  replace Fk := Fk.but K3 hg
  replace Fv := Fv.but K3 hg
  replace Fo := Fo.but K3 hg
  replace Fs := Fs.but K3 hg
  replace Fu := Fu.but K3 hg
  replace X0 := X0.but K3 (by omega)
  replace X1 := X1.but K3 (by omega)
  replace X2 := X2.but K3 (by omega)
  replace K2 := K2.trans K3
  clear S2 K3 c1 c3
  have fr0 := X2.frozen 17
  have cc0 : v7.cell? ⟨w.heap.size + 1 + 1, 17, none⟩ = some (.int .i64 0) := X2.cell 17 rfl
  have fr1 := X2.frozen 18
  have cc1 : v7.cell? ⟨w.heap.size + 1 + 1, 18, none⟩ = some (.int .i64 0) := X2.cell 18 rfl
  have fr2 := X2.frozen 19
  have cc2 : v7.cell? ⟨w.heap.size + 1 + 1, 19, none⟩ = some (.slice none 0 0) := X2.cell 19 rfl
  have X3 : Blk (((v7.setCell ⟨w.heap.size + 1 + 1, 17, none⟩ (.int .i64 D)).setCell ⟨w.heap.size + 1 + 1, 18, none⟩ (.int .i64 H)).setCell ⟨w.heap.size + 1 + 1, 19, none⟩ (.slice (some ⟨d, 0, none⟩) (D * H) (D * H))) (w.heap.size + 1 + 1) 80 #[.slice (some ⟨f, 0, none⟩) (D) (D), .int .i64 D, .int .i64 D, .slice (some ⟨q, 0, none⟩) (D * D) (D * D), .int .i64 D, .int .i64 D, .slice (some ⟨k, 0, none⟩) (D * D) (D * D), .int .i64 D, .int .i64 D, .slice (some ⟨v, 0, none⟩) (D * D) (D * D), .int .i64 D, .int .i64 D, .slice (some ⟨o, 0, none⟩) (D * D) (D * D), .slice (some ⟨s, 0, none⟩) (D) (D), .int .i64 H, .int .i64 D, .slice (some ⟨u, 0, none⟩) (H * D) (H * D), .int .i64 D, .int .i64 H, .slice (some ⟨d, 0, none⟩) (D * H) (D * H)] := (((X2.set 17 (.int .i64 D)).set 18 (.int .i64 H)).set 19 (.slice (some ⟨d, 0, none⟩) (D * H) (D * H)))
  have Y0 := (Blk.other (a := ⟨w.heap.size + 1 + 1, 19, none⟩) (Blk.other (a := ⟨w.heap.size + 1 + 1, 18, none⟩) (Blk.other (a := ⟨w.heap.size + 1 + 1, 17, none⟩) X0 (by show w.heap.size ≠ w.heap.size + 1 + 1; omega) (.int .i64 D)) (by show w.heap.size ≠ w.heap.size + 1 + 1; omega) (.int .i64 H)) (by show w.heap.size ≠ w.heap.size + 1 + 1; omega) (.slice (some ⟨d, 0, none⟩) (D * H) (D * H)))
  have Y1 := (Blk.other (a := ⟨w.heap.size + 1 + 1, 19, none⟩) (Blk.other (a := ⟨w.heap.size + 1 + 1, 18, none⟩) (Blk.other (a := ⟨w.heap.size + 1 + 1, 17, none⟩) X1 (by show w.heap.size + 1 ≠ w.heap.size + 1 + 1; omega) (.int .i64 D)) (by show w.heap.size + 1 ≠ w.heap.size + 1 + 1; omega) (.int .i64 H)) (by show w.heap.size + 1 ≠ w.heap.size + 1 + 1; omega) (.slice (some ⟨d, 0, none⟩) (D * H) (D * H)))
  have S4 : SrcAt (((v7.setCell ⟨w.heap.size + 1 + 1, 17, none⟩ (.int .i64 D)).setCell ⟨w.heap.size + 1 + 1, 18, none⟩ (.int .i64 H)).setCell ⟨w.heap.size + 1 + 1, 19, none⟩ (.slice (some ⟨d, 0, none⟩) (D * H) (D * H))) g _ := (Blk.other (a := ⟨w.heap.size + 1 + 1, 19, none⟩) (Blk.other (a := ⟨w.heap.size + 1 + 1, 18, none⟩) (Blk.other (a := ⟨w.heap.size + 1 + 1, 17, none⟩) S3 (by show g ≠ w.heap.size + 1 + 1; omega) (.int .i64 D)) (by show g ≠ w.heap.size + 1 + 1; omega) (.int .i64 H)) (by show g ≠ w.heap.size + 1 + 1; omega) (.slice (some ⟨d, 0, none⟩) (D * H) (D * H)))
  have K4 := (((K2.set (a := ⟨w.heap.size + 1 + 1, 17, none⟩) (Or.inr (by show w.heap.size ≤ w.heap.size + 1 + 1; omega)) (.int .i64 D)).set (a := ⟨w.heap.size + 1 + 1, 18, none⟩) (Or.inr (by show w.heap.size ≤ w.heap.size + 1 + 1; omega)) (.int .i64 H)).set (a := ⟨w.heap.size + 1 + 1, 19, none⟩) (Or.inr (by show w.heap.size ≤ w.heap.size + 1 + 1; omega)) (.slice (some ⟨d, 0, none⟩) (D * H) (D * H)))
  have nef : f ≠ w.heap.size + 1 + 1 := by rintro rfl; obtain ⟨c9, h9, _⟩ := Ff.row; rw [X2] at h9; simp at h9
  have Gf := (((Ff.setOther (a := ⟨w.heap.size + 1 + 1, 17, none⟩) nef (.int .i64 D)).setOther (a := ⟨w.heap.size + 1 + 1, 18, none⟩) nef (.int .i64 H)).setOther (a := ⟨w.heap.size + 1 + 1, 19, none⟩) nef (.slice (some ⟨d, 0, none⟩) (D * H) (D * H)))
  have neq : q ≠ w.heap.size + 1 + 1 := by rintro rfl; obtain ⟨c9, h9, _⟩ := Fq.row; rw [X2] at h9; simp at h9
  have Gq := (((Fq.setOther (a := ⟨w.heap.size + 1 + 1, 17, none⟩) neq (.int .i64 D)).setOther (a := ⟨w.heap.size + 1 + 1, 18, none⟩) neq (.int .i64 H)).setOther (a := ⟨w.heap.size + 1 + 1, 19, none⟩) neq (.slice (some ⟨d, 0, none⟩) (D * H) (D * H)))
  have nek : k ≠ w.heap.size + 1 + 1 := by rintro rfl; obtain ⟨c9, h9, _⟩ := Fk.row; rw [X2] at h9; simp at h9
  have Gk := (((Fk.setOther (a := ⟨w.heap.size + 1 + 1, 17, none⟩) nek (.int .i64 D)).setOther (a := ⟨w.heap.size + 1 + 1, 18, none⟩) nek (.int .i64 H)).setOther (a := ⟨w.heap.size + 1 + 1, 19, none⟩) nek (.slice (some ⟨d, 0, none⟩) (D * H) (D * H)))
  have nev : v ≠ w.heap.size + 1 + 1 := by rintro rfl; obtain ⟨c9, h9, _⟩ := Fv.row; rw [X2] at h9; simp at h9
  have Gv := (((Fv.setOther (a := ⟨w.heap.size + 1 + 1, 17, none⟩) nev (.int .i64 D)).setOther (a := ⟨w.heap.size + 1 + 1, 18, none⟩) nev (.int .i64 H)).setOther (a := ⟨w.heap.size + 1 + 1, 19, none⟩) nev (.slice (some ⟨d, 0, none⟩) (D * H) (D * H)))
  have neo : o ≠ w.heap.size + 1 + 1 := by rintro rfl; obtain ⟨c9, h9, _⟩ := Fo.row; rw [X2] at h9; simp at h9
  have Go := (((Fo.setOther (a := ⟨w.heap.size + 1 + 1, 17, none⟩) neo (.int .i64 D)).setOther (a := ⟨w.heap.size + 1 + 1, 18, none⟩) neo (.int .i64 H)).setOther (a := ⟨w.heap.size + 1 + 1, 19, none⟩) neo (.slice (some ⟨d, 0, none⟩) (D * H) (D * H)))
  have nes : s ≠ w.heap.size + 1 + 1 := by rintro rfl; obtain ⟨c9, h9, _⟩ := Fs.row; rw [X2] at h9; simp at h9
  have Gs := (((Fs.setOther (a := ⟨w.heap.size + 1 + 1, 17, none⟩) nes (.int .i64 D)).setOther (a := ⟨w.heap.size + 1 + 1, 18, none⟩) nes (.int .i64 H)).setOther (a := ⟨w.heap.size + 1 + 1, 19, none⟩) nes (.slice (some ⟨d, 0, none⟩) (D * H) (D * H)))
  have neu : u ≠ w.heap.size + 1 + 1 := by rintro rfl; obtain ⟨c9, h9, _⟩ := Fu.row; rw [X2] at h9; simp at h9
  have Gu := (((Fu.setOther (a := ⟨w.heap.size + 1 + 1, 17, none⟩) neu (.int .i64 D)).setOther (a := ⟨w.heap.size + 1 + 1, 18, none⟩) neu (.int .i64 H)).setOther (a := ⟨w.heap.size + 1 + 1, 19, none⟩) neu (.slice (some ⟨d, 0, none⟩) (D * H) (D * H)))
  have ned : d ≠ w.heap.size + 1 + 1 := by rintro rfl; obtain ⟨c9, h9, _⟩ := Fd.row; rw [X2] at h9; simp at h9
  have Gd := (((Fd.setOther (a := ⟨w.heap.size + 1 + 1, 17, none⟩) ned (.int .i64 D)).setOther (a := ⟨w.heap.size + 1 + 1, 18, none⟩) ned (.int .i64 H)).setOther (a := ⟨w.heap.size + 1 + 1, 19, none⟩) ned (.slice (some ⟨d, 0, none⟩) (D * H) (D * H)))
  replace Y0 : Blk (((v7.setCell ⟨w.heap.size + 1 + 1, 17, none⟩ (.int .i64 D)).setCell ⟨w.heap.size + 1 + 1, 18, none⟩ (.int .i64 H)).setCell ⟨w.heap.size + 1 + 1, 19, none⟩ (.slice (some ⟨d, 0, none⟩) (D * H) (D * H))) w.heap.size _ _ := Y0
  replace Y1 : Blk (((v7.setCell ⟨w.heap.size + 1 + 1, 17, none⟩ (.int .i64 D)).setCell ⟨w.heap.size + 1 + 1, 18, none⟩ (.int .i64 H)).setCell ⟨w.heap.size + 1 + 1, 19, none⟩ (.slice (some ⟨d, 0, none⟩) (D * H) (D * H))) (w.heap.size + 1) _ _ := Y1
  generalize hx7 : ((v7.setCell ⟨w.heap.size + 1 + 1, 17, none⟩ (.int .i64 D)).setCell ⟨w.heap.size + 1 + 1, 18, none⟩ (.int .i64 H)).setCell ⟨w.heap.size + 1 + 1, 19, none⟩ (.slice (some ⟨d, 0, none⟩) (D * H) (D * H)) = x7 at *
  clear X0 X1 X2 S3 K2 Ff Fq Fk Fv Fo Fs Fu Fd nef neq nek nev neo nes neu ned
  have X0 := Y0
  clear Y0
  have X1 := Y1
  clear Y1
  have X2 := X3
  clear X3
  have S2 := S4
  clear S4
  have K2 := K4
  clear K4
  have Ff := Gf
  clear Gf
  have Fq := Gq
  clear Gq
  have Fk := Gk
  clear Gk
  have Fv := Gv
  clear Gv
  have Fo := Go
  clear Go
  have Fs := Gs
  clear Gs
  have Fu := Gu
  clear Gu
  have Fd := Gd
  clear Gd
  have hall : Array.all (#[.slice (some ⟨f, 0, none⟩) (D) (D), .int .i64 D, .int .i64 D, .slice (some ⟨q, 0, none⟩) (D * D) (D * D), .int .i64 D, .int .i64 D, .slice (some ⟨k, 0, none⟩) (D * D) (D * D), .int .i64 D, .int .i64 D, .slice (some ⟨v, 0, none⟩) (D * D) (D * D), .int .i64 D, .int .i64 D, .slice (some ⟨o, 0, none⟩) (D * D) (D * D), .slice (some ⟨s, 0, none⟩) (D) (D), .int .i64 H, .int .i64 D, .slice (some ⟨u, 0, none⟩) (H * D) (H * D), .int .i64 D, .int .i64 H, .slice (some ⟨d, 0, none⟩) (D * H) (D * H)] : Array Value) (fun v => v.oneCell') = true := by simp [Value.oneCell']
  go_wp2_with (first | (refine wpList_load_row rfl 80 _ rfl (w.heap.size + 1 + 1) rfl 80 #[.slice (some ⟨f, 0, none⟩) (D) (D), .int .i64 D, .int .i64 D, .slice (some ⟨q, 0, none⟩) (D * D) (D * D), .int .i64 D, .int .i64 D, .slice (some ⟨k, 0, none⟩) (D * D) (D * D), .int .i64 D, .int .i64 D, .slice (some ⟨v, 0, none⟩) (D * D) (D * D), .int .i64 D, .int .i64 D, .slice (some ⟨o, 0, none⟩) (D * D) (D * D), .slice (some ⟨s, 0, none⟩) (D) (D), .int .i64 H, .int .i64 D, .slice (some ⟨u, 0, none⟩) (H * D) (H * D), .int .i64 D, .int .i64 H, .slice (some ⟨d, 0, none⟩) (D * H) (D * H)] (0, 0) _ X2 Tryz.underlying80 rfl Tryz.infoB ?_) | (refine wpList_store_row rfl 80 _ _ rfl (w.heap.size + 1) #[.slice (some ⟨f, 0, none⟩) (D) (D), .int .i64 D, .int .i64 D, .slice (some ⟨q, 0, none⟩) (D * D) (D * D), .int .i64 D, .int .i64 D, .slice (some ⟨k, 0, none⟩) (D * D) (D * D), .int .i64 D, .int .i64 D, .slice (some ⟨v, 0, none⟩) (D * D) (D * D), .int .i64 D, .int .i64 D, .slice (some ⟨o, 0, none⟩) (D * D) (D * D), .slice (some ⟨s, 0, none⟩) (D) (D), .int .i64 H, .int .i64 D, .slice (some ⟨u, 0, none⟩) (H * D) (H * D), .int .i64 D, .int .i64 H, .slice (some ⟨d, 0, none⟩) (D * H) (D * H)] rfl rfl 80 _ X1 Tryz.infoB rfl hall ?_))
  have nef : f ≠ w.heap.size + 1 := by rintro rfl; obtain ⟨c9, h9, _⟩ := Ff.row; rw [X1] at h9; simp at h9
  have neq : q ≠ w.heap.size + 1 := by rintro rfl; obtain ⟨c9, h9, _⟩ := Fq.row; rw [X1] at h9; simp at h9
  have nek : k ≠ w.heap.size + 1 := by rintro rfl; obtain ⟨c9, h9, _⟩ := Fk.row; rw [X1] at h9; simp at h9
  have nev : v ≠ w.heap.size + 1 := by rintro rfl; obtain ⟨c9, h9, _⟩ := Fv.row; rw [X1] at h9; simp at h9
  have neo : o ≠ w.heap.size + 1 := by rintro rfl; obtain ⟨c9, h9, _⟩ := Fo.row; rw [X1] at h9; simp at h9
  have nes : s ≠ w.heap.size + 1 := by rintro rfl; obtain ⟨c9, h9, _⟩ := Fs.row; rw [X1] at h9; simp at h9
  have neu : u ≠ w.heap.size + 1 := by rintro rfl; obtain ⟨c9, h9, _⟩ := Fu.row; rw [X1] at h9; simp at h9
  have ned : d ≠ w.heap.size + 1 := by rintro rfl; obtain ⟨c9, h9, _⟩ := Fd.row; rw [X1] at h9; simp at h9
  refine bodyPost_ret (results_cell_row rfl _ _ (w.heap.size + 1) 80 #[.slice (some ⟨f, 0, none⟩) (D) (D), .int .i64 D, .int .i64 D, .slice (some ⟨q, 0, none⟩) (D * D) (D * D), .int .i64 D, .int .i64 D, .slice (some ⟨k, 0, none⟩) (D * D) (D * D), .int .i64 D, .int .i64 D, .slice (some ⟨v, 0, none⟩) (D * D) (D * D), .int .i64 D, .int .i64 D, .slice (some ⟨o, 0, none⟩) (D * D) (D * D), .slice (some ⟨s, 0, none⟩) (D) (D), .int .i64 H, .int .i64 D, .slice (some ⟨u, 0, none⟩) (H * D) (H * D), .int .i64 D, .int .i64 H, .slice (some ⟨d, 0, none⟩) (D * H) (D * H)] _ _ rfl (X1.row #[.slice (some ⟨f, 0, none⟩) (D) (D), .int .i64 D, .int .i64 D, .slice (some ⟨q, 0, none⟩) (D * D) (D * D), .int .i64 D, .int .i64 D, .slice (some ⟨k, 0, none⟩) (D * D) (D * D), .int .i64 D, .int .i64 D, .slice (some ⟨v, 0, none⟩) (D * D) (D * D), .int .i64 D, .int .i64 D, .slice (some ⟨o, 0, none⟩) (D * D) (D * D), .slice (some ⟨s, 0, none⟩) (D) (D), .int .i64 H, .int .i64 D, .slice (some ⟨u, 0, none⟩) (H * D) (H * D), .int .i64 D, .int .i64 H, .slice (some ⟨d, 0, none⟩) (D * H) (D * H)]) Tryz.underlying80 rfl Tryz.infoB) rfl ?_
  refine ⟨f, q, k, v, o, s, u, d, rfl, ⟨Ff.rowOther nef _, Fq.rowOther neq _, Fk.rowOther nek _, Fv.rowOther nev _, Fo.rowOther neo _, Fs.rowOther nes _, Fu.rowOther neu _, Fd.rowOther ned _⟩, ?_, K2.row (by omega) _⟩
  have e9 : i + lenB D H = i + D + D * D + D * D + D * D + D * D + D + H * D + D * H := by unfold lenB; omega
  rw [e9]
  exact Blk.of_block S2 (setRow_other _ _ _ _ (by omega))
end Go.Proofs.YtcanjlofnpnhkaaGreatDoor

/- The error of a configuration. -/
namespace Go.Proofs.YtcanjlofnpnhkaaGreatDoor
open Go.ChangeShapes Go.WideShapes Go.ChangeAt Go.RowKit
/-- The error's number of a configuration. -/
def shapeN (V D Hd H L : Int) : Int := if V < 2 ∨ D < 1 ∨ Hd < 1 ∨ H < 1 ∨ L < 1 then 1 else if 64 < V ∨ 32 < D ∨ 4 < Hd ∨ 64 < H ∨ 4 < L then 2 else if D.tmod Hd ≠ 0 then 4 else 0
/-- A number of 64 bits. -/
def I64 (x : Int) : Prop := -9223372036854775808 ≤ x ∧ x ≤ 9223372036854775807
theorem shape_ok {V D Hd H L : Int} (h : shapeN V D Hd H L = 0) : 2 ≤ V ∧ V ≤ 64 ∧ 1 ≤ D ∧ D ≤ 32 ∧ 1 ≤ Hd ∧ Hd ≤ 4 ∧ 1 ≤ H ∧ H ≤ 64 ∧ 1 ≤ L ∧ L ≤ 4 := by
  unfold shapeN at h
  split at h
  · omega
  · split at h
    · omega
    · omega
set_option maxHeartbeats 1600000 in
theorem shape_any (V D Hd H L : Int) (w : World) (b1 : I64 V) (b2 : I64 D) (b3 : I64 Hd) (b4 : I64 H) (b5 : I64 L) :
   Calls Tryz.prog 22 #[.agg (cfgC V D Hd H L)] w fun e w' => e = .returned (.int .i64 (shapeN V D Hd H L)) ∧ Below w.heap.size w w' := by
  unfold I64 at *
  have X0 := blk_new w 23 (cfgC V D Hd H L)
  have B0 : Below w.heap.size w (w.alloc (.cells (cfgC V D Hd H L) 23)) := (Below.refl _ _).alloc (Nat.le_refl _) _
  unfold cfgC at *
  generalize hw0 : w.alloc (.cells #[.int .i64 V, .int .i64 D, .int .i64 Hd, .int .i64 H, .int .i64 L] 23) = w0 at *
  have c0 : w0.cell? ⟨w.heap.size, 0, none⟩ = some (.int .i64 V) := X0.cell 0 rfl
  have c1 : w0.cell? ⟨w.heap.size, 1, none⟩ = some (.int .i64 D) := X0.cell 1 rfl
  have c2 : w0.cell? ⟨w.heap.size, 2, none⟩ = some (.int .i64 Hd) := X0.cell 2 rfl
  have c3 : w0.cell? ⟨w.heap.size, 3, none⟩ = some (.int .i64 H) := X0.cell 3 rfl
  have c4 : w0.cell? ⟨w.heap.size, 4, none⟩ = some (.int .i64 L) := X0.cell 4 rfl
  clear X0
  have one : V < 2 ∨ D < 1 ∨ Hd < 1 ∨ H < 1 ∨ L < 1 → Calls Tryz.prog 22 #[.agg #[.int .i64 V, .int .i64 D, .int .i64 Hd, .int .i64 H, .int .i64 L]] w fun e w' => e = .returned (.int .i64 (shapeN V D Hd H L)) ∧ Below w.heap.size w w' := by
    intro h
    have HF : Hid (shapeN V D Hd H L = 1) := by show _ = _; unfold shapeN; rw [if_pos h]
    have h' : V < 2 ∨ (2 ≤ V ∧ D < 1) ∨ (2 ≤ V ∧ 1 ≤ D ∧ Hd < 1) ∨ (2 ≤ V ∧ 1 ≤ D ∧ 1 ≤ Hd ∧ H < 1) ∨ (2 ≤ V ∧ 1 ≤ D ∧ 1 ≤ Hd ∧ 1 ≤ H ∧ L < 1) := by omega
    clear h
    rcases h' with h | h | h | h | h
    all_goals
      go_enter Tryz.func22, Tryz.ntmps22
      go_wp2
      go_ret
      exact ⟨ret_int HF.out.symm, B0⟩
  by_cases h1 : V < 2 ∨ D < 1 ∨ Hd < 1 ∨ H < 1 ∨ L < 1
  · exact one h1
  clear one
  have g1 : 2 ≤ V ∧ 1 ≤ D ∧ 1 ≤ Hd ∧ 1 ≤ H ∧ 1 ≤ L := by omega
  by_cases h2 : 64 < V ∨ 32 < D ∨ 4 < Hd ∨ 64 < H ∨ 4 < L
  · have HF : Hid (shapeN V D Hd H L = 2) := by show _ = _; unfold shapeN; rw [if_neg h1, if_pos h2]
    have h' : 64 < V ∨ (V ≤ 64 ∧ 32 < D) ∨ (V ≤ 64 ∧ D ≤ 32 ∧ 4 < Hd) ∨ (V ≤ 64 ∧ D ≤ 32 ∧ Hd ≤ 4 ∧ 64 < H) ∨ (V ≤ 64 ∧ D ≤ 32 ∧ Hd ≤ 4 ∧ H ≤ 64 ∧ 4 < L) := by omega
    clear h1 h2
    rcases h' with h | h | h | h | h
    all_goals
      go_enter Tryz.func22, Tryz.ntmps22
      go_wp2
      go_ret
      exact ⟨ret_int HF.out.symm, B0⟩
  have g2 : V ≤ 64 ∧ D ≤ 32 ∧ Hd ≤ 4 ∧ H ≤ 64 ∧ L ≤ 4 := by omega
  have hz : Hd ≠ 0 := by omega
  have tq : 0 ≤ D.tmod Hd ∧ D.tmod Hd ≤ 32 := by
    rw [Int.tmod_eq_emod_of_nonneg (by omega)]
    have a := Int.emod_nonneg D hz
    have b := Int.emod_lt_of_pos D (show 0 < Hd by omega)
    omega
  by_cases h3 : D.tmod Hd = 0
  · have HF : Hid (shapeN V D Hd H L = 0) := by show _ = _; unfold shapeN; rw [if_neg h1, if_neg h2, if_neg (by omega)]
    have e3 : D % Hd = 0 := by rw [← Int.tmod_eq_emod_of_nonneg (by omega)]; exact h3
    clear h1 h2
    go_enter Tryz.func22, Tryz.ntmps22
    go_wp2
    go_ret
    exact ⟨ret_int HF.out.symm, B0⟩
  · have HF : Hid (shapeN V D Hd H L = 4) := by show _ = _; unfold shapeN; rw [if_neg h1, if_neg h2, if_pos h3]
    have e3 : (D % Hd == 0) = false := by rw [← Int.tmod_eq_emod_of_nonneg (by omega)]; simpa using h3
    have e4 : (D.tmod Hd == 0) = false := by simpa using h3
    clear h1 h2
    go_enter Tryz.func22, Tryz.ntmps22
    go_wp2
    go_ret
    exact ⟨ret_int HF.out.symm, B0⟩
end Go.Proofs.YtcanjlofnpnhkaaGreatDoor

/- A model's numbers, made from a seed. -/
namespace Go.Proofs.YtcanjlofnpnhkaaGreatDoor
open Go.ChangeShapes Go.WideShapes Go.ChangeAt Go.RowKit
theorem Tryz.infoW : (Tryz.prog.info? 40).map (·.size) = some 8 := by kernel_rfl
theorem results_blk {fn : Func} {p u : Tmp} {ty : TypeId} (h : fn.results = #[.cell p ty, .tmp u]) (tmps : Array Value) (w : World) (g : Nat) (cs : Array Value)
    (hp : tmps.getD p undef = .pointer (some ⟨g, 0, none⟩)) (hl : (loadVar ty ⟨g, 0, none⟩).run Tryz.prog w = .ok (.agg cs) w) :
    (results fn tmps).run Tryz.prog w = .ok (.tuple #[.agg cs, tmps.getD u undef]) w := by
  rw [results_cell_tmp h, hp]
  simp only [asAddr, Result.andThen]
  simp [hl]
theorem load_w {w : World} {g : Nat} {cs : Array Value} (h : Blk w g 40 cs) (hs : cs.size = 8) : (loadVar 40 ⟨g, 0, none⟩).run Tryz.prog w = .ok (.agg cs) w :=
  run_loadVar_row w g _ _ cs _ _ h Tryz.underlying40 rfl (by rw [hs]; exact Tryz.infoW)
/-- The cells of no model. -/
def noW : Array Value := #[.int .i64 0, .int .i64 0, .slice none 0 0, .slice none 0 0, .slice none 0 0, .int .i64 0, .int .i64 0, .slice none 0 0]
set_option maxHeartbeats 800000 in
theorem make_bad (V D Hd H L : Int) (seed : Nat) (w : World) (b1 : I64 V) (b2 : I64 D) (b3 : I64 Hd) (b4 : I64 H) (b5 : I64 L) (hf : shapeN V D Hd H L ≠ 0) :
   Calls Tryz.prog 6 #[.agg (cfgC V D Hd H L), .int .u64 (seed : Int)] w fun e w' => e = .returned (.tuple #[.agg noW, .int .i64 (shapeN V D Hd H L)]) ∧ Below w.heap.size w w' := by
  have hf' : (shapeN V D Hd H L == 0) = false := by simpa using hf
  have C := fun wv => shape_any V D Hd H L wv b1 b2 b3 b4 b5
  generalize shapeN V D Hd H L = q at *
  have X0 := blk_new w 23 (cfgC V D Hd H L)
  have B0 : Below w.heap.size w (w.alloc (.cells (cfgC V D Hd H L) 23)) := (Below.refl _ _).alloc (Nat.le_refl _) _
  have s0 : (w.alloc (.cells (cfgC V D Hd H L) 23)).heap.size = w.heap.size + 1 := by simp
  unfold cfgC at *
  generalize hw0 : w.alloc (.cells #[.int .i64 V, .int .i64 D, .int .i64 Hd, .int .i64 H, .int .i64 L] 23) = w0 at *
  have X1 := blk_new w0 40 noW
  have B1 : Below w0.heap.size w0 (w0.alloc (.cells noW 40)) := (Below.refl _ _).alloc (Nat.le_refl _) _
  unfold noW at *
  generalize hw1 : w0.alloc (.cells #[.int .i64 0, .int .i64 0, .slice none 0 0, .slice none 0 0, .slice none 0 0, .int .i64 0, .int .i64 0, .slice none 0 0] 40) = w1 at *
  rw [s0] at X1
  replace X0 := X0.below B1
  replace B1 := below_then B0 B1
  have c0 : w1.cell? ⟨w.heap.size, 0, none⟩ = some (.int .i64 V) := X0.cell 0 rfl
  have c1 : w1.cell? ⟨w.heap.size, 1, none⟩ = some (.int .i64 D) := X0.cell 1 rfl
  have c2 : w1.cell? ⟨w.heap.size, 2, none⟩ = some (.int .i64 Hd) := X0.cell 2 rfl
  have c3 : w1.cell? ⟨w.heap.size, 3, none⟩ = some (.int .i64 H) := X0.cell 3 rfl
  have c4 : w1.cell? ⟨w.heap.size, 4, none⟩ = some (.int .i64 L) := X0.cell 4 rfl
  go_enter Tryz.func6, Tryz.ntmps6
  go_wp2_with fail
  refine (C w1).mono ?_
  rintro e w2 ⟨rfl, B2⟩
  replace X1 := X1.below B2
  replace B2 := below_then B1 B2
  clear hw0 hw1 c0 c1 c2 c3 c4 X0 B0 B1
  have hall : Array.all (#[.int .i64 0, .int .i64 0, .slice none 0 0, .slice none 0 0, .slice none 0 0, .int .i64 0, .int .i64 0, .slice none 0 0] : Array Value) (fun v => v.oneCell') = true := by simp [Value.oneCell']
  go_wp2_with (refine wpList_store_row rfl 40 _ _ rfl (w.heap.size + 1) #[.int .i64 0, .int .i64 0, .slice none 0 0, .slice none 0 0, .slice none 0 0, .int .i64 0, .int .i64 0, .slice none 0 0] rfl rfl 40 _ X1 Tryz.infoW rfl hall ?_)
  refine bodyPost_ret (results_blk rfl _ _ (w.heap.size + 1) _ rfl (load_w (X1.row _) rfl)) rfl ?_
  exact ⟨rfl, below_setRow B2 (by omega) _⟩
/-! What a store into the middle of a block leaves as it was. -/
theorem setCells_other (b : Nat) : ∀ (vs : List Value) (o : Nat) (w : World) (k : Nat), k ≠ b → (w.setCells b o vs).heap[k]? = w.heap[k]?
  | [], _, _, _, _ => rfl
  | v :: r, o, w, k, h => by rw [World.setCells, setCells_other b r (o + 1) _ k h, Below.heap_setCell _ _ _ _ (by exact h)]
theorem setCells_block (b : Nat) (T : TypeId) : ∀ (vs : List Value) (o : Nat) (w : World) (cs : Array Value), w.heap[b]? = some (.cells cs T (0, 0)) → ∃ cs', (w.setCells b o vs).heap[b]? = some (.cells cs' T (0, 0)) ∧ cs'.size = cs.size
  | [], _, _, cs, h => ⟨cs, h, rfl⟩
  | v :: r, o, w, cs, h => by
    obtain ⟨cs', h1, h2⟩ := setCells_block b T r (o + 1) (w.setCell ⟨b, o, none⟩ v) (cs.setIfInBounds o v) (by simp [World.setCell, Array.getElem?_modify, h])
    exact ⟨cs', h1, by simpa using h2⟩
theorem setCells_rest (b : Nat) : ∀ (vs : List Value) (o : Nat) (w : World), (w.setCells b o vs).os = w.os ∧ (w.setCells b o vs).tape = w.tape ∧ (w.setCells b o vs).output = w.output ∧ (w.setCells b o vs).heap.size = w.heap.size
  | [], _, _ => ⟨rfl, rfl, rfl, rfl⟩
  | v :: r, o, w => by
    obtain ⟨h1, h2, h3, h4⟩ := setCells_rest b r (o + 1) (w.setCell ⟨b, o, none⟩ v)
    exact ⟨h1, h2, h3, by rw [World.setCells, h4]; simp [World.setCell]⟩
theorem Below.setCells {B : Nat} {w w' : World} (h : Below B w w') {b : Nat} (hb : B ≤ b) (o : Nat) (vs : List Value) : Below B w (w'.setCells b o vs) := by
  obtain ⟨h1, h2, h3, h4⟩ := setCells_rest b vs o w'
  exact ⟨h1.trans h.os, h2.trans h.tape, h3.trans h.output, by rw [h4]; exact h.size, fun k hk => by rw [setCells_other b vs o w' k (by omega)]; exact h.block k hk⟩
theorem there_of {w : World} {b n : Nat} {T : TypeId} {cs : Array Value} (h : w.heap[b]? = some (.cells cs T (0, 0))) (o : Nat) (hn : o + n ≤ cs.size) : w.there b o n := fun j hj => by
  refine ⟨?_, ?_⟩
  · unfold World.cell?; simp only [h]; simp; omega
  · unfold World.frozen?; simp only [h]; rfl
theorem rangeAt_block {w w' : World} {b o : Nat} {cs : List Value} (h : w.rangeAt b o cs) (e : w'.heap[b]? = w.heap[b]?) : w'.rangeAt b o cs := fun j v hv => by rw [World.cell?_of_block (w := w) e]; exact h j v hv
theorem MadeB.of {w w' : World} {B B' seed i D H f q k v o s u d : Nat} (h : MadeB w B seed i D H f q k v o s u d) (hB : B' ≤ B) (hk : ∀ {g n c : Nat} {A : List Int}, Fresh w B g n c A → w'.heap[g]? = w.heap[g]?) : MadeB w' B' seed i D H f q k v o s u d :=
  ⟨(h.f.of_block (hk h.f)).mono hB, (h.q.of_block (hk h.q)).mono hB, (h.k.of_block (hk h.k)).mono hB, (h.v.of_block (hk h.v)).mono hB, (h.o.of_block (hk h.o)).mono hB, (h.s.of_block (hk h.s)).mono hB, (h.u.of_block (hk h.u)).mono hB, (h.d.of_block (hk h.d)).mono hB⟩
/-- A row of numbers lies in no block of another type. -/
theorem Fresh.ne {w : World} {B g n c : Nat} {A : List Int} (h : Fresh w B g n c A) {b : Nat} {T : TypeId} {cs : Array Value} (hb : w.heap[b]? = some (.cells cs T (0, 0))) (hT : T ≠ 106) : g ≠ b := by
  rintro rfl
  obtain ⟨c9, h9, _⟩ := h.row
  rw [hb] at h9
  simp at h9
  exact hT h9.2
/-- The cells of a model whose first matrix and layers were made. -/
def wCells (V D : Nat) (e b l o : Value) (V' D' : Int) : Array Value := #[.int .i64 V, .int .i64 D, e, b, l, .int .i64 V', .int .i64 D', o]
/-- The first t layers of a model that is made. -/
structure MkAt (w wr : World) (V D : Nat) (Hd : Int) (H : Nat) (Ly : Int) (L seed gS ge gB t : Nat) : Prop where
  x0 : Blk wr w.heap.size 23 (cfgC V D Hd H Ly)
  x1 : Blk wr (w.heap.size + 1) 40 noW
  xw : Blk wr (gS + 1) 40 (wCells V D (rv ge (V * D)) (rv gB L) (.slice none 0 0) (.slice none 0 0) 0 0)
  src : SrcAt wr gS (stN seed (V * D + t * lenB D H))
  e : Fresh wr w.heap.size ge (V * D) (V * D) (numR seed 0 (V * D) 131072)
  bl : ∃ cs : Array Value, wr.heap[gB]? = some (.cells cs 80 (0, 0)) ∧ cs.size = L * 20
  bs : ∀ j, j < t → ∃ f q k v o s u d, wr.rangeAt gB (j * 20) (madeB D H f q k v o s u d).toList ∧ MadeB wr w.heap.size seed (V * D + j * lenB D H) D H f q k v o s u d
  kp : Below w.heap.size w wr
/-- A model that was made: its rows. -/
structure MadeW (w : World) (B seed V D H L ge gB gl go : Nat) : Prop where
  e : Fresh w B ge (V * D) (V * D) (numR seed 0 (V * D) 131072)
  bl : ∃ cs : Array Value, w.heap[gB]? = some (.cells cs 80 (0, 0)) ∧ cs.size = L * 20
  base : B ≤ gB
  bs : ∀ j, j < L → ∃ f q k v o s u d, w.rangeAt gB (j * 20) (madeB D H f q k v o s u d).toList ∧ MadeB w B seed (V * D + j * lenB D H) D H f q k v o s u d
  l : Fresh w B gl D D (gainR seed (V * D + L * lenB D H) D)
  o : Fresh w B go (V * D) (V * D) (numR seed (V * D + L * lenB D H + D) (V * D) 65536)
theorem madeB_len (D H f q k v o s u d : Nat) : (madeB D H f q k v o s u d).toList.length = 20 := rfl
theorem MkAt.step {w wr w' : World} {V D : Nat} {Hd : Int} {H : Nat} {Ly : Int} {L seed gS ge gB t : Nat} (h : MkAt w wr V D Hd H Ly L seed gS ge gB t) (g1 : w.heap.size + 1 < gS) (g2 : gS + 1 < gB) (ht : t < L)
    {f q k v o s u d : Nat} (hm : MadeB w' wr.heap.size seed (V * D + t * lenB D H) D H f q k v o s u d) (hs : SrcAt w' gS (stN seed (V * D + t * lenB D H + lenB D H))) (hk : But gS wr w') (ms : List Value) (hms : (madeB D H f q k v o s u d).toList = ms) :
    MkAt w (w'.setCells gB (t * 20) ms) V D Hd H Ly L seed gS ge gB (t + 1) ∧ w'.there gB (t * 20) 20 := by
  have hml : ms.length = 20 := by rw [← hms]; exact madeB_len _ _ _ _ _ _ _ _ _ _
  obtain ⟨cs, hc1, hc2⟩ := h.bl
  have hlt : gB < wr.heap.size := (Array.getElem?_eq_some_iff.1 hc1).1
  have hc3 : w'.heap[gB]? = some (.cells cs 80 (0, 0)) := (hk.block gB hlt (by omega)).trans hc1
  have sz := h.kp.size
  have so : ∀ b, b ≠ gB → (w'.setCells gB (t * 20) ms).heap[b]? = w'.heap[b]? := fun b hb => setCells_other gB _ _ _ b hb
  have ht2 : t * 20 + 20 ≤ L * 20 := by omega
  have th : w'.there gB (t * 20) 20 := there_of hc3 _ (by omega)
  have hsrc := h.src
  unfold SrcAt Blk at hsrc
  have fr : ∀ {B g n c : Nat} {A : List Int}, Fresh wr B g n c A → (w'.setCells gB (t * 20) ms).heap[g]? = wr.heap[g]? := fun {B g n c A} F => by
    have hne : g ≠ gS := F.ne hsrc (by decide)
    rw [so g (F.ne hc1 (by decide))]
    exact hk.block g F.lt hne
  have hx0 := h.x0.lt
  have hx1 := h.x1.lt
  have hxw := h.xw.lt
  refine ⟨⟨?_, ?_, ?_, ?_, ?_, ?_, ?_, ?_⟩, th⟩
  · exact Blk.of_block h.x0 ((so _ (by omega)).trans (hk.block _ hx0 (by omega)))
  · exact Blk.of_block h.x1 ((so _ (by omega)).trans (hk.block _ hx1 (by omega)))
  · exact Blk.of_block h.xw ((so _ (by omega)).trans (hk.block _ hxw (by omega)))
  · have e : V * D + (t + 1) * lenB D H = V * D + t * lenB D H + lenB D H := by rw [Nat.add_mul, Nat.one_mul, Nat.add_assoc]
    rw [e]
    exact Blk.of_block hs (so _ (by omega))
  · exact h.e.of_block (fr h.e)
  · obtain ⟨cs', h1, h2⟩ := setCells_block gB 80 ms (t * 20) w' cs hc3
    exact ⟨cs', h1, by omega⟩
  · intro j hj
    rcases Nat.lt_or_ge j t with hjt | hjt
    · obtain ⟨f', q', k', v', o', s', u', d', r1, r2⟩ := h.bs j hjt
      refine ⟨f', q', k', v', o', s', u', d', World.rangeAt_setCells_apart (rangeAt_block r1 (hk.block gB hlt (by omega))) _ _ _ (Or.inr (Or.inl ?_)), r2.of (Nat.le_refl _) (fun F => fr F)⟩
      rw [madeB_len]
      omega
    · obtain rfl : j = t := by omega
      refine ⟨f, q, k, v, o, s, u, d, ?_, hm.of sz (fun F => so _ (F.ne hc3 (by decide)))⟩
      rw [hms]
      exact World.rangeAt_setCells_same _ _ _ _ (by rw [hml]; exact th)
  · exact Below.setCells (h.kp.trans (hk.below sz (by omega))) (by omega) _ _
end Go.Proofs.YtcanjlofnpnhkaaGreatDoor

/- A model's numbers, made from a seed: the walk. -/
namespace Go.Proofs.YtcanjlofnpnhkaaGreatDoor
open Go.ChangeShapes Go.WideShapes Go.ChangeAt Go.RowKit
theorem Tryz.infoBlk : (Tryz.prog.info? 80).map (fun i => (i.zero, i.size, i.bytes)) = some (some (.agg #[.slice none 0 0, .int .i64 0, .int .i64 0, .slice none 0 0, .int .i64 0, .int .i64 0, .slice none 0 0, .int .i64 0, .int .i64 0, .slice none 0 0, .int .i64 0, .int .i64 0, .slice none 0 0, .slice none 0 0, .int .i64 0, .int .i64 0, .slice none 0 0, .int .i64 0, .int .i64 0, .slice none 0 0]), 20, 288) := by kernel_rfl
theorem make_blocks (L : Nat) (hL : L ≤ 4) (w : World) : (Instr.makeSlice 38 (.int .i64 (L : Int)) (.int .i64 (L : Int))).run Tryz.prog w = .ok (.slice (some ⟨w.heap.size, 0, none⟩) L L) (w.alloc (.cells (madeCells #[.slice none 0 0, .int .i64 0, .int .i64 0, .slice none 0 0, .int .i64 0, .int .i64 0, .slice none 0 0, .int .i64 0, .int .i64 0, .slice none 0 0, .int .i64 0, .int .i64 0, .slice none 0 0, .slice none 0 0, .int .i64 0, .int .i64 0, .slice none 0 0, .int .i64 0, .int .i64 0, .slice none 0 0] (L * 20)) 80)) := by
  obtain ⟨i0, hi, hz0, hz1, hz2⟩ := info_parts Tryz.infoBlk
  have := run_make (P := Tryz.prog) w 38 80 i0 _ Tryz.underlying38 hi hz0 .i64 .i64 L L (by omega) (by omega) (by rw [hz2]; omega) (by omega)
  rw [hz1] at this
  simpa [Value.cells] using this
theorem store_block (w : World) (b o : Nat) (cells : Array Value) (hc : cells.size = 20) (ht : w.there b o 20) (h1 : cells.all (·.oneCell') = true) : (storeCells ⟨b, o, none⟩ cells.toList).run Tryz.prog w = .ok () (w.setCells b o cells.toList) := by
  have := run_storeCells_cells (P := Tryz.prog) b o cells.toList 0 w (fun j hj => by simpa using (ht j (by simpa [hc] using hj)).1) (fun j hj => by simpa using (ht j (by simpa [hc] using hj)).2)
    (fun v hv => (Array.all_eq_true_iff_forall_mem.1 h1) v (by simpa using hv))
  simpa using this
theorem madeB_one (D H f q k v o s u d : Nat) : (madeB D H f q k v o s u d).all (·.oneCell') = true := by simp [madeB, bcs, rv, Value.oneCell']
set_option maxRecDepth 100000 in
set_option maxHeartbeats 3200000 in
theorem make_any (V D Hd H L : Nat) (seed : Nat) (w : World) (hsd : seed < 18446744073709551616) (hf : shapeN V D Hd H L = 0) :
   Calls Tryz.prog 6 #[.agg (cfgC V D Hd H L), .int .u64 (seed : Int)] w fun e w' => ∃ ge gB gl go, e = .returned (.tuple #[.agg (wCells V D (rv ge (V * D)) (rv gB L) (rv gl D) (rv go (V * D)) V D), .int .i64 0]) ∧ MadeW w' w.heap.size seed V D H L ge gB gl go ∧ Below w.heap.size w w' := by
  have hk := shape_ok hf
  have C := fun wv => shape_any V D Hd H L wv (by unfold I64; omega) (by unfold I64; omega) (by unfold I64; omega) (by unfold I64; omega) (by unfold I64; omega)
  rw [hf] at C
  have X0 := blk_new w 23 (cfgC V D Hd H L)
  have B0 : Below w.heap.size w (w.alloc (.cells (cfgC V D Hd H L) 23)) := (Below.refl _ _).alloc (Nat.le_refl _) _
  have s0 : (w.alloc (.cells (cfgC V D Hd H L) 23)).heap.size = w.heap.size + 1 := by simp
  unfold cfgC at *
  generalize hw0 : w.alloc (.cells #[.int .i64 V, .int .i64 D, .int .i64 Hd, .int .i64 H, .int .i64 L] 23) = w0 at *
  have X1 := blk_new w0 40 noW
  have B1 : Below w0.heap.size w0 (w0.alloc (.cells noW 40)) := (Below.refl _ _).alloc (Nat.le_refl _) _
  have s1 : (w0.alloc (.cells noW 40)).heap.size = w0.heap.size + 1 := by simp
  unfold noW at *
  generalize hw1 : w0.alloc (.cells #[.int .i64 0, .int .i64 0, .slice none 0 0, .slice none 0 0, .slice none 0 0, .int .i64 0, .int .i64 0, .slice none 0 0] 40) = w1 at *
  rw [s0] at X1 s1
  replace X0 := X0.below B1
  replace B1 := below_then B0 B1
  have c0 : w1.cell? ⟨w.heap.size, 0, none⟩ = some (.int .i64 V) := X0.cell 0 rfl
  have c1 : w1.cell? ⟨w.heap.size, 1, none⟩ = some (.int .i64 D) := X0.cell 1 rfl
  have c2 : w1.cell? ⟨w.heap.size, 2, none⟩ = some (.int .i64 Hd) := X0.cell 2 rfl
  have c3 : w1.cell? ⟨w.heap.size, 3, none⟩ = some (.int .i64 H) := X0.cell 3 rfl
  have c4 : w1.cell? ⟨w.heap.size, 4, none⟩ = some (.int .i64 L) := X0.cell 4 rfl
  go_enter Tryz.func6, Tryz.ntmps6
  go_wp2_with fail
  refine (C w1).mono ?_
  rintro e w2 ⟨rfl, B2⟩
  replace X0 := X0.below B2
  replace X1 := X1.below B2
  have g1 : w.heap.size + 1 < w2.heap.size := by have := B2.size; omega
  replace B2 := below_then B1 B2
  clear hw0 hw1 c0 c1 c2 c3 c4 B0 B1 s0 s1 C
  have S3 : SrcAt (w2.alloc (.cells #[.int .u64 (seed : Int)] 77)) w2.heap.size seed := blk_new _ _ _
  have B3 : Below w2.heap.size w2 (w2.alloc (.cells #[.int .u64 (seed : Int)] 77)) := (Below.refl _ _).alloc (Nat.le_refl _) _
  have s3 : (w2.alloc (.cells #[.int .u64 (seed : Int)] 77)).heap.size = w2.heap.size + 1 := by simp
  generalize hw3 : w2.alloc (.cells #[.int .u64 (seed : Int)] 77) = w3 at *
  have XW := blk_new w3 40 #[.int .i64 0, .int .i64 0, .slice none 0 0, .slice none 0 0, .slice none 0 0, .int .i64 0, .int .i64 0, .slice none 0 0]
  have B4 : Below w3.heap.size w3 (w3.alloc (.cells #[.int .i64 0, .int .i64 0, .slice none 0 0, .slice none 0 0, .slice none 0 0, .int .i64 0, .int .i64 0, .slice none 0 0] 40)) := (Below.refl _ _).alloc (Nat.le_refl _) _
  have s4 : (w3.alloc (.cells #[.int .i64 0, .int .i64 0, .slice none 0 0, .slice none 0 0, .slice none 0 0, .int .i64 0, .int .i64 0, .slice none 0 0] 40)).heap.size = w3.heap.size + 1 := by simp
  generalize hw4 : w3.alloc (.cells #[.int .i64 0, .int .i64 0, .slice none 0 0, .slice none 0 0, .slice none 0 0, .int .i64 0, .int .i64 0, .slice none 0 0] 40) = w4 at *
  rw [s3] at XW s4
  replace X0 := (X0.below B3).below B4
  replace X1 := (X1.below B3).below B4
  replace S3 : SrcAt w4 w2.heap.size (stN seed 0) := by rw [stN_zero seed hsd]; exact Blk.below S3 B4
  replace B4 := below_then (below_then B2 B3) B4
  have c0 : w4.cell? ⟨w.heap.size, 0, none⟩ = some (.int .i64 V) := X0.cell 0 rfl
  have c1 : w4.cell? ⟨w.heap.size, 1, none⟩ = some (.int .i64 D) := X0.cell 1 rfl
  go_wp2_with fail
  clear hw3 hw4 c0 c1 B2 B3 s3
  generalize w2.heap.size = gS at *
  refine (matrix_any gS seed 0 V D 131072 _ S3 (by omega) (by omega) (by omega) (by omega)).mono ?_
  rintro e w5 ⟨ge, rfl, F5, S5, K5⟩
  unfold matV
  replace X0 := X0.but K5 (by omega)
  replace X1 := X1.but K5 (by omega)
  replace XW := XW.but K5 (by omega)
  have s5 := K5.size
  replace F5 : Fresh w5 w.heap.size ge (V * D) (V * D) (numR seed 0 (V * D) 131072) := F5.mono B4.size
  have B5 : Below w.heap.size w w5 := B4.trans (K5.below B4.size (by omega))
  rw [Nat.zero_add] at S5
  clear S3 K5 B4
  have fr0 := XW.frozen 0
  have fr1 := XW.frozen 1
  have fr2 := XW.frozen 2
  have fr3 := XW.frozen 3
  have cc0 : w5.cell? ⟨gS + 1, 0, none⟩ = some (.int .i64 0) := XW.cell 0 rfl
  have cc1 : w5.cell? ⟨gS + 1, 1, none⟩ = some (.int .i64 0) := XW.cell 1 rfl
  have cc2 : w5.cell? ⟨gS + 1, 2, none⟩ = some (.slice none 0 0) := XW.cell 2 rfl
  have neF : ge ≠ gS + 1 := F5.ne XW (by decide)
  have XW6 : Blk (((w5.setCell ⟨gS + 1, 0, none⟩ (.int .i64 V)).setCell ⟨gS + 1, 1, none⟩ (.int .i64 D)).setCell ⟨gS + 1, 2, none⟩ (.slice (some ⟨ge, 0, none⟩) (V * D) (V * D))) (gS + 1) 40 #[.int .i64 V, .int .i64 D, .slice (some ⟨ge, 0, none⟩) (V * D) (V * D), .slice none 0 0, .slice none 0 0, .int .i64 0, .int .i64 0, .slice none 0 0] := ((XW.set 0 _).set 1 _).set 2 _
  replace X0 := ((X0.other (a := ⟨gS + 1, 0, none⟩) (by show w.heap.size ≠ gS + 1; omega) (.int .i64 V)).other (a := ⟨gS + 1, 1, none⟩) (by show w.heap.size ≠ gS + 1; omega) (.int .i64 D)).other (a := ⟨gS + 1, 2, none⟩) (by show w.heap.size ≠ gS + 1; omega) (.slice (some ⟨ge, 0, none⟩) (V * D) (V * D))
  replace X1 := ((X1.other (a := ⟨gS + 1, 0, none⟩) (by show w.heap.size + 1 ≠ gS + 1; omega) (.int .i64 V)).other (a := ⟨gS + 1, 1, none⟩) (by show w.heap.size + 1 ≠ gS + 1; omega) (.int .i64 D)).other (a := ⟨gS + 1, 2, none⟩) (by show w.heap.size + 1 ≠ gS + 1; omega) (.slice (some ⟨ge, 0, none⟩) (V * D) (V * D))
  replace S5 := Blk.other (a := ⟨gS + 1, 2, none⟩) (Blk.other (a := ⟨gS + 1, 1, none⟩) (Blk.other (a := ⟨gS + 1, 0, none⟩) S5 (by show gS ≠ gS + 1; omega) (.int .i64 V)) (by show gS ≠ gS + 1; omega) (.int .i64 D)) (by show gS ≠ gS + 1; omega) (.slice (some ⟨ge, 0, none⟩) (V * D) (V * D))
  replace F5 := ((F5.setOther (a := ⟨gS + 1, 0, none⟩) neF (.int .i64 V)).setOther (a := ⟨gS + 1, 1, none⟩) neF (.int .i64 D)).setOther (a := ⟨gS + 1, 2, none⟩) neF (.slice (some ⟨ge, 0, none⟩) (V * D) (V * D))
  replace B5 := ((B5.setCell (p := ⟨gS + 1, 0, none⟩) (by show w.heap.size ≤ gS + 1; omega) (.int .i64 V)).setCell (p := ⟨gS + 1, 1, none⟩) (by show w.heap.size ≤ gS + 1; omega) (.int .i64 D)).setCell (p := ⟨gS + 1, 2, none⟩) (by show w.heap.size ≤ gS + 1; omega) (.slice (some ⟨ge, 0, none⟩) (V * D) (V * D))
  have s6 : (((w5.setCell ⟨gS + 1, 0, none⟩ (.int .i64 V)).setCell ⟨gS + 1, 1, none⟩ (.int .i64 D)).setCell ⟨gS + 1, 2, none⟩ (.slice (some ⟨ge, 0, none⟩) (V * D) (V * D))).heap.size = w5.heap.size := by simp [World.setCell]
  clear XW neF
  generalize hw6 : ((w5.setCell ⟨gS + 1, 0, none⟩ (.int .i64 V)).setCell ⟨gS + 1, 1, none⟩ (.int .i64 D)).setCell ⟨gS + 1, 2, none⟩ (.slice (some ⟨ge, 0, none⟩) (V * D) (V * D)) = w6 at *
  have hmk := make_blocks L (by omega)
  have c4 : w6.cell? ⟨w.heap.size, 4, none⟩ = some (.int .i64 L) := X0.cell 4 rfl
  have XB := blk_new w6 80 (madeCells #[.slice none 0 0, .int .i64 0, .int .i64 0, .slice none 0 0, .int .i64 0, .int .i64 0, .slice none 0 0, .int .i64 0, .int .i64 0, .slice none 0 0, .int .i64 0, .int .i64 0, .slice none 0 0, .slice none 0 0, .int .i64 0, .int .i64 0, .slice none 0 0, .int .i64 0, .int .i64 0, .slice none 0 0] (L * 20))
  have B7 : Below w6.heap.size w6 (w6.alloc (.cells (madeCells #[.slice none 0 0, .int .i64 0, .int .i64 0, .slice none 0 0, .int .i64 0, .int .i64 0, .slice none 0 0, .int .i64 0, .int .i64 0, .slice none 0 0, .int .i64 0, .int .i64 0, .slice none 0 0, .slice none 0 0, .int .i64 0, .int .i64 0, .slice none 0 0, .int .i64 0, .int .i64 0, .slice none 0 0] (L * 20)) 80)) := (Below.refl _ _).alloc (Nat.le_refl _) _
  have g2 : gS + 1 < w5.heap.size := by omega
  rw [s6] at XB
  have s7 : (w6.alloc (.cells (madeCells #[.slice none 0 0, .int .i64 0, .int .i64 0, .slice none 0 0, .int .i64 0, .int .i64 0, .slice none 0 0, .int .i64 0, .int .i64 0, .slice none 0 0, .int .i64 0, .int .i64 0, .slice none 0 0, .slice none 0 0, .int .i64 0, .int .i64 0, .slice none 0 0, .int .i64 0, .int .i64 0, .slice none 0 0] (L * 20)) 80)).heap.size = w6.heap.size + 1 := by simp
  generalize hw7 : w6.alloc (.cells (madeCells #[.slice none 0 0, .int .i64 0, .int .i64 0, .slice none 0 0, .int .i64 0, .int .i64 0, .slice none 0 0, .int .i64 0, .int .i64 0, .slice none 0 0, .int .i64 0, .int .i64 0, .slice none 0 0, .slice none 0 0, .int .i64 0, .int .i64 0, .slice none 0 0, .int .i64 0, .int .i64 0, .slice none 0 0] (L * 20)) 80) = w7 at *
  replace X0 := X0.below B7
  replace X1 := X1.below B7
  replace XW6 := XW6.below B7
  replace S5 := Blk.below S5 B7
  replace F5 := F5.below B7
  replace B7 := below_then B5 B7
  have gr3 := XW6.frozen 3
  have gc3 : w7.cell? ⟨gS + 1, 3, none⟩ = some (.slice none 0 0) := XW6.cell 3 rfl
  have XW8 : Blk (w7.setCell ⟨gS + 1, 3, none⟩ (.slice (some ⟨w5.heap.size, 0, none⟩) L L)) (gS + 1) 40 #[.int .i64 V, .int .i64 D, .slice (some ⟨ge, 0, none⟩) (V * D) (V * D), .slice (some ⟨w5.heap.size, 0, none⟩) L L, .slice none 0 0, .int .i64 0, .int .i64 0, .slice none 0 0] := XW6.set 3 _
  replace X0 := X0.other (a := ⟨gS + 1, 3, none⟩) (by show w.heap.size ≠ gS + 1; omega) (.slice (some ⟨w5.heap.size, 0, none⟩) L L)
  replace X1 := X1.other (a := ⟨gS + 1, 3, none⟩) (by show w.heap.size + 1 ≠ gS + 1; omega) (.slice (some ⟨w5.heap.size, 0, none⟩) L L)
  replace S5 := Blk.other (a := ⟨gS + 1, 3, none⟩) S5 (by show gS ≠ gS + 1; omega) (.slice (some ⟨w5.heap.size, 0, none⟩) L L)
  replace XB := XB.other (a := ⟨gS + 1, 3, none⟩) (by show w5.heap.size ≠ gS + 1; omega) (.slice (some ⟨w5.heap.size, 0, none⟩) L L)
  replace F5 := F5.setOther (a := ⟨gS + 1, 3, none⟩) (F5.ne XW6 (by decide)) (.slice (some ⟨w5.heap.size, 0, none⟩) L L)
  replace B7 := B7.setCell (p := ⟨gS + 1, 3, none⟩) (by show w.heap.size ≤ gS + 1; omega) (.slice (some ⟨w5.heap.size, 0, none⟩) L L)
  generalize hw8 : w7.setCell ⟨gS + 1, 3, none⟩ (.slice (some ⟨w5.heap.size, 0, none⟩) L L) = w8 at *
  have gc8 : w8.cell? ⟨gS + 1, 3, none⟩ = some (.slice (some ⟨w5.heap.size, 0, none⟩) L L) := XW8.cell 3 rfl
  go_wp2_with fail
  have M0 : MkAt w w8 V D Hd H L L seed gS ge w5.heap.size 0 := ⟨X0, X1, XW8, by rw [Nat.zero_mul, Nat.add_zero]; exact S5, F5, ⟨_, XB, by simp [madeCells]⟩, fun j hj => by omega, B7⟩
  clear X0 X1 XW8 S5 F5 XB B7 hw6 hw7 hw8 gc8 gr3 gc3 c4 hmk XW6 B5 s6 s7 fr0 fr1 fr2 fr3 cc0 cc1 cc2 s5 s4
  generalize w5.heap.size = gB at *
  go_loopg [31] L (fun r i wr => ∃ t : Nat, t ≤ L ∧ r = L - t ∧ i = .int .i64 t ∧ MkAt w wr V D Hd H L L seed gS ge gB t)
  case atStart => exact ⟨0, by omega, by omega, rfl, M0⟩
  case round =>
    clear M0
    obtain ⟨t, ht, rfl, rfl, M1⟩ := hrel
    by_cases hlt : t < L
    · have X0 : Blk wr w.heap.size 23 #[.int .i64 V, .int .i64 D, .int .i64 Hd, .int .i64 H, .int .i64 L] := M1.x0
      have c0 : wr.cell? ⟨w.heap.size, 0, none⟩ = some (.int .i64 V) := X0.cell 0 rfl
      have c1 : wr.cell? ⟨w.heap.size, 1, none⟩ = some (.int .i64 D) := X0.cell 1 rfl
      have c2 : wr.cell? ⟨w.heap.size, 2, none⟩ = some (.int .i64 Hd) := X0.cell 2 rfl
      have c3 : wr.cell? ⟨w.heap.size, 3, none⟩ = some (.int .i64 H) := X0.cell 3 rfl
      have c4 : wr.cell? ⟨w.heap.size, 4, none⟩ = some (.int .i64 L) := X0.cell 4 rfl
      have cb : wr.cell? ⟨gS + 1, 3, none⟩ = some (.slice (some ⟨gB, 0, none⟩) L L) := M1.xw.cell 3 rfl
      have HB : Hid (∀ wv, But gS wr wv → wv.cell? ⟨gS + 1, 3, none⟩ = some (.slice (some ⟨gB, 0, none⟩) L L)) := fun wv hb => (M1.xw.but hb (by omega)).cell 3 rfl
      have KD : But gS wr wr.drew := But.of_below (Below.refl _ _).drew
      have SD : SrcAt wr.drew gS (stN seed (V * D + t * lenB D H)) := Blk.below M1.src (Below.refl _ _).drew
      have CB := block_any gS seed (V * D + t * lenB D H) D H V Hd L wr.drew SD (by omega) (by omega)
      unfold cfgC at CB
      go_wp2_with fail
      go_region_with (first
          | (go_at_call 24; refine CB.mono ?_; rintro e w9 ⟨f, q, k, v, o, s, u, d, rfl, MB, S9, K9⟩; replace K9 := KD.trans K9; have cb9 := HB.out _ K9; obtain ⟨M2, TH⟩ := M1.step g1 g2 hlt MB S9 K9 _ rfl; have HST := store_block w9 gB (t * 20) (madeB D H f q k v o s u d) rfl TH (madeB_one _ _ _ _ _ _ _ _ _ _); have HSZ : (madeB D H f q k v o s u d).size = 20 := rfl))
      all_goals
        go_wp2
        go_roundg (L - (t + 1))
        case measure => omega
        case rel => exact ⟨t + 1, by omega, rfl, by go_num, M2⟩
    · obtain rfl : t = L := by omega
      generalize wr = wa at *
      obtain ⟨X0, X1, XW, S1, F1, ⟨cs, XB, hcs⟩, bs, B1⟩ := M1
      unfold cfgC noW wCells rv at *
      have sz := B1.size
      have c1 : wa.cell? ⟨w.heap.size, 1, none⟩ = some (.int .i64 D) := X0.cell 1 rfl
      go_wp2_with fail
      refine (gains_any gS seed _ D _ S1 (by omega)).mono ?_
      rintro e wb ⟨gl, rfl, F2, S2, K2⟩
      have F2' := F2.mono sz
      replace X0 := X0.but K2 (by omega)
      replace X1 := X1.but K2 (by omega)
      replace XW := XW.but K2 (by omega)
      have hB : gB < wa.heap.size := (Array.getElem?_eq_some_iff.1 XB).1
      have eB := K2.block gB hB (by omega)
      have S1' := S1
      unfold SrcAt Blk at S1'
      replace F1 := F1.of_block (K2.block _ F1.lt (F1.ne S1' (by decide)))
      replace bs : ∀ j, j < t → ∃ f q k v o s u d, wb.rangeAt gB (j * 20) (madeB D H f q k v o s u d).toList ∧ MadeB wb w.heap.size seed (V * D + j * lenB D H) D H f q k v o s u d := fun j hj => by
        obtain ⟨f, q, k, v, o, s, u, d, r1, r2⟩ := bs j hj
        exact ⟨f, q, k, v, o, s, u, d, rangeAt_block r1 eB, r2.of (Nat.le_refl _) (fun F => K2.block _ F.lt (F.ne S1' (by decide)))⟩
      replace XB := eB.trans XB
      replace B1 := B1.trans (K2.below sz (by omega))
      clear c1 S1 S1' eB K2 hB sz F2
      have fr4 := XW.frozen 4
      have cc4 : wb.cell? ⟨gS + 1, 4, none⟩ = some (.slice none 0 0) := XW.cell 4 rfl
      have so : ∀ (b : Nat) (x : Value), b ≠ gS + 1 → (wb.setCell ⟨gS + 1, 4, none⟩ x).heap[b]? = wb.heap[b]? := fun b x hb => Below.heap_setCell _ _ _ _ hb
      have XW2 : Blk (wb.setCell ⟨gS + 1, 4, none⟩ (.slice (some ⟨gl, 0, none⟩) D D)) (gS + 1) 40 #[.int .i64 V, .int .i64 D, .slice (some ⟨ge, 0, none⟩) (V * D) (V * D), .slice (some ⟨gB, 0, none⟩) t t, .slice (some ⟨gl, 0, none⟩) D D, .int .i64 0, .int .i64 0, .slice none 0 0] := XW.set 4 _
      replace X0 := Blk.of_block X0 (so _ (.slice (some ⟨gl, 0, none⟩) D D) (by omega))
      replace X1 := Blk.of_block X1 (so _ (.slice (some ⟨gl, 0, none⟩) D D) (by omega))
      replace S2 := Blk.of_block S2 (so _ (.slice (some ⟨gl, 0, none⟩) D D) (by omega))
      replace F1 := F1.of_block (so _ (.slice (some ⟨gl, 0, none⟩) D D) (F1.ne XW (by decide)))
      replace F2' := F2'.of_block (so _ (.slice (some ⟨gl, 0, none⟩) D D) (F2'.ne XW (by decide)))
      have eB := so gB (.slice (some ⟨gl, 0, none⟩) D D) (by omega)
      replace bs : ∀ j, j < t → ∃ f q k v o s u d, (wb.setCell ⟨gS + 1, 4, none⟩ (.slice (some ⟨gl, 0, none⟩) D D)).rangeAt gB (j * 20) (madeB D H f q k v o s u d).toList ∧ MadeB (wb.setCell ⟨gS + 1, 4, none⟩ (.slice (some ⟨gl, 0, none⟩) D D)) w.heap.size seed (V * D + j * lenB D H) D H f q k v o s u d := fun j hj => by
        obtain ⟨f, q, k, v, o, s, u, d, r1, r2⟩ := bs j hj
        exact ⟨f, q, k, v, o, s, u, d, rangeAt_block r1 eB, r2.of (Nat.le_refl _) (fun F => so _ _ (F.ne XW (by decide)))⟩
      replace XB := eB.trans XB
      replace B1 := B1.setCell (p := ⟨gS + 1, 4, none⟩) (by show w.heap.size ≤ gS + 1; omega) (.slice (some ⟨gl, 0, none⟩) D D)
      clear so eB XW
      generalize hwc : wb.setCell ⟨gS + 1, 4, none⟩ (.slice (some ⟨gl, 0, none⟩) D D) = wc at *
      have c0 : wc.cell? ⟨w.heap.size, 0, none⟩ = some (.int .i64 V) := X0.cell 0 rfl
      have c1 : wc.cell? ⟨w.heap.size, 1, none⟩ = some (.int .i64 D) := X0.cell 1 rfl
      go_wp2_with fail
      clear hwc fr4 cc4 c0 c1
      have sz := B1.size
      refine (matrix_any gS seed _ V D 65536 _ S2 (by omega) (by omega) (by omega) (by omega)).mono ?_
      rintro e wd ⟨go, rfl, F3, S3, K3⟩
      unfold matV
      have F3' := F3.mono sz
      have S1' := S2
      unfold SrcAt Blk at S1'
      have hB : gB < wc.heap.size := (Array.getElem?_eq_some_iff.1 XB).1
      have eB := K3.block gB hB (by omega)
      replace X1 := X1.but K3 (by omega)
      replace XW2 := XW2.but K3 (by omega)
      replace F1 := F1.of_block (K3.block _ F1.lt (F1.ne S1' (by decide)))
      replace F2' := F2'.of_block (K3.block _ F2'.lt (F2'.ne S1' (by decide)))
      replace bs : ∀ j, j < t → ∃ f q k v o s u d, wd.rangeAt gB (j * 20) (madeB D H f q k v o s u d).toList ∧ MadeB wd w.heap.size seed (V * D + j * lenB D H) D H f q k v o s u d := fun j hj => by
        obtain ⟨f, q, k, v, o, s, u, d, r1, r2⟩ := bs j hj
        exact ⟨f, q, k, v, o, s, u, d, rangeAt_block r1 eB, r2.of (Nat.le_refl _) (fun F => K3.block _ F.lt (F.ne S1' (by decide)))⟩
      replace XB := eB.trans XB
      replace B1 := B1.trans (K3.below sz (by omega))
      clear S2 S1' eB K3 hB sz F3 X0 S3
      have fr5 := XW2.frozen 5
      have fr6 := XW2.frozen 6
      have fr7 := XW2.frozen 7
      have cc5 : wd.cell? ⟨gS + 1, 5, none⟩ = some (.int .i64 0) := XW2.cell 5 rfl
      have cc6 : wd.cell? ⟨gS + 1, 6, none⟩ = some (.int .i64 0) := XW2.cell 6 rfl
      have cc7 : wd.cell? ⟨gS + 1, 7, none⟩ = some (.slice none 0 0) := XW2.cell 7 rfl
      have XW3 : Blk (((wd.setCell ⟨gS + 1, 5, none⟩ (.int .i64 V)).setCell ⟨gS + 1, 6, none⟩ (.int .i64 D)).setCell ⟨gS + 1, 7, none⟩ (.slice (some ⟨go, 0, none⟩) (V * D) (V * D))) (gS + 1) 40 #[.int .i64 V, .int .i64 D, .slice (some ⟨ge, 0, none⟩) (V * D) (V * D), .slice (some ⟨gB, 0, none⟩) t t, .slice (some ⟨gl, 0, none⟩) D D, .int .i64 V, .int .i64 D, .slice (some ⟨go, 0, none⟩) (V * D) (V * D)] := ((XW2.set 5 _).set 6 _).set 7 _
      have so : ∀ b : Nat, b ≠ gS + 1 → (((wd.setCell ⟨gS + 1, 5, none⟩ (.int .i64 V)).setCell ⟨gS + 1, 6, none⟩ (.int .i64 D)).setCell ⟨gS + 1, 7, none⟩ (.slice (some ⟨go, 0, none⟩) (V * D) (V * D))).heap[b]? = wd.heap[b]? := fun b hb => by
        rw [Below.heap_setCell _ _ _ _ (by exact hb), Below.heap_setCell _ _ _ _ (by exact hb), Below.heap_setCell _ _ _ _ (by exact hb)]
      have B2 : Below w.heap.size w (((wd.setCell ⟨gS + 1, 5, none⟩ (.int .i64 V)).setCell ⟨gS + 1, 6, none⟩ (.int .i64 D)).setCell ⟨gS + 1, 7, none⟩ (.slice (some ⟨go, 0, none⟩) (V * D) (V * D))) := ((B1.setCell (p := ⟨gS + 1, 5, none⟩) (by show w.heap.size ≤ gS + 1; omega) _).setCell (p := ⟨gS + 1, 6, none⟩) (by show w.heap.size ≤ gS + 1; omega) _).setCell (p := ⟨gS + 1, 7, none⟩) (by show w.heap.size ≤ gS + 1; omega) _
      generalize hwe : ((wd.setCell ⟨gS + 1, 5, none⟩ (.int .i64 V)).setCell ⟨gS + 1, 6, none⟩ (.int .i64 D)).setCell ⟨gS + 1, 7, none⟩ (.slice (some ⟨go, 0, none⟩) (V * D) (V * D)) = we at *
      have Y1 := Blk.of_block X1 (so _ (by omega))
      have G1 := F1.of_block (so _ (F1.ne XW2 (by decide)))
      have G2 := F2'.of_block (so _ (F2'.ne XW2 (by decide)))
      have G3 := F3'.of_block (so _ (F3'.ne XW2 (by decide)))
      have eB := so gB (by omega)
      have cs2 : ∀ j, j < t → ∃ f q k v o s u d, we.rangeAt gB (j * 20) (madeB D H f q k v o s u d).toList ∧ MadeB we w.heap.size seed (V * D + j * lenB D H) D H f q k v o s u d := fun j hj => by
        obtain ⟨f, q, k, v, o, s, u, d, r1, r2⟩ := bs j hj
        exact ⟨f, q, k, v, o, s, u, d, rangeAt_block r1 eB, r2.of (Nat.le_refl _) (fun F => so _ (F.ne XW2 (by decide)))⟩
      have YB := eB.trans XB
      clear so eB XW2 F1 F2' F3' bs XB B1 X1
      have hall : Array.all (#[.int .i64 V, .int .i64 D, .slice (some ⟨ge, 0, none⟩) (V * D) (V * D), .slice (some ⟨gB, 0, none⟩) t t, .slice (some ⟨gl, 0, none⟩) D D, .int .i64 V, .int .i64 D, .slice (some ⟨go, 0, none⟩) (V * D) (V * D)] : Array Value) (fun v => v.oneCell') = true := by simp [Value.oneCell']
      go_wp2_with (first | (refine wpList_load_row rfl 40 _ rfl (gS + 1) rfl 40 _ (0, 0) _ XW3 Tryz.underlying40 rfl Tryz.infoW ?_) | (refine wpList_store_row rfl 40 _ _ rfl (w.heap.size + 1) _ rfl rfl 40 _ Y1 Tryz.infoW rfl hall ?_))
      refine bodyPost_ret (results_blk rfl _ _ (w.heap.size + 1) _ rfl (load_w (Y1.row _) rfl)) rfl ?_
      have so : ∀ (b : Nat) (x : Array Value), b ≠ w.heap.size + 1 → (we.setRow (w.heap.size + 1) x).heap[b]? = we.heap[b]? := fun b x hb => setRow_other _ _ _ _ hb
      refine ⟨ge, gB, gl, go, rfl, ⟨G1.of_block (so _ _ (G1.ne Y1 (by decide))), ⟨cs, (so _ _ (by omega)).trans YB, hcs⟩, by omega, fun j hj => ?_, G2.of_block (so _ _ (G2.ne Y1 (by decide))), G3.of_block (so _ _ (G3.ne Y1 (by decide)))⟩, below_setRow B2 (by omega) _⟩
      obtain ⟨f, q, k, v, o, s, u, d, r1, r2⟩ := cs2 j hj
      exact ⟨f, q, k, v, o, s, u, d, rangeAt_block r1 (so _ _ (by omega)), r2.of (Nat.le_refl _) (fun F => so _ _ (F.ne Y1 (by decide)))⟩
end Go.Proofs.YtcanjlofnpnhkaaGreatDoor

/- The awake check of the laws of layer 6 is true; the document's made number; configurations as arguments. -/
namespace Go.Proofs.YtcanjlofnpnhkaaGreatDoor
open Go.ChangeShapes Go.WideShapes Go.ChangeAt Go.RowKit
theorem first_two : numR 0 0 2 131072 = [100482, -17950] := by decide +kernel
theorem make_lit (w : World) : Calls Tryz.prog 6 #[.agg #[.int .i64 2, .int .i64 1, .int .i64 1, .int .i64 1, .int .i64 1], .int .u64 0] w fun e w' => ∃ ge gB gl go, e = .returned (.tuple #[.agg #[.int .i64 2, .int .i64 1, .slice (some ⟨ge, 0, none⟩) 2 2, .slice (some ⟨gB, 0, none⟩) 1 1, .slice (some ⟨gl, 0, none⟩) 1 1, .int .i64 2, .int .i64 1, .slice (some ⟨go, 0, none⟩) 2 2], .int .i64 0]) ∧ Fresh w' w.heap.size ge 2 2 [100482, -17950] ∧ Below w.heap.size w w' := by
  refine (make_any 2 1 1 1 1 0 w (by omega) (by decide)).mono ?_
  rintro e w' ⟨ge, gB, gl, go, rfl, M, B⟩
  refine ⟨ge, gB, gl, go, rfl, ?_, B⟩
  have := M.e
  rw [show 2 * 1 = 2 from rfl, first_two] at this
  exact this
theorem shape_lit (w : World) : Calls Tryz.prog 22 #[.agg #[.int .i64 2, .int .i64 4, .int .i64 3, .int .i64 1, .int .i64 1]] w fun e w' => e = .returned (.int .i64 4) ∧ Below w.heap.size w w' :=
  shape_any 2 4 3 1 1 w (by unfold I64; omega) (by unfold I64; omega) (by unfold I64; omega) (by unfold I64; omega) (by unfold I64; omega)
theorem stN_at (seed i : Nat) : (seed + (i + 1) * 11400714819323198485 % 18446744073709551616) % 18446744073709551616 = stN seed (i + 1) := by unfold stN; omega
end Go.Proofs.YtcanjlofnpnhkaaGreatDoor

/- An argument that is a row of fixed numbers, opened once: nil, empty or not. -/
namespace Go.Proofs.YtcanjlofnpnhkaaGreatDoor
open Go.ChangeShapes Go.WideShapes Go.ChangeAt Go.RowKit
theorem Tryz.own : ownKnob Tryz.prog.godebug = none := by kernel_rfl
theorem Tryz.laidOut : laidOutB Tryz.prog = true := by kernel_rfl
theorem Tryz.cellsNum : Tryz.prog.cellsOf 106 = 1 := by kernel_rfl
end Go.Proofs.YtcanjlofnpnhkaaGreatDoor

/- An argument that is a configuration, opened once. -/
namespace Go.Proofs.YtcanjlofnpnhkaaGreatDoor
open Go.ChangeShapes Go.WideShapes Go.ChangeAt Go.RowKit
theorem array5 {α : Type} {cs : Array α} (h : cs.size = 5) : ∃ c0 c1 c2 c3 c4, cs = #[c0, c1, c2, c3, c4] := by
  obtain ⟨l⟩ := cs
  match l, h with
  | [c0, c1, c2, c3, c4], _ => exact ⟨c0, c1, c2, c3, c4, rfl⟩
/-- A configuration. -/
structure Cfg where
  V : Int
  D : Int
  Hd : Int
  H : Int
  L : Int
def Cfg.val (C : Cfg) : Value := .agg (cfgC C.V C.D C.Hd C.H C.L)
structure Cfg.Ok (C : Cfg) : Prop where
  V : I64 C.V
  D : I64 C.D
  Hd : I64 C.Hd
  H : I64 C.H
  L : I64 C.L
set_option maxRecDepth 100000 in
theorem viewCfg {H : Type} {enc : TypeId × Value → H} {W : World} {b0 : Nat} {v : Value} {d : DataW H} {p : List MemPlace} (hv : Value.okWide Tryz.prog W .any b0 23 v)
    (h : DataW.Trod enc Tryz.prog W 0 (fun _ => true) true 23 v d p) : ∃ C : Cfg, v = C.val ∧ C.Ok := by
  obtain ⟨cs, rfl, hsz⟩ := okWide_struct Tryz.underlying23 hv
  obtain ⟨c0, c1, c2, c3, c4, rfl⟩ := array5 (hsz.trans (by kernel_rfl))
  obtain ⟨fuel, hf⟩ := h
  obtain ⟨xs, n, _, _, hl, hlen, hf⟩ := DataW.trod_struct Tryz.underlying23 hf
  have ci : Tryz.prog.cellsOf 3 = 1 := by kernel_rfl
  have t0 := hf 0 _ rfl
  have t1 := hf 1 _ rfl
  have t2 := hf 2 _ rfl
  have t3 := hf 3 _ rfl
  have t4 := hf 4 _ rfl
  have g : ∀ (j : Nat), j < 5 → ∃ y, xs[j]? = some y := fun j hj => ⟨_, List.getElem?_eq_getElem (by rw [hlen]; exact hj)⟩
  obtain ⟨y0, h0⟩ := g 0 (by omega)
  obtain ⟨y1, h1⟩ := g 1 (by omega)
  obtain ⟨y2, h2⟩ := g 2 (by omega)
  obtain ⟨y3, h3⟩ := g 3 (by omega)
  obtain ⟨y4, h4⟩ := g 4 (by omega)
  simp only [Value.cells, h0, h1, h2, h3, h4] at t0 t1 t2 t3 t4
  obtain ⟨x0, e0, _, w0⟩ := DataW.trod_int Tryz.underlying3 t0
  obtain ⟨x1, e1, _, w1⟩ := DataW.trod_int Tryz.underlying3 t1
  obtain ⟨x2, e2, _, w2⟩ := DataW.trod_int Tryz.underlying3 t2
  obtain ⟨x3, e3, _, w3⟩ := DataW.trod_int Tryz.underlying3 t3
  obtain ⟨x4, e4, _, w4⟩ := DataW.trod_int Tryz.underlying3 t4
  simp [ci] at e0 e1 e2 e3 e4
  subst e0 e1 e2 e3 e4
  exact ⟨⟨x0, x1, x2, x3, x4⟩, rfl, bounds_i64 w0, bounds_i64 w1, bounds_i64 w2, bounds_i64 w3, bounds_i64 w4⟩
end Go.Proofs.YtcanjlofnpnhkaaGreatDoor

/- What Make answers of any configuration, as laws use it. -/
namespace Go.Proofs.YtcanjlofnpnhkaaGreatDoor
open Go.ChangeShapes Go.WideShapes Go.ChangeAt Go.RowKit
/-- The cells of a model that was made, or of none. -/
structure Model (w : World) (B : Nat) (C : Cfg) (seed : Nat) (cs : Array Value) (q : Int) : Prop where
  err : q = shapeN C.V C.D C.Hd C.H C.L
  size : cs.size = 8
  one : cs.all (·.oneCell') = true
  no : q ≠ 0 → cs = noW
  ok : q = 0 → ∃ V D Hd H L ge gB gl go : Nat, C.V = V ∧ C.D = D ∧ C.Hd = Hd ∧ C.H = H ∧ C.L = L ∧ cs = wCells V D (rv ge (V * D)) (rv gB L) (rv gl D) (rv go (V * D)) V D ∧ MadeW w B seed V D H L ge gB gl go
theorem noW_one : noW.all (·.oneCell') = true := by simp [noW, Value.oneCell']
theorem wCells_one (V D e b l o : Nat) (n1 n2 n3 n4 : Nat) (V' D' : Int) : (wCells V D (rv e n1) (rv b n2) (rv l n3) (rv o n4) V' D').all (·.oneCell') = true := by simp [wCells, rv, Value.oneCell']
theorem make_gen (C : Cfg) (hC : C.Ok) (seed : Nat) (hs : seed < 18446744073709551616) (w : World) :
   Calls Tryz.prog 6 #[C.val, .int .u64 (seed : Int)] w fun e w' => ∃ cs q, e = .returned (.tuple #[.agg cs, .int .i64 q]) ∧ Model w' w.heap.size C seed cs q ∧ Below w.heap.size w w' := by
  obtain ⟨V, D, Hd, H, L⟩ := C
  unfold Cfg.val
  by_cases hf : shapeN V D Hd H L = 0
  · have hk := shape_ok hf
    obtain ⟨V', rfl⟩ : ∃ n : Nat, V = n := ⟨V.toNat, by omega⟩
    obtain ⟨D', rfl⟩ : ∃ n : Nat, D = n := ⟨D.toNat, by omega⟩
    obtain ⟨Hd', rfl⟩ : ∃ n : Nat, Hd = n := ⟨Hd.toNat, by omega⟩
    obtain ⟨H', rfl⟩ : ∃ n : Nat, H = n := ⟨H.toNat, by omega⟩
    obtain ⟨L', rfl⟩ : ∃ n : Nat, L = n := ⟨L.toNat, by omega⟩
    refine (make_any V' D' Hd' H' L' seed w hs hf).mono ?_
    rintro e w' ⟨ge, gB, gl, go, rfl, M, B⟩
    exact ⟨_, _, rfl, ⟨hf.symm, rfl, wCells_one _ _ _ _ _ _ _ _ _ _ _ _, fun h => absurd rfl h, fun _ => ⟨V', D', Hd', H', L', ge, gB, gl, go, rfl, rfl, rfl, rfl, rfl, rfl, M⟩⟩, B⟩
  · refine (make_bad V D Hd H L seed w hC.V hC.D hC.Hd hC.H hC.L hf).mono ?_
    rintro e w' ⟨rfl, B⟩
    exact ⟨_, _, rfl, ⟨rfl, rfl, noW_one, fun _ => rfl, fun h => absurd h hf⟩, B⟩
/-- A model that is laid into a new block. -/
theorem put_w (w : World) (cs : Array Value) : Blk ((w.alloc (.cells #[.int .i64 0, .int .i64 0, .slice none 0 0, .slice none 0 0, .slice none 0 0, .int .i64 0, .int .i64 0, .slice none 0 0] 40)).setRow w.heap.size cs) w.heap.size 40 cs ∧ Below w.heap.size w ((w.alloc (.cells #[.int .i64 0, .int .i64 0, .slice none 0 0, .slice none 0 0, .slice none 0 0, .int .i64 0, .int .i64 0, .slice none 0 0] 40)).setRow w.heap.size cs) :=
  ⟨(blk_new w _ _).row cs, below_setRow ((Below.refl _ _).alloc (Nat.le_refl _) _) (Nat.le_refl _) _⟩
theorem MadeW.below {w w' : World} {B seed V D H L ge gB gl go : Nat} (h : MadeW w B seed V D H L ge gB gl go) (hb : Below w.heap.size w w') : MadeW w' B seed V D H L ge gB gl go := by
  obtain ⟨cs, h1, h2⟩ := h.bl
  have e := hb.block gB (Array.getElem?_eq_some_iff.1 h1).1
  refine ⟨h.e.below hb, ⟨cs, e.trans h1, h2⟩, h.base, fun j hj => ?_, h.l.below hb, h.o.below hb⟩
  obtain ⟨f, q, k, v, o, s, u, d, r1, r2⟩ := h.bs j hj
  exact ⟨f, q, k, v, o, s, u, d, rangeAt_block r1 e, r2.of (Nat.le_refl _) (fun F => hb.block _ F.lt)⟩
theorem Model.below {w w' : World} {B : Nat} {C : Cfg} {seed : Nat} {cs : Array Value} {q : Int} (h : Model w B C seed cs q) (hb : Below w.heap.size w w') : Model w' B C seed cs q :=
  ⟨h.err, h.size, h.one, h.no, fun hq => by
    obtain ⟨V, D, Hd, H, L, ge, gB, gl, go, h1, h2, h3, h4, h5, h6, M⟩ := h.ok hq
    exact ⟨V, D, Hd, H, L, ge, gB, gl, go, h1, h2, h3, h4, h5, h6, M.below hb⟩⟩
/-- A configuration in its box. -/
theorem cfg_cells {w : World} {g : Nat} {C : Cfg} (h : Blk w g 23 (cfgC C.V C.D C.Hd C.H C.L)) : w.cell? ⟨g, 0, none⟩ = some (.int .i64 C.V) ∧ w.cell? ⟨g, 1, none⟩ = some (.int .i64 C.D) ∧ w.cell? ⟨g, 2, none⟩ = some (.int .i64 C.Hd) ∧ w.cell? ⟨g, 3, none⟩ = some (.int .i64 C.H) ∧ w.cell? ⟨g, 4, none⟩ = some (.int .i64 C.L) :=
  ⟨h.cell 0 rfl, h.cell 1 rfl, h.cell 2 rfl, h.cell 3 rfl, h.cell 4 rfl⟩
end Go.Proofs.YtcanjlofnpnhkaaGreatDoor

/- Whether numbers fit a configuration: sides, one layer, all. -/
namespace Go.Proofs.YtcanjlofnpnhkaaGreatDoor
open Go.ChangeShapes Go.WideShapes Go.ChangeAt Go.RowKit
/-- A slice, a matrix, a layer, a model, as values. -/
structure Sl where
  ao : Option Addr
  n : Nat
  c : Nat
def Sl.v (s : Sl) : Value := .slice s.ao s.n s.c
structure Mt where
  r : Int
  c : Int
  d : Sl
structure Bk where
  f : Sl
  q : Mt
  k : Mt
  v : Mt
  o : Mt
  s : Sl
  u : Mt
  d : Mt
def Bk.cells (b : Bk) : Array Value := bcs b.f.v (.int .i64 b.q.r) (.int .i64 b.q.c) b.q.d.v (.int .i64 b.k.r) (.int .i64 b.k.c) b.k.d.v (.int .i64 b.v.r) (.int .i64 b.v.c) b.v.d.v (.int .i64 b.o.r) (.int .i64 b.o.c) b.o.d.v b.s.v (.int .i64 b.u.r) (.int .i64 b.u.c) b.u.d.v (.int .i64 b.d.r) (.int .i64 b.d.c) b.d.d.v
structure Wt where
  e : Mt
  b : Sl
  l : Sl
  o : Mt
def Wt.cells (W : Wt) : Array Value := #[.int .i64 W.e.r, .int .i64 W.e.c, W.e.d.v, W.b.v, W.l.v, .int .i64 W.o.r, .int .i64 W.o.c, W.o.d.v]
structure Mt.Ok (m : Mt) : Prop where
  r : I64 m.r
  c : I64 m.c
structure Bk.Ok (b : Bk) : Prop where
  f : b.f.n ≤ 9223372036854775807
  q : b.q.Ok
  k : b.k.Ok
  v : b.v.Ok
  o : b.o.Ok
  s : b.s.n ≤ 9223372036854775807
  u : b.u.Ok
  d : b.d.Ok
/-- Is it a sound matrix of so many rows and columns? -/
def sidesB (m : Mt) (R K : Int) : Bool := decide (chkN m.r m.c m.d.n = 0 ∧ m.r = R ∧ m.c = K)
def bkB (D H : Int) (b : Bk) : Bool := decide ((b.f.n : Int) = D) && decide ((b.s.n : Int) = D) && sidesB b.q D D && sidesB b.k D D && sidesB b.v D D && sidesB b.o D D && sidesB b.u H D && sidesB b.d D H
set_option maxHeartbeats 800000 in
theorem hasSides_any (m : Mt) (R K : Int) (w : World) (hm : m.Ok) :
   Calls Tryz.prog 66 #[matV m.r m.c m.d.ao m.d.n m.d.c, .int .i64 R, .int .i64 K] w fun e w' => e = .returned (.bool (sidesB m R K)) ∧ Below w.heap.size w w' := by
  obtain ⟨r, c, ⟨ao, n, ca⟩⟩ := m
  have hr := hm.r
  have hc := hm.c
  clear hm
  unfold I64 at hr hc
  have X0 := box_new w r c ao n ca
  have B0 : Below w.heap.size w (w.alloc (.cells #[.int .i64 r, .int .i64 c, .slice ao n ca] 37)) := (Below.refl _ _).alloc (Nat.le_refl _) _
  have C := fun wv => check_any r c ao n ca wv hr hc
  show Calls Tryz.prog 66 #[matV r c ao n ca, .int .i64 R, .int .i64 K] w _
  unfold matV at *
  generalize hw0 : w.alloc (.cells #[.int .i64 r, .int .i64 c, .slice ao n ca] 37) = w0 at *
  have c0 := X0.c0
  have c1 := X0.c1
  have c2 := X0.c2
  go_enter Tryz.func66, Tryz.ntmps66
  go_wp2_with fail
  refine (C w0).mono ?_
  rintro e w1 ⟨rfl, B1⟩
  replace X0 := X0.below B1
  replace B1 := below_then B0 B1
  replace c0 := X0.c0
  replace c1 := X0.c1
  clear hw0 C X0 c2 B0
  by_cases h1 : chkN r c n = 0
  · by_cases h2 : r = R
    · by_cases h3 : c = K
      · subst h2 h3
        have HS : Hid (sidesB ⟨r, c, ⟨ao, n, ca⟩⟩ r c = true) := by show _ = _; unfold sidesB; rw [decide_eq_true ⟨h1, rfl, rfl⟩]
        rw [h1]
        go_wp2
        go_ret
        exact ⟨by rw [HS.out]; rfl, B1⟩
      · have HS : Hid (sidesB ⟨r, c, ⟨ao, n, ca⟩⟩ R K = false) := by show _ = _; unfold sidesB; rw [decide_eq_false (fun h => h3 h.2.2)]
        have h3' : (c == K) = false := by simpa using h3
        subst h2
        rw [h1]
        go_wp2
        go_ret
        exact ⟨by rw [HS.out]; rfl, B1⟩
    · have HS : Hid (sidesB ⟨r, c, ⟨ao, n, ca⟩⟩ R K = false) := by show _ = _; unfold sidesB; rw [decide_eq_false (fun h => h2 h.2.1)]
      have h2' : (r == R) = false := by simpa using h2
      rw [h1]
      go_wp2
      go_ret
      exact ⟨by rw [HS.out]; rfl, B1⟩
  · have HS : Hid (sidesB ⟨r, c, ⟨ao, n, ca⟩⟩ R K = false) := by show _ = _; unfold sidesB; rw [decide_eq_false (fun h => h1 h.1)]
    have h1' : (chkN r c n == 0) = false := by simpa using h1
    generalize chkN r c n = q at *
    go_wp2
    go_ret
    exact ⟨by rw [HS.out]; rfl, B1⟩
end Go.Proofs.YtcanjlofnpnhkaaGreatDoor
