/- A model's numbers, made from a seed: the walk. -/
import Derived.Test.YtklgaokhillinaaMdMake
import Derived.Laws.MakeOwn
namespace Go.Proofs.Ytklgaokhillinaa
open Go.ChangeShapes Go.WideShapes Go.ChangeAt Go.RowKit
theorem Try.infoBlk : (Try.prog.info? 57).map (fun i => (i.zero, i.size, i.bytes)) = some (some (.agg #[.slice none 0 0, .int .i64 0, .int .i64 0, .slice none 0 0, .int .i64 0, .int .i64 0, .slice none 0 0, .int .i64 0, .int .i64 0, .slice none 0 0, .int .i64 0, .int .i64 0, .slice none 0 0, .slice none 0 0, .int .i64 0, .int .i64 0, .slice none 0 0, .int .i64 0, .int .i64 0, .slice none 0 0]), 20, 288) := by kernel_rfl
theorem make_blocks (L : Nat) (hL : L ≤ 4) (w : World) : (Instr.makeSlice 27 (.int .i64 (L : Int)) (.int .i64 (L : Int))).run Try.prog w = .ok (.slice (some ⟨w.heap.size, 0, none⟩) L L) (w.alloc (.cells (madeCells #[.slice none 0 0, .int .i64 0, .int .i64 0, .slice none 0 0, .int .i64 0, .int .i64 0, .slice none 0 0, .int .i64 0, .int .i64 0, .slice none 0 0, .int .i64 0, .int .i64 0, .slice none 0 0, .slice none 0 0, .int .i64 0, .int .i64 0, .slice none 0 0, .int .i64 0, .int .i64 0, .slice none 0 0] (L * 20)) 57)) := by
  obtain ⟨i0, hi, hz0, hz1, hz2⟩ := info_parts Try.infoBlk
  have := run_make (P := Try.prog) w 27 57 i0 _ Try.underlying27 hi hz0 .i64 .i64 L L (by omega) (by omega) (by rw [hz2]; omega) (by omega)
  rw [hz1] at this
  simpa [Value.cells] using this
theorem store_block (w : World) (b o : Nat) (cells : Array Value) (hc : cells.size = 20) (ht : w.there b o 20) (h1 : cells.all (·.oneCell') = true) : (storeCells ⟨b, o, none⟩ cells.toList).run Try.prog w = .ok () (w.setCells b o cells.toList) := by
  have := run_storeCells_cells (P := Try.prog) b o cells.toList 0 w (fun j hj => by simpa using (ht j (by simpa [hc] using hj)).1) (fun j hj => by simpa using (ht j (by simpa [hc] using hj)).2)
    (fun v hv => (Array.all_eq_true_iff_forall_mem.1 h1) v (by simpa using hv))
  simpa using this
theorem madeB_one (D H f q k v o s u d : Nat) : (madeB D H f q k v o s u d).all (·.oneCell') = true := by simp [madeB, bcs, rv, Value.oneCell']
set_option maxRecDepth 100000 in
set_option maxHeartbeats 3200000 in
theorem make_any (V D Hd H L : Nat) (seed : Nat) (w : World) (hsd : seed < 18446744073709551616) (hf : shapeN V D Hd H L = 0) :
   Calls Try.prog 16 #[.agg (cfgC V D Hd H L), .int .u64 (seed : Int)] w fun e w' => ∃ ge gB gl go, e = .returned (.tuple #[.agg (wCells V D (rv ge (V * D)) (rv gB L) (rv gl D) (rv go (V * D)) V D), .int .i64 0]) ∧ MadeW w' w.heap.size seed V D H L ge gB gl go ∧ Below w.heap.size w w' := by
  have hk := shape_ok hf
  have C := fun wv => shape_any V D Hd H L wv (by unfold I64; omega) (by unfold I64; omega) (by unfold I64; omega) (by unfold I64; omega) (by unfold I64; omega)
  rw [hf] at C
  have X0 := blk_new w 23 (cfgC V D Hd H L)
  have B0 : Below w.heap.size w (w.alloc (.cells (cfgC V D Hd H L) 23)) := (Below.refl _ _).alloc (Nat.le_refl _) _
  have s0 : (w.alloc (.cells (cfgC V D Hd H L) 23)).heap.size = w.heap.size + 1 := by simp
  unfold cfgC at *
  generalize hw0 : w.alloc (.cells #[.int .i64 V, .int .i64 D, .int .i64 Hd, .int .i64 H, .int .i64 L] 23) = w0 at *
  have X1 := blk_new w0 29 noW
  have B1 : Below w0.heap.size w0 (w0.alloc (.cells noW 29)) := (Below.refl _ _).alloc (Nat.le_refl _) _
  have s1 : (w0.alloc (.cells noW 29)).heap.size = w0.heap.size + 1 := by simp
  unfold noW at *
  generalize hw1 : w0.alloc (.cells #[.int .i64 0, .int .i64 0, .slice none 0 0, .slice none 0 0, .slice none 0 0, .int .i64 0, .int .i64 0, .slice none 0 0] 29) = w1 at *
  rw [s0] at X1 s1
  replace X0 := X0.below B1
  replace B1 := below_then B0 B1
  have c0 : w1.cell? ⟨w.heap.size, 0, none⟩ = some (.int .i64 V) := X0.cell 0 rfl
  have c1 : w1.cell? ⟨w.heap.size, 1, none⟩ = some (.int .i64 D) := X0.cell 1 rfl
  have c2 : w1.cell? ⟨w.heap.size, 2, none⟩ = some (.int .i64 Hd) := X0.cell 2 rfl
  have c3 : w1.cell? ⟨w.heap.size, 3, none⟩ = some (.int .i64 H) := X0.cell 3 rfl
  have c4 : w1.cell? ⟨w.heap.size, 4, none⟩ = some (.int .i64 L) := X0.cell 4 rfl
  go_enter Try.func16, Try.ntmps16
  go_wp2_with fail
  refine (C w1).mono ?_
  rintro e w2 ⟨rfl, B2⟩
  replace X0 := X0.below B2
  replace X1 := X1.below B2
  have g1 : w.heap.size + 1 < w2.heap.size := by have := B2.size; omega
  replace B2 := below_then B1 B2
  clear hw0 hw1 c0 c1 c2 c3 c4 B0 B1 s0 s1 C
  have S3 : SrcAt (w2.alloc (.cells #[.int .u64 (seed : Int)] 66)) w2.heap.size seed := blk_new _ _ _
  have B3 : Below w2.heap.size w2 (w2.alloc (.cells #[.int .u64 (seed : Int)] 66)) := (Below.refl _ _).alloc (Nat.le_refl _) _
  have s3 : (w2.alloc (.cells #[.int .u64 (seed : Int)] 66)).heap.size = w2.heap.size + 1 := by simp
  generalize hw3 : w2.alloc (.cells #[.int .u64 (seed : Int)] 66) = w3 at *
  have XW := blk_new w3 29 #[.int .i64 0, .int .i64 0, .slice none 0 0, .slice none 0 0, .slice none 0 0, .int .i64 0, .int .i64 0, .slice none 0 0]
  have B4 : Below w3.heap.size w3 (w3.alloc (.cells #[.int .i64 0, .int .i64 0, .slice none 0 0, .slice none 0 0, .slice none 0 0, .int .i64 0, .int .i64 0, .slice none 0 0] 29)) := (Below.refl _ _).alloc (Nat.le_refl _) _
  have s4 : (w3.alloc (.cells #[.int .i64 0, .int .i64 0, .slice none 0 0, .slice none 0 0, .slice none 0 0, .int .i64 0, .int .i64 0, .slice none 0 0] 29)).heap.size = w3.heap.size + 1 := by simp
  generalize hw4 : w3.alloc (.cells #[.int .i64 0, .int .i64 0, .slice none 0 0, .slice none 0 0, .slice none 0 0, .int .i64 0, .int .i64 0, .slice none 0 0] 29) = w4 at *
  rw [s3] at XW s4
  replace X0 := (X0.below B3).below B4
  replace X1 := (X1.below B3).below B4
  replace S3 : SrcAt w4 w2.heap.size (stN seed 0) := by rw [stN_zero seed hsd]; exact Blk.below S3 B4
  replace B4 := below_then (below_then B2 B3) B4
  have c0 : w4.cell? ⟨w.heap.size, 0, none⟩ = some (.int .i64 V) := X0.cell 0 rfl
  have c1 : w4.cell? ⟨w.heap.size, 1, none⟩ = some (.int .i64 D) := X0.cell 1 rfl
  go_wp2_with fail
  clear hw3 hw4 c0 c1 B2 B3 s3
  generalize w2.heap.size = gS at *
  refine (matrix_any gS seed 0 V D 131072 _ S3 (by omega) (by omega) (by omega) (by omega)).mono ?_
  rintro e w5 ⟨ge, rfl, F5, S5, K5⟩
  unfold matV
  replace X0 := X0.but K5 (by omega)
  replace X1 := X1.but K5 (by omega)
  replace XW := XW.but K5 (by omega)
  have s5 := K5.size
  replace F5 : Fresh w5 w.heap.size ge (V * D) (V * D) (numR seed 0 (V * D) 131072) := F5.mono B4.size
  have B5 : Below w.heap.size w w5 := B4.trans (K5.below B4.size (by omega))
  rw [Nat.zero_add] at S5
  clear S3 K5 B4
  have fr0 := XW.frozen 0
  have fr1 := XW.frozen 1
  have fr2 := XW.frozen 2
  have fr3 := XW.frozen 3
  have cc0 : w5.cell? ⟨gS + 1, 0, none⟩ = some (.int .i64 0) := XW.cell 0 rfl
  have cc1 : w5.cell? ⟨gS + 1, 1, none⟩ = some (.int .i64 0) := XW.cell 1 rfl
  have cc2 : w5.cell? ⟨gS + 1, 2, none⟩ = some (.slice none 0 0) := XW.cell 2 rfl
  have neF : ge ≠ gS + 1 := F5.ne XW (by decide)
  have XW6 : Blk (((w5.setCell ⟨gS + 1, 0, none⟩ (.int .i64 V)).setCell ⟨gS + 1, 1, none⟩ (.int .i64 D)).setCell ⟨gS + 1, 2, none⟩ (.slice (some ⟨ge, 0, none⟩) (V * D) (V * D))) (gS + 1) 29 #[.int .i64 V, .int .i64 D, .slice (some ⟨ge, 0, none⟩) (V * D) (V * D), .slice none 0 0, .slice none 0 0, .int .i64 0, .int .i64 0, .slice none 0 0] := ((XW.set 0 _).set 1 _).set 2 _
  replace X0 := ((X0.other (a := ⟨gS + 1, 0, none⟩) (by show w.heap.size ≠ gS + 1; omega) (.int .i64 V)).other (a := ⟨gS + 1, 1, none⟩) (by show w.heap.size ≠ gS + 1; omega) (.int .i64 D)).other (a := ⟨gS + 1, 2, none⟩) (by show w.heap.size ≠ gS + 1; omega) (.slice (some ⟨ge, 0, none⟩) (V * D) (V * D))
  replace X1 := ((X1.other (a := ⟨gS + 1, 0, none⟩) (by show w.heap.size + 1 ≠ gS + 1; omega) (.int .i64 V)).other (a := ⟨gS + 1, 1, none⟩) (by show w.heap.size + 1 ≠ gS + 1; omega) (.int .i64 D)).other (a := ⟨gS + 1, 2, none⟩) (by show w.heap.size + 1 ≠ gS + 1; omega) (.slice (some ⟨ge, 0, none⟩) (V * D) (V * D))
  replace S5 := Blk.other (a := ⟨gS + 1, 2, none⟩) (Blk.other (a := ⟨gS + 1, 1, none⟩) (Blk.other (a := ⟨gS + 1, 0, none⟩) S5 (by show gS ≠ gS + 1; omega) (.int .i64 V)) (by show gS ≠ gS + 1; omega) (.int .i64 D)) (by show gS ≠ gS + 1; omega) (.slice (some ⟨ge, 0, none⟩) (V * D) (V * D))
  replace F5 := ((F5.setOther (a := ⟨gS + 1, 0, none⟩) neF (.int .i64 V)).setOther (a := ⟨gS + 1, 1, none⟩) neF (.int .i64 D)).setOther (a := ⟨gS + 1, 2, none⟩) neF (.slice (some ⟨ge, 0, none⟩) (V * D) (V * D))
  replace B5 := ((B5.setCell (p := ⟨gS + 1, 0, none⟩) (by show w.heap.size ≤ gS + 1; omega) (.int .i64 V)).setCell (p := ⟨gS + 1, 1, none⟩) (by show w.heap.size ≤ gS + 1; omega) (.int .i64 D)).setCell (p := ⟨gS + 1, 2, none⟩) (by show w.heap.size ≤ gS + 1; omega) (.slice (some ⟨ge, 0, none⟩) (V * D) (V * D))
  have s6 : (((w5.setCell ⟨gS + 1, 0, none⟩ (.int .i64 V)).setCell ⟨gS + 1, 1, none⟩ (.int .i64 D)).setCell ⟨gS + 1, 2, none⟩ (.slice (some ⟨ge, 0, none⟩) (V * D) (V * D))).heap.size = w5.heap.size := by simp [World.setCell]
  clear XW neF
  generalize hw6 : ((w5.setCell ⟨gS + 1, 0, none⟩ (.int .i64 V)).setCell ⟨gS + 1, 1, none⟩ (.int .i64 D)).setCell ⟨gS + 1, 2, none⟩ (.slice (some ⟨ge, 0, none⟩) (V * D) (V * D)) = w6 at *
  have hmk := make_blocks L (by omega)
  have c4 : w6.cell? ⟨w.heap.size, 4, none⟩ = some (.int .i64 L) := X0.cell 4 rfl
  have XB := blk_new w6 57 (madeCells #[.slice none 0 0, .int .i64 0, .int .i64 0, .slice none 0 0, .int .i64 0, .int .i64 0, .slice none 0 0, .int .i64 0, .int .i64 0, .slice none 0 0, .int .i64 0, .int .i64 0, .slice none 0 0, .slice none 0 0, .int .i64 0, .int .i64 0, .slice none 0 0, .int .i64 0, .int .i64 0, .slice none 0 0] (L * 20))
  have B7 : Below w6.heap.size w6 (w6.alloc (.cells (madeCells #[.slice none 0 0, .int .i64 0, .int .i64 0, .slice none 0 0, .int .i64 0, .int .i64 0, .slice none 0 0, .int .i64 0, .int .i64 0, .slice none 0 0, .int .i64 0, .int .i64 0, .slice none 0 0, .slice none 0 0, .int .i64 0, .int .i64 0, .slice none 0 0, .int .i64 0, .int .i64 0, .slice none 0 0] (L * 20)) 57)) := (Below.refl _ _).alloc (Nat.le_refl _) _
  have g2 : gS + 1 < w5.heap.size := by omega
  rw [s6] at XB
  have s7 : (w6.alloc (.cells (madeCells #[.slice none 0 0, .int .i64 0, .int .i64 0, .slice none 0 0, .int .i64 0, .int .i64 0, .slice none 0 0, .int .i64 0, .int .i64 0, .slice none 0 0, .int .i64 0, .int .i64 0, .slice none 0 0, .slice none 0 0, .int .i64 0, .int .i64 0, .slice none 0 0, .int .i64 0, .int .i64 0, .slice none 0 0] (L * 20)) 57)).heap.size = w6.heap.size + 1 := by simp
  generalize hw7 : w6.alloc (.cells (madeCells #[.slice none 0 0, .int .i64 0, .int .i64 0, .slice none 0 0, .int .i64 0, .int .i64 0, .slice none 0 0, .int .i64 0, .int .i64 0, .slice none 0 0, .int .i64 0, .int .i64 0, .slice none 0 0, .slice none 0 0, .int .i64 0, .int .i64 0, .slice none 0 0, .int .i64 0, .int .i64 0, .slice none 0 0] (L * 20)) 57) = w7 at *
  replace X0 := X0.below B7
  replace X1 := X1.below B7
  replace XW6 := XW6.below B7
  replace S5 := Blk.below S5 B7
  replace F5 := F5.below B7
  replace B7 := below_then B5 B7
  have gr3 := XW6.frozen 3
  have gc3 : w7.cell? ⟨gS + 1, 3, none⟩ = some (.slice none 0 0) := XW6.cell 3 rfl
  have XW8 : Blk (w7.setCell ⟨gS + 1, 3, none⟩ (.slice (some ⟨w5.heap.size, 0, none⟩) L L)) (gS + 1) 29 #[.int .i64 V, .int .i64 D, .slice (some ⟨ge, 0, none⟩) (V * D) (V * D), .slice (some ⟨w5.heap.size, 0, none⟩) L L, .slice none 0 0, .int .i64 0, .int .i64 0, .slice none 0 0] := XW6.set 3 _
  replace X0 := X0.other (a := ⟨gS + 1, 3, none⟩) (by show w.heap.size ≠ gS + 1; omega) (.slice (some ⟨w5.heap.size, 0, none⟩) L L)
  replace X1 := X1.other (a := ⟨gS + 1, 3, none⟩) (by show w.heap.size + 1 ≠ gS + 1; omega) (.slice (some ⟨w5.heap.size, 0, none⟩) L L)
  replace S5 := Blk.other (a := ⟨gS + 1, 3, none⟩) S5 (by show gS ≠ gS + 1; omega) (.slice (some ⟨w5.heap.size, 0, none⟩) L L)
  replace XB := XB.other (a := ⟨gS + 1, 3, none⟩) (by show w5.heap.size ≠ gS + 1; omega) (.slice (some ⟨w5.heap.size, 0, none⟩) L L)
  replace F5 := F5.setOther (a := ⟨gS + 1, 3, none⟩) (F5.ne XW6 (by decide)) (.slice (some ⟨w5.heap.size, 0, none⟩) L L)
  replace B7 := B7.setCell (p := ⟨gS + 1, 3, none⟩) (by show w.heap.size ≤ gS + 1; omega) (.slice (some ⟨w5.heap.size, 0, none⟩) L L)
  generalize hw8 : w7.setCell ⟨gS + 1, 3, none⟩ (.slice (some ⟨w5.heap.size, 0, none⟩) L L) = w8 at *
  have gc8 : w8.cell? ⟨gS + 1, 3, none⟩ = some (.slice (some ⟨w5.heap.size, 0, none⟩) L L) := XW8.cell 3 rfl
  go_wp2_with fail
  have M0 : MkAt w w8 V D Hd H L L seed gS ge w5.heap.size 0 := ⟨X0, X1, XW8, by rw [Nat.zero_mul, Nat.add_zero]; exact S5, F5, ⟨_, XB, by simp [madeCells]⟩, fun j hj => by omega, B7⟩
  clear X0 X1 XW8 S5 F5 XB B7 hw6 hw7 hw8 gc8 gr3 gc3 c4 hmk XW6 B5 s6 s7 fr0 fr1 fr2 fr3 cc0 cc1 cc2 s5 s4
  generalize w5.heap.size = gB at *
  go_loopg [31] L (fun r i wr => ∃ t : Nat, t ≤ L ∧ r = L - t ∧ i = .int .i64 t ∧ MkAt w wr V D Hd H L L seed gS ge gB t)
  case atStart => exact ⟨0, by omega, by omega, rfl, M0⟩
  case round =>
    clear M0
    obtain ⟨t, ht, rfl, rfl, M1⟩ := hrel
    by_cases hlt : t < L
    · have X0 : Blk wr w.heap.size 23 #[.int .i64 V, .int .i64 D, .int .i64 Hd, .int .i64 H, .int .i64 L] := M1.x0
      have c0 : wr.cell? ⟨w.heap.size, 0, none⟩ = some (.int .i64 V) := X0.cell 0 rfl
      have c1 : wr.cell? ⟨w.heap.size, 1, none⟩ = some (.int .i64 D) := X0.cell 1 rfl
      have c2 : wr.cell? ⟨w.heap.size, 2, none⟩ = some (.int .i64 Hd) := X0.cell 2 rfl
      have c3 : wr.cell? ⟨w.heap.size, 3, none⟩ = some (.int .i64 H) := X0.cell 3 rfl
      have c4 : wr.cell? ⟨w.heap.size, 4, none⟩ = some (.int .i64 L) := X0.cell 4 rfl
      have cb : wr.cell? ⟨gS + 1, 3, none⟩ = some (.slice (some ⟨gB, 0, none⟩) L L) := M1.xw.cell 3 rfl
      have HB : Hid (∀ wv, But gS wr wv → wv.cell? ⟨gS + 1, 3, none⟩ = some (.slice (some ⟨gB, 0, none⟩) L L)) := fun wv hb => (M1.xw.but hb (by omega)).cell 3 rfl
      have KD : But gS wr wr.drew := But.of_below (Below.refl _ _).drew
      have SD : SrcAt wr.drew gS (stN seed (V * D + t * lenB D H)) := Blk.below M1.src (Below.refl _ _).drew
      have CB := block_any gS seed (V * D + t * lenB D H) D H V Hd L wr.drew SD (by omega) (by omega)
      unfold cfgC at CB
      go_wp2_with fail
      go_region_with (first
          | (go_at_call 28; refine CB.mono ?_; rintro e w9 ⟨f, q, k, v, o, s, u, d, rfl, MB, S9, K9⟩; replace K9 := KD.trans K9; have cb9 := HB.out _ K9; obtain ⟨M2, TH⟩ := M1.step g1 g2 hlt MB S9 K9 _ rfl; have HST := store_block w9 gB (t * 20) (madeB D H f q k v o s u d) rfl TH (madeB_one _ _ _ _ _ _ _ _ _ _); have HSZ : (madeB D H f q k v o s u d).size = 20 := rfl))
      all_goals
        go_wp2
        go_roundg (L - (t + 1))
        case measure => omega
        case rel => exact ⟨t + 1, by omega, rfl, by go_num, M2⟩
    · obtain rfl : t = L := by omega
      generalize wr = wa at *
      obtain ⟨X0, X1, XW, S1, F1, ⟨cs, XB, hcs⟩, bs, B1⟩ := M1
      unfold cfgC noW wCells rv at *
      have sz := B1.size
      have c1 : wa.cell? ⟨w.heap.size, 1, none⟩ = some (.int .i64 D) := X0.cell 1 rfl
      go_wp2_with fail
      refine (gains_any gS seed _ D _ S1 (by omega)).mono ?_
      rintro e wb ⟨gl, rfl, F2, S2, K2⟩
      have F2' := F2.mono sz
      replace X0 := X0.but K2 (by omega)
      replace X1 := X1.but K2 (by omega)
      replace XW := XW.but K2 (by omega)
      have hB : gB < wa.heap.size := (Array.getElem?_eq_some_iff.1 XB).1
      have eB := K2.block gB hB (by omega)
      have S1' := S1
      unfold SrcAt Blk at S1'
      replace F1 := F1.of_block (K2.block _ F1.lt (F1.ne S1' (by decide)))
      replace bs : ∀ j, j < t → ∃ f q k v o s u d, wb.rangeAt gB (j * 20) (madeB D H f q k v o s u d).toList ∧ MadeB wb w.heap.size seed (V * D + j * lenB D H) D H f q k v o s u d := fun j hj => by
        obtain ⟨f, q, k, v, o, s, u, d, r1, r2⟩ := bs j hj
        exact ⟨f, q, k, v, o, s, u, d, rangeAt_block r1 eB, r2.of (Nat.le_refl _) (fun F => K2.block _ F.lt (F.ne S1' (by decide)))⟩
      replace XB := eB.trans XB
      replace B1 := B1.trans (K2.below sz (by omega))
      clear c1 S1 S1' eB K2 hB sz F2
      have fr4 := XW.frozen 4
      have cc4 : wb.cell? ⟨gS + 1, 4, none⟩ = some (.slice none 0 0) := XW.cell 4 rfl
      have so : ∀ (b : Nat) (x : Value), b ≠ gS + 1 → (wb.setCell ⟨gS + 1, 4, none⟩ x).heap[b]? = wb.heap[b]? := fun b x hb => Below.heap_setCell _ _ _ _ hb
      have XW2 : Blk (wb.setCell ⟨gS + 1, 4, none⟩ (.slice (some ⟨gl, 0, none⟩) D D)) (gS + 1) 29 #[.int .i64 V, .int .i64 D, .slice (some ⟨ge, 0, none⟩) (V * D) (V * D), .slice (some ⟨gB, 0, none⟩) t t, .slice (some ⟨gl, 0, none⟩) D D, .int .i64 0, .int .i64 0, .slice none 0 0] := XW.set 4 _
      replace X0 := Blk.of_block X0 (so _ (.slice (some ⟨gl, 0, none⟩) D D) (by omega))
      replace X1 := Blk.of_block X1 (so _ (.slice (some ⟨gl, 0, none⟩) D D) (by omega))
      replace S2 := Blk.of_block S2 (so _ (.slice (some ⟨gl, 0, none⟩) D D) (by omega))
      replace F1 := F1.of_block (so _ (.slice (some ⟨gl, 0, none⟩) D D) (F1.ne XW (by decide)))
      replace F2' := F2'.of_block (so _ (.slice (some ⟨gl, 0, none⟩) D D) (F2'.ne XW (by decide)))
      have eB := so gB (.slice (some ⟨gl, 0, none⟩) D D) (by omega)
      replace bs : ∀ j, j < t → ∃ f q k v o s u d, (wb.setCell ⟨gS + 1, 4, none⟩ (.slice (some ⟨gl, 0, none⟩) D D)).rangeAt gB (j * 20) (madeB D H f q k v o s u d).toList ∧ MadeB (wb.setCell ⟨gS + 1, 4, none⟩ (.slice (some ⟨gl, 0, none⟩) D D)) w.heap.size seed (V * D + j * lenB D H) D H f q k v o s u d := fun j hj => by
        obtain ⟨f, q, k, v, o, s, u, d, r1, r2⟩ := bs j hj
        exact ⟨f, q, k, v, o, s, u, d, rangeAt_block r1 eB, r2.of (Nat.le_refl _) (fun F => so _ _ (F.ne XW (by decide)))⟩
      replace XB := eB.trans XB
      replace B1 := B1.setCell (p := ⟨gS + 1, 4, none⟩) (by show w.heap.size ≤ gS + 1; omega) (.slice (some ⟨gl, 0, none⟩) D D)
      clear so eB XW
      generalize hwc : wb.setCell ⟨gS + 1, 4, none⟩ (.slice (some ⟨gl, 0, none⟩) D D) = wc at *
      have c0 : wc.cell? ⟨w.heap.size, 0, none⟩ = some (.int .i64 V) := X0.cell 0 rfl
      have c1 : wc.cell? ⟨w.heap.size, 1, none⟩ = some (.int .i64 D) := X0.cell 1 rfl
      go_wp2_with fail
      clear hwc fr4 cc4 c0 c1
      have sz := B1.size
      refine (matrix_any gS seed _ V D 65536 _ S2 (by omega) (by omega) (by omega) (by omega)).mono ?_
      rintro e wd ⟨go, rfl, F3, S3, K3⟩
      unfold matV
      have F3' := F3.mono sz
      have S1' := S2
      unfold SrcAt Blk at S1'
      have hB : gB < wc.heap.size := (Array.getElem?_eq_some_iff.1 XB).1
      have eB := K3.block gB hB (by omega)
      replace X1 := X1.but K3 (by omega)
      replace XW2 := XW2.but K3 (by omega)
      replace F1 := F1.of_block (K3.block _ F1.lt (F1.ne S1' (by decide)))
      replace F2' := F2'.of_block (K3.block _ F2'.lt (F2'.ne S1' (by decide)))
      replace bs : ∀ j, j < t → ∃ f q k v o s u d, wd.rangeAt gB (j * 20) (madeB D H f q k v o s u d).toList ∧ MadeB wd w.heap.size seed (V * D + j * lenB D H) D H f q k v o s u d := fun j hj => by
        obtain ⟨f, q, k, v, o, s, u, d, r1, r2⟩ := bs j hj
        exact ⟨f, q, k, v, o, s, u, d, rangeAt_block r1 eB, r2.of (Nat.le_refl _) (fun F => K3.block _ F.lt (F.ne S1' (by decide)))⟩
      replace XB := eB.trans XB
      replace B1 := B1.trans (K3.below sz (by omega))
      clear S2 S1' eB K3 hB sz F3 X0 S3
      have fr5 := XW2.frozen 5
      have fr6 := XW2.frozen 6
      have fr7 := XW2.frozen 7
      have cc5 : wd.cell? ⟨gS + 1, 5, none⟩ = some (.int .i64 0) := XW2.cell 5 rfl
      have cc6 : wd.cell? ⟨gS + 1, 6, none⟩ = some (.int .i64 0) := XW2.cell 6 rfl
      have cc7 : wd.cell? ⟨gS + 1, 7, none⟩ = some (.slice none 0 0) := XW2.cell 7 rfl
      have XW3 : Blk (((wd.setCell ⟨gS + 1, 5, none⟩ (.int .i64 V)).setCell ⟨gS + 1, 6, none⟩ (.int .i64 D)).setCell ⟨gS + 1, 7, none⟩ (.slice (some ⟨go, 0, none⟩) (V * D) (V * D))) (gS + 1) 29 #[.int .i64 V, .int .i64 D, .slice (some ⟨ge, 0, none⟩) (V * D) (V * D), .slice (some ⟨gB, 0, none⟩) t t, .slice (some ⟨gl, 0, none⟩) D D, .int .i64 V, .int .i64 D, .slice (some ⟨go, 0, none⟩) (V * D) (V * D)] := ((XW2.set 5 _).set 6 _).set 7 _
      have so : ∀ b : Nat, b ≠ gS + 1 → (((wd.setCell ⟨gS + 1, 5, none⟩ (.int .i64 V)).setCell ⟨gS + 1, 6, none⟩ (.int .i64 D)).setCell ⟨gS + 1, 7, none⟩ (.slice (some ⟨go, 0, none⟩) (V * D) (V * D))).heap[b]? = wd.heap[b]? := fun b hb => by
        rw [Below.heap_setCell _ _ _ _ (by exact hb), Below.heap_setCell _ _ _ _ (by exact hb), Below.heap_setCell _ _ _ _ (by exact hb)]
      have B2 : Below w.heap.size w (((wd.setCell ⟨gS + 1, 5, none⟩ (.int .i64 V)).setCell ⟨gS + 1, 6, none⟩ (.int .i64 D)).setCell ⟨gS + 1, 7, none⟩ (.slice (some ⟨go, 0, none⟩) (V * D) (V * D))) := ((B1.setCell (p := ⟨gS + 1, 5, none⟩) (by show w.heap.size ≤ gS + 1; omega) _).setCell (p := ⟨gS + 1, 6, none⟩) (by show w.heap.size ≤ gS + 1; omega) _).setCell (p := ⟨gS + 1, 7, none⟩) (by show w.heap.size ≤ gS + 1; omega) _
      generalize hwe : ((wd.setCell ⟨gS + 1, 5, none⟩ (.int .i64 V)).setCell ⟨gS + 1, 6, none⟩ (.int .i64 D)).setCell ⟨gS + 1, 7, none⟩ (.slice (some ⟨go, 0, none⟩) (V * D) (V * D)) = we at *
      have Y1 := Blk.of_block X1 (so _ (by omega))
      have G1 := F1.of_block (so _ (F1.ne XW2 (by decide)))
      have G2 := F2'.of_block (so _ (F2'.ne XW2 (by decide)))
      have G3 := F3'.of_block (so _ (F3'.ne XW2 (by decide)))
      have eB := so gB (by omega)
      have cs2 : ∀ j, j < t → ∃ f q k v o s u d, we.rangeAt gB (j * 20) (madeB D H f q k v o s u d).toList ∧ MadeB we w.heap.size seed (V * D + j * lenB D H) D H f q k v o s u d := fun j hj => by
        obtain ⟨f, q, k, v, o, s, u, d, r1, r2⟩ := bs j hj
        exact ⟨f, q, k, v, o, s, u, d, rangeAt_block r1 eB, r2.of (Nat.le_refl _) (fun F => so _ (F.ne XW2 (by decide)))⟩
      have YB := eB.trans XB
      clear so eB XW2 F1 F2' F3' bs XB B1 X1
      have hall : Array.all (#[.int .i64 V, .int .i64 D, .slice (some ⟨ge, 0, none⟩) (V * D) (V * D), .slice (some ⟨gB, 0, none⟩) t t, .slice (some ⟨gl, 0, none⟩) D D, .int .i64 V, .int .i64 D, .slice (some ⟨go, 0, none⟩) (V * D) (V * D)] : Array Value) (fun v => v.oneCell') = true := by simp [Value.oneCell']
      go_wp2_with (first | (refine wpList_load_row rfl 29 _ rfl (gS + 1) rfl 29 _ (0, 0) _ XW3 Try.underlying29 rfl Try.infoW ?_) | (refine wpList_store_row rfl 29 _ _ rfl (w.heap.size + 1) _ rfl rfl 29 _ Y1 Try.infoW rfl hall ?_))
      refine bodyPost_ret (results_blk rfl _ _ (w.heap.size + 1) _ rfl (load_w (Y1.row _) rfl)) rfl ?_
      have so : ∀ (b : Nat) (x : Array Value), b ≠ w.heap.size + 1 → (we.setRow (w.heap.size + 1) x).heap[b]? = we.heap[b]? := fun b x hb => setRow_other _ _ _ _ hb
      refine ⟨ge, gB, gl, go, rfl, ⟨G1.of_block (so _ _ (G1.ne Y1 (by decide))), ⟨cs, (so _ _ (by omega)).trans YB, hcs⟩, by omega, fun j hj => ?_, G2.of_block (so _ _ (G2.ne Y1 (by decide))), G3.of_block (so _ _ (G3.ne Y1 (by decide)))⟩, below_setRow B2 (by omega) _⟩
      obtain ⟨f, q, k, v, o, s, u, d, r1, r2⟩ := cs2 j hj
      exact ⟨f, q, k, v, o, s, u, d, rangeAt_block r1 (so _ _ (by omega)), r2.of (Nat.le_refl _) (fun F => so _ _ (F.ne Y1 (by decide)))⟩
end Go.Proofs.Ytklgaokhillinaa
